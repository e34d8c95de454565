/-
  Plain: a text that stands at a place of another; how far one goes there.
-/
import Derived.Test.YtogbocgjijhmgaaGreatDoorScanH
namespace Go.Proofs.YtogbocgjijhmgaaGreatDoor
open Go.RowKit Go.Extern.Stop Go.Stop Go.Extern

theorem byteI_list (l : List UInt8) (k : Nat) : byteI ⟨l.toArray⟩ k = ((l[k]?).map (fun b => (b.toNat : Int))).getD 0 := by
  have hz : (⟨l.toArray⟩ : ByteArray).size = l.length := by simp [ByteArray.size]
  by_cases h : k < l.length
  · rw [byteI_lt (by rw [hz]; exact h), List.getElem?_eq_getElem h]
    simp [ByteArray.getElem_eq_getElem_data]
  · rw [byteI_ge (by rw [hz]; exact h), List.getElem?_eq_none (by omega)]
    rfl
/-- Bytes that stand at a place. -/
def At (S : ByteArray) (k : Nat) (l : List UInt8) : Prop := k + l.length ≤ S.size ∧ ∀ i b, l[i]? = some b → byteI S (k + i) = b.toNat
theorem At.left {S : ByteArray} {k : Nat} {l r : List UInt8} (h : At S k (l ++ r)) : At S k l := by
  refine ⟨by have := h.1; simp at this; omega, fun i b hi => h.2 i b ?_⟩
  rw [List.getElem?_append_left (List.getElem?_eq_some_iff.1 hi).1]
  exact hi
theorem At.right {S : ByteArray} {k : Nat} {l r : List UInt8} (h : At S k (l ++ r)) : At S (k + l.length) r := by
  refine ⟨by have := h.1; simp at this; omega, fun i b hi => ?_⟩
  have h2 := h.2 (l.length + i) b (by rw [List.getElem?_append_right (by omega)]; rw [show l.length + i - l.length = i by omega]; exact hi)
  rw [← h2, Nat.add_assoc]
theorem At.head {S : ByteArray} {k : Nat} {b : UInt8} {r : List UInt8} (h : At S k (b :: r)) : byteI S k = b.toNat := h.2 0 b rfl
theorem At.tail {S : ByteArray} {k : Nat} {b : UInt8} {r : List UInt8} (h : At S k (b :: r)) : At S (k + 1) r := by
  have : At S k ([b] ++ r) := h
  exact this.right
theorem At.extract {S : ByteArray} {k : Nat} {l : List UInt8} (h : At S k l) : S.extract k (k + l.length) = ⟨l.toArray⟩ := by
  have h1 := h.1
  apply ByteArray.ext
  apply Array.ext
  · simp
    have : S.data.size = S.size := rfl
    omega
  · intro i h2 h3
    have hi : i < l.length := by simpa using h3
    have hb := h.2 i _ (List.getElem?_eq_getElem hi)
    rw [byteI_lt (by omega)] at hb
    have hb2 : S[k + i] = l[i] := UInt8.toNat_inj.1 (by omega)
    simp only [ByteArray.data_extract, Array.getElem_extract, List.getElem_toArray]
    rw [← hb2]
    rfl
theorem At.self (l : List UInt8) : At ⟨l.toArray⟩ 0 l := by
  refine ⟨by simp [ByteArray.size], fun i b hi => ?_⟩
  rw [Nat.zero_add, byteI_list, hi]
  rfl
theorem At.run {S : ByteArray} {p : Int → Bool} : ∀ {l : List UInt8} {k : Nat}, At S k l → (∀ b, b ∈ l → p (b.toNat : Int) = true) → (k + l.length = S.size ∨ p (byteI S (k + l.length)) = false) → runTo p S k = k + l.length
  | [], k, h, _, he => by
    simp only [List.length_nil, Nat.add_zero] at he ⊢
    by_cases hk : k < S.size
    · rcases he with he | he
      · omega
      · exact runTo_stop hk (by rw [← byteI_lt hk]; exact he)
    · exact runTo_end hk
  | b :: r, k, h, hp, he => by
    have h1 := h.1
    have hk : k < S.size := by simp at h1; omega
    have hb : p (S[k].toNat : Int) = true := by
      rw [← byteI_lt hk, h.head]
      exact hp b (List.mem_cons_self ..)
    have e : k + (b :: r).length = (k + 1) + r.length := by simp; omega
    rw [runTo_go hk hb, e]
    exact At.run h.tail (fun x hx => hp x (List.mem_cons_of_mem _ hx)) (by rw [← e]; exact he)
theorem skp_here {S : ByteArray} {k : Nat} (h : isBl (byteI S k) = false) : skp S k = k := by
  unfold skp
  by_cases hk : k < S.size
  · exact runTo_stop hk (by rw [← byteI_lt hk]; exact h)
  · exact runTo_end hk
theorem skp_one {S : ByteArray} {k : Nat} (h : byteI S k = 32) (h2 : isBl (byteI S (k + 1)) = false) : skp S k = k + 1 := by
  have hk := byteI_in h (by decide)
  have e : skp S k = skp S (k + 1) := by
    unfold skp
    exact runTo_go hk (by rw [← byteI_lt hk, h]; decide)
  rw [e, skp_here h2]
theorem skp_idem (S : ByteArray) (k : Nat) : skp S (skp S k) = skp S k := by
  have h : ∀ (n k : Nat), S.size - k = n → skp S (skp S k) = skp S k := by
    intro n
    induction n with
    | zero =>
      intro k hk
      unfold skp
      rw [runTo_end (by omega : ¬ k < S.size)]
      exact runTo_end (by omega)
    | succ n ih =>
      intro k hk
      have hlt : k < S.size := by omega
      by_cases hb : isBl (S[k].toNat : Int) = true
      · have e : skp S k = skp S (k + 1) := runTo_go hlt hb
        rw [e]
        exact ih (k + 1) (by omega)
      · have e : skp S k = k := runTo_stop hlt (by simpa using hb)
        rw [e]
        exact e
  exact h _ k rfl
end Go.Proofs.YtogbocgjijhmgaaGreatDoor
