/-
  Layer 6, plain: a text's text, and that it is read as it was.
-/
import Derived.Test.YtajmlkephefapaaGreatDoorTreeA
import Derived.Test.YtajmlkephefapaaGreatDoorInkB
namespace Go.Proofs.YtajmlkephefapaaGreatDoor
open Go.RowKit Go.Extern.Stop Go.Stop Go.Extern

theorem sizeQ (l : List UInt8) : (⟨l.toArray⟩ : ByteArray).size = l.length := by
  show l.toArray.size = _
  exact List.size_toArray
/-- From a place on these bytes stand. -/
def Stand (T : ByteArray) (k : Nat) (l : List UInt8) : Prop := ∀ i u, l[i]? = some u → byteI T (k + i) = (u.toNat : Int) ∧ byteU T (k + i) = u ∧ k + i < T.size
theorem Stand.cons {T : ByteArray} {k : Nat} {u : UInt8} {r : List UInt8} (h : Stand T k (u :: r)) : byteI T k = (u.toNat : Int) ∧ byteU T k = u ∧ k < T.size ∧ Stand T (k + 1) r := by
  obtain ⟨h0, h1, h2⟩ := h 0 u rfl
  exact ⟨h0, h1, h2, fun i v hi => by rw [show k + 1 + i = k + (i + 1) by omega]; exact h (i + 1) v (by simpa using hi)⟩
theorem stand_mk (l : List UInt8) : Stand ⟨l.toArray⟩ 0 l := by
  intro i u hi
  have hlt : i < l.length := (List.getElem?_eq_some_iff.1 hi).1
  have hs : 0 + i < (⟨l.toArray⟩ : ByteArray).size := by rw [sizeQ]; omega
  have e : (⟨l.toArray⟩ : ByteArray)[0 + i]'hs = u := by
    have h1 : (⟨l.toArray⟩ : ByteArray)[0 + i]'hs = l[0 + i]'(by omega) := rfl
    rw [h1]
    have := List.getElem?_eq_getElem (l := l) (i := i) hlt
    rw [hi] at this
    injection this with this
    rw [this]
    simp
  refine ⟨?_, ?_, hs⟩
  · rw [byteI_lt hs, e]
  · unfold byteU
    rw [dif_pos hs, e]
theorem u8_eq {b : UInt8} {n : Nat} (hn : n < 256) : b = UInt8.ofNat n ↔ b.toNat = n := by
  constructor
  · rintro rfl
    simp
    omega
  · intro h
    apply UInt8.toNat_inj.1
    rw [h]
    simp
    omega
theorem txt_back (T : ByteArray) : ∀ (l : List UInt8) (k : Nat), Stand T k (bodyQ l ++ [34]) → txtR T k = ⟨0, 0, k + (bodyQ l).length + 1, mayL l⟩
  | [], k, h => by
    obtain ⟨h0, -, -⟩ := h.cons
    rw [txtR_end h0]
    rfl
  | b :: r, k, h => by
    rw [bodyQ, List.append_assoc] at h
    rw [bodyQ, List.length_append]
    have hm : mayL (b :: r) = if mayS b = true then b :: mayL r else mayL r := by unfold mayL; rw [List.filter_cons]
    by_cases h10 : b = 10
    · subst h10
      rw [hm, if_pos (by rfl)]
      obtain ⟨a0, -, a1, h⟩ := Stand.cons h
      obtain ⟨b0, -, b1, h⟩ := Stand.cons h
      replace a0 : byteI T k = 92 := a0
      replace b0 : byteI T (k + 1) = 110 := b0
      have hs : signR T k = ⟨k + 2, 10, 0, 0⟩ := by
        unfold signR
        rw [if_pos a0, if_neg (by rw [b0]; decide), if_pos b0]
      rw [txtR_go (by rw [a0]; decide) (by rw [hs]), hs]
      have := txt_back T r (k + 2) h
      simp only [this]
      congr 1
      show k + 2 + _ + 1 = k + (2 + _) + 1
      omega
    · by_cases hq : b = 34 ∨ b = 92
      · have e : signQ b = [92, b] := by unfold signQ; rw [if_neg h10, if_pos hq]
        have hmy : mayS b = true := by rcases hq with rfl | rfl <;> rfl
        rw [e] at h ⊢
        rw [hm, if_pos hmy]
        obtain ⟨a0, -, a1, h⟩ := Stand.cons h
        obtain ⟨b0, bu, b1, h⟩ := Stand.cons h
        replace a0 : byteI T k = 92 := a0
        have hs : signR T k = ⟨k + 2, b, 0, 0⟩ := by
          unfold signR
          rw [if_pos a0, if_pos (by rw [b0]; rcases hq with rfl | rfl <;> simp), bu]
        rw [txtR_go (by rw [a0]; decide) (by rw [hs]), hs]
        have := txt_back T r (k + 2) h
        simp only [this]
        congr 1
        show k + 2 + _ + 1 = k + (2 + _) + 1
        omega
      · by_cases hp : 32 ≤ b ∧ b ≤ 126
        · have e : signQ b = [b] := by unfold signQ; rw [if_neg h10, if_neg hq, if_pos hp]
          have hmy : mayS b = true := by unfold mayS; simp [hp]
          rw [e] at h ⊢
          rw [hm, if_pos hmy]
          obtain ⟨a0, au, a1, h⟩ := Stand.cons h
          have n34 : b.toNat ≠ 34 := fun h => hq (.inl ((u8_eq (n := 34) (by decide)).2 h))
          have n92 : b.toNat ≠ 92 := fun h => hq (.inr ((u8_eq (n := 92) (by decide)).2 h))
          have g1 : 32 ≤ b.toNat := hp.1
          have g2 : b.toNat ≤ 126 := hp.2
          have hs : signR T k = ⟨k + 1, b, 0, 0⟩ := by
            unfold signR
            rw [if_neg (by rw [a0]; omega), if_pos (by rw [a0]; omega), au]
          rw [txtR_go (by rw [a0]; omega) (by rw [hs]), hs]
          have := txt_back T r (k + 1) h
          simp only [this]
          congr 1
          show k + 1 + _ + 1 = k + (1 + _) + 1
          omega
        · have e : signQ b = [] := by unfold signQ; rw [if_neg h10, if_neg hq, if_neg hp]
          have hmy : ¬ mayS b = true := by
            unfold mayS
            simp only [Bool.or_eq_true, Bool.and_eq_true, decide_eq_true_eq]
            rintro (h | h)
            · exact h10 h
            · exact hp h
          rw [e] at h ⊢
          rw [hm, if_neg hmy]
          have := txt_back T r k h
          rw [this]
          congr 1
          simp
/-- A text's text is a text, and tells its bytes that may be written. -/
theorem quote_whole (l : List UInt8) (hl : l.length ≤ 30000) : Whole ⟨(quoL l).toArray⟩ (.ok (⟨(quoL l).toArray⟩ : ByteArray).size (.mk 4 ⟨(mayL l).toArray⟩ 0 [] [] 0)) := by
  have hb := bodyQ_len l
  have hsz : (⟨(quoL l).toArray⟩ : ByteArray).size = (bodyQ l).length + 2 := by rw [sizeQ, quoL_len]
  have h := stand_mk (quoL l)
  generalize (⟨(quoL l).toArray⟩ : ByteArray) = T at *
  unfold quoL at h
  obtain ⟨a0, -, a1, h⟩ := h.cons
  replace a0 : byteI T 0 = 34 := a0
  have hq : quoR T 0 = ⟨0, 0, T.size, mayL l⟩ := by
    unfold quoR
    rw [if_pos a0, txt_back T l (0 + 1) h]
    congr 1
    omega
  have hsk : sk T 0 = 0 := runTo_stop a1 (by rw [← byteI_lt a1, a0]; decide)
  have hlf : leafR T 0 = .ok T.size (.mk 4 ⟨(mayL l).toArray⟩ 0 [] [] (0 : Nat)) := by
    unfold leafR
    rw [if_neg (by rw [a0]; decide), if_neg (by rw [a0]; decide), if_neg (by rw [a0]; decide), if_pos a0, hq]
    rfl
  have hW : V T 0 (sk T 0) (.ok T.size (.mk 4 ⟨(mayL l).toArray⟩ 0 [] [] (0 : Nat))) := by
    rw [hsk, ← hlf]
    exact .leaf 0 0 (by rw [a0]; decide)
  exact .inr ⟨by omega, _, hW, .inr ⟨_, _, rfl, .inl ⟨runTo_end (by omega), rfl⟩⟩⟩
end Go.Proofs.YtajmlkephefapaaGreatDoor
