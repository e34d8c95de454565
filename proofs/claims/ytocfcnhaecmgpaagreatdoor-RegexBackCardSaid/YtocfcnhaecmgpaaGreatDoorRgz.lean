/-
  Plain: what stands within so many brackets; an expression within one pair more is what it is without it.
  Package regex's Parse, by contract, of any text: an expression, or what is wrong, and where.
  Plain: what is read has no more expressions, words and bytes than were gone by; how many ( a text has, told twice; texts of brackets.
  The statement RegexDeep as a walk: whatever number and text, the law answers true, and all of old memory stays as it was.
-/
import Derived.Test.YtocfcnhaecmgpaaGreatDoorRga
import Derived.Test.YtocfcnhaecmgpaaGreatDoorRxQ
import Derived.Lib.Repeat
import Derived.Test.YtocfcnhaecmgpaaGreatDoorRxR
import Derived.Test.YtocfcnhaecmgpaaGreatDoorShelf
namespace Go.Proofs.YtocfcnhaecmgpaaGreatDoor
open Go.RowKit Go.Extern.Stop Go.Stop Go.Extern

theorem skp_stay {s : ByteArray} {k : Nat} (h : isBl (byteI s k) = false) : skp s k = k := by
  unfold skp
  by_cases hk : k < s.size
  · rw [runTo_step _ _ _ hk, if_neg (by rw [h]; decide)]
  · exact runTo_end hk
theorem byteI_list (l : List UInt8) (k : Nat) : byteI ⟨l.toArray⟩ k = ((l[k]?).map (fun b => (b.toNat : Int))).getD 0 := by
  have hz : (⟨l.toArray⟩ : ByteArray).size = l.length := by simp [ByteArray.size]
  by_cases h : k < l.length
  · rw [byteI_lt (by rw [hz]; exact h), List.getElem?_eq_getElem h]
    simp [ByteArray.getElem_eq_getElem_data]
  · rw [byteI_ge (by rw [hz]; exact h), List.getElem?_eq_none (by omega)]
    rfl

/-! ### Many brackets -/
def brB (n : Nat) : ByteArray := ⟨(List.replicate n (40 : UInt8) ++ ((97 : UInt8) :: List.replicate n (41 : UInt8))).toArray⟩
theorem brB_size (n : Nat) : (brB n).size = 2 * n + 1 := by
  unfold brB
  simp [ByteArray.size]
  omega
theorem brB_open {n k : Nat} (h : k < n) : byteI (brB n) k = 40 := by
  unfold brB
  rw [byteI_list, List.getElem?_append_left (by simpa using h)]
  simp [h]
theorem brB_mid (n : Nat) : byteI (brB n) n = 97 := by
  unfold brB
  rw [byteI_list, List.getElem?_append_right (by simp)]
  simp
theorem brB_close {n k : Nat} (h : n < k) (h2 : k < 2 * n + 1) : byteI (brB n) k = 41 := by
  unfold brB
  rw [byteI_list, List.getElem?_append_right (by simp; omega)]
  obtain ⟨j, rfl⟩ : ∃ j, k = n + 1 + j := ⟨k - n - 1, by omega⟩
  simp only [List.length_replicate]
  rw [show n + 1 + j - n = j + 1 by omega, List.getElem?_cons_succ, List.getElem?_replicate, if_pos (by omega)]
  rfl
theorem brB_end {n k : Nat} (h : 2 * n + 1 ≤ k) : byteI (brB n) k = 0 := byteI_ge (by rw [brB_size]; omega)
theorem brB_aft {n k : Nat} (h : n < k) : byteI (brB n) k = 41 ∨ byteI (brB n) k = 0 := by
  by_cases h2 : k < 2 * n + 1
  · exact .inl (brB_close h h2)
  · exact .inr (brB_end (by omega))
theorem isBl_no {c : Int} (h : c = 40 ∨ c = 97 ∨ c = 41 ∨ c = 0) : isBl c = false := by
  rcases h with rfl | rfl | rfl | rfl <;> decide
theorem alR_one {s : ByteArray} {e k n k' n' : Nat} {x : Rx} (hb : bsR s (subR s e) k n = .ok k' n' x) (hc : byteI s k' = 41 ∨ byteI s k' = 0) : alR s e k n = .ok k' n' x := by
  have hs : skp s k' = k' := skp_stay (isBl_no (hc.elim (fun h => .inr (.inr (.inl h))) (fun h => .inr (.inr (.inr h)))))
  have hg : sgn (byteI s k') = none := by rcases hc with h | h <;> rw [h] <;> rfl
  have hb2 : begB s k' = false := by unfold begB; rcases hc with h | h <;> rw [h] <;> decide
  have h124 : ¬ byteI s k' = 124 := by rcases hc with h | h <;> rw [h] <;> decide
  have hp : ptR s (subR s e) k n = .ok k' n' x := by
    unfold ptR
    rw [hb]
    simp only
    rw [sgR, hs, hg]
  have hr : rwR s (subR s e) k n = .ok k' n' x := by
    unfold rwR jnR
    rw [hp]
    simp only [rwM, hs, hb2]
    rfl
  rw [alR_eq]
  unfold jnR
  rw [hr]
  simp only [alM, hs, if_neg h124]
theorem alR_one_er {s : ByteArray} {e k n a : Nat} {c : Int} (hb : bsR s (subR s e) k n = .er c a) : alR s e k n = .er c a := by
  have hp : ptR s (subR s e) k n = .er c a := by unfold ptR; rw [hb]
  have hr : rwR s (subR s e) k n = .er c a := by unfold rwR jnR; rw [hp]
  rw [alR_eq]
  unfold jnR
  rw [hr]
def atomA : Rx := .mk 1 false [⟨#[97]⟩] []
theorem brB_word (n : Nat) : (brB n).extract n (n + 1) = ⟨#[97]⟩ := by
  unfold brB
  apply ByteArray.ext
  apply Array.ext
  · simp
  · intro i h1 h2
    have hi : i = 0 := by simp at h2; omega
    subst hi
    simp
theorem deep_go (n : Nat) : ∀ (j e k : Nat), k + j = n → alR (brB n) e k 0 = if j ≤ e then .ok (n + 1 + j) 1 atomA else .er 8 (k + e)
  | 0, e, k, h => by
    obtain rfl : k = n := by omega
    rw [if_pos (Nat.zero_le _)]
    have hm := brB_mid k
    have ha := brB_aft (n := k) (k := k + 1) (by omega)
    have hs : skp (brB k) k = k := skp_stay (by rw [hm]; decide)
    have hrun : runTo isIn (brB k) k = k + 1 := by
      rw [runTo_step _ _ _ (by rw [brB_size]; omega), hm, if_pos (by decide)]
      by_cases h2 : k + 1 < (brB k).size
      · rw [runTo_step _ _ _ h2, if_neg (by rcases ha with h | h <;> rw [h] <;> decide)]
      · exact runTo_end h2
    have hw1 : wd1 (brB k) k = k := by unfold wd1; rw [hm, if_neg (by decide)]
    have hlet : isLet 97 = true := by decide
    have hnc : nameC (brB k) k = 0 := by
      unfold nameC
      rw [hm, if_pos hlet, hrun, if_pos (by omega)]
    have hnk : nameK (brB k) k = k + 1 := by
      unfold nameK
      rw [hm, hrun, if_pos ⟨hlet, by omega⟩]
    have hw2 : wd2 (brB k) k = false := by
      unfold wd2
      rw [hw1, hnk]
      rcases ha with h | h <;> rw [h] <;> simp
    have hwc : wdC (brB k) k = 0 := by
      unfold wdC
      rw [hw1, hw2, hnc]
      simp
    have hwk : wdK (brB k) k = k + 1 := by
      unfold wdK
      rw [hw1, hw2, hnk]
      simp
    refine alR_one ?_ (by simpa using ha)
    unfold bsR
    rw [hs, hm, if_neg (by decide), if_neg (by decide), if_neg (by decide), hwc, if_neg (by decide), hwk, brB_word]
    rfl
  | j + 1, e, k, h => by
    have ho := brB_open (n := n) (k := k) (by omega)
    have hs : skp (brB n) k = k := skp_stay (by rw [ho]; decide)
    cases e with
    | zero =>
      rw [if_neg (by omega)]
      refine alR_one_er ?_
      unfold bsR subR
      rw [hs, ho, if_pos rfl]
      rfl
    | succ e =>
      have h1 : byteI (brB n) (k + 1) = 40 ∨ byteI (brB n) (k + 1) = 97 := by
        by_cases h2 : k + 1 < n
        · exact .inl (brB_open h2)
        · obtain rfl : k + 1 = n := by omega
          exact .inr (brB_mid _)
      have hs1 : skp (brB n) (k + 1) = k + 1 := skp_stay (isBl_no (by omega))
      have h41 : ¬ byteI (brB n) (k + 1) = 41 := by omega
      have ih := deep_go n j e (k + 1) (by omega)
      by_cases hje : j ≤ e
      · rw [if_pos hje] at ih
        rw [if_pos (by omega)]
        have hc := brB_close (n := n) (k := n + 1 + j) (by omega) (by omega)
        have hs2 : skp (brB n) (n + 1 + j) = n + 1 + j := skp_stay (by rw [hc]; decide)
        refine alR_one ?_ (brB_aft (by omega))
        unfold bsR subR
        rw [hs, ho, if_pos rfl]
        simp only
        rw [hs1, if_neg h41, ih]
        simp only
        rw [hs2, hc, if_pos rfl]
        rfl
      · rw [if_neg hje] at ih
        rw [if_neg (by omega)]
        refine alR_one_er ?_
        unfold bsR subR
        rw [hs, ho, if_pos rfl]
        simp only
        rw [hs1, if_neg h41, ih]
        simp only
        congr 1
        omega

/-! ### One pair more -/
/-- How many ( there are from a place on. -/
def opens (s : ByteArray) (k : Nat) : Nat := if k < s.size then (if byteI s k = 40 then 1 else 0) + opens s (k + 1) else 0
termination_by s.size - k
theorem opens_step {s : ByteArray} {k : Nat} (h : k < s.size) : opens s k = (if byteI s k = 40 then 1 else 0) + opens s (k + 1) := by rw [opens, if_pos h]
theorem opens_end {s : ByteArray} {k : Nat} (h : ¬ k < s.size) : opens s k = 0 := by rw [opens, if_neg h]
theorem opens_le (s : ByteArray) : ∀ (j k : Nat), opens s (k + j) ≤ opens s k
  | 0, k => Nat.le_refl _
  | j + 1, k => by
    have h := opens_le s j (k + 1)
    rw [show k + (j + 1) = k + 1 + j by omega]
    by_cases hk : k < s.size
    · rw [opens_step hk]; omega
    · have : opens s (k + 1) = 0 := opens_end (by omega)
      omega
theorem opens_mono {s : ByteArray} {k k' : Nat} (h : k ≤ k') : opens s k' ≤ opens s k := by
  have := opens_le s (k' - k) k
  rwa [show k + (k' - k) = k' by omega] at this
/-- A text within one pair of brackets more. -/
structure Wrap (s S : ByteArray) : Prop where
  size : S.size = s.size + 2
  at' : ∀ k, k < s.size → byteI S (k + 1) = byteI s k
  last : byteI S (s.size + 1) = 41
  ext : ∀ a b, a ≤ b → b ≤ s.size → S.extract (a + 1) (b + 1) = s.extract a b
section
variable {s S : ByteArray}
theorem Wrap.run (h : Wrap s S) (p : Int → Bool) (hp : p 41 = false) : ∀ (n k : Nat), s.size - k = n → k ≤ s.size → runTo p S (k + 1) = runTo p s k + 1 := by
  intro n
  induction n with
  | zero =>
    intro k h1 h2
    obtain rfl : k = s.size := by omega
    rw [runTo_end (by omega : ¬ s.size < s.size), runTo_step p S _ (by rw [h.size]; omega), h.last, if_neg (by rw [hp]; decide)]
  | succ n ih =>
    intro k h1 h2
    rw [runTo_step p s k (by omega), runTo_step p S (k + 1) (by rw [h.size]; omega), h.at' k (by omega)]
    split
    · exact ih (k + 1) (by omega) (by omega)
    · rfl
theorem Wrap.skp (h : Wrap s S) {k : Nat} (hk : k ≤ s.size) : skp S (k + 1) = Go.Proofs.YtocfcnhaecmgpaaGreatDoor.skp s k + 1 := h.run isBl (by decide) _ k rfl hk
theorem Wrap.byte (h : Wrap s S) {k : Nat} (hk : k ≤ s.size) : byteI S (k + 1) = byteI s k ∨ byteI S (k + 1) = 41 ∧ byteI s k = 0 := by
  by_cases h1 : k < s.size
  · exact .inl (h.at' k h1)
  · obtain rfl : k = s.size := by omega
    exact .inr ⟨h.last, byteI_ge (by omega)⟩
theorem Wrap.is (h : Wrap s S) {k : Nat} (hk : k ≤ s.size) {c : Int} (h0 : c ≠ 0) (h1 : c ≠ 41) : (byteI S (k + 1) = c) = (byteI s k = c) := by
  rcases h.byte hk with e | ⟨e1, e2⟩
  · rw [e]
  · rw [e1, e2]
    apply propext
    constructor
    · intro e; exact absurd e.symm h1
    · intro e; exact absurd e.symm h0
theorem Wrap.letter (h : Wrap s S) {k : Nat} (hk : k ≤ s.size) : isLet (byteI S (k + 1)) = isLet (byteI s k) := by
  rcases h.byte hk with e | ⟨e1, e2⟩
  · rw [e]
  · rw [e1, e2]; decide
theorem Wrap.nameK (h : Wrap s S) {k : Nat} (hk : k ≤ s.size) : nameK S (k + 1) = Go.Proofs.YtocfcnhaecmgpaaGreatDoor.nameK s k + 1 := by
  unfold Go.Proofs.YtocfcnhaecmgpaaGreatDoor.nameK
  rw [h.letter hk, h.run isIn (by decide) _ k rfl hk, show runTo isIn s k + 1 - (k + 1) = runTo isIn s k - k by omega]
  split <;> rfl
theorem Wrap.nameC (h : Wrap s S) {k : Nat} (hk : k ≤ s.size) : (nameC S (k + 1) = 0) = (Go.Proofs.YtocfcnhaecmgpaaGreatDoor.nameC s k = 0) := by
  unfold Go.Proofs.YtocfcnhaecmgpaaGreatDoor.nameC
  rw [h.letter hk, h.run isIn (by decide) _ k rfl hk, show runTo isIn s k + 1 - (k + 1) = runTo isIn s k - k by omega]
  have h1 := missC_ne s k
  have h2 := missC_ne S (k + 1)
  split
  · rfl
  · simp [h1, h2]
theorem Wrap.wd1 (h : Wrap s S) {k : Nat} (hk : k ≤ s.size) : wd1 S (k + 1) = Go.Proofs.YtocfcnhaecmgpaaGreatDoor.wd1 s k + 1 := by
  unfold Go.Proofs.YtocfcnhaecmgpaaGreatDoor.wd1
  simp only [h.is hk (c := 36) (by decide) (by decide)]
  split <;> rfl
theorem Wrap.wd2 (h : Wrap s S) {k : Nat} (hk : k ≤ s.size) : wd2 S (k + 1) = Go.Proofs.YtocfcnhaecmgpaaGreatDoor.wd2 s k := by
  unfold Go.Proofs.YtocfcnhaecmgpaaGreatDoor.wd2
  rw [h.wd1 hk, h.nameK (wd1_le hk)]
  simp only [ne_eq, h.is hk (c := 36) (by decide) (by decide), h.is (nameK_le s _ (wd1_le hk)) (c := 35) (by decide) (by decide)]
theorem Wrap.wdK (h : Wrap s S) {k : Nat} (hk : k ≤ s.size) : wdK S (k + 1) = Go.Proofs.YtocfcnhaecmgpaaGreatDoor.wdK s k + 1 := by
  unfold Go.Proofs.YtocfcnhaecmgpaaGreatDoor.wdK
  rw [h.wd1 hk, h.wd2 hk, h.nameK (wd1_le hk)]
  split
  · exact h.nameK (wd2_in (by assumption))
  · rfl
theorem Wrap.wdC (h : Wrap s S) {k : Nat} (hk : k ≤ s.size) : (wdC S (k + 1) = 0) = (Go.Proofs.YtocfcnhaecmgpaaGreatDoor.wdC s k = 0) := by
  have h1 := h.nameC (wd1_le hk)
  unfold Go.Proofs.YtocfcnhaecmgpaaGreatDoor.wdC
  rw [h.wd1 hk, h.wd2 hk, h.nameK (wd1_le hk)]
  by_cases hc : Go.Proofs.YtocfcnhaecmgpaaGreatDoor.nameC s (Go.Proofs.YtocfcnhaecmgpaaGreatDoor.wd1 s k) = 0
  · have hc2 : Go.Proofs.YtocfcnhaecmgpaaGreatDoor.nameC S (Go.Proofs.YtocfcnhaecmgpaaGreatDoor.wd1 s k + 1) = 0 := by rw [h1]; exact hc
    rw [hc, hc2]
    simp only [ne_eq, not_true_eq_false, if_false]
    split
    · exact h.nameC (wd2_in (by assumption))
    · rfl
  · have hc2 : ¬ Go.Proofs.YtocfcnhaecmgpaaGreatDoor.nameC S (Go.Proofs.YtocfcnhaecmgpaaGreatDoor.wd1 s k + 1) = 0 := by rw [h1]; exact hc
    simp [hc, hc2]
theorem Wrap.begB (h : Wrap s S) {k : Nat} (hk : k ≤ s.size) : begB S (k + 1) = Go.Proofs.YtocfcnhaecmgpaaGreatDoor.begB s k := by
  unfold Go.Proofs.YtocfcnhaecmgpaaGreatDoor.begB
  rw [h.letter hk]
  simp only [h.is hk (c := 46) (by decide) (by decide), h.is hk (c := 91) (by decide) (by decide), h.is hk (c := 40) (by decide) (by decide), h.is hk (c := 36) (by decide) (by decide)]
theorem Wrap.sgn (h : Wrap s S) {k : Nat} (hk : k ≤ s.size) : sgn (byteI S (k + 1)) = Go.Proofs.YtocfcnhaecmgpaaGreatDoor.sgn (byteI s k) := by
  rcases h.byte hk with e | ⟨e1, e2⟩
  · rw [e]
  · rw [e1, e2]; decide
theorem Wrap.chR (h : Wrap s S) : ∀ (f f' k : Nat) (seen : List ByteArray) (k' n' : Nat) (ws : List ByteArray), f ≤ f' → k ≤ s.size → chR s f k seen = .ok k' n' ws →
    chR S f' (k + 1) seen = .ok (k' + 1) n' ws ∧ k ≤ k' ∧ k' ≤ s.size
  | 0, _, _, _, _, _, _, _, _, h0 => by simp [Go.Proofs.YtocfcnhaecmgpaaGreatDoor.chR] at h0
  | f + 1, 0, _, _, _, _, _, hf, _, _ => by omega
  | f + 1, f' + 1, k, seen, k', n', ws, hf, hk, h0 => by
    have hj := skp_le hk
    have hw := wdK_le hj.2
    have hj2 := skp_le hw.2
    rw [Go.Proofs.YtocfcnhaecmgpaaGreatDoor.chR] at h0 ⊢
    rw [h.skp hk, h.wdK hj.2, h.skp hw.2, h.ext _ _ hw.1 hw.2]
    by_cases hc : Go.Proofs.YtocfcnhaecmgpaaGreatDoor.wdC s (Go.Proofs.YtocfcnhaecmgpaaGreatDoor.skp s k) = 0
    · have hc2 : Go.Proofs.YtocfcnhaecmgpaaGreatDoor.wdC S (Go.Proofs.YtocfcnhaecmgpaaGreatDoor.skp s k + 1) = 0 := by rw [h.wdC hj.2]; exact hc
      rw [if_neg (by rw [hc]; decide)] at h0
      rw [if_neg (by rw [hc2]; decide)]
      split at h0
      · cases h0
      · rename_i hin
        rw [if_neg hin]
        simp only [h.is hj2.2 (c := 44) (by decide) (by decide), h.is hj2.2 (c := 93) (by decide) (by decide)]
        split at h0
        · rename_i h44
          rw [if_pos h44]
          have h1 := byteI_in h44 (by decide)
          have := Wrap.chR h f f' _ _ _ _ _ (by omega) (by omega) h0
          exact ⟨this.1, by omega, this.2.2⟩
        · rename_i h44
          rw [if_neg h44]
          split at h0
          · rename_i h93
            rw [if_pos h93]
            have h1 := byteI_in h93 (by decide)
            injection h0 with h2 h3 h4
            subst h2 h3 h4
            exact ⟨rfl, by omega, by omega⟩
          · cases h0
    · rw [if_pos hc] at h0
      cases h0
theorem Wrap.notK (h : Wrap s S) {k : Nat} (hk : k ≤ s.size) : notK S (k + 1) = Go.Proofs.YtocfcnhaecmgpaaGreatDoor.notK s k + 1 := by
  unfold Go.Proofs.YtocfcnhaecmgpaaGreatDoor.notK
  rw [h.skp hk]
  simp only [h.is (skp_le hk).2 (c := 94) (by decide) (by decide)]
  split <;> rfl
theorem notK_le {k : Nat} (hk : k ≤ s.size) : k ≤ notK s k ∧ notK s k ≤ s.size := by
  have hj := skp_le hk
  unfold notK
  split
  · have := byteI_in (by assumption) (by decide : (94 : Int) ≠ 0)
    omega
  · exact ⟨Nat.le_refl _, hk⟩
theorem cnt_shift {α : Type} {k n a a' k' n' : Nat} {x y : α} (h : cnt k n x a = .ok k' n' y) : cnt (k + 1) n x a' = .ok (k' + 1) n' y ∧ k' = k := by
  unfold cnt at h ⊢
  split at h
  · cases h
  · rename_i h1
    rw [if_neg h1]
    injection h with h2 h3 h4
    subst h2 h3 h4
    exact ⟨rfl, rfl⟩
/-- What is read there is read here, one byte farther on, with at most so many brackets. -/
def ShR (s : ByteArray) (e : Nat) (f f' : Nat → Nat → RO Rx) : Prop := ∀ k n k' n' x, k ≤ s.size → opens s k ≤ e → f k n = .ok k' n' x → f' (k + 1) n = .ok (k' + 1) n' x ∧ k ≤ k' ∧ k' ≤ s.size
def ShM (s : ByteArray) (m m' : Nat → Option Nat) : Prop := ∀ k, k ≤ s.size → (m k = none ∧ m' (k + 1) = none) ∨ ∃ k2, m k = some k2 ∧ m' (k + 1) = some (k2 + 1) ∧ k ≤ k2 ∧ k2 ≤ s.size
theorem Wrap.sgR (h : Wrap s S) : ∀ (f k n : Nat) (x : Rx) (k' n' : Nat) (y : Rx), k ≤ s.size → sgR s f k n x = .ok k' n' y → sgR S f (k + 1) n x = .ok (k' + 1) n' y ∧ k ≤ k' ∧ k' ≤ s.size
  | 0, _, _, _, _, _, _, _, h0 => by cases h0
  | f + 1, k, n, x, k', n', y, hk, h0 => by
    have hj := skp_le hk
    rw [Go.Proofs.YtocfcnhaecmgpaaGreatDoor.sgR] at h0 ⊢
    rw [h.skp hk, h.sgn hj.2]
    split at h0
    · rename_i hg
      injection h0 with h2 h3 h4
      subst h2 h3 h4
      exact ⟨rfl, Nat.le_refl _, hk⟩
    · rename_i i hg
      split at h0
      · cases h0
      · rename_i h100
        rw [if_neg h100]
        have hlt : Go.Proofs.YtocfcnhaecmgpaaGreatDoor.skp s k < s.size := by
          have hne : byteI s (Go.Proofs.YtocfcnhaecmgpaaGreatDoor.skp s k) ≠ 0 := by
            intro e
            rw [e] at hg
            simp [Go.Proofs.YtocfcnhaecmgpaaGreatDoor.sgn] at hg
          exact byteI_in rfl hne
        have := Wrap.sgR h f _ _ _ _ _ _ (by omega) h0
        exact ⟨this.1, by omega, this.2.2⟩
theorem bsR_in {sub : Option (Nat → Nat → RO Rx)} {k n k' n' : Nat} {x : Rx} (hk : k ≤ s.size) (h : bsR s sub k n = .ok k' n' x) : skp s k < s.size := by
  have hj := skp_le hk
  by_cases h1 : skp s k < s.size
  · exact h1
  · have e : skp s k = s.size := by omega
    have h0 : byteI s (skp s k) = 0 := byteI_ge h1
    have hw1 : wd1 s (skp s k) = skp s k := by unfold wd1; rw [h0, if_neg (by decide)]
    have hlet : isLet 0 = false := by decide
    have hc : wdC s (skp s k) ≠ 0 := by
      unfold wdC nameC
      rw [hw1, h0, hlet]
      have := missC_ne s (skp s k)
      simp [this]
    unfold bsR at h
    rw [h0, if_neg (by decide), if_neg (by decide), if_neg (by decide), if_pos hc] at h
    cases h
theorem ptR_in {sub : Option (Nat → Nat → RO Rx)} {k n k' n' : Nat} {x : Rx} (hk : k ≤ s.size) (h : ptR s sub k n = .ok k' n' x) : skp s k < s.size := by
  unfold ptR at h
  split at h
  · cases h
  · exact bsR_in hk (by assumption)
theorem jnR_in {kind : Int} {next : Nat → Nat → RO Rx} {more : Nat → Option Nat} (hn : ∀ k n k' n' x, k ≤ s.size → next k n = .ok k' n' x → skp s k < s.size) {k n k' n' : Nat} {x : Rx} (hk : k ≤ s.size) (h : jnR s kind next more k n = .ok k' n' x) : skp s k < s.size := by
  unfold jnR at h
  split at h
  · cases h
  · exact hn _ _ _ _ _ hk (by assumption)
theorem alR_in {e k n k' n' : Nat} {x : Rx} (hk : k ≤ s.size) (h : alR s e k n = .ok k' n' x) : skp s k < s.size := by
  rw [alR_eq] at h
  exact jnR_in (fun k n k' n' x hk h => jnR_in (fun k n k' n' x hk h => ptR_in hk h) hk h) hk h
theorem Wrap.jnL (_h : Wrap s S) {kind : Int} {next next' : Nat → Nat → RO Rx} {more more' : Nat → Option Nat} {e : Nat} (hn : ShR s e next next') (hm : ShM s more more') :
    ∀ (f k n : Nat) (l : List Rx) (k' n' : Nat) (x : Rx), k ≤ s.size → opens s k ≤ e → jnL kind next more f k n l = .ok k' n' x → jnL kind next' more' f (k + 1) n l = .ok (k' + 1) n' x ∧ k ≤ k' ∧ k' ≤ s.size
  | 0, _, _, _, _, _, _, _, _, h0 => by cases h0
  | f + 1, k, n, l, k', n', x, hk, ho, h0 => by
    rw [Go.Proofs.YtocfcnhaecmgpaaGreatDoor.jnL] at h0 ⊢
    split at h0
    · cases h0
    · rename_i k1 n1 x1 e1
      have h1 := hn k n k1 n1 x1 hk ho e1
      rw [h1.1]
      simp only
      rcases hm k1 h1.2.2 with ⟨m1, m2⟩ | ⟨k2, m1, m2, h3, h4⟩
      · rw [m1] at h0
        rw [m2]
        simp only at h0 ⊢
        injection h0 with h5 h6 h7
        subst h5 h6 h7
        exact ⟨rfl, h1.2.1, h1.2.2⟩
      · rw [m1] at h0
        rw [m2]
        simp only at h0 ⊢
        have := Wrap.jnL _h hn hm f k2 n1 _ k' n' x h4 (Nat.le_trans (opens_mono (by omega)) ho) h0
        exact ⟨this.1, by omega, this.2.2⟩
theorem Wrap.jnR (h : Wrap s S) {kind : Int} {next next' : Nat → Nat → RO Rx} {more more' : Nat → Option Nat} {e : Nat} (hn : ShR s e next next') (hm : ShM s more more') : ShR s e (jnR s kind next more) (jnR S kind next' more') := by
  intro k n k' n' x hk ho h0
  unfold Go.Proofs.YtocfcnhaecmgpaaGreatDoor.jnR at h0 ⊢
  split at h0
  · cases h0
  · rename_i k1 n1 x1 e1
    have h1 := hn k n k1 n1 x1 hk ho e1
    rw [h1.1]
    simp only
    rcases hm k1 h1.2.2 with ⟨m1, m2⟩ | ⟨k2, m1, m2, h3, h4⟩
    · rw [m1] at h0
      rw [m2]
      simp only at h0 ⊢
      injection h0 with h5 h6 h7
      subst h5 h6 h7
      exact ⟨rfl, h1.2.1, h1.2.2⟩
    · rw [m1] at h0
      rw [m2]
      simp only at h0 ⊢
      split at h0
      · cases h0
      · rename_i h100
        rw [if_neg h100]
        have := h.jnL hn hm 101 k2 (n1 + 1) _ k' n' x h4 (Nat.le_trans (opens_mono (by omega)) ho) h0
        exact ⟨this.1, by omega, this.2.2⟩
theorem Wrap.rwM (h : Wrap s S) : ShM s (rwM s) (rwM S) := by
  intro k hk
  unfold Go.Proofs.YtocfcnhaecmgpaaGreatDoor.rwM
  rw [h.skp hk, h.begB (skp_le hk).2]
  by_cases hb : Go.Proofs.YtocfcnhaecmgpaaGreatDoor.begB s (Go.Proofs.YtocfcnhaecmgpaaGreatDoor.skp s k) = true
  · rw [if_pos hb]
    exact .inr ⟨k, rfl, by rw [if_pos hb], Nat.le_refl _, hk⟩
  · rw [if_neg hb]
    exact .inl ⟨rfl, by rw [if_neg hb]⟩
theorem Wrap.alM (h : Wrap s S) : ShM s (alM s) (alM S) := by
  intro k hk
  have hj := skp_le hk
  unfold Go.Proofs.YtocfcnhaecmgpaaGreatDoor.alM
  rw [h.skp hk]
  simp only [h.is hj.2 (c := 124) (by decide) (by decide)]
  by_cases hb : byteI s (Go.Proofs.YtocfcnhaecmgpaaGreatDoor.skp s k) = 124
  · have := byteI_in hb (by decide)
    rw [if_pos hb]
    exact .inr ⟨_, rfl, by rw [if_pos hb], by omega, by omega⟩
  · rw [if_neg hb]
    exact .inl ⟨rfl, by rw [if_neg hb]⟩
theorem Wrap.bsR (h : Wrap s S) (e e' : Nat) (hs : ∀ e0 e1, e = e0 + 1 → e' = e1 + 1 → ShR s e1 (alR s e0) (alR S e1)) : ShR s e' (bsR s (subR s e)) (bsR S (subR S e')) := by
  intro k n k' n' x hk ho h0
  have hj := skp_le hk
  have hin := bsR_in hk h0
  have hb := h.at' _ hin
  unfold Go.Proofs.YtocfcnhaecmgpaaGreatDoor.bsR at h0 ⊢
  rw [h.skp hk, hb]
  split at h0
  · rename_i h40
    rw [if_pos h40]
    have hop : opens s (Go.Proofs.YtocfcnhaecmgpaaGreatDoor.skp s k) = 1 + opens s (Go.Proofs.YtocfcnhaecmgpaaGreatDoor.skp s k + 1) := by rw [opens_step hin, if_pos h40]
    have hop2 := Nat.le_trans (opens_mono (s := s) hj.1) ho
    obtain ⟨e1, rfl⟩ : ∃ e1, e' = e1 + 1 := ⟨e' - 1, by omega⟩
    cases e with
    | zero => simp [subR] at h0
    | succ e0 =>
      have hsh := hs e0 e1 rfl rfl
      simp only [subR] at h0 ⊢
      have hj1 := skp_le (s := s) (k := Go.Proofs.YtocfcnhaecmgpaaGreatDoor.skp s k + 1) (by omega)
      rw [h.skp (by omega : Go.Proofs.YtocfcnhaecmgpaaGreatDoor.skp s k + 1 ≤ s.size)]
      split at h0
      · rename_i h41
        have h1 := byteI_in h41 (by decide)
        rw [h.at' _ h1, if_pos h41]
        have := cnt_shift (a' := Go.Proofs.YtocfcnhaecmgpaaGreatDoor.skp s k + 1) h0
        exact ⟨this.1, by omega, by omega⟩
      · rename_i h41
        split at h0
        · cases h0
        · rename_i k1 n1 x1 e2
          have hin1 := alR_in (by omega : Go.Proofs.YtocfcnhaecmgpaaGreatDoor.skp s k + 1 ≤ s.size) e2
          rw [h.at' _ hin1, if_neg h41]
          have h1 := hsh _ _ _ _ _ (by omega) (by omega) e2
          rw [h1.1]
          simp only
          have hj2 := skp_le h1.2.2
          rw [h.skp h1.2.2]
          split at h0
          · rename_i hcl
            have h2 := byteI_in hcl (by decide)
            rw [h.at' _ h2, if_pos hcl]
            injection h0 with h5 h6 h7
            subst h5 h6 h7
            exact ⟨rfl, by omega, by omega⟩
          · cases h0
  · rename_i h40
    rw [if_neg h40]
    split at h0
    · rename_i h46
      rw [if_pos h46]
      have := cnt_shift (a' := Go.Proofs.YtocfcnhaecmgpaaGreatDoor.skp s k + 1) h0
      exact ⟨this.1, by omega, by omega⟩
    · rename_i h46
      rw [if_neg h46]
      split at h0
      · rename_i h91
        rw [if_pos h91]
        split at h0
        · cases h0
        · rename_i k1 n1 ws e1
          have hnk := notK_le (s := s) (k := Go.Proofs.YtocfcnhaecmgpaaGreatDoor.skp s k + 1) (by omega)
          have h1 := h.chR (s.size + 1) (S.size + 1) _ _ _ _ _ (by rw [h.size]; omega) hnk.2 e1
          rw [h.notK (by omega : Go.Proofs.YtocfcnhaecmgpaaGreatDoor.skp s k + 1 ≤ s.size), h1.1]
          simp only
          have hj1 := skp_le (s := s) (k := Go.Proofs.YtocfcnhaecmgpaaGreatDoor.skp s k + 1) (by omega)
          rw [h.skp (by omega : Go.Proofs.YtocfcnhaecmgpaaGreatDoor.skp s k + 1 ≤ s.size)]
          simp only [h.is hj1.2 (c := 94) (by decide) (by decide)]
          have := cnt_shift (a' := Go.Proofs.YtocfcnhaecmgpaaGreatDoor.skp s k + 1) h0
          exact ⟨this.1, by omega, by omega⟩
      · rename_i h91
        rw [if_neg h91]
        split at h0
        · cases h0
        · rename_i hc
          have hw := wdK_le hj.2
          have hc2 : ¬ Go.Proofs.YtocfcnhaecmgpaaGreatDoor.wdC S (Go.Proofs.YtocfcnhaecmgpaaGreatDoor.skp s k + 1) ≠ 0 := by
            intro h9
            apply h9
            rw [h.wdC hj.2]
            simpa using hc
          rw [if_neg hc2, h.wdK hj.2, h.ext _ _ hw.1 hw.2]
          have := cnt_shift (a' := Go.Proofs.YtocfcnhaecmgpaaGreatDoor.skp s k + 1) h0
          exact ⟨this.1, by omega, by omega⟩
theorem Wrap.ptR (h : Wrap s S) (e e' : Nat) (hs : ∀ e0 e1, e = e0 + 1 → e' = e1 + 1 → ShR s e1 (alR s e0) (alR S e1)) : ShR s e' (ptR s (subR s e)) (ptR S (subR S e')) := by
  intro k n k' n' x hk ho h0
  unfold Go.Proofs.YtocfcnhaecmgpaaGreatDoor.ptR at h0 ⊢
  split at h0
  · cases h0
  · rename_i k1 n1 x1 e1
    have h1 := h.bsR e e' hs k n k1 n1 x1 hk ho e1
    rw [h1.1]
    simp only
    have h2 := h.sgR 101 k1 n1 x1 k' n' x h1.2.2 h0
    exact ⟨h2.1, by omega, h2.2.2⟩
theorem Wrap.alR (h : Wrap s S) : ∀ (e e' : Nat), ShR s e' (alR s e) (alR S e')
  | e, e' => by
    have hs : ∀ e0 e1, e = e0 + 1 → e' = e1 + 1 → ShR s e1 (Go.Proofs.YtocfcnhaecmgpaaGreatDoor.alR s e0) (Go.Proofs.YtocfcnhaecmgpaaGreatDoor.alR S e1) := fun e0 e1 h1 _ => by subst h1; exact Wrap.alR h e0 e1
    rw [alR_eq, alR_eq]
    exact h.jnR (h.jnR (h.ptR e e' hs) h.rwM) h.alM
/-- An expression within one pair of brackets more is what it is. -/
theorem Wrap.parse (h : Wrap s S) (h0 : byteI S 0 = 40) {k n : Nat} {x : Rx} (ha : Go.Proofs.YtocfcnhaecmgpaaGreatDoor.alR s 64 0 0 = .ok k n x) (hend : Go.Proofs.YtocfcnhaecmgpaaGreatDoor.skp s k = s.size) (ho : opens s 0 ≤ 63) :
    Go.Proofs.YtocfcnhaecmgpaaGreatDoor.alR S 64 0 0 = .ok S.size n x ∧ Go.Proofs.YtocfcnhaecmgpaaGreatDoor.skp S S.size = S.size := by
  have h1 := h.alR 64 63 0 0 k n x (Nat.zero_le _) ho ha
  have hin := alR_in (Nat.zero_le _) ha
  have hS0 : Go.Proofs.YtocfcnhaecmgpaaGreatDoor.skp S 0 = 0 := skp_stay (by rw [h0]; decide)
  have hS1 := h.skp (Nat.zero_le s.size)
  have hS2 := h.skp h1.2.2
  rw [Nat.zero_add] at hS1 h1
  have hb1 : byteI S (Go.Proofs.YtocfcnhaecmgpaaGreatDoor.skp s 0 + 1) ≠ 41 := by
    rw [h.at' _ hin]
    intro h41
    have hb : ∃ f, subR s 64 = some f := ⟨_, rfl⟩
    have hz : Go.Proofs.YtocfcnhaecmgpaaGreatDoor.wdC s (Go.Proofs.YtocfcnhaecmgpaaGreatDoor.skp s 0) ≠ 0 := by
      have hw1 : Go.Proofs.YtocfcnhaecmgpaaGreatDoor.wd1 s (Go.Proofs.YtocfcnhaecmgpaaGreatDoor.skp s 0) = Go.Proofs.YtocfcnhaecmgpaaGreatDoor.skp s 0 := by unfold Go.Proofs.YtocfcnhaecmgpaaGreatDoor.wd1; rw [h41, if_neg (by decide)]
      have hlet : isLet 41 = false := by decide
      unfold Go.Proofs.YtocfcnhaecmgpaaGreatDoor.wdC Go.Proofs.YtocfcnhaecmgpaaGreatDoor.nameC
      rw [hw1, h41, hlet]
      have := missC_ne s (Go.Proofs.YtocfcnhaecmgpaaGreatDoor.skp s 0)
      simp [this]
    have hbs : Go.Proofs.YtocfcnhaecmgpaaGreatDoor.bsR s (subR s 64) 0 0 = .er (Go.Proofs.YtocfcnhaecmgpaaGreatDoor.wdC s (Go.Proofs.YtocfcnhaecmgpaaGreatDoor.skp s 0)) (wdA s (Go.Proofs.YtocfcnhaecmgpaaGreatDoor.skp s 0)) := by
      unfold Go.Proofs.YtocfcnhaecmgpaaGreatDoor.bsR
      rw [h41, if_neg (by decide), if_neg (by decide), if_neg (by decide), if_pos hz]
    rw [alR_one_er hbs] at ha
    cases ha
  have hlast := h.last
  have hsz := h.size
  have hbase : Go.Proofs.YtocfcnhaecmgpaaGreatDoor.bsR S (subR S 64) 0 0 = .ok S.size n x := by
    unfold Go.Proofs.YtocfcnhaecmgpaaGreatDoor.bsR
    rw [hS0, h0, if_pos rfl]
    simp only [subR]
    rw [Nat.zero_add, hS1, if_neg hb1, h1.1]
    simp only
    rw [hS2, hend, hlast, if_pos rfl, hsz]
  have hend0 : byteI S S.size = 0 := byteI_ge (by omega)
  exact ⟨alR_one hbase (.inr hend0), skp_stay (by rw [hend0]; decide)⟩
end
end Go.Proofs.YtocfcnhaecmgpaaGreatDoor

namespace Go.Proofs.YtocfcnhaecmgpaaGreatDoor
open Go.RowKit Go.Extern.Stop Go.Stop Go.Extern Go.WideMaps

set_option maxRecDepth 100000 in
set_option maxHeartbeats 8000000 in
/-- Parse, where no expression stands at the text's beginning. -/
theorem parse_er1 (s : ByteArray) (hs : s.size ≤ 65536) (cc : Int) (aa : Nat) (ho : alR s 64 0 0 = .er cc aa) (w : World) :
    Calls Tryz.prog 21 #[.string s] w (XpOut w (.er cc aa)) := by
  have HC0 : Hid (cc ≠ 0) := Lib.hid ((alt_spec s (by omega) 64 0 rfl).2.2 0 0 cc aa (Nat.zero_le _) ho)
  have hq1 := quad_new w 25 (.int .i64 0) (.bool false) (.slice none 0 0) (.slice none 0 0)
  have hb1 := sbelow_new w (.cells #[.int .i64 0, .bool false, .slice none 0 0, .slice none 0 0] 25)
  have hz1 : (w.alloc (.cells #[.int .i64 0, .bool false, .slice none 0 0, .slice none 0 0] 25)).heap.size = w.heap.size + 1 := World.size_alloc _ _
  generalize hw1 : w.alloc (.cells #[.int .i64 0, .bool false, .slice none 0 0, .slice none 0 0] 25) = w1 at *
  have HN := Lib.hid (fun W => scanNew_any s hs W)
  have HRD : Hid (∀ W, Calls Tryz.prog 26 #[.agg #[.string s, .int .i64 0]] W (ReadOut W s 0 (.er cc aa))) := Lib.hid (fun W => by have := read_any s 0 (by omega) (Nat.zero_le _) W; rwa [ho] at this)
  have HQ1 := Lib.hid hq1
  have HB1 := Lib.hid hb1
  have HZ1 := Lib.hid hz1
  clear hq1 hb1 hz1 ho
  go_enter Tryz.func21, Tryz.ntmps21
  go_wp2_with fail
  refine (HN.out _).mono ?_
  rintro e w2 ⟨rfl, b2⟩
  have bn := sbelow_new w2 (.cells #[.string s, .int .i64 0] 50)
  have HQ3 := Lib.hid ((HQ1.out.step b2).step bn)
  have HC3 := Lib.hid (ScanAt.new w2 s 0 50)
  have hz2 : w.heap.size < w2.heap.size := by have := b2.size; have := HZ1.out; omega
  have HB3 := Lib.hid ((HB1.out.trans (b2.mono (by have := HZ1.out; omega))).trans (bn.mono (by omega)))
  have HZ2 := Lib.hid hz2
  clear b2 bn hz2 hw1
  go_wp2_with fail
  generalize w2.alloc (.cells #[.string s, .int .i64 0] 50) = w3 at *
  generalize w2.heap.size = cb at *
  refine (HRD.out _).mono ?_
  rintro e w4 ⟨fb, rfl, hf4, hb4⟩
  have HQ4 := Lib.hid (HQ3.out.step hb4)
  have HC4 := Lib.hid (HC3.out.step hb4)
  have HB4 := Lib.hid (HB3.out.trans (hb4.mono (by have := HB3.out.size; omega)))
  have bx := sbelow_new w4 (.cells #[.int .i64 0, .bool false, .slice none 0 0, .slice none 0 0] 25)
  have HX5 := Lib.hid (quad_new w4 25 (.int .i64 0) (.bool false) (.slice none 0 0) (.slice none 0 0))
  have HF5 := Lib.hid (hf4.keep bx)
  have HQ5 := Lib.hid (HQ4.out.step bx)
  have HC5 := Lib.hid (HC4.out.step bx)
  have HB5 := Lib.hid (HB4.out.trans (bx.mono HB4.out.size))
  have HXB : Hid (cb < w4.heap.size) := Lib.hid HC4.out.1
  obtain ⟨-, c0, c1, cf⟩ := HC5.out
  have cf0 := cf 0
  have cf1 := cf 1
  have hne : cb ≠ w4.heap.size := by have := HXB.out; omega
  have hne' := hne.symm
  clear hf4 hb4 bx cf HQ3 HC3 HB3 HQ4 HC4 HB4
  unfold pf
  go_upto_region 5 with (fail)
  have hk6 := keeps_two (w4.alloc (.cells #[.int .i64 0, .bool false, .slice none 0 0, .slice none 0 0] 25)) cb (.string s) (.int .i64 (0 : Nat))
  have hx6 := HX5.out.keeps hk6 hne'
  have hrb : w.heap.size < cb := HZ2.out
  have hq6 := HQ5.out.keeps hk6 (by omega)
  have hf6 : FaultAt (((w4.alloc (.cells #[.int .i64 0, .bool false, .slice none 0 0, .slice none 0 0] 25)).setCell ⟨cb, 0, none⟩ (.string s)).setCell ⟨cb, 1, none⟩ (.int .i64 (0 : Nat))) fb cc aa := HF5.out.set HC5.out s (0 : Nat)
  have hb6 := (HB5.out.setCell (p := ⟨cb, 0, none⟩) (by show w.heap.size ≤ cb; omega) (.string s)).setCell (p := ⟨cb, 1, none⟩) (by show w.heap.size ≤ cb; omega) (.int .i64 (0 : Nat))
  generalize ((w4.alloc (.cells #[.int .i64 0, .bool false, .slice none 0 0, .slice none 0 0] 25)).setCell ⟨cb, 0, none⟩ (.string s)).setCell ⟨cb, 1, none⟩ (.int .i64 (0 : Nat)) = w6 at *
  have hk7 := keeps_set4 w6 w4.heap.size 0 (.int .i64 0) (.bool false) (.slice none 0 0) (.slice none 0 0)
  have HQ7 := Lib.hid (hq6.keeps hk7 (by have := HXB.out; omega))
  have HF7 := Lib.hid (hf6.setq HC0.out hx6 (.int .i64 0) (.bool false) (.slice none 0 0) (.slice none 0 0))
  have HB7 := Lib.hid (hb6.trans (hk7.below (B := w.heap.size) hb6.size (fun q e => by have := HXB.out; omega)))
  clear hk6 hx6 hq6 hf6 hb6 hk7 HX5 HF5 HQ5 HC5 HB5 c0 c1 cf0 cf1
  unfold set4 at HQ7 HF7 HB7
  generalize (((w6.setCell ⟨w4.heap.size, 0, none⟩ (.int .i64 0)).setCell ⟨w4.heap.size, 0 + 1, none⟩ (.bool false)).setCell ⟨w4.heap.size, 0 + 2, none⟩ (.slice none 0 0)).setCell ⟨w4.heap.size, 0 + 3, none⟩ (.slice none 0 0) = w7 at *
  have r0 := HQ7.out.cells.1
  have r1 := HQ7.out.cells.2.1
  have r2 := HQ7.out.cells.2.2.1
  have r3 := HQ7.out.cells.2.2.2
  have rf0 := HQ7.out.fz 0
  have rf1 := HQ7.out.fz 1
  have rf2 := HQ7.out.fz 2
  have rf3 := HQ7.out.fz 3
  go_wp2_with fail
  obtain ⟨q0, q1, q2, q3⟩ := (HQ7.out.set4 (.int .i64 0) (.bool false) (.slice none 0 0) (.slice none 0 0)).cells
  have hk8 := keeps_set4 w7 w.heap.size 0 (.int .i64 0) (.bool false) (.slice none 0 0) (.slice none 0 0)
  have hf8 := HF7.out.setq HC0.out HQ7.out (.int .i64 0) (.bool false) (.slice none 0 0) (.slice none 0 0)
  have hb8 := HB7.out.trans (hk8.below (B := w.heap.size) HB7.out.size (fun q e => by omega))
  unfold set4 at q0 q1 q2 q3 hf8 hb8
  exact bodyPost_ret (v := .tuple #[.agg #[.int .i64 0, .bool false, .slice none 0 0, .slice none 0 0], pf fb]) (by simp [results, Tryz.results21, go_sem, q0, q1, q2, q3, pf]) rfl ⟨fb, rfl, hf8, hb8⟩
set_option maxRecDepth 100000 in
set_option maxHeartbeats 8000000 in
/-- Parse, where more stands behind an expression. -/
theorem parse_er2 (s : ByteArray) (hs : s.size ≤ 65536) (k2 n2 : Nat) (x2 : Rx) (ho : alR s 64 0 0 = .ok k2 n2 x2) (hend : skp s k2 ≠ s.size) (hk2 : k2 ≤ s.size) (w : World) :
    Calls Tryz.prog 21 #[.string s] w (XpOut w (.er 4 (skp s k2))) := by
  have HNW := Lib.hid (fun (j : Nat) W => new_err 4 (j : Int) (by decide) W)
  have HAT := Lib.hid (fun (j : Nat) W => at_any s j W)
  have hq1 := quad_new w 25 (.int .i64 0) (.bool false) (.slice none 0 0) (.slice none 0 0)
  have hb1 := sbelow_new w (.cells #[.int .i64 0, .bool false, .slice none 0 0, .slice none 0 0] 25)
  have hz1 : (w.alloc (.cells #[.int .i64 0, .bool false, .slice none 0 0, .slice none 0 0] 25)).heap.size = w.heap.size + 1 := World.size_alloc _ _
  generalize hw1 : w.alloc (.cells #[.int .i64 0, .bool false, .slice none 0 0, .slice none 0 0] 25) = w1 at *
  have HN := Lib.hid (fun W => scanNew_any s hs W)
  have HRD : Hid (∀ W, Calls Tryz.prog 26 #[.agg #[.string s, .int .i64 0]] W (ReadOut W s 0 (.ok k2 n2 x2))) := Lib.hid (fun W => by have := read_any s 0 (by omega) (Nat.zero_le _) W; rwa [ho] at this)
  have HSK : Hid (∀ W, Calls Tryz.prog 45 #[.agg #[.string s, .int .i64 k2]] W fun e w' => e = .returned (.agg #[.string s, .int .i64 (skp s k2)]) ∧ Below W.heap.size W w') := Lib.hid (fun W => skip_any s k2 (by omega) hk2 W)
  have hE := fun W => end_any s (skp s k2) W
  rw [decide_eq_false hend] at hE
  have HE := Lib.hid hE
  have HQ1 := Lib.hid hq1
  have HB1 := Lib.hid hb1
  have HZ1 := Lib.hid hz1
  clear hq1 hb1 hz1 ho hend hE
  generalize skp s k2 = sz at *
  go_enter Tryz.func21, Tryz.ntmps21
  go_wp2_with fail
  refine (HN.out _).mono ?_
  rintro e w2 ⟨rfl, b2⟩
  have bn := sbelow_new w2 (.cells #[.string s, .int .i64 0] 50)
  have HQ3 := Lib.hid ((HQ1.out.step b2).step bn)
  have HC3 := Lib.hid (ScanAt.new w2 s 0 50)
  have hz2 : w.heap.size < w2.heap.size := by have := b2.size; have := HZ1.out; omega
  have HB3 := Lib.hid ((HB1.out.trans (b2.mono (by have := HZ1.out; omega))).trans (bn.mono (by omega)))
  have HZ2 := Lib.hid hz2
  clear b2 bn hz2 hw1
  go_wp2_with fail
  generalize w2.alloc (.cells #[.string s, .int .i64 0] 50) = w3 at *
  generalize w2.heap.size = cb at *
  refine (HRD.out _).mono ?_
  rintro e w4 ⟨xk, xt, xa1, xl1, xc1, xa2, xl2, xc2, rfl, hv4, hb4⟩
  have HQ4 := Lib.hid (HQ3.out.step hb4)
  have HC4 := Lib.hid (HC3.out.step hb4)
  have HB4 := Lib.hid (HB3.out.trans (hb4.mono (by have := HB3.out.size; omega)))
  have hlt3 : cb < w3.heap.size := HC3.out.1
  have bx := sbelow_new w4 (.cells #[.int .i64 0, .bool false, .slice none 0 0, .slice none 0 0] 25)
  have HX5 := Lib.hid (quad_new w4 25 (.int .i64 0) (.bool false) (.slice none 0 0) (.slice none 0 0))
  have HV5 := Lib.hid ((hv4.move (P' := fun q => cb < q ∧ q ≠ w4.heap.size) (Nat.le_refl _) (fun q hq hl => ⟨⟨by omega, by omega⟩, rfl⟩)).step bx)
  have HQ5 := Lib.hid (HQ4.out.step bx)
  have HC5 := Lib.hid (HC4.out.step bx)
  have HB5 := Lib.hid (HB4.out.trans (bx.mono HB4.out.size))
  have HXB : Hid (cb < w4.heap.size) := Lib.hid HC4.out.1
  obtain ⟨-, c0, c1, cf⟩ := HC5.out
  have cf0 := cf 0
  have cf1 := cf 1
  have hne : cb ≠ w4.heap.size := by have := HXB.out; omega
  have hne' := hne.symm
  clear hv4 hb4 hlt3 bx cf HQ3 HC3 HB3 HQ4 HC4 HB4
  go_upto_region 5 with (fail)
  have hc6 : ScanAt (((w4.alloc (.cells #[.int .i64 0, .bool false, .slice none 0 0, .slice none 0 0] 25)).setCell ⟨cb, 0, none⟩ (.string s)).setCell ⟨cb, 1, none⟩ (.int .i64 k2)) cb s k2 := HC5.out.set s k2
  have hk6 := keeps_two (w4.alloc (.cells #[.int .i64 0, .bool false, .slice none 0 0, .slice none 0 0] 25)) cb (.string s) (.int .i64 k2)
  have hx6 := HX5.out.keeps hk6 hne'
  have hrb : w.heap.size < cb := HZ2.out
  have hq6 := HQ5.out.keeps hk6 (by omega)
  have hv6 := HV5.out.move (P' := fun q => cb < q ∧ q ≠ w4.heap.size) hk6.size (fun q hq hlt => ⟨hq, hk6.block q hlt (by omega)⟩)
  have hb6 := (HB5.out.setCell (p := ⟨cb, 0, none⟩) (by show w.heap.size ≤ cb; omega) (.string s)).setCell (p := ⟨cb, 1, none⟩) (by show w.heap.size ≤ cb; omega) (.int .i64 k2)
  generalize ((w4.alloc (.cells #[.int .i64 0, .bool false, .slice none 0 0, .slice none 0 0] 25)).setCell ⟨cb, 0, none⟩ (.string s)).setCell ⟨cb, 1, none⟩ (.int .i64 k2) = w6 at *
  have hk7 := keeps_set4 w6 w4.heap.size 0 (.int .i64 xk) (.bool xt) (.slice xa1 xl1 xc1) (.slice xa2 xl2 xc2)
  have HC7 := Lib.hid (hc6.keepsX hk7 hne)
  have HX7 := Lib.hid (hx6.set4 (.int .i64 xk) (.bool xt) (.slice xa1 xl1 xc1) (.slice xa2 xl2 xc2))
  have HQ7 := Lib.hid (hq6.keeps hk7 (by have := HXB.out; omega))
  have HV7 := Lib.hid (hv6.move (P' := fun q => cb < q) hk7.size (fun q hq hlt => ⟨hq.1, hk7.block q hlt hq.2⟩))
  have HB7 := Lib.hid (hb6.trans (hk7.below (B := w.heap.size) hb6.size (fun q e => by have := HXB.out; omega)))
  clear hc6 hk6 hx6 hq6 hv6 hb6 hk7 HX5 HV5 HQ5 HC5 HB5 c0 c1 cf0 cf1
  unfold set4 at HC7 HX7 HQ7 HV7 HB7
  generalize (((w6.setCell ⟨w4.heap.size, 0, none⟩ (.int .i64 xk)).setCell ⟨w4.heap.size, 0 + 1, none⟩ (.bool xt)).setCell ⟨w4.heap.size, 0 + 2, none⟩ (.slice xa1 xl1 xc1)).setCell ⟨w4.heap.size, 0 + 3, none⟩ (.slice xa2 xl2 xc2) = w7 at *
  generalize w4.heap.size = xb at *
  obtain ⟨-, c0, c1, -⟩ := HC7.out
  go_wp2_with fail
  refine (HSK.out _).mono ?_
  rintro e w8 ⟨rfl, b8⟩
  have hc8 := HC7.out.step b8
  have hk9 := keeps_two w8 cb (.string s) (.int .i64 sz)
  have HC9 : Hid (ScanAt ((w8.setCell ⟨cb, 0, none⟩ (.string s)).setCell ⟨cb, 1, none⟩ (.int .i64 sz)) cb s sz) := Lib.hid (hc8.set s sz)
  have HX9 := Lib.hid ((HX7.out.step b8).keeps hk9 hne')
  have HQ9 := Lib.hid ((HQ7.out.step b8).keeps hk9 (by omega))
  have HV9 := Lib.hid ((HV7.out.step b8).move (P' := fun q => cb < q) hk9.size (fun q hq hlt => ⟨hq, hk9.block q hlt (by omega)⟩))
  have HB9 := Lib.hid (((HB7.out.trans (b8.mono HB7.out.size)).setCell (p := ⟨cb, 0, none⟩) (by show w.heap.size ≤ cb; omega) (.string s)).setCell (p := ⟨cb, 1, none⟩) (by show w.heap.size ≤ cb; omega) (.int .i64 sz))
  obtain ⟨-, d0, d1, df⟩ := hc8
  have df0 := df 0
  have df1 := df 1
  clear hk9 b8 df c0 c1
  go_wp2_with fail
  generalize (w8.setCell ⟨cb, 0, none⟩ (.string s)).setCell ⟨cb, 1, none⟩ (.int .i64 sz) = w9 at *
  clear d0 d1 df0 df1
  refine (HE.out _).mono ?_
  rintro e w10 ⟨rfl, b10⟩
  have HC10 := Lib.hid (HC9.out.step b10)
  have HQ10 := Lib.hid (HQ9.out.step b10)
  have HB10 := Lib.hid (HB9.out.trans (b10.mono HB9.out.size))
  obtain ⟨-, c0, c1, -⟩ := HC10.out
  clear b10
  go_wp2_with fail
  refine (HAT.out sz _).mono ?_
  rintro e w11 ⟨rfl, b11⟩
  have HQ11 := Lib.hid (HQ10.out.step b11)
  have HB11 := Lib.hid (HB10.out.trans (b11.mono HB10.out.size))
  clear b11 c0 c1
  go_wp2_with fail
  refine (HNW.out sz _).mono ?_
  rintro e w12 ⟨fb, rfl, hf12, b12⟩
  have HQ12 := Lib.hid (HQ11.out.step b12)
  have HF12 := Lib.hid hf12
  have HB12 := Lib.hid (HB11.out.trans (b12.mono HB11.out.size))
  have r0 := HQ12.out.cells.1
  have r1 := HQ12.out.cells.2.1
  have r2 := HQ12.out.cells.2.2.1
  have r3 := HQ12.out.cells.2.2.2
  have rf0 := HQ12.out.fz 0
  have rf1 := HQ12.out.fz 1
  have rf2 := HQ12.out.fz 2
  have rf3 := HQ12.out.fz 3
  clear b12 hf12
  unfold pf
  go_wp2_with fail
  obtain ⟨q0, q1, q2, q3⟩ := (HQ12.out.set4 (.int .i64 0) (.bool false) (.slice none 0 0) (.slice none 0 0)).cells
  have hk13 := keeps_set4 w12 w.heap.size 0 (.int .i64 0) (.bool false) (.slice none 0 0) (.slice none 0 0)
  have hf13 := HF12.out.setq (by decide) HQ12.out (.int .i64 0) (.bool false) (.slice none 0 0) (.slice none 0 0)
  have hb13 := HB12.out.trans (hk13.below (B := w.heap.size) HB12.out.size (fun q e => by omega))
  unfold set4 at q0 q1 q2 q3 hf13 hb13
  exact bodyPost_ret (v := .tuple #[.agg #[.int .i64 0, .bool false, .slice none 0 0, .slice none 0 0], pf fb]) (by simp [results, Tryz.results21, go_sem, q0, q1, q2, q3, pf]) rfl ⟨fb, rfl, hf13, hb13⟩

theorem xparse_any (s : ByteArray) (hs : s.size ≤ 65536) (w : World) : Calls Tryz.prog 21 #[.string s] w (XpOut w (xpR s)) := by
  unfold xpR
  cases ho : alR s 64 0 0 with
  | er c a => exact parse_er1 s hs c a ho w
  | ok k n x =>
    have hk := (alR_good 64 0 0 k n x (Nat.zero_le _) ho).2.2
    simp only
    by_cases hend : skp s k = s.size
    · rw [if_pos hend]
      exact parse_ok s hs k n x ho hend hk w
    · rw [if_neg hend]
      exact parse_er2 s hs k n x ho hend hk w
end Go.Proofs.YtocfcnhaecmgpaaGreatDoor

namespace Go.Proofs.YtocfcnhaecmgpaaGreatDoor
open Go.RowKit Go.Extern.Stop Go.Stop Go.Extern

theorem wordsWt_append : ∀ (l r : List ByteArray), wordsWt (l ++ r) = wordsWt l + wordsWt r
  | [], r => by rw [List.nil_append, wordsWt]; omega
  | w :: l, r => by
    rw [List.cons_append, wordsWt, wordsWt, wordsWt_append l r]
    omega
theorem wordsWt_perm {l r : List ByteArray} (h : l.Perm r) : wordsWt l = wordsWt r := by
  induction h with
  | nil => rfl
  | cons x _ ih => rw [wordsWt, wordsWt, ih]
  | swap x y l => rw [wordsWt, wordsWt, wordsWt, wordsWt]; omega
  | trans _ _ ih1 ih2 => exact ih1.trans ih2
theorem srt_perm (l : List ByteArray) : (srt l).Perm l := by
  have h1 := (srtL_go (l.map (fun b => b.data.toList)) [] List.Pairwise.nil).2
  rw [List.nil_append] at h1
  have h2 := h1.map (fun b => (⟨b.toArray⟩ : ByteArray))
  rw [List.map_map] at h2
  have e : ((fun b : List UInt8 => (⟨b.toArray⟩ : ByteArray)) ∘ fun b : ByteArray => b.data.toList) = id := by
    funext b; simp
  rw [e, List.map_id] at h2
  exact h2
theorem rxsWt_append : ∀ (l r : List Rx), rxsWt (l ++ r) = rxsWt l + rxsWt r
  | [], r => by rw [List.nil_append, rxsWt]; omega
  | x :: l, r => by
    rw [List.cons_append, rxsWt, rxsWt, rxsWt_append l r]
    omega
/-- What a reading leaves: its place is farther on, and what was read has no more than was gone by. -/
def WtR (s : ByteArray) (f : Nat → Nat → RO Rx) : Prop := ∀ k n k' n' x, k ≤ s.size → f k n = .ok k' n' x → k ≤ k' ∧ k' ≤ s.size ∧ n ≤ n' ∧ rxWt x + 2 * n + k ≤ 2 * n' + k'
theorem chR_wt {s : ByteArray} : ∀ (f k : Nat) (seen : List ByteArray) (k' n' : Nat) (ws : List ByteArray), k ≤ s.size → chR s f k seen = .ok k' n' ws → k ≤ k' ∧ k' ≤ s.size ∧ wordsWt ws + k ≤ wordsWt seen + k'
  | 0, _, _, _, _, _, _, h => by simp [chR] at h
  | f + 1, k, seen, k', n', ws, hk, h => by
    have hj := skp_le hk
    have hw := wdK_le hj.2
    have hj2 := skp_le hw.2
    have hsz := size_ext s (skp s k) (wdK s (skp s k)) hw.2
    rw [chR] at h
    split at h
    · cases h
    · split at h
      · cases h
      · split at h
        · have h1 := byteI_in (by assumption) (by decide : (44 : Int) ≠ 0)
          have := chR_wt f _ _ _ _ _ (by omega) h
          rw [wordsWt_append, wordsWt, wordsWt, hsz] at this
          omega
        · split at h
          · have h1 := byteI_in (by assumption) (by decide : (93 : Int) ≠ 0)
            injection h with h2 h3 h4
            subst h2 h4
            rw [wordsWt_append, wordsWt, wordsWt, hsz]
            omega
          · cases h
theorem bsR_wt {s : ByteArray} {sub : Option (Nat → Nat → RO Rx)} (hsub : ∀ f, sub = some f → WtR s f) : WtR s (bsR s sub) := by
  intro k n k' n' x hk h
  have hj := skp_le hk
  unfold bsR at h
  split at h
  · have hlt := byteI_in (by assumption) (by decide : (40 : Int) ≠ 0)
    cases sub with
    | none => cases h
    | some f =>
      simp only at h
      split at h
      · have h1 := byteI_in (by assumption) (by decide : (41 : Int) ≠ 0)
        have h2 := skp_le (s := s) (k := skp s k + 1) (by omega)
        obtain ⟨rfl, rfl, h3, rfl⟩ := cnt_ok h
        rw [rxWt, wordsWt, rxsWt]
        omega
      · split at h
        · cases h
        · rename_i k1 n1 x1 e1
          have hg := hsub f rfl (skp s k + 1) n k1 n1 x1 (by omega) e1
          have h2 := skp_le hg.2.1
          split at h
          · have h1 := byteI_in (by assumption) (by decide : (41 : Int) ≠ 0)
            injection h with h3 h4 h5
            subst h3 h4 h5
            omega
          · cases h
  · split at h
    · have hlt := byteI_in (by assumption) (by decide : (46 : Int) ≠ 0)
      obtain ⟨rfl, rfl, h3, rfl⟩ := cnt_ok h
      rw [rxWt, wordsWt, rxsWt]
      omega
    · split at h
      · have hlt := byteI_in (by assumption) (by decide : (91 : Int) ≠ 0)
        split at h
        · cases h
        · rename_i k1 n1 ws e1
          have hnk := notK_le (s := s) (k := skp s k + 1) (by omega)
          have hc := chR_wt _ _ _ _ _ _ hnk.2 e1
          obtain ⟨rfl, rfl, h3, rfl⟩ := cnt_ok h
          rw [rxWt, rxsWt, wordsWt_perm (srt_perm ws)]
          rw [wordsWt] at hc
          omega
      · split at h
        · cases h
        · have hw := wdK_le hj.2
          have hsz := size_ext s (skp s k) (wdK s (skp s k)) hw.2
          obtain ⟨rfl, rfl, h3, rfl⟩ := cnt_ok h
          rw [rxWt, rxsWt, wordsWt, wordsWt, hsz]
          omega
theorem sgR_wt {s : ByteArray} : ∀ (f k n : Nat) (x : Rx) (k' n' : Nat) (y : Rx), k ≤ s.size → sgR s f k n x = .ok k' n' y → k ≤ k' ∧ k' ≤ s.size ∧ n ≤ n' ∧ rxWt y + 2 * n + k ≤ rxWt x + 2 * n' + k'
  | 0, _, _, _, _, _, _, _, h => by cases h
  | f + 1, k, n, x, k', n', y, hk, h => by
    have hj := skp_le hk
    rw [sgR] at h
    split at h
    · injection h with h1 h2 h3
      subst h1 h2 h3
      omega
    · rename_i i hi
      split at h
      · cases h
      · have hlt : skp s k < s.size := by
          have h0 : byteI s (skp s k) ≠ 0 := by
            intro h0
            rw [h0] at hi
            simp [sgn] at hi
          exact byteI_in rfl h0
        have := sgR_wt f _ _ _ _ _ _ (by omega) h
        rw [rxWt, wordsWt, rxsWt, rxsWt] at this
        omega
theorem ptR_wt {s : ByteArray} {sub : Option (Nat → Nat → RO Rx)} (hsub : ∀ f, sub = some f → WtR s f) : WtR s (ptR s sub) := by
  intro k n k' n' x hk h
  unfold ptR at h
  split at h
  · cases h
  · rename_i k1 n1 x1 e1
    have h1 := bsR_wt hsub k n k1 n1 x1 hk e1
    have := sgR_wt 101 k1 n1 x1 k' n' x h1.2.1 h
    omega
def WtM (s : ByteArray) (m : Nat → Option Nat) : Prop := ∀ k k', k ≤ s.size → m k = some k' → k ≤ k' ∧ k' ≤ s.size
theorem rwM_wt {s : ByteArray} : WtM s (rwM s) := by
  intro k k' hk h
  unfold rwM at h
  split at h
  · injection h with h; omega
  · cases h
theorem alM_wt {s : ByteArray} : WtM s (alM s) := by
  intro k k' hk h
  have hj := skp_le hk
  unfold alM at h
  split at h
  · have := byteI_in (by assumption) (by decide : (124 : Int) ≠ 0)
    injection h with h; omega
  · cases h
theorem jnL_wt {s : ByteArray} {kind : Int} {next : Nat → Nat → RO Rx} {more : Nat → Option Nat} (hn : WtR s next) (hm : WtM s more) : ∀ (f k n : Nat) (l : List Rx) (k' n' : Nat) (x : Rx), k ≤ s.size → jnL kind next more f k n l = .ok k' n' x → k ≤ k' ∧ k' ≤ s.size ∧ n ≤ n' ∧ rxWt x + 2 * n + k ≤ 1 + rxsWt l + 2 * n' + k'
  | 0, _, _, _, _, _, _, _, h => by cases h
  | f + 1, k, n, l, k', n', x, hk, h => by
    rw [jnL] at h
    split at h
    · cases h
    · rename_i k1 n1 x1 e1
      have h1 := hn k n k1 n1 x1 hk e1
      split at h
      · rename_i k2 e2
        have h2 := hm k1 k2 h1.2.1 e2
        have := jnL_wt hn hm f k2 n1 _ k' n' x h2.2 h
        rw [rxsWt_append, rxsWt, rxsWt] at this
        omega
      · injection h with h3 h4 h5
        subst h3 h4 h5
        rw [rxWt, wordsWt, rxsWt_append, rxsWt, rxsWt]
        omega
theorem jnR_wt {s : ByteArray} {kind : Int} {next : Nat → Nat → RO Rx} {more : Nat → Option Nat} (hn : WtR s next) (hm : WtM s more) : WtR s (jnR s kind next more) := by
  intro k n k' n' x hk h
  unfold jnR at h
  split at h
  · cases h
  · rename_i k1 n1 x1 e1
    have h1 := hn k n k1 n1 x1 hk e1
    split at h
    · injection h with h3 h4 h5
      subst h3 h4 h5
      exact h1
    · rename_i k2 e2
      have h2 := hm k1 k2 h1.2.1 e2
      split at h
      · cases h
      · have := jnL_wt hn hm 101 k2 (n1 + 1) _ k' n' x h2.2 h
        rw [rxsWt, rxsWt] at this
        omega
theorem alR_wt {s : ByteArray} : ∀ e : Nat, WtR s (alR s e)
  | 0 => jnR_wt (jnR_wt (ptR_wt (fun f h => by cases h)) rwM_wt) alM_wt
  | e + 1 => jnR_wt (jnR_wt (ptR_wt (fun f h => by injection h with h; rw [← h]; exact alR_wt e)) rwM_wt) alM_wt
/-- A short text's expression is small. -/
theorem alR_small {s : ByteArray} {e k n : Nat} {x : Rx} (h : alR s e 0 0 = .ok k n x) (hs : s.size ≤ 500) : rxWt x ≤ 1000 := by
  have h1 := alR_wt e 0 0 k n x (Nat.zero_le _) h
  have h2 := (alR_good e 0 0 k n x (Nat.zero_le _) h).2.1
  omega
end Go.Proofs.YtocfcnhaecmgpaaGreatDoor

namespace Go.Proofs.YtocfcnhaecmgpaaGreatDoor
open Go.RowKit Go.Extern.Stop Go.Stop Go.Extern Go.WideMaps

theorem opens_list (l : List UInt8) : ∀ (n k : Nat), l.length - k = n → opens ⟨l.toArray⟩ k = (l.drop k).count 40 := by
  have hz : (⟨l.toArray⟩ : ByteArray).size = l.length := by simp [ByteArray.size]
  intro n
  induction n with
  | zero =>
    intro k h
    rw [opens_end (by rw [hz]; omega), List.drop_eq_nil_of_le (by omega)]
    rfl
  | succ n ih =>
    intro k h
    have hk : k < l.length := by omega
    rw [opens_step (by rw [hz]; exact hk), ih (k + 1) (by omega), List.drop_eq_getElem_cons hk, List.count_cons, byteI_list, List.getElem?_eq_getElem hk]
    have e : (((some l[k]).map (fun b => (b.toNat : Int))).getD 0 = 40) = (l[k] = 40) := by
      apply propext
      constructor
      · intro h
        have h1 : (l[k].toNat : Int) = 40 := h
        exact UInt8.toNat_inj.1 (by show l[k].toNat = 40; omega)
      · intro h
        rw [h]
        rfl
    simp only [e]
    by_cases h40 : l[k] = 40
    · simp [h40]; omega
    · simp [h40]
theorem opens_count (s : ByteArray) : opens s 0 = Lib.countByte s.data.toList 40 := by
  have h := opens_list s.data.toList _ 0 rfl
  have e : (⟨s.data.toList.toArray⟩ : ByteArray) = s := by simp
  rw [e, List.drop_zero] at h
  exact h
theorem repeat_one (b : UInt8) : ∀ n : Nat, Lib.repeatL [b] n = List.replicate n b
  | 0 => rfl
  | n + 1 => by rw [Lib.repeatL, repeat_one b n]; rfl
theorem brB_cat (n : Nat) : (⟨(Lib.repeatL [40] n).toArray⟩ : ByteArray) ++ ⟨#[97]⟩ ++ ⟨(Lib.repeatL [41] n).toArray⟩ = brB n := by
  rw [repeat_one, repeat_one]
  unfold brB
  apply ByteArray.ext
  simp
def wrapB (s : ByteArray) : ByteArray := ⟨#[40]⟩ ++ s ++ ⟨#[41]⟩
theorem wrapB_list (l : List UInt8) : wrapB ⟨l.toArray⟩ = ⟨(40 :: (l ++ [41])).toArray⟩ := by
  unfold wrapB
  apply ByteArray.ext
  simp
theorem wrap_list (l : List UInt8) : Wrap ⟨l.toArray⟩ (wrapB ⟨l.toArray⟩) := by
  have hz : (⟨l.toArray⟩ : ByteArray).size = l.length := by simp [ByteArray.size]
  rw [wrapB_list]
  refine ⟨by simp [ByteArray.size], fun k hk => ?_, ?_, fun a b hab hb => ?_⟩
  · rw [hz] at hk
    rw [byteI_list, byteI_list, List.getElem?_cons_succ, List.getElem?_append_left hk]
  · rw [hz, byteI_list, List.getElem?_cons_succ, List.getElem?_append_right (Nat.le_refl _)]
    simp
  · rw [hz] at hb
    apply ByteArray.ext
    apply Array.ext
    · simp; omega
    · intro i h1 h2
      have hi : a + i < l.length := by simp at h2; omega
      simp only [ByteArray.data_extract, Array.getElem_extract, List.getElem_toArray]
      have hq : (40 :: (l ++ [41]))[a + 1 + i]? = l[a + i]? := by rw [show a + 1 + i = a + i + 1 by omega, List.getElem?_cons_succ, List.getElem?_append_left hi]
      rw [List.getElem?_eq_getElem (by simp; omega : a + 1 + i < (40 :: (l ++ [41])).length), List.getElem?_eq_getElem hi] at hq
      exact Option.some.inj hq
theorem wrap_any (s : ByteArray) : Wrap s (wrapB s) := by
  have h := wrap_list s.data.toList
  have e : (⟨s.data.toList.toArray⟩ : ByteArray) = s := by simp
  rwa [e] at h
theorem wrap_first (s : ByteArray) : byteI (wrapB s) 0 = 40 := by
  have e : (⟨s.data.toList.toArray⟩ : ByteArray) = s := by simp
  rw [← e, wrapB_list, byteI_list]
  rfl
/-- A text within one pair of brackets more. -/
theorem xpR_wrap {s : ByteArray} {k n : Nat} {x : Rx} (h : xpR s = .ok k n x) (ho : opens s 0 ≤ 60) : ∃ k' n', xpR (wrapB s) = .ok k' n' x := by
  unfold xpR at h
  split at h
  · cases h
  · rename_i k1 n1 x1 e1
    split at h
    · rename_i hend
      injection h with h1 h2 h3
      subst h1 h2 h3
      have hw := (wrap_any s).parse (wrap_first s) e1 hend (by omega)
      refine ⟨(wrapB s).size, n1, ?_⟩
      unfold xpR
      rw [hw.1]
      simp only
      rw [hw.2, if_pos rfl]
    · cases h
theorem xpR_br (n : Nat) : xpR (brB n) = if n ≤ 64 then .ok (n + 1 + n) 1 atomA else .er 8 64 := by
  have h := deep_go n n 64 0 (by omega)
  unfold xpR
  rw [h]
  by_cases hn : n ≤ 64
  · rw [if_pos hn]
    simp only
    have hs : skp (brB n) (n + 1 + n) = n + 1 + n := skp_stay (by rw [brB_end (by omega)]; decide)
    rw [hs, if_pos (by rw [brB_size]; omega)]
  · rw [if_neg hn]
theorem xpR_small {s : ByteArray} {k n : Nat} {x : Rx} (h : xpR s = .ok k n x) (hs : s.size ≤ 500) : rxWt x ≤ 1000 := by
  unfold xpR at h
  split at h
  · cases h
  · rename_i k1 n1 x1 e1
    split at h
    · injection h with h1 h2 h3
      subst h3
      exact alR_small e1 hs
    · cases h
theorem xpR_nz {s : ByteArray} (hs : s.size ≤ 100000) {c : Int} {a : Nat} (h : xpR s = .er c a) : c ≠ 0 := by
  unfold xpR at h
  split at h
  · rename_i c1 a1 e1
    injection h with h1 h2
    rw [← h1]
    exact (alt_spec s hs 64 0 rfl).2.2 0 0 _ _ (Nat.zero_le _) e1
  · split at h
    · cases h
    · injection h with h1 h2
      rw [← h1]
      decide

/-- What Parse answers, an expression's four cells and an error. -/
structure XpSt (B : Nat) (o : RO Rx) (k : Int) (t : Bool) (v2 v3 ev : Value) (w : World) : Prop where
  er : ∀ c a, o = .er c a → ∃ fb, ev = pf fb ∧ FaultAt w fb c a
  ok : ∀ k' n' x, o = .ok k' n' x → ev = .nilIface ∧ ExC (fun q => B ≤ q) w [.int .i64 k, .bool t, v2, v3] x
theorem XpSt.step {B : Nat} {o : RO Rx} {k : Int} {t : Bool} {v2 v3 ev : Value} {w w' : World} (h : XpSt B o k t v2 v3 ev w) (hb : Below w.heap.size w w') : XpSt B o k t v2 v3 ev w' :=
  ⟨fun c a e => by obtain ⟨fb, h1, h2⟩ := h.er c a e; exact ⟨fb, h1, h2.keep hb⟩, fun k' n' x e => by obtain ⟨h1, h2⟩ := h.ok k' n' x e; exact ⟨h1, h2.step hb⟩⟩
theorem xp_view {w w' : World} {o : RO Rx} {e : Ending} (h : XpOut w o e w') : ∃ k t a1 l1 c1 a2 l2 c2 ev, e = .returned (.tuple #[.agg #[.int .i64 k, .bool t, .slice a1 l1 c1, .slice a2 l2 c2], ev]) ∧ XpSt w.heap.size o k t (.slice a1 l1 c1) (.slice a2 l2 c2) ev w' ∧ Below w.heap.size w w' := by
  cases o with
  | er c a =>
    obtain ⟨fb, rfl, hf, hb⟩ := h
    exact ⟨0, false, none, 0, 0, none, 0, 0, pf fb, rfl, ⟨fun c' a' e => by injection e with e1 e2; subst e1 e2; exact ⟨fb, rfl, hf⟩, fun _ _ _ e => by cases e⟩, hb⟩
  | ok k' n' x =>
    obtain ⟨k, t, a1, l1, c1, a2, l2, c2, rfl, hv, hb⟩ := h
    exact ⟨k, t, a1, l1, c1, a2, l2, c2, .nilIface, rfl, ⟨fun _ _ e => by (cases e), fun _ _ _ e => by injection e with e1 e2 e3; subst e3; exact ⟨rfl, hv⟩⟩, hb⟩
end Go.Proofs.YtocfcnhaecmgpaaGreatDoor
