/-
  Plain: what stands within so many brackets; an expression within one pair more is what it is without it.
-/
import Derived.Test.YtocfcnhaecmgpaaGreatDoorRyA
namespace Go.Proofs.YtocfcnhaecmgpaaGreatDoor
open Go.RowKit Go.Extern.Stop Go.Stop Go.Extern

theorem skp_stay {s : ByteArray} {k : Nat} (h : isBl (byteI s k) = false) : skp s k = k := by
  unfold skp
  by_cases hk : k < s.size
  · rw [runTo_step _ _ _ hk, if_neg (by rw [h]; decide)]
  · exact runTo_end hk
theorem byteI_list (l : List UInt8) (k : Nat) : byteI ⟨l.toArray⟩ k = ((l[k]?).map (fun b => (b.toNat : Int))).getD 0 := by
  have hz : (⟨l.toArray⟩ : ByteArray).size = l.length := by simp [ByteArray.size]
  by_cases h : k < l.length
  · rw [byteI_lt (by rw [hz]; exact h), List.getElem?_eq_getElem h]
    simp [ByteArray.getElem_eq_getElem_data]
  · rw [byteI_ge (by rw [hz]; exact h), List.getElem?_eq_none (by omega)]
    rfl

/-! ### Many brackets -/
def brB (n : Nat) : ByteArray := ⟨(List.replicate n (40 : UInt8) ++ ((97 : UInt8) :: List.replicate n (41 : UInt8))).toArray⟩
theorem brB_size (n : Nat) : (brB n).size = 2 * n + 1 := by
  unfold brB
  simp [ByteArray.size]
  omega
theorem brB_open {n k : Nat} (h : k < n) : byteI (brB n) k = 40 := by
  unfold brB
  rw [byteI_list, List.getElem?_append_left (by simpa using h)]
  simp [h]
theorem brB_mid (n : Nat) : byteI (brB n) n = 97 := by
  unfold brB
  rw [byteI_list, List.getElem?_append_right (by simp)]
  simp
theorem brB_close {n k : Nat} (h : n < k) (h2 : k < 2 * n + 1) : byteI (brB n) k = 41 := by
  unfold brB
  rw [byteI_list, List.getElem?_append_right (by simp; omega)]
  obtain ⟨j, rfl⟩ : ∃ j, k = n + 1 + j := ⟨k - n - 1, by omega⟩
  simp only [List.length_replicate]
  rw [show n + 1 + j - n = j + 1 by omega, List.getElem?_cons_succ, List.getElem?_replicate, if_pos (by omega)]
  rfl
theorem brB_end {n k : Nat} (h : 2 * n + 1 ≤ k) : byteI (brB n) k = 0 := byteI_ge (by rw [brB_size]; omega)
theorem brB_aft {n k : Nat} (h : n < k) : byteI (brB n) k = 41 ∨ byteI (brB n) k = 0 := by
  by_cases h2 : k < 2 * n + 1
  · exact .inl (brB_close h h2)
  · exact .inr (brB_end (by omega))
theorem isBl_no {c : Int} (h : c = 40 ∨ c = 97 ∨ c = 41 ∨ c = 0) : isBl c = false := by
  rcases h with rfl | rfl | rfl | rfl <;> decide
theorem alR_one {s : ByteArray} {e k n k' n' : Nat} {x : Rx} (hb : bsR s (subR s e) k n = .ok k' n' x) (hc : byteI s k' = 41 ∨ byteI s k' = 0) : alR s e k n = .ok k' n' x := by
  have hs : skp s k' = k' := skp_stay (isBl_no (hc.elim (fun h => .inr (.inr (.inl h))) (fun h => .inr (.inr (.inr h)))))
  have hg : sgn (byteI s k') = none := by rcases hc with h | h <;> rw [h] <;> rfl
  have hb2 : begB s k' = false := by unfold begB; rcases hc with h | h <;> rw [h] <;> decide
  have h124 : ¬ byteI s k' = 124 := by rcases hc with h | h <;> rw [h] <;> decide
  have hp : ptR s (subR s e) k n = .ok k' n' x := by
    unfold ptR
    rw [hb]
    simp only
    rw [sgR, hs, hg]
  have hr : rwR s (subR s e) k n = .ok k' n' x := by
    unfold rwR jnR
    rw [hp]
    simp only [rwM, hs, hb2]
    rfl
  rw [alR_eq]
  unfold jnR
  rw [hr]
  simp only [alM, hs, if_neg h124]
theorem alR_one_er {s : ByteArray} {e k n a : Nat} {c : Int} (hb : bsR s (subR s e) k n = .er c a) : alR s e k n = .er c a := by
  have hp : ptR s (subR s e) k n = .er c a := by unfold ptR; rw [hb]
  have hr : rwR s (subR s e) k n = .er c a := by unfold rwR jnR; rw [hp]
  rw [alR_eq]
  unfold jnR
  rw [hr]
def atomA : Rx := .mk 1 false [⟨#[97]⟩] []
theorem brB_word (n : Nat) : (brB n).extract n (n + 1) = ⟨#[97]⟩ := by
  unfold brB
  apply ByteArray.ext
  apply Array.ext
  · simp
  · intro i h1 h2
    have hi : i = 0 := by simp at h2; omega
    subst hi
    simp
theorem deep_go (n : Nat) : ∀ (j e k : Nat), k + j = n → alR (brB n) e k 0 = if j ≤ e then .ok (n + 1 + j) 1 atomA else .er 8 (k + e)
  | 0, e, k, h => by
    obtain rfl : k = n := by omega
    rw [if_pos (Nat.zero_le _)]
    have hm := brB_mid k
    have ha := brB_aft (n := k) (k := k + 1) (by omega)
    have hs : skp (brB k) k = k := skp_stay (by rw [hm]; decide)
    have hrun : runTo isIn (brB k) k = k + 1 := by
      rw [runTo_step _ _ _ (by rw [brB_size]; omega), hm, if_pos (by decide)]
      by_cases h2 : k + 1 < (brB k).size
      · rw [runTo_step _ _ _ h2, if_neg (by rcases ha with h | h <;> rw [h] <;> decide)]
      · exact runTo_end h2
    have hw1 : wd1 (brB k) k = k := by unfold wd1; rw [hm, if_neg (by decide)]
    have hlet : isLet 97 = true := by decide
    have hnc : nameC (brB k) k = 0 := by
      unfold nameC
      rw [hm, if_pos hlet, hrun, if_pos (by omega)]
    have hnk : nameK (brB k) k = k + 1 := by
      unfold nameK
      rw [hm, hrun, if_pos ⟨hlet, by omega⟩]
    have hw2 : wd2 (brB k) k = false := by
      unfold wd2
      rw [hw1, hnk]
      rcases ha with h | h <;> rw [h] <;> simp
    have hwc : wdC (brB k) k = 0 := by
      unfold wdC
      rw [hw1, hw2, hnc]
      simp
    have hwk : wdK (brB k) k = k + 1 := by
      unfold wdK
      rw [hw1, hw2, hnk]
      simp
    refine alR_one ?_ (by simpa using ha)
    unfold bsR
    rw [hs, hm, if_neg (by decide), if_neg (by decide), if_neg (by decide), hwc, if_neg (by decide), hwk, brB_word]
    rfl
  | j + 1, e, k, h => by
    have ho := brB_open (n := n) (k := k) (by omega)
    have hs : skp (brB n) k = k := skp_stay (by rw [ho]; decide)
    cases e with
    | zero =>
      rw [if_neg (by omega)]
      refine alR_one_er ?_
      unfold bsR subR
      rw [hs, ho, if_pos rfl]
      rfl
    | succ e =>
      have h1 : byteI (brB n) (k + 1) = 40 ∨ byteI (brB n) (k + 1) = 97 := by
        by_cases h2 : k + 1 < n
        · exact .inl (brB_open h2)
        · obtain rfl : k + 1 = n := by omega
          exact .inr (brB_mid _)
      have hs1 : skp (brB n) (k + 1) = k + 1 := skp_stay (isBl_no (by omega))
      have h41 : ¬ byteI (brB n) (k + 1) = 41 := by omega
      have ih := deep_go n j e (k + 1) (by omega)
      by_cases hje : j ≤ e
      · rw [if_pos hje] at ih
        rw [if_pos (by omega)]
        have hc := brB_close (n := n) (k := n + 1 + j) (by omega) (by omega)
        have hs2 : skp (brB n) (n + 1 + j) = n + 1 + j := skp_stay (by rw [hc]; decide)
        refine alR_one ?_ (brB_aft (by omega))
        unfold bsR subR
        rw [hs, ho, if_pos rfl]
        simp only
        rw [hs1, if_neg h41, ih]
        simp only
        rw [hs2, hc, if_pos rfl]
        rfl
      · rw [if_neg hje] at ih
        rw [if_neg (by omega)]
        refine alR_one_er ?_
        unfold bsR subR
        rw [hs, ho, if_pos rfl]
        simp only
        rw [hs1, if_neg h41, ih]
        simp only
        congr 1
        omega

/-! ### One pair more -/
/-- How many ( there are from a place on. -/
def opens (s : ByteArray) (k : Nat) : Nat := if k < s.size then (if byteI s k = 40 then 1 else 0) + opens s (k + 1) else 0
termination_by s.size - k
theorem opens_step {s : ByteArray} {k : Nat} (h : k < s.size) : opens s k = (if byteI s k = 40 then 1 else 0) + opens s (k + 1) := by rw [opens, if_pos h]
theorem opens_end {s : ByteArray} {k : Nat} (h : ¬ k < s.size) : opens s k = 0 := by rw [opens, if_neg h]
theorem opens_le (s : ByteArray) : ∀ (j k : Nat), opens s (k + j) ≤ opens s k
  | 0, k => Nat.le_refl _
  | j + 1, k => by
    have h := opens_le s j (k + 1)
    rw [show k + (j + 1) = k + 1 + j by omega]
    by_cases hk : k < s.size
    · rw [opens_step hk]; omega
    · have : opens s (k + 1) = 0 := opens_end (by omega)
      omega
theorem opens_mono {s : ByteArray} {k k' : Nat} (h : k ≤ k') : opens s k' ≤ opens s k := by
  have := opens_le s (k' - k) k
  rwa [show k + (k' - k) = k' by omega] at this
/-- A text within one pair of brackets more. -/
structure Wrap (s S : ByteArray) : Prop where
  size : S.size = s.size + 2
  at' : ∀ k, k < s.size → byteI S (k + 1) = byteI s k
  last : byteI S (s.size + 1) = 41
  ext : ∀ a b, a ≤ b → b ≤ s.size → S.extract (a + 1) (b + 1) = s.extract a b
section
variable {s S : ByteArray}
theorem Wrap.run (h : Wrap s S) (p : Int → Bool) (hp : p 41 = false) : ∀ (n k : Nat), s.size - k = n → k ≤ s.size → runTo p S (k + 1) = runTo p s k + 1 := by
  intro n
  induction n with
  | zero =>
    intro k h1 h2
    obtain rfl : k = s.size := by omega
    rw [runTo_end (by omega : ¬ s.size < s.size), runTo_step p S _ (by rw [h.size]; omega), h.last, if_neg (by rw [hp]; decide)]
  | succ n ih =>
    intro k h1 h2
    rw [runTo_step p s k (by omega), runTo_step p S (k + 1) (by rw [h.size]; omega), h.at' k (by omega)]
    split
    · exact ih (k + 1) (by omega) (by omega)
    · rfl
theorem Wrap.skp (h : Wrap s S) {k : Nat} (hk : k ≤ s.size) : skp S (k + 1) = Go.Proofs.YtocfcnhaecmgpaaGreatDoor.skp s k + 1 := h.run isBl (by decide) _ k rfl hk
theorem Wrap.byte (h : Wrap s S) {k : Nat} (hk : k ≤ s.size) : byteI S (k + 1) = byteI s k ∨ byteI S (k + 1) = 41 ∧ byteI s k = 0 := by
  by_cases h1 : k < s.size
  · exact .inl (h.at' k h1)
  · obtain rfl : k = s.size := by omega
    exact .inr ⟨h.last, byteI_ge (by omega)⟩
theorem Wrap.is (h : Wrap s S) {k : Nat} (hk : k ≤ s.size) {c : Int} (h0 : c ≠ 0) (h1 : c ≠ 41) : (byteI S (k + 1) = c) = (byteI s k = c) := by
  rcases h.byte hk with e | ⟨e1, e2⟩
  · rw [e]
  · rw [e1, e2]
    apply propext
    constructor
    · intro e; exact absurd e.symm h1
    · intro e; exact absurd e.symm h0
theorem Wrap.letter (h : Wrap s S) {k : Nat} (hk : k ≤ s.size) : isLet (byteI S (k + 1)) = isLet (byteI s k) := by
  rcases h.byte hk with e | ⟨e1, e2⟩
  · rw [e]
  · rw [e1, e2]; decide
theorem Wrap.nameK (h : Wrap s S) {k : Nat} (hk : k ≤ s.size) : nameK S (k + 1) = Go.Proofs.YtocfcnhaecmgpaaGreatDoor.nameK s k + 1 := by
  unfold Go.Proofs.YtocfcnhaecmgpaaGreatDoor.nameK
  rw [h.letter hk, h.run isIn (by decide) _ k rfl hk, show runTo isIn s k + 1 - (k + 1) = runTo isIn s k - k by omega]
  split <;> rfl
theorem Wrap.nameC (h : Wrap s S) {k : Nat} (hk : k ≤ s.size) : (nameC S (k + 1) = 0) = (Go.Proofs.YtocfcnhaecmgpaaGreatDoor.nameC s k = 0) := by
  unfold Go.Proofs.YtocfcnhaecmgpaaGreatDoor.nameC
  rw [h.letter hk, h.run isIn (by decide) _ k rfl hk, show runTo isIn s k + 1 - (k + 1) = runTo isIn s k - k by omega]
  have h1 := missC_ne s k
  have h2 := missC_ne S (k + 1)
  split
  · rfl
  · simp [h1, h2]
theorem Wrap.wd1 (h : Wrap s S) {k : Nat} (hk : k ≤ s.size) : wd1 S (k + 1) = Go.Proofs.YtocfcnhaecmgpaaGreatDoor.wd1 s k + 1 := by
  unfold Go.Proofs.YtocfcnhaecmgpaaGreatDoor.wd1
  simp only [h.is hk (c := 36) (by decide) (by decide)]
  split <;> rfl
theorem Wrap.wd2 (h : Wrap s S) {k : Nat} (hk : k ≤ s.size) : wd2 S (k + 1) = Go.Proofs.YtocfcnhaecmgpaaGreatDoor.wd2 s k := by
  unfold Go.Proofs.YtocfcnhaecmgpaaGreatDoor.wd2
  rw [h.wd1 hk, h.nameK (wd1_le hk)]
  simp only [ne_eq, h.is hk (c := 36) (by decide) (by decide), h.is (nameK_le s _ (wd1_le hk)) (c := 35) (by decide) (by decide)]
theorem Wrap.wdK (h : Wrap s S) {k : Nat} (hk : k ≤ s.size) : wdK S (k + 1) = Go.Proofs.YtocfcnhaecmgpaaGreatDoor.wdK s k + 1 := by
  unfold Go.Proofs.YtocfcnhaecmgpaaGreatDoor.wdK
  rw [h.wd1 hk, h.wd2 hk, h.nameK (wd1_le hk)]
  split
  · exact h.nameK (wd2_in (by assumption))
  · rfl
theorem Wrap.wdC (h : Wrap s S) {k : Nat} (hk : k ≤ s.size) : (wdC S (k + 1) = 0) = (Go.Proofs.YtocfcnhaecmgpaaGreatDoor.wdC s k = 0) := by
  have h1 := h.nameC (wd1_le hk)
  unfold Go.Proofs.YtocfcnhaecmgpaaGreatDoor.wdC
  rw [h.wd1 hk, h.wd2 hk, h.nameK (wd1_le hk)]
  by_cases hc : Go.Proofs.YtocfcnhaecmgpaaGreatDoor.nameC s (Go.Proofs.YtocfcnhaecmgpaaGreatDoor.wd1 s k) = 0
  · have hc2 : Go.Proofs.YtocfcnhaecmgpaaGreatDoor.nameC S (Go.Proofs.YtocfcnhaecmgpaaGreatDoor.wd1 s k + 1) = 0 := by rw [h1]; exact hc
    rw [hc, hc2]
    simp only [ne_eq, not_true_eq_false, if_false]
    split
    · exact h.nameC (wd2_in (by assumption))
    · rfl
  · have hc2 : ¬ Go.Proofs.YtocfcnhaecmgpaaGreatDoor.nameC S (Go.Proofs.YtocfcnhaecmgpaaGreatDoor.wd1 s k + 1) = 0 := by rw [h1]; exact hc
    simp [hc, hc2]
theorem Wrap.begB (h : Wrap s S) {k : Nat} (hk : k ≤ s.size) : begB S (k + 1) = Go.Proofs.YtocfcnhaecmgpaaGreatDoor.begB s k := by
  unfold Go.Proofs.YtocfcnhaecmgpaaGreatDoor.begB
  rw [h.letter hk]
  simp only [h.is hk (c := 46) (by decide) (by decide), h.is hk (c := 91) (by decide) (by decide), h.is hk (c := 40) (by decide) (by decide), h.is hk (c := 36) (by decide) (by decide)]
theorem Wrap.sgn (h : Wrap s S) {k : Nat} (hk : k ≤ s.size) : sgn (byteI S (k + 1)) = Go.Proofs.YtocfcnhaecmgpaaGreatDoor.sgn (byteI s k) := by
  rcases h.byte hk with e | ⟨e1, e2⟩
  · rw [e]
  · rw [e1, e2]; decide
theorem Wrap.chR (h : Wrap s S) : ∀ (f f' k : Nat) (seen : List ByteArray) (k' n' : Nat) (ws : List ByteArray), f ≤ f' → k ≤ s.size → chR s f k seen = .ok k' n' ws →
    chR S f' (k + 1) seen = .ok (k' + 1) n' ws ∧ k ≤ k' ∧ k' ≤ s.size
  | 0, _, _, _, _, _, _, _, _, h0 => by simp [Go.Proofs.YtocfcnhaecmgpaaGreatDoor.chR] at h0
  | f + 1, 0, _, _, _, _, _, hf, _, _ => by omega
  | f + 1, f' + 1, k, seen, k', n', ws, hf, hk, h0 => by
    have hj := skp_le hk
    have hw := wdK_le hj.2
    have hj2 := skp_le hw.2
    rw [Go.Proofs.YtocfcnhaecmgpaaGreatDoor.chR] at h0 ⊢
    rw [h.skp hk, h.wdK hj.2, h.skp hw.2, h.ext _ _ hw.1 hw.2]
    by_cases hc : Go.Proofs.YtocfcnhaecmgpaaGreatDoor.wdC s (Go.Proofs.YtocfcnhaecmgpaaGreatDoor.skp s k) = 0
    · have hc2 : Go.Proofs.YtocfcnhaecmgpaaGreatDoor.wdC S (Go.Proofs.YtocfcnhaecmgpaaGreatDoor.skp s k + 1) = 0 := by rw [h.wdC hj.2]; exact hc
      rw [if_neg (by rw [hc]; decide)] at h0
      rw [if_neg (by rw [hc2]; decide)]
      split at h0
      · cases h0
      · rename_i hin
        rw [if_neg hin]
        simp only [h.is hj2.2 (c := 44) (by decide) (by decide), h.is hj2.2 (c := 93) (by decide) (by decide)]
        split at h0
        · rename_i h44
          rw [if_pos h44]
          have h1 := byteI_in h44 (by decide)
          have := Wrap.chR h f f' _ _ _ _ _ (by omega) (by omega) h0
          exact ⟨this.1, by omega, this.2.2⟩
        · rename_i h44
          rw [if_neg h44]
          split at h0
          · rename_i h93
            rw [if_pos h93]
            have h1 := byteI_in h93 (by decide)
            injection h0 with h2 h3 h4
            subst h2 h3 h4
            exact ⟨rfl, by omega, by omega⟩
          · cases h0
    · rw [if_pos hc] at h0
      cases h0
theorem Wrap.notK (h : Wrap s S) {k : Nat} (hk : k ≤ s.size) : notK S (k + 1) = Go.Proofs.YtocfcnhaecmgpaaGreatDoor.notK s k + 1 := by
  unfold Go.Proofs.YtocfcnhaecmgpaaGreatDoor.notK
  rw [h.skp hk]
  simp only [h.is (skp_le hk).2 (c := 94) (by decide) (by decide)]
  split <;> rfl
theorem notK_le {k : Nat} (hk : k ≤ s.size) : k ≤ notK s k ∧ notK s k ≤ s.size := by
  have hj := skp_le hk
  unfold notK
  split
  · have := byteI_in (by assumption) (by decide : (94 : Int) ≠ 0)
    omega
  · exact ⟨Nat.le_refl _, hk⟩
theorem cnt_shift {α : Type} {k n a a' k' n' : Nat} {x y : α} (h : cnt k n x a = .ok k' n' y) : cnt (k + 1) n x a' = .ok (k' + 1) n' y ∧ k' = k := by
  unfold cnt at h ⊢
  split at h
  · cases h
  · rename_i h1
    rw [if_neg h1]
    injection h with h2 h3 h4
    subst h2 h3 h4
    exact ⟨rfl, rfl⟩
/-- What is read there is read here, one byte farther on, with at most so many brackets. -/
def ShR (s : ByteArray) (e : Nat) (f f' : Nat → Nat → RO Rx) : Prop := ∀ k n k' n' x, k ≤ s.size → opens s k ≤ e → f k n = .ok k' n' x → f' (k + 1) n = .ok (k' + 1) n' x ∧ k ≤ k' ∧ k' ≤ s.size
def ShM (s : ByteArray) (m m' : Nat → Option Nat) : Prop := ∀ k, k ≤ s.size → (m k = none ∧ m' (k + 1) = none) ∨ ∃ k2, m k = some k2 ∧ m' (k + 1) = some (k2 + 1) ∧ k ≤ k2 ∧ k2 ≤ s.size
theorem Wrap.sgR (h : Wrap s S) : ∀ (f k n : Nat) (x : Rx) (k' n' : Nat) (y : Rx), k ≤ s.size → sgR s f k n x = .ok k' n' y → sgR S f (k + 1) n x = .ok (k' + 1) n' y ∧ k ≤ k' ∧ k' ≤ s.size
  | 0, _, _, _, _, _, _, _, h0 => by cases h0
  | f + 1, k, n, x, k', n', y, hk, h0 => by
    have hj := skp_le hk
    rw [Go.Proofs.YtocfcnhaecmgpaaGreatDoor.sgR] at h0 ⊢
    rw [h.skp hk, h.sgn hj.2]
    split at h0
    · rename_i hg
      injection h0 with h2 h3 h4
      subst h2 h3 h4
      exact ⟨rfl, Nat.le_refl _, hk⟩
    · rename_i i hg
      split at h0
      · cases h0
      · rename_i h100
        rw [if_neg h100]
        have hlt : Go.Proofs.YtocfcnhaecmgpaaGreatDoor.skp s k < s.size := by
          have hne : byteI s (Go.Proofs.YtocfcnhaecmgpaaGreatDoor.skp s k) ≠ 0 := by
            intro e
            rw [e] at hg
            simp [Go.Proofs.YtocfcnhaecmgpaaGreatDoor.sgn] at hg
          exact byteI_in rfl hne
        have := Wrap.sgR h f _ _ _ _ _ _ (by omega) h0
        exact ⟨this.1, by omega, this.2.2⟩
theorem bsR_in {sub : Option (Nat → Nat → RO Rx)} {k n k' n' : Nat} {x : Rx} (hk : k ≤ s.size) (h : bsR s sub k n = .ok k' n' x) : skp s k < s.size := by
  have hj := skp_le hk
  by_cases h1 : skp s k < s.size
  · exact h1
  · have e : skp s k = s.size := by omega
    have h0 : byteI s (skp s k) = 0 := byteI_ge h1
    have hw1 : wd1 s (skp s k) = skp s k := by unfold wd1; rw [h0, if_neg (by decide)]
    have hlet : isLet 0 = false := by decide
    have hc : wdC s (skp s k) ≠ 0 := by
      unfold wdC nameC
      rw [hw1, h0, hlet]
      have := missC_ne s (skp s k)
      simp [this]
    unfold bsR at h
    rw [h0, if_neg (by decide), if_neg (by decide), if_neg (by decide), if_pos hc] at h
    cases h
theorem ptR_in {sub : Option (Nat → Nat → RO Rx)} {k n k' n' : Nat} {x : Rx} (hk : k ≤ s.size) (h : ptR s sub k n = .ok k' n' x) : skp s k < s.size := by
  unfold ptR at h
  split at h
  · cases h
  · exact bsR_in hk (by assumption)
theorem jnR_in {kind : Int} {next : Nat → Nat → RO Rx} {more : Nat → Option Nat} (hn : ∀ k n k' n' x, k ≤ s.size → next k n = .ok k' n' x → skp s k < s.size) {k n k' n' : Nat} {x : Rx} (hk : k ≤ s.size) (h : jnR s kind next more k n = .ok k' n' x) : skp s k < s.size := by
  unfold jnR at h
  split at h
  · cases h
  · exact hn _ _ _ _ _ hk (by assumption)
theorem alR_in {e k n k' n' : Nat} {x : Rx} (hk : k ≤ s.size) (h : alR s e k n = .ok k' n' x) : skp s k < s.size := by
  rw [alR_eq] at h
  exact jnR_in (fun k n k' n' x hk h => jnR_in (fun k n k' n' x hk h => ptR_in hk h) hk h) hk h
theorem Wrap.jnL (_h : Wrap s S) {kind : Int} {next next' : Nat → Nat → RO Rx} {more more' : Nat → Option Nat} {e : Nat} (hn : ShR s e next next') (hm : ShM s more more') :
    ∀ (f k n : Nat) (l : List Rx) (k' n' : Nat) (x : Rx), k ≤ s.size → opens s k ≤ e → jnL kind next more f k n l = .ok k' n' x → jnL kind next' more' f (k + 1) n l = .ok (k' + 1) n' x ∧ k ≤ k' ∧ k' ≤ s.size
  | 0, _, _, _, _, _, _, _, _, h0 => by cases h0
  | f + 1, k, n, l, k', n', x, hk, ho, h0 => by
    rw [Go.Proofs.YtocfcnhaecmgpaaGreatDoor.jnL] at h0 ⊢
    split at h0
    · cases h0
    · rename_i k1 n1 x1 e1
      have h1 := hn k n k1 n1 x1 hk ho e1
      rw [h1.1]
      simp only
      rcases hm k1 h1.2.2 with ⟨m1, m2⟩ | ⟨k2, m1, m2, h3, h4⟩
      · rw [m1] at h0
        rw [m2]
        simp only at h0 ⊢
        injection h0 with h5 h6 h7
        subst h5 h6 h7
        exact ⟨rfl, h1.2.1, h1.2.2⟩
      · rw [m1] at h0
        rw [m2]
        simp only at h0 ⊢
        have := Wrap.jnL _h hn hm f k2 n1 _ k' n' x h4 (Nat.le_trans (opens_mono (by omega)) ho) h0
        exact ⟨this.1, by omega, this.2.2⟩
theorem Wrap.jnR (h : Wrap s S) {kind : Int} {next next' : Nat → Nat → RO Rx} {more more' : Nat → Option Nat} {e : Nat} (hn : ShR s e next next') (hm : ShM s more more') : ShR s e (jnR s kind next more) (jnR S kind next' more') := by
  intro k n k' n' x hk ho h0
  unfold Go.Proofs.YtocfcnhaecmgpaaGreatDoor.jnR at h0 ⊢
  split at h0
  · cases h0
  · rename_i k1 n1 x1 e1
    have h1 := hn k n k1 n1 x1 hk ho e1
    rw [h1.1]
    simp only
    rcases hm k1 h1.2.2 with ⟨m1, m2⟩ | ⟨k2, m1, m2, h3, h4⟩
    · rw [m1] at h0
      rw [m2]
      simp only at h0 ⊢
      injection h0 with h5 h6 h7
      subst h5 h6 h7
      exact ⟨rfl, h1.2.1, h1.2.2⟩
    · rw [m1] at h0
      rw [m2]
      simp only at h0 ⊢
      split at h0
      · cases h0
      · rename_i h100
        rw [if_neg h100]
        have := h.jnL hn hm 101 k2 (n1 + 1) _ k' n' x h4 (Nat.le_trans (opens_mono (by omega)) ho) h0
        exact ⟨this.1, by omega, this.2.2⟩
theorem Wrap.rwM (h : Wrap s S) : ShM s (rwM s) (rwM S) := by
  intro k hk
  unfold Go.Proofs.YtocfcnhaecmgpaaGreatDoor.rwM
  rw [h.skp hk, h.begB (skp_le hk).2]
  by_cases hb : Go.Proofs.YtocfcnhaecmgpaaGreatDoor.begB s (Go.Proofs.YtocfcnhaecmgpaaGreatDoor.skp s k) = true
  · rw [if_pos hb]
    exact .inr ⟨k, rfl, by rw [if_pos hb], Nat.le_refl _, hk⟩
  · rw [if_neg hb]
    exact .inl ⟨rfl, by rw [if_neg hb]⟩
theorem Wrap.alM (h : Wrap s S) : ShM s (alM s) (alM S) := by
  intro k hk
  have hj := skp_le hk
  unfold Go.Proofs.YtocfcnhaecmgpaaGreatDoor.alM
  rw [h.skp hk]
  simp only [h.is hj.2 (c := 124) (by decide) (by decide)]
  by_cases hb : byteI s (Go.Proofs.YtocfcnhaecmgpaaGreatDoor.skp s k) = 124
  · have := byteI_in hb (by decide)
    rw [if_pos hb]
    exact .inr ⟨_, rfl, by rw [if_pos hb], by omega, by omega⟩
  · rw [if_neg hb]
    exact .inl ⟨rfl, by rw [if_neg hb]⟩
theorem Wrap.bsR (h : Wrap s S) (e e' : Nat) (hs : ∀ e0 e1, e = e0 + 1 → e' = e1 + 1 → ShR s e1 (alR s e0) (alR S e1)) : ShR s e' (bsR s (subR s e)) (bsR S (subR S e')) := by
  intro k n k' n' x hk ho h0
  have hj := skp_le hk
  have hin := bsR_in hk h0
  have hb := h.at' _ hin
  unfold Go.Proofs.YtocfcnhaecmgpaaGreatDoor.bsR at h0 ⊢
  rw [h.skp hk, hb]
  split at h0
  · rename_i h40
    rw [if_pos h40]
    have hop : opens s (Go.Proofs.YtocfcnhaecmgpaaGreatDoor.skp s k) = 1 + opens s (Go.Proofs.YtocfcnhaecmgpaaGreatDoor.skp s k + 1) := by rw [opens_step hin, if_pos h40]
    have hop2 := Nat.le_trans (opens_mono (s := s) hj.1) ho
    obtain ⟨e1, rfl⟩ : ∃ e1, e' = e1 + 1 := ⟨e' - 1, by omega⟩
    cases e with
    | zero => simp [subR] at h0
    | succ e0 =>
      have hsh := hs e0 e1 rfl rfl
      simp only [subR] at h0 ⊢
      have hj1 := skp_le (s := s) (k := Go.Proofs.YtocfcnhaecmgpaaGreatDoor.skp s k + 1) (by omega)
      rw [h.skp (by omega : Go.Proofs.YtocfcnhaecmgpaaGreatDoor.skp s k + 1 ≤ s.size)]
      split at h0
      · rename_i h41
        have h1 := byteI_in h41 (by decide)
        rw [h.at' _ h1, if_pos h41]
        have := cnt_shift (a' := Go.Proofs.YtocfcnhaecmgpaaGreatDoor.skp s k + 1) h0
        exact ⟨this.1, by omega, by omega⟩
      · rename_i h41
        split at h0
        · cases h0
        · rename_i k1 n1 x1 e2
          have hin1 := alR_in (by omega : Go.Proofs.YtocfcnhaecmgpaaGreatDoor.skp s k + 1 ≤ s.size) e2
          rw [h.at' _ hin1, if_neg h41]
          have h1 := hsh _ _ _ _ _ (by omega) (by omega) e2
          rw [h1.1]
          simp only
          have hj2 := skp_le h1.2.2
          rw [h.skp h1.2.2]
          split at h0
          · rename_i hcl
            have h2 := byteI_in hcl (by decide)
            rw [h.at' _ h2, if_pos hcl]
            injection h0 with h5 h6 h7
            subst h5 h6 h7
            exact ⟨rfl, by omega, by omega⟩
          · cases h0
  · rename_i h40
    rw [if_neg h40]
    split at h0
    · rename_i h46
      rw [if_pos h46]
      have := cnt_shift (a' := Go.Proofs.YtocfcnhaecmgpaaGreatDoor.skp s k + 1) h0
      exact ⟨this.1, by omega, by omega⟩
    · rename_i h46
      rw [if_neg h46]
      split at h0
      · rename_i h91
        rw [if_pos h91]
        split at h0
        · cases h0
        · rename_i k1 n1 ws e1
          have hnk := notK_le (s := s) (k := Go.Proofs.YtocfcnhaecmgpaaGreatDoor.skp s k + 1) (by omega)
          have h1 := h.chR (s.size + 1) (S.size + 1) _ _ _ _ _ (by rw [h.size]; omega) hnk.2 e1
          rw [h.notK (by omega : Go.Proofs.YtocfcnhaecmgpaaGreatDoor.skp s k + 1 ≤ s.size), h1.1]
          simp only
          have hj1 := skp_le (s := s) (k := Go.Proofs.YtocfcnhaecmgpaaGreatDoor.skp s k + 1) (by omega)
          rw [h.skp (by omega : Go.Proofs.YtocfcnhaecmgpaaGreatDoor.skp s k + 1 ≤ s.size)]
          simp only [h.is hj1.2 (c := 94) (by decide) (by decide)]
          have := cnt_shift (a' := Go.Proofs.YtocfcnhaecmgpaaGreatDoor.skp s k + 1) h0
          exact ⟨this.1, by omega, by omega⟩
      · rename_i h91
        rw [if_neg h91]
        split at h0
        · cases h0
        · rename_i hc
          have hw := wdK_le hj.2
          have hc2 : ¬ Go.Proofs.YtocfcnhaecmgpaaGreatDoor.wdC S (Go.Proofs.YtocfcnhaecmgpaaGreatDoor.skp s k + 1) ≠ 0 := by
            intro h9
            apply h9
            rw [h.wdC hj.2]
            simpa using hc
          rw [if_neg hc2, h.wdK hj.2, h.ext _ _ hw.1 hw.2]
          have := cnt_shift (a' := Go.Proofs.YtocfcnhaecmgpaaGreatDoor.skp s k + 1) h0
          exact ⟨this.1, by omega, by omega⟩
theorem Wrap.ptR (h : Wrap s S) (e e' : Nat) (hs : ∀ e0 e1, e = e0 + 1 → e' = e1 + 1 → ShR s e1 (alR s e0) (alR S e1)) : ShR s e' (ptR s (subR s e)) (ptR S (subR S e')) := by
  intro k n k' n' x hk ho h0
  unfold Go.Proofs.YtocfcnhaecmgpaaGreatDoor.ptR at h0 ⊢
  split at h0
  · cases h0
  · rename_i k1 n1 x1 e1
    have h1 := h.bsR e e' hs k n k1 n1 x1 hk ho e1
    rw [h1.1]
    simp only
    have h2 := h.sgR 101 k1 n1 x1 k' n' x h1.2.2 h0
    exact ⟨h2.1, by omega, h2.2.2⟩
theorem Wrap.alR (h : Wrap s S) : ∀ (e e' : Nat), ShR s e' (alR s e) (alR S e')
  | e, e' => by
    have hs : ∀ e0 e1, e = e0 + 1 → e' = e1 + 1 → ShR s e1 (Go.Proofs.YtocfcnhaecmgpaaGreatDoor.alR s e0) (Go.Proofs.YtocfcnhaecmgpaaGreatDoor.alR S e1) := fun e0 e1 h1 _ => by subst h1; exact Wrap.alR h e0 e1
    rw [alR_eq, alR_eq]
    exact h.jnR (h.jnR (h.ptR e e' hs) h.rwM) h.alM
/-- An expression within one pair of brackets more is what it is. -/
theorem Wrap.parse (h : Wrap s S) (h0 : byteI S 0 = 40) {k n : Nat} {x : Rx} (ha : Go.Proofs.YtocfcnhaecmgpaaGreatDoor.alR s 64 0 0 = .ok k n x) (hend : Go.Proofs.YtocfcnhaecmgpaaGreatDoor.skp s k = s.size) (ho : opens s 0 ≤ 63) :
    Go.Proofs.YtocfcnhaecmgpaaGreatDoor.alR S 64 0 0 = .ok S.size n x ∧ Go.Proofs.YtocfcnhaecmgpaaGreatDoor.skp S S.size = S.size := by
  have h1 := h.alR 64 63 0 0 k n x (Nat.zero_le _) ho ha
  have hin := alR_in (Nat.zero_le _) ha
  have hS0 : Go.Proofs.YtocfcnhaecmgpaaGreatDoor.skp S 0 = 0 := skp_stay (by rw [h0]; decide)
  have hS1 := h.skp (Nat.zero_le s.size)
  have hS2 := h.skp h1.2.2
  rw [Nat.zero_add] at hS1 h1
  have hb1 : byteI S (Go.Proofs.YtocfcnhaecmgpaaGreatDoor.skp s 0 + 1) ≠ 41 := by
    rw [h.at' _ hin]
    intro h41
    have hb : ∃ f, subR s 64 = some f := ⟨_, rfl⟩
    have hz : Go.Proofs.YtocfcnhaecmgpaaGreatDoor.wdC s (Go.Proofs.YtocfcnhaecmgpaaGreatDoor.skp s 0) ≠ 0 := by
      have hw1 : Go.Proofs.YtocfcnhaecmgpaaGreatDoor.wd1 s (Go.Proofs.YtocfcnhaecmgpaaGreatDoor.skp s 0) = Go.Proofs.YtocfcnhaecmgpaaGreatDoor.skp s 0 := by unfold Go.Proofs.YtocfcnhaecmgpaaGreatDoor.wd1; rw [h41, if_neg (by decide)]
      have hlet : isLet 41 = false := by decide
      unfold Go.Proofs.YtocfcnhaecmgpaaGreatDoor.wdC Go.Proofs.YtocfcnhaecmgpaaGreatDoor.nameC
      rw [hw1, h41, hlet]
      have := missC_ne s (Go.Proofs.YtocfcnhaecmgpaaGreatDoor.skp s 0)
      simp [this]
    have hbs : Go.Proofs.YtocfcnhaecmgpaaGreatDoor.bsR s (subR s 64) 0 0 = .er (Go.Proofs.YtocfcnhaecmgpaaGreatDoor.wdC s (Go.Proofs.YtocfcnhaecmgpaaGreatDoor.skp s 0)) (wdA s (Go.Proofs.YtocfcnhaecmgpaaGreatDoor.skp s 0)) := by
      unfold Go.Proofs.YtocfcnhaecmgpaaGreatDoor.bsR
      rw [h41, if_neg (by decide), if_neg (by decide), if_neg (by decide), if_pos hz]
    rw [alR_one_er hbs] at ha
    cases ha
  have hlast := h.last
  have hsz := h.size
  have hbase : Go.Proofs.YtocfcnhaecmgpaaGreatDoor.bsR S (subR S 64) 0 0 = .ok S.size n x := by
    unfold Go.Proofs.YtocfcnhaecmgpaaGreatDoor.bsR
    rw [hS0, h0, if_pos rfl]
    simp only [subR]
    rw [Nat.zero_add, hS1, if_neg hb1, h1.1]
    simp only
    rw [hS2, hend, hlast, if_pos rfl, hsz]
  have hend0 : byteI S S.size = 0 := byteI_ge (by omega)
  exact ⟨alR_one hbase (.inr hend0), skp_stay (by rw [hend0]; decide)⟩
end
end Go.Proofs.YtocfcnhaecmgpaaGreatDoor
