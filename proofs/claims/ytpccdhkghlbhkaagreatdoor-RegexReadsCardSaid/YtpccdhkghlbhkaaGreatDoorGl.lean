/-
  Plain: what stands within so many brackets; an expression within one pair more is what it is without it.
  Plain: a text that stands at a place of another; a word that stands there, read there.
  Plain: an Atom's text, read again; what an expression's text begins with; how many brackets stand within one another in it.
  Plain: how many brackets stand within one another in an expression's text; what it begins with; read again, it is that expression.
  Plain: an expression's text, read again, is that expression.
-/
import Derived.Test.YtpccdhkghlbhkaaGreatDoorGo
import Derived.Test.YtpccdhkghlbhkaaGreatDoorGi
import Derived.Sort.Walk0
namespace Go.Proofs.YtpccdhkghlbhkaaGreatDoor
open Go.RowKit Go.Extern.Stop Go.Stop Go.Extern

theorem skp_stay {s : ByteArray} {k : Nat} (h : isBl (byteI s k) = false) : skp s k = k := by
  unfold skp
  by_cases hk : k < s.size
  · rw [runTo_step _ _ _ hk, if_neg (by rw [h]; decide)]
  · exact runTo_end hk
/-! ### Many brackets -/
def brB (n : Nat) : ByteArray := ⟨(List.replicate n (40 : UInt8) ++ ((97 : UInt8) :: List.replicate n (41 : UInt8))).toArray⟩
theorem brB_size (n : Nat) : (brB n).size = 2 * n + 1 := by
  unfold brB
  simp [ByteArray.size]
  omega
theorem brB_open {n k : Nat} (h : k < n) : byteI (brB n) k = 40 := by
  unfold brB
  rw [byteI_list, List.getElem?_append_left (by simpa using h)]
  simp [h]
theorem brB_mid (n : Nat) : byteI (brB n) n = 97 := by
  unfold brB
  rw [byteI_list, List.getElem?_append_right (by simp)]
  simp
theorem brB_close {n k : Nat} (h : n < k) (h2 : k < 2 * n + 1) : byteI (brB n) k = 41 := by
  unfold brB
  rw [byteI_list, List.getElem?_append_right (by simp; omega)]
  obtain ⟨j, rfl⟩ : ∃ j, k = n + 1 + j := ⟨k - n - 1, by omega⟩
  simp only [List.length_replicate]
  rw [show n + 1 + j - n = j + 1 by omega, List.getElem?_cons_succ, List.getElem?_replicate, if_pos (by omega)]
  rfl
theorem brB_end {n k : Nat} (h : 2 * n + 1 ≤ k) : byteI (brB n) k = 0 := byteI_ge (by rw [brB_size]; omega)
theorem brB_aft {n k : Nat} (h : n < k) : byteI (brB n) k = 41 ∨ byteI (brB n) k = 0 := by
  by_cases h2 : k < 2 * n + 1
  · exact .inl (brB_close h h2)
  · exact .inr (brB_end (by omega))
theorem isBl_no {c : Int} (h : c = 40 ∨ c = 97 ∨ c = 41 ∨ c = 0) : isBl c = false := by
  rcases h with rfl | rfl | rfl | rfl <;> decide
theorem alR_one {s : ByteArray} {e k n k' n' : Nat} {x : Rx} (hb : bsR s (subR s e) k n = .ok k' n' x) (hc : byteI s k' = 41 ∨ byteI s k' = 0) : alR s e k n = .ok k' n' x := by
  have hs : skp s k' = k' := skp_stay (isBl_no (hc.elim (fun h => .inr (.inr (.inl h))) (fun h => .inr (.inr (.inr h)))))
  have hg : sgn (byteI s k') = none := by rcases hc with h | h <;> rw [h] <;> rfl
  have hb2 : begB s k' = false := by unfold begB; rcases hc with h | h <;> rw [h] <;> decide
  have h124 : ¬ byteI s k' = 124 := by rcases hc with h | h <;> rw [h] <;> decide
  have hp : ptR s (subR s e) k n = .ok k' n' x := by
    unfold ptR
    rw [hb]
    simp only
    rw [sgR, hs, hg]
  have hr : rwR s (subR s e) k n = .ok k' n' x := by
    unfold rwR jnR
    rw [hp]
    simp only [rwM, hs, hb2]
    rfl
  rw [alR_eq]
  unfold jnR
  rw [hr]
  simp only [alM, hs, if_neg h124]
theorem alR_one_er {s : ByteArray} {e k n a : Nat} {c : Int} (hb : bsR s (subR s e) k n = .er c a) : alR s e k n = .er c a := by
  have hp : ptR s (subR s e) k n = .er c a := by unfold ptR; rw [hb]
  have hr : rwR s (subR s e) k n = .er c a := by unfold rwR jnR; rw [hp]
  rw [alR_eq]
  unfold jnR
  rw [hr]
def atomA : Rx := .mk 1 false [⟨#[97]⟩] []
theorem brB_word (n : Nat) : (brB n).extract n (n + 1) = ⟨#[97]⟩ := by
  unfold brB
  apply ByteArray.ext
  apply Array.ext
  · simp
  · intro i h1 h2
    have hi : i = 0 := by simp at h2; omega
    subst hi
    simp
theorem deep_go (n : Nat) : ∀ (j e k : Nat), k + j = n → alR (brB n) e k 0 = if j ≤ e then .ok (n + 1 + j) 1 atomA else .er 8 (k + e)
  | 0, e, k, h => by
    obtain rfl : k = n := by omega
    rw [if_pos (Nat.zero_le _)]
    have hm := brB_mid k
    have ha := brB_aft (n := k) (k := k + 1) (by omega)
    have hs : skp (brB k) k = k := skp_stay (by rw [hm]; decide)
    have hrun : runTo isIn (brB k) k = k + 1 := by
      rw [runTo_step _ _ _ (by rw [brB_size]; omega), hm, if_pos (by decide)]
      by_cases h2 : k + 1 < (brB k).size
      · rw [runTo_step _ _ _ h2, if_neg (by rcases ha with h | h <;> rw [h] <;> decide)]
      · exact runTo_end h2
    have hw1 : wd1 (brB k) k = k := by unfold wd1; rw [hm, if_neg (by decide)]
    have hlet : isLet 97 = true := by decide
    have hnc : nameC (brB k) k = 0 := by
      unfold nameC
      rw [hm, if_pos hlet, hrun, if_pos (by omega)]
    have hnk : nameK (brB k) k = k + 1 := by
      unfold nameK
      rw [hm, hrun, if_pos ⟨hlet, by omega⟩]
    have hw2 : wd2 (brB k) k = false := by
      unfold wd2
      rw [hw1, hnk]
      rcases ha with h | h <;> rw [h] <;> simp
    have hwc : wdC (brB k) k = 0 := by
      unfold wdC
      rw [hw1, hw2, hnc]
      simp
    have hwk : wdK (brB k) k = k + 1 := by
      unfold wdK
      rw [hw1, hw2, hnk]
      simp
    refine alR_one ?_ (by simpa using ha)
    unfold bsR
    rw [hs, hm, if_neg (by decide), if_neg (by decide), if_neg (by decide), hwc, if_neg (by decide), hwk, brB_word]
    rfl
  | j + 1, e, k, h => by
    have ho := brB_open (n := n) (k := k) (by omega)
    have hs : skp (brB n) k = k := skp_stay (by rw [ho]; decide)
    cases e with
    | zero =>
      rw [if_neg (by omega)]
      refine alR_one_er ?_
      unfold bsR subR
      rw [hs, ho, if_pos rfl]
      rfl
    | succ e =>
      have h1 : byteI (brB n) (k + 1) = 40 ∨ byteI (brB n) (k + 1) = 97 := by
        by_cases h2 : k + 1 < n
        · exact .inl (brB_open h2)
        · obtain rfl : k + 1 = n := by omega
          exact .inr (brB_mid _)
      have hs1 : skp (brB n) (k + 1) = k + 1 := skp_stay (isBl_no (by omega))
      have h41 : ¬ byteI (brB n) (k + 1) = 41 := by omega
      have ih := deep_go n j e (k + 1) (by omega)
      by_cases hje : j ≤ e
      · rw [if_pos hje] at ih
        rw [if_pos (by omega)]
        have hc := brB_close (n := n) (k := n + 1 + j) (by omega) (by omega)
        have hs2 : skp (brB n) (n + 1 + j) = n + 1 + j := skp_stay (by rw [hc]; decide)
        refine alR_one ?_ (brB_aft (by omega))
        unfold bsR subR
        rw [hs, ho, if_pos rfl]
        simp only
        rw [hs1, if_neg h41, ih]
        simp only
        rw [hs2, hc, if_pos rfl]
        rfl
      · rw [if_neg hje] at ih
        rw [if_neg (by omega)]
        refine alR_one_er ?_
        unfold bsR subR
        rw [hs, ho, if_pos rfl]
        simp only
        rw [hs1, if_neg h41, ih]
        simp only
        congr 1
        omega

/-! ### One pair more -/
/-- How many ( there are from a place on. -/
def opens (s : ByteArray) (k : Nat) : Nat := if k < s.size then (if byteI s k = 40 then 1 else 0) + opens s (k + 1) else 0
termination_by s.size - k
theorem opens_step {s : ByteArray} {k : Nat} (h : k < s.size) : opens s k = (if byteI s k = 40 then 1 else 0) + opens s (k + 1) := by rw [opens, if_pos h]
theorem opens_end {s : ByteArray} {k : Nat} (h : ¬ k < s.size) : opens s k = 0 := by rw [opens, if_neg h]
theorem opens_le (s : ByteArray) : ∀ (j k : Nat), opens s (k + j) ≤ opens s k
  | 0, k => Nat.le_refl _
  | j + 1, k => by
    have h := opens_le s j (k + 1)
    rw [show k + (j + 1) = k + 1 + j by omega]
    by_cases hk : k < s.size
    · rw [opens_step hk]; omega
    · have : opens s (k + 1) = 0 := opens_end (by omega)
      omega
theorem opens_mono {s : ByteArray} {k k' : Nat} (h : k ≤ k') : opens s k' ≤ opens s k := by
  have := opens_le s (k' - k) k
  rwa [show k + (k' - k) = k' by omega] at this
/-- A text within one pair of brackets more. -/
structure Wrap (s S : ByteArray) : Prop where
  size : S.size = s.size + 2
  at' : ∀ k, k < s.size → byteI S (k + 1) = byteI s k
  last : byteI S (s.size + 1) = 41
  ext : ∀ a b, a ≤ b → b ≤ s.size → S.extract (a + 1) (b + 1) = s.extract a b
section
variable {s S : ByteArray}
theorem Wrap.run (h : Wrap s S) (p : Int → Bool) (hp : p 41 = false) : ∀ (n k : Nat), s.size - k = n → k ≤ s.size → runTo p S (k + 1) = runTo p s k + 1 := by
  intro n
  induction n with
  | zero =>
    intro k h1 h2
    obtain rfl : k = s.size := by omega
    rw [runTo_end (by omega : ¬ s.size < s.size), runTo_step p S _ (by rw [h.size]; omega), h.last, if_neg (by rw [hp]; decide)]
  | succ n ih =>
    intro k h1 h2
    rw [runTo_step p s k (by omega), runTo_step p S (k + 1) (by rw [h.size]; omega), h.at' k (by omega)]
    split
    · exact ih (k + 1) (by omega) (by omega)
    · rfl
theorem Wrap.skp (h : Wrap s S) {k : Nat} (hk : k ≤ s.size) : skp S (k + 1) = Go.Proofs.YtpccdhkghlbhkaaGreatDoor.skp s k + 1 := h.run isBl (by decide) _ k rfl hk
theorem Wrap.byte (h : Wrap s S) {k : Nat} (hk : k ≤ s.size) : byteI S (k + 1) = byteI s k ∨ byteI S (k + 1) = 41 ∧ byteI s k = 0 := by
  by_cases h1 : k < s.size
  · exact .inl (h.at' k h1)
  · obtain rfl : k = s.size := by omega
    exact .inr ⟨h.last, byteI_ge (by omega)⟩
theorem Wrap.is (h : Wrap s S) {k : Nat} (hk : k ≤ s.size) {c : Int} (h0 : c ≠ 0) (h1 : c ≠ 41) : (byteI S (k + 1) = c) = (byteI s k = c) := by
  rcases h.byte hk with e | ⟨e1, e2⟩
  · rw [e]
  · rw [e1, e2]
    apply propext
    constructor
    · intro e; exact absurd e.symm h1
    · intro e; exact absurd e.symm h0
theorem Wrap.letter (h : Wrap s S) {k : Nat} (hk : k ≤ s.size) : isLet (byteI S (k + 1)) = isLet (byteI s k) := by
  rcases h.byte hk with e | ⟨e1, e2⟩
  · rw [e]
  · rw [e1, e2]; decide
theorem Wrap.nameK (h : Wrap s S) {k : Nat} (hk : k ≤ s.size) : nameK S (k + 1) = Go.Proofs.YtpccdhkghlbhkaaGreatDoor.nameK s k + 1 := by
  unfold Go.Proofs.YtpccdhkghlbhkaaGreatDoor.nameK
  rw [h.letter hk, h.run isIn (by decide) _ k rfl hk, show runTo isIn s k + 1 - (k + 1) = runTo isIn s k - k by omega]
  split <;> rfl
theorem Wrap.nameC (h : Wrap s S) {k : Nat} (hk : k ≤ s.size) : (nameC S (k + 1) = 0) = (Go.Proofs.YtpccdhkghlbhkaaGreatDoor.nameC s k = 0) := by
  unfold Go.Proofs.YtpccdhkghlbhkaaGreatDoor.nameC
  rw [h.letter hk, h.run isIn (by decide) _ k rfl hk, show runTo isIn s k + 1 - (k + 1) = runTo isIn s k - k by omega]
  have h1 := missC_ne s k
  have h2 := missC_ne S (k + 1)
  split
  · rfl
  · simp [h1, h2]
theorem Wrap.wd1 (h : Wrap s S) {k : Nat} (hk : k ≤ s.size) : wd1 S (k + 1) = Go.Proofs.YtpccdhkghlbhkaaGreatDoor.wd1 s k + 1 := by
  unfold Go.Proofs.YtpccdhkghlbhkaaGreatDoor.wd1
  simp only [h.is hk (c := 36) (by decide) (by decide)]
  split <;> rfl
theorem Wrap.wd2 (h : Wrap s S) {k : Nat} (hk : k ≤ s.size) : wd2 S (k + 1) = Go.Proofs.YtpccdhkghlbhkaaGreatDoor.wd2 s k := by
  unfold Go.Proofs.YtpccdhkghlbhkaaGreatDoor.wd2
  rw [h.wd1 hk, h.nameK (wd1_le hk)]
  simp only [ne_eq, h.is hk (c := 36) (by decide) (by decide), h.is (nameK_le s _ (wd1_le hk)) (c := 35) (by decide) (by decide)]
theorem Wrap.wdK (h : Wrap s S) {k : Nat} (hk : k ≤ s.size) : wdK S (k + 1) = Go.Proofs.YtpccdhkghlbhkaaGreatDoor.wdK s k + 1 := by
  unfold Go.Proofs.YtpccdhkghlbhkaaGreatDoor.wdK
  rw [h.wd1 hk, h.wd2 hk, h.nameK (wd1_le hk)]
  split
  · exact h.nameK (wd2_in (by assumption))
  · rfl
theorem Wrap.wdC (h : Wrap s S) {k : Nat} (hk : k ≤ s.size) : (wdC S (k + 1) = 0) = (Go.Proofs.YtpccdhkghlbhkaaGreatDoor.wdC s k = 0) := by
  have h1 := h.nameC (wd1_le hk)
  unfold Go.Proofs.YtpccdhkghlbhkaaGreatDoor.wdC
  rw [h.wd1 hk, h.wd2 hk, h.nameK (wd1_le hk)]
  by_cases hc : Go.Proofs.YtpccdhkghlbhkaaGreatDoor.nameC s (Go.Proofs.YtpccdhkghlbhkaaGreatDoor.wd1 s k) = 0
  · have hc2 : Go.Proofs.YtpccdhkghlbhkaaGreatDoor.nameC S (Go.Proofs.YtpccdhkghlbhkaaGreatDoor.wd1 s k + 1) = 0 := by rw [h1]; exact hc
    rw [hc, hc2]
    simp only [ne_eq, not_true_eq_false, if_false]
    split
    · exact h.nameC (wd2_in (by assumption))
    · rfl
  · have hc2 : ¬ Go.Proofs.YtpccdhkghlbhkaaGreatDoor.nameC S (Go.Proofs.YtpccdhkghlbhkaaGreatDoor.wd1 s k + 1) = 0 := by rw [h1]; exact hc
    simp [hc, hc2]
theorem Wrap.begB (h : Wrap s S) {k : Nat} (hk : k ≤ s.size) : begB S (k + 1) = Go.Proofs.YtpccdhkghlbhkaaGreatDoor.begB s k := by
  unfold Go.Proofs.YtpccdhkghlbhkaaGreatDoor.begB
  rw [h.letter hk]
  simp only [h.is hk (c := 46) (by decide) (by decide), h.is hk (c := 91) (by decide) (by decide), h.is hk (c := 40) (by decide) (by decide), h.is hk (c := 36) (by decide) (by decide)]
theorem Wrap.sgn (h : Wrap s S) {k : Nat} (hk : k ≤ s.size) : sgn (byteI S (k + 1)) = Go.Proofs.YtpccdhkghlbhkaaGreatDoor.sgn (byteI s k) := by
  rcases h.byte hk with e | ⟨e1, e2⟩
  · rw [e]
  · rw [e1, e2]; decide
theorem Wrap.chR (h : Wrap s S) : ∀ (f f' k : Nat) (seen : List ByteArray) (k' n' : Nat) (ws : List ByteArray), f ≤ f' → k ≤ s.size → chR s f k seen = .ok k' n' ws →
    chR S f' (k + 1) seen = .ok (k' + 1) n' ws ∧ k ≤ k' ∧ k' ≤ s.size
  | 0, _, _, _, _, _, _, _, _, h0 => by simp [Go.Proofs.YtpccdhkghlbhkaaGreatDoor.chR] at h0
  | f + 1, 0, _, _, _, _, _, hf, _, _ => by omega
  | f + 1, f' + 1, k, seen, k', n', ws, hf, hk, h0 => by
    have hj := skp_le hk
    have hw := wdK_le hj.2
    have hj2 := skp_le hw.2
    rw [Go.Proofs.YtpccdhkghlbhkaaGreatDoor.chR] at h0 ⊢
    rw [h.skp hk, h.wdK hj.2, h.skp hw.2, h.ext _ _ hw.1 hw.2]
    by_cases hc : Go.Proofs.YtpccdhkghlbhkaaGreatDoor.wdC s (Go.Proofs.YtpccdhkghlbhkaaGreatDoor.skp s k) = 0
    · have hc2 : Go.Proofs.YtpccdhkghlbhkaaGreatDoor.wdC S (Go.Proofs.YtpccdhkghlbhkaaGreatDoor.skp s k + 1) = 0 := by rw [h.wdC hj.2]; exact hc
      rw [if_neg (by rw [hc]; decide)] at h0
      rw [if_neg (by rw [hc2]; decide)]
      split at h0
      · cases h0
      · rename_i hin
        rw [if_neg hin]
        simp only [h.is hj2.2 (c := 44) (by decide) (by decide), h.is hj2.2 (c := 93) (by decide) (by decide)]
        split at h0
        · rename_i h44
          rw [if_pos h44]
          have h1 := byteI_in h44 (by decide)
          have := Wrap.chR h f f' _ _ _ _ _ (by omega) (by omega) h0
          exact ⟨this.1, by omega, this.2.2⟩
        · rename_i h44
          rw [if_neg h44]
          split at h0
          · rename_i h93
            rw [if_pos h93]
            have h1 := byteI_in h93 (by decide)
            injection h0 with h2 h3 h4
            subst h2 h3 h4
            exact ⟨rfl, by omega, by omega⟩
          · cases h0
    · rw [if_pos hc] at h0
      cases h0
theorem Wrap.notK (h : Wrap s S) {k : Nat} (hk : k ≤ s.size) : notK S (k + 1) = Go.Proofs.YtpccdhkghlbhkaaGreatDoor.notK s k + 1 := by
  unfold Go.Proofs.YtpccdhkghlbhkaaGreatDoor.notK
  rw [h.skp hk]
  simp only [h.is (skp_le hk).2 (c := 94) (by decide) (by decide)]
  split <;> rfl
theorem notK_le2 {k : Nat} (hk : k ≤ s.size) : k ≤ notK s k ∧ notK s k ≤ s.size := by
  have hj := skp_le hk
  unfold notK
  split
  · have := byteI_in (by assumption) (by decide : (94 : Int) ≠ 0)
    omega
  · exact ⟨Nat.le_refl _, hk⟩
theorem cnt_shift {α : Type} {k n a a' k' n' : Nat} {x y : α} (h : cnt k n x a = .ok k' n' y) : cnt (k + 1) n x a' = .ok (k' + 1) n' y ∧ k' = k := by
  unfold cnt at h ⊢
  split at h
  · cases h
  · rename_i h1
    rw [if_neg h1]
    injection h with h2 h3 h4
    subst h2 h3 h4
    exact ⟨rfl, rfl⟩
/-- What is read there is read here, one byte farther on, with at most so many brackets. -/
def ShR (s : ByteArray) (e : Nat) (f f' : Nat → Nat → RO Rx) : Prop := ∀ k n k' n' x, k ≤ s.size → opens s k ≤ e → f k n = .ok k' n' x → f' (k + 1) n = .ok (k' + 1) n' x ∧ k ≤ k' ∧ k' ≤ s.size
def ShM (s : ByteArray) (m m' : Nat → Option Nat) : Prop := ∀ k, k ≤ s.size → (m k = none ∧ m' (k + 1) = none) ∨ ∃ k2, m k = some k2 ∧ m' (k + 1) = some (k2 + 1) ∧ k ≤ k2 ∧ k2 ≤ s.size
theorem Wrap.sgR (h : Wrap s S) : ∀ (f k n : Nat) (x : Rx) (k' n' : Nat) (y : Rx), k ≤ s.size → sgR s f k n x = .ok k' n' y → sgR S f (k + 1) n x = .ok (k' + 1) n' y ∧ k ≤ k' ∧ k' ≤ s.size
  | 0, _, _, _, _, _, _, _, h0 => by cases h0
  | f + 1, k, n, x, k', n', y, hk, h0 => by
    have hj := skp_le hk
    rw [Go.Proofs.YtpccdhkghlbhkaaGreatDoor.sgR] at h0 ⊢
    rw [h.skp hk, h.sgn hj.2]
    split at h0
    · rename_i hg
      injection h0 with h2 h3 h4
      subst h2 h3 h4
      exact ⟨rfl, Nat.le_refl _, hk⟩
    · rename_i i hg
      split at h0
      · cases h0
      · rename_i h100
        rw [if_neg h100]
        have hlt : Go.Proofs.YtpccdhkghlbhkaaGreatDoor.skp s k < s.size := by
          have hne : byteI s (Go.Proofs.YtpccdhkghlbhkaaGreatDoor.skp s k) ≠ 0 := by
            intro e
            rw [e] at hg
            simp [Go.Proofs.YtpccdhkghlbhkaaGreatDoor.sgn] at hg
          exact byteI_in rfl hne
        have := Wrap.sgR h f _ _ _ _ _ _ (by omega) h0
        exact ⟨this.1, by omega, this.2.2⟩
theorem bsR_in {sub : Option (Nat → Nat → RO Rx)} {k n k' n' : Nat} {x : Rx} (hk : k ≤ s.size) (h : bsR s sub k n = .ok k' n' x) : skp s k < s.size := by
  have hj := skp_le hk
  by_cases h1 : skp s k < s.size
  · exact h1
  · have e : skp s k = s.size := by omega
    have h0 : byteI s (skp s k) = 0 := byteI_ge h1
    have hw1 : wd1 s (skp s k) = skp s k := by unfold wd1; rw [h0, if_neg (by decide)]
    have hlet : isLet 0 = false := by decide
    have hc : wdC s (skp s k) ≠ 0 := by
      unfold wdC nameC
      rw [hw1, h0, hlet]
      have := missC_ne s (skp s k)
      simp [this]
    unfold bsR at h
    rw [h0, if_neg (by decide), if_neg (by decide), if_neg (by decide), if_pos hc] at h
    cases h
theorem ptR_in {sub : Option (Nat → Nat → RO Rx)} {k n k' n' : Nat} {x : Rx} (hk : k ≤ s.size) (h : ptR s sub k n = .ok k' n' x) : skp s k < s.size := by
  unfold ptR at h
  split at h
  · cases h
  · exact bsR_in hk (by assumption)
theorem jnR_in {kind : Int} {next : Nat → Nat → RO Rx} {more : Nat → Option Nat} (hn : ∀ k n k' n' x, k ≤ s.size → next k n = .ok k' n' x → skp s k < s.size) {k n k' n' : Nat} {x : Rx} (hk : k ≤ s.size) (h : jnR s kind next more k n = .ok k' n' x) : skp s k < s.size := by
  unfold jnR at h
  split at h
  · cases h
  · exact hn _ _ _ _ _ hk (by assumption)
theorem alR_in {e k n k' n' : Nat} {x : Rx} (hk : k ≤ s.size) (h : alR s e k n = .ok k' n' x) : skp s k < s.size := by
  rw [alR_eq] at h
  exact jnR_in (fun k n k' n' x hk h => jnR_in (fun k n k' n' x hk h => ptR_in hk h) hk h) hk h
theorem Wrap.jnL (_h : Wrap s S) {kind : Int} {next next' : Nat → Nat → RO Rx} {more more' : Nat → Option Nat} {e : Nat} (hn : ShR s e next next') (hm : ShM s more more') :
    ∀ (f k n : Nat) (l : List Rx) (k' n' : Nat) (x : Rx), k ≤ s.size → opens s k ≤ e → jnL kind next more f k n l = .ok k' n' x → jnL kind next' more' f (k + 1) n l = .ok (k' + 1) n' x ∧ k ≤ k' ∧ k' ≤ s.size
  | 0, _, _, _, _, _, _, _, _, h0 => by cases h0
  | f + 1, k, n, l, k', n', x, hk, ho, h0 => by
    rw [Go.Proofs.YtpccdhkghlbhkaaGreatDoor.jnL] at h0 ⊢
    split at h0
    · cases h0
    · rename_i k1 n1 x1 e1
      have h1 := hn k n k1 n1 x1 hk ho e1
      rw [h1.1]
      simp only
      rcases hm k1 h1.2.2 with ⟨m1, m2⟩ | ⟨k2, m1, m2, h3, h4⟩
      · rw [m1] at h0
        rw [m2]
        simp only at h0 ⊢
        injection h0 with h5 h6 h7
        subst h5 h6 h7
        exact ⟨rfl, h1.2.1, h1.2.2⟩
      · rw [m1] at h0
        rw [m2]
        simp only at h0 ⊢
        have := Wrap.jnL _h hn hm f k2 n1 _ k' n' x h4 (Nat.le_trans (opens_mono (by omega)) ho) h0
        exact ⟨this.1, by omega, this.2.2⟩
theorem Wrap.jnR (h : Wrap s S) {kind : Int} {next next' : Nat → Nat → RO Rx} {more more' : Nat → Option Nat} {e : Nat} (hn : ShR s e next next') (hm : ShM s more more') : ShR s e (jnR s kind next more) (jnR S kind next' more') := by
  intro k n k' n' x hk ho h0
  unfold Go.Proofs.YtpccdhkghlbhkaaGreatDoor.jnR at h0 ⊢
  split at h0
  · cases h0
  · rename_i k1 n1 x1 e1
    have h1 := hn k n k1 n1 x1 hk ho e1
    rw [h1.1]
    simp only
    rcases hm k1 h1.2.2 with ⟨m1, m2⟩ | ⟨k2, m1, m2, h3, h4⟩
    · rw [m1] at h0
      rw [m2]
      simp only at h0 ⊢
      injection h0 with h5 h6 h7
      subst h5 h6 h7
      exact ⟨rfl, h1.2.1, h1.2.2⟩
    · rw [m1] at h0
      rw [m2]
      simp only at h0 ⊢
      split at h0
      · cases h0
      · rename_i h100
        rw [if_neg h100]
        have := h.jnL hn hm 101 k2 (n1 + 1) _ k' n' x h4 (Nat.le_trans (opens_mono (by omega)) ho) h0
        exact ⟨this.1, by omega, this.2.2⟩
theorem Wrap.rwM (h : Wrap s S) : ShM s (rwM s) (rwM S) := by
  intro k hk
  unfold Go.Proofs.YtpccdhkghlbhkaaGreatDoor.rwM
  rw [h.skp hk, h.begB (skp_le hk).2]
  by_cases hb : Go.Proofs.YtpccdhkghlbhkaaGreatDoor.begB s (Go.Proofs.YtpccdhkghlbhkaaGreatDoor.skp s k) = true
  · rw [if_pos hb]
    exact .inr ⟨k, rfl, by rw [if_pos hb], Nat.le_refl _, hk⟩
  · rw [if_neg hb]
    exact .inl ⟨rfl, by rw [if_neg hb]⟩
theorem Wrap.alM (h : Wrap s S) : ShM s (alM s) (alM S) := by
  intro k hk
  have hj := skp_le hk
  unfold Go.Proofs.YtpccdhkghlbhkaaGreatDoor.alM
  rw [h.skp hk]
  simp only [h.is hj.2 (c := 124) (by decide) (by decide)]
  by_cases hb : byteI s (Go.Proofs.YtpccdhkghlbhkaaGreatDoor.skp s k) = 124
  · have := byteI_in hb (by decide)
    rw [if_pos hb]
    exact .inr ⟨_, rfl, by rw [if_pos hb], by omega, by omega⟩
  · rw [if_neg hb]
    exact .inl ⟨rfl, by rw [if_neg hb]⟩
theorem Wrap.bsR (h : Wrap s S) (e e' : Nat) (hs : ∀ e0 e1, e = e0 + 1 → e' = e1 + 1 → ShR s e1 (alR s e0) (alR S e1)) : ShR s e' (bsR s (subR s e)) (bsR S (subR S e')) := by
  intro k n k' n' x hk ho h0
  have hj := skp_le hk
  have hin := bsR_in hk h0
  have hb := h.at' _ hin
  unfold Go.Proofs.YtpccdhkghlbhkaaGreatDoor.bsR at h0 ⊢
  rw [h.skp hk, hb]
  split at h0
  · rename_i h40
    rw [if_pos h40]
    have hop : opens s (Go.Proofs.YtpccdhkghlbhkaaGreatDoor.skp s k) = 1 + opens s (Go.Proofs.YtpccdhkghlbhkaaGreatDoor.skp s k + 1) := by rw [opens_step hin, if_pos h40]
    have hop2 := Nat.le_trans (opens_mono (s := s) hj.1) ho
    obtain ⟨e1, rfl⟩ : ∃ e1, e' = e1 + 1 := ⟨e' - 1, by omega⟩
    cases e with
    | zero => simp [subR] at h0
    | succ e0 =>
      have hsh := hs e0 e1 rfl rfl
      simp only [subR] at h0 ⊢
      have hj1 := skp_le (s := s) (k := Go.Proofs.YtpccdhkghlbhkaaGreatDoor.skp s k + 1) (by omega)
      rw [h.skp (by omega : Go.Proofs.YtpccdhkghlbhkaaGreatDoor.skp s k + 1 ≤ s.size)]
      split at h0
      · rename_i h41
        have h1 := byteI_in h41 (by decide)
        rw [h.at' _ h1, if_pos h41]
        have := cnt_shift (a' := Go.Proofs.YtpccdhkghlbhkaaGreatDoor.skp s k + 1) h0
        exact ⟨this.1, by omega, by omega⟩
      · rename_i h41
        split at h0
        · cases h0
        · rename_i k1 n1 x1 e2
          have hin1 := alR_in (by omega : Go.Proofs.YtpccdhkghlbhkaaGreatDoor.skp s k + 1 ≤ s.size) e2
          rw [h.at' _ hin1, if_neg h41]
          have h1 := hsh _ _ _ _ _ (by omega) (by omega) e2
          rw [h1.1]
          simp only
          have hj2 := skp_le h1.2.2
          rw [h.skp h1.2.2]
          split at h0
          · rename_i hcl
            have h2 := byteI_in hcl (by decide)
            rw [h.at' _ h2, if_pos hcl]
            injection h0 with h5 h6 h7
            subst h5 h6 h7
            exact ⟨rfl, by omega, by omega⟩
          · cases h0
  · rename_i h40
    rw [if_neg h40]
    split at h0
    · rename_i h46
      rw [if_pos h46]
      have := cnt_shift (a' := Go.Proofs.YtpccdhkghlbhkaaGreatDoor.skp s k + 1) h0
      exact ⟨this.1, by omega, by omega⟩
    · rename_i h46
      rw [if_neg h46]
      split at h0
      · rename_i h91
        rw [if_pos h91]
        split at h0
        · cases h0
        · rename_i k1 n1 ws e1
          have hnk := notK_le2 (s := s) (k := Go.Proofs.YtpccdhkghlbhkaaGreatDoor.skp s k + 1) (by omega)
          have h1 := h.chR (s.size + 1) (S.size + 1) _ _ _ _ _ (by rw [h.size]; omega) hnk.2 e1
          rw [h.notK (by omega : Go.Proofs.YtpccdhkghlbhkaaGreatDoor.skp s k + 1 ≤ s.size), h1.1]
          simp only
          have hj1 := skp_le (s := s) (k := Go.Proofs.YtpccdhkghlbhkaaGreatDoor.skp s k + 1) (by omega)
          rw [h.skp (by omega : Go.Proofs.YtpccdhkghlbhkaaGreatDoor.skp s k + 1 ≤ s.size)]
          simp only [h.is hj1.2 (c := 94) (by decide) (by decide)]
          have := cnt_shift (a' := Go.Proofs.YtpccdhkghlbhkaaGreatDoor.skp s k + 1) h0
          exact ⟨this.1, by omega, by omega⟩
      · rename_i h91
        rw [if_neg h91]
        split at h0
        · cases h0
        · rename_i hc
          have hw := wdK_le hj.2
          have hc2 : ¬ Go.Proofs.YtpccdhkghlbhkaaGreatDoor.wdC S (Go.Proofs.YtpccdhkghlbhkaaGreatDoor.skp s k + 1) ≠ 0 := by
            intro h9
            apply h9
            rw [h.wdC hj.2]
            simpa using hc
          rw [if_neg hc2, h.wdK hj.2, h.ext _ _ hw.1 hw.2]
          have := cnt_shift (a' := Go.Proofs.YtpccdhkghlbhkaaGreatDoor.skp s k + 1) h0
          exact ⟨this.1, by omega, by omega⟩
theorem Wrap.ptR (h : Wrap s S) (e e' : Nat) (hs : ∀ e0 e1, e = e0 + 1 → e' = e1 + 1 → ShR s e1 (alR s e0) (alR S e1)) : ShR s e' (ptR s (subR s e)) (ptR S (subR S e')) := by
  intro k n k' n' x hk ho h0
  unfold Go.Proofs.YtpccdhkghlbhkaaGreatDoor.ptR at h0 ⊢
  split at h0
  · cases h0
  · rename_i k1 n1 x1 e1
    have h1 := h.bsR e e' hs k n k1 n1 x1 hk ho e1
    rw [h1.1]
    simp only
    have h2 := h.sgR 101 k1 n1 x1 k' n' x h1.2.2 h0
    exact ⟨h2.1, by omega, h2.2.2⟩
theorem Wrap.alR (h : Wrap s S) : ∀ (e e' : Nat), ShR s e' (alR s e) (alR S e')
  | e, e' => by
    have hs : ∀ e0 e1, e = e0 + 1 → e' = e1 + 1 → ShR s e1 (Go.Proofs.YtpccdhkghlbhkaaGreatDoor.alR s e0) (Go.Proofs.YtpccdhkghlbhkaaGreatDoor.alR S e1) := fun e0 e1 h1 _ => by subst h1; exact Wrap.alR h e0 e1
    rw [alR_eq, alR_eq]
    exact h.jnR (h.jnR (h.ptR e e' hs) h.rwM) h.alM
/-- An expression within one pair of brackets more is what it is. -/
theorem Wrap.parse (h : Wrap s S) (h0 : byteI S 0 = 40) {k n : Nat} {x : Rx} (ha : Go.Proofs.YtpccdhkghlbhkaaGreatDoor.alR s 64 0 0 = .ok k n x) (hend : Go.Proofs.YtpccdhkghlbhkaaGreatDoor.skp s k = s.size) (ho : opens s 0 ≤ 63) :
    Go.Proofs.YtpccdhkghlbhkaaGreatDoor.alR S 64 0 0 = .ok S.size n x ∧ Go.Proofs.YtpccdhkghlbhkaaGreatDoor.skp S S.size = S.size := by
  have h1 := h.alR 64 63 0 0 k n x (Nat.zero_le _) ho ha
  have hin := alR_in (Nat.zero_le _) ha
  have hS0 : Go.Proofs.YtpccdhkghlbhkaaGreatDoor.skp S 0 = 0 := skp_stay (by rw [h0]; decide)
  have hS1 := h.skp (Nat.zero_le s.size)
  have hS2 := h.skp h1.2.2
  rw [Nat.zero_add] at hS1 h1
  have hb1 : byteI S (Go.Proofs.YtpccdhkghlbhkaaGreatDoor.skp s 0 + 1) ≠ 41 := by
    rw [h.at' _ hin]
    intro h41
    have hb : ∃ f, subR s 64 = some f := ⟨_, rfl⟩
    have hz : Go.Proofs.YtpccdhkghlbhkaaGreatDoor.wdC s (Go.Proofs.YtpccdhkghlbhkaaGreatDoor.skp s 0) ≠ 0 := by
      have hw1 : Go.Proofs.YtpccdhkghlbhkaaGreatDoor.wd1 s (Go.Proofs.YtpccdhkghlbhkaaGreatDoor.skp s 0) = Go.Proofs.YtpccdhkghlbhkaaGreatDoor.skp s 0 := by unfold Go.Proofs.YtpccdhkghlbhkaaGreatDoor.wd1; rw [h41, if_neg (by decide)]
      have hlet : isLet 41 = false := by decide
      unfold Go.Proofs.YtpccdhkghlbhkaaGreatDoor.wdC Go.Proofs.YtpccdhkghlbhkaaGreatDoor.nameC
      rw [hw1, h41, hlet]
      have := missC_ne s (Go.Proofs.YtpccdhkghlbhkaaGreatDoor.skp s 0)
      simp [this]
    have hbs : Go.Proofs.YtpccdhkghlbhkaaGreatDoor.bsR s (subR s 64) 0 0 = .er (Go.Proofs.YtpccdhkghlbhkaaGreatDoor.wdC s (Go.Proofs.YtpccdhkghlbhkaaGreatDoor.skp s 0)) (wdA s (Go.Proofs.YtpccdhkghlbhkaaGreatDoor.skp s 0)) := by
      unfold Go.Proofs.YtpccdhkghlbhkaaGreatDoor.bsR
      rw [h41, if_neg (by decide), if_neg (by decide), if_neg (by decide), if_pos hz]
    rw [alR_one_er hbs] at ha
    cases ha
  have hlast := h.last
  have hsz := h.size
  have hbase : Go.Proofs.YtpccdhkghlbhkaaGreatDoor.bsR S (subR S 64) 0 0 = .ok S.size n x := by
    unfold Go.Proofs.YtpccdhkghlbhkaaGreatDoor.bsR
    rw [hS0, h0, if_pos rfl]
    simp only [subR]
    rw [Nat.zero_add, hS1, if_neg hb1, h1.1]
    simp only
    rw [hS2, hend, hlast, if_pos rfl, hsz]
  have hend0 : byteI S S.size = 0 := byteI_ge (by omega)
  exact ⟨alR_one hbase (.inr hend0), skp_stay (by rw [hend0]; decide)⟩
end
end Go.Proofs.YtpccdhkghlbhkaaGreatDoor

namespace Go.Proofs.YtpccdhkghlbhkaaGreatDoor
open Go.RowKit Go.Extern.Stop Go.Stop Go.Extern

theorem At.word {S : ByteArray} {k : Nat} {w : ByteArray} (h : At S k w.data.toList) : k + w.size ≤ S.size ∧ (∀ i, i < w.size → byteI S (k + i) = byteI w i) := by
  have e : (⟨w.data.toList.toArray⟩ : ByteArray) = w := by simp
  have hl : w.data.toList.length = w.size := (Lib.size_eq w).symm
  refine ⟨by have := h.1; omega, fun i hi => ?_⟩
  have hb : byteI w i = ((w.data.toList[i]?).map (fun b => (b.toNat : Int))).getD 0 := by
    rw [← byteI_list, e]
  have hi2 : i < w.data.toList.length := by omega
  rw [hb, List.getElem?_eq_getElem hi2]
  exact h.2 i _ (List.getElem?_eq_getElem hi2)
/-! ### A word that stands there -/
/-- A word at a place, with a byte behind it that is in no name and is no #. -/
structure WAt (S : ByteArray) (k : Nat) (w : ByteArray) : Prop where
  le : k + w.size ≤ S.size
  at' : ∀ i, i < w.size → byteI S (k + i) = byteI w i
  nin : isIn (byteI S (k + w.size)) = false
  nhash : byteI S (k + w.size) ≠ 35
  ndol : byteI S (k + w.size) ≠ 36
section
variable {S w : ByteArray} {k : Nat}
theorem WAt.run (h : WAt S k w) : ∀ (n i : Nat), w.size - i = n → i ≤ w.size → runTo isIn S (k + i) = k + runTo isIn w i := by
  intro n
  induction n with
  | zero =>
    intro i h1 h2
    obtain rfl : i = w.size := by omega
    rw [runTo_end (by omega : ¬ w.size < w.size)]
    by_cases hS : k + w.size < S.size
    · rw [runTo_step _ S _ hS, if_neg (by rw [h.nin]; decide)]
    · exact runTo_end hS
  | succ n ih =>
    intro i h1 h2
    rw [runTo_step _ w i (by omega), runTo_step _ S (k + i) (by have := h.le; omega), h.at' i (by omega)]
    split
    · exact ih (i + 1) (by omega) (by omega)
    · rfl
theorem WAt.letter (h : WAt S k w) {i : Nat} (hi : i ≤ w.size) : isLet (byteI S (k + i)) = isLet (byteI w i) := by
  by_cases h1 : i < w.size
  · rw [h.at' i h1]
  · obtain rfl : i = w.size := by omega
    rw [byteI_ge (by omega : ¬ w.size < w.size)]
    cases hl : isLet (byteI S (k + w.size)) with
    | false => decide
    | true => have := h.nin; rw [(isIn_iff _).2 (.inl hl)] at this; cases this
theorem WAt.is (h : WAt S k w) {i : Nat} (hi : i ≤ w.size) {c : Int} (hc : c = 35 ∨ c = 36) : (byteI S (k + i) = c) = (byteI w i = c) := by
  by_cases h1 : i < w.size
  · rw [h.at' i h1]
  · obtain rfl : i = w.size := by omega
    rw [byteI_ge (by omega : ¬ w.size < w.size)]
    apply propext
    constructor
    · intro e
      rcases hc with rfl | rfl
      · exact absurd e h.nhash
      · exact absurd e h.ndol
    · intro e
      rcases hc with rfl | rfl <;> cases e
theorem WAt.nameK (h : WAt S k w) {i : Nat} (hi : i ≤ w.size) : nameK S (k + i) = k + Go.Proofs.YtpccdhkghlbhkaaGreatDoor.nameK w i := by
  unfold Go.Proofs.YtpccdhkghlbhkaaGreatDoor.nameK
  rw [h.letter hi, h.run _ i rfl hi, show k + runTo isIn w i - (k + i) = runTo isIn w i - i by omega]
  split <;> rfl
theorem WAt.nameC (h : WAt S k w) {i : Nat} (hi : i ≤ w.size) : (nameC S (k + i) = 0) = (Go.Proofs.YtpccdhkghlbhkaaGreatDoor.nameC w i = 0) := by
  unfold Go.Proofs.YtpccdhkghlbhkaaGreatDoor.nameC
  rw [h.letter hi, h.run _ i rfl hi, show k + runTo isIn w i - (k + i) = runTo isIn w i - i by omega]
  have h1 := missC_ne w i
  have h2 := missC_ne S (k + i)
  split
  · rfl
  · simp [h1, h2]
theorem WAt.wd1 (h : WAt S k w) : wd1 S k = k + Go.Proofs.YtpccdhkghlbhkaaGreatDoor.wd1 w 0 := by
  unfold Go.Proofs.YtpccdhkghlbhkaaGreatDoor.wd1
  have := h.is (Nat.zero_le _) (c := 36) (.inr rfl)
  rw [Nat.add_zero] at this
  simp only [this]
  split <;> rfl
theorem WAt.wd2 (h : WAt S k w) : wd2 S k = Go.Proofs.YtpccdhkghlbhkaaGreatDoor.wd2 w 0 := by
  unfold Go.Proofs.YtpccdhkghlbhkaaGreatDoor.wd2
  have h0 := h.is (Nat.zero_le _) (c := 36) (.inr rfl)
  rw [Nat.add_zero] at h0
  have hl := wd1_le (s := w) (Nat.zero_le _)
  rw [h.wd1, h.nameK hl]
  simp only [ne_eq, h0, h.is (nameK_le w _ hl) (c := 35) (.inl rfl)]
theorem WAt.wdK (h : WAt S k w) : wdK S k = k + Go.Proofs.YtpccdhkghlbhkaaGreatDoor.wdK w 0 := by
  have hl := wd1_le (s := w) (Nat.zero_le _)
  unfold Go.Proofs.YtpccdhkghlbhkaaGreatDoor.wdK
  rw [h.wd2, h.wd1, h.nameK hl]
  split
  · rw [Nat.add_assoc, h.nameK (wd2_in (by assumption))]
  · rfl
theorem WAt.wdC (h : WAt S k w) : (wdC S k = 0) = (Go.Proofs.YtpccdhkghlbhkaaGreatDoor.wdC w 0 = 0) := by
  have hl := wd1_le (s := w) (Nat.zero_le _)
  have h1 := h.nameC hl
  unfold Go.Proofs.YtpccdhkghlbhkaaGreatDoor.wdC
  rw [h.wd2, h.wd1, h.nameK hl]
  by_cases hc : Go.Proofs.YtpccdhkghlbhkaaGreatDoor.nameC w (Go.Proofs.YtpccdhkghlbhkaaGreatDoor.wd1 w 0) = 0
  · have hc2 : Go.Proofs.YtpccdhkghlbhkaaGreatDoor.nameC S (k + Go.Proofs.YtpccdhkghlbhkaaGreatDoor.wd1 w 0) = 0 := by rw [h1]; exact hc
    rw [hc, hc2]
    simp only [ne_eq, not_true_eq_false, if_false]
    split
    · rw [Nat.add_assoc]
      exact h.nameC (wd2_in (by assumption))
    · rfl
  · have hc2 : ¬ Go.Proofs.YtpccdhkghlbhkaaGreatDoor.nameC S (k + Go.Proofs.YtpccdhkghlbhkaaGreatDoor.wd1 w 0) = 0 := by rw [h1]; exact hc
    simp [hc, hc2]
/-- A word that stands there is read there. -/
theorem WAt.reads (h : WAt S k w) (hw : isWd w = true) : Go.Proofs.YtpccdhkghlbhkaaGreatDoor.wdC S k = 0 ∧ Go.Proofs.YtpccdhkghlbhkaaGreatDoor.wdK S k = k + w.size := by
  unfold isWd at hw
  simp only [Bool.and_eq_true, decide_eq_true_eq] at hw
  exact ⟨by rw [h.wdC]; exact hw.1, by rw [h.wdK, hw.2]⟩
end
/-- A word's first byte. -/
theorem wd_first {w : ByteArray} (hw : isWd w = true) : 0 < w.size ∧ (byteI w 0 = 36 ∨ isLet (byteI w 0) = true) := by
  unfold isWd at hw
  simp only [Bool.and_eq_true, decide_eq_true_eq] at hw
  have hf : byteI w 0 = 36 ∨ isLet (byteI w 0) = true := by
    by_cases h36 : byteI w 0 = 36
    · exact .inl h36
    · right
      have hw1 : wd1 w 0 = 0 := by unfold wd1; rw [if_neg h36]
      cases hl : isLet (byteI w 0) with
      | true => rfl
      | false =>
        have h1 := hw.1
        unfold wdC nameC at h1
        rw [hw1, hl] at h1
        have := missC_ne w 0
        simp [this] at h1
  refine ⟨?_, hf⟩
  rcases hf with h | h
  · have := byteI_in h (by decide); omega
  · by_cases h0 : 0 < w.size
    · exact h0
    · rw [byteI_ge h0] at h
      cases h
end Go.Proofs.YtpccdhkghlbhkaaGreatDoor

namespace Go.Proofs.YtpccdhkghlbhkaaGreatDoor
open Go.RowKit Go.Extern.Stop Go.Stop Go.Extern

/-! ### Words that rise -/
theorem leB_not {x y : ByteArray} (h : leB y x = false) : x.data.toList < y.data.toList := by
  unfold leB at h
  rw [Go.Proofs.bytesLess_eq, Go.ByteArray.toList_eq, Go.ByteArray.toList_eq] at h
  simp only [Bool.or_eq_false_iff, decide_eq_false_iff_not, beq_eq_false_iff_ne] at h
  exact Decidable.byContradiction fun hn => h.2 (List.le_antisymm (List.not_lt.1 hn) (List.not_lt.1 h.1))
theorem rises_pair : ∀ {ws : List ByteArray}, risesW ws = true → (ws.map (fun b => b.data.toList)).Pairwise (fun a b => a < b)
  | [], _ => List.Pairwise.nil
  | [x], _ => List.pairwise_singleton _ _
  | x :: y :: r, h => by
    rw [risesW] at h
    simp only [Bool.and_eq_true, Bool.not_eq_true'] at h
    have h1 := leB_not h.1
    have h2 := rises_pair h.2
    rw [List.map_cons]
    refine List.pairwise_cons.2 ⟨fun z hz => ?_, h2⟩
    rw [List.map_cons] at hz h2
    rcases List.mem_cons.1 hz with rfl | hz
    · exact h1
    · exact List.lt_trans h1 ((List.pairwise_cons.1 h2).1 z hz)
theorem putW_end : ∀ {l : List (List UInt8)} {w : List UInt8}, (∀ x, x ∈ l → x < w) → putW l w = l ++ [w]
  | [], w, _ => by rw [putW]; rfl
  | x :: r, w, h => by
    have hx := h x (by simp)
    rw [putW, if_neg (List.lt_asymm hx), putW_end (fun y hy => h y (List.mem_cons_of_mem _ hy))]
    rfl
theorem srtL_up : ∀ (l acc : List (List UInt8)), (acc ++ l).Pairwise (fun a b => a < b) → l.foldl putW acc = acc ++ l
  | [], acc, _ => by simp
  | w :: r, acc, h => by
    have h1 : ∀ x, x ∈ acc → x < w := fun x hx => (List.pairwise_append.1 h).2.2 x hx w (by simp)
    rw [List.foldl_cons, putW_end h1, srtL_up r (acc ++ [w]) (by simpa using h)]
    simp
theorem srt_up {ws : List ByteArray} (h : risesW ws = true) : srt ws = ws := by
  have h1 := srtL_up (ws.map (fun b => b.data.toList)) [] (by simpa using rises_pair h)
  unfold srt srtL
  rw [h1, List.nil_append, List.map_map]
  have e : ((fun b : List UInt8 => (⟨b.toArray⟩ : ByteArray)) ∘ fun b : ByteArray => b.data.toList) = id := by
    funext b; simp
  rw [e, List.map_id]

/-! ### Bytes -/
def dlm (c : Int) : Prop := isIn c = false ∧ c ≠ 35 ∧ c ≠ 36
theorem dlm_of {c : Int} (h : c = 32 ∨ c = 41 ∨ c = 0 ∨ c = 124 ∨ c = 42 ∨ c = 43 ∨ c = 63 ∨ c = 44 ∨ c = 93) : dlm c := by
  rcases h with rfl | rfl | rfl | rfl | rfl | rfl | rfl | rfl | rfl <;> exact ⟨by decide, by decide, by decide⟩
/-- Does a part begin with such a byte? -/
def fstB (c : Int) : Bool := decide (c = 46) || (decide (c = 91) || (decide (c = 40) || (decide (c = 36) || isLet c)))
theorem begB_fst (s : ByteArray) (j : Nat) : begB s j = fstB (byteI s j) := rfl
theorem fstB_iff (c : Int) : fstB c = true ↔ c = 46 ∨ c = 91 ∨ c = 40 ∨ c = 36 ∨ 97 ≤ c ∧ c ≤ 122 ∨ 65 ≤ c ∧ c ≤ 90 ∨ c = 95 := by
  unfold fstB
  simp only [Bool.or_eq_true, decide_eq_true_eq, isLet_iff]
theorem fst_notBl {c : Int} (h : fstB c = true) : isBl c = false := by
  have h1 := (fstB_iff c).1 h
  cases hb : isBl c with
  | false => rfl
  | true => have := (isBl_iff c).1 hb; omega
theorem fst_sgn {c : Int} (h : fstB c = true) : sgn c = none := by
  have h1 := (fstB_iff c).1 h
  unfold sgn
  rw [if_neg (by omega), if_neg (by omega), if_neg (by omega)]
theorem fst_not {c : Int} (h : c = 41 ∨ c = 0 ∨ c = 124) : fstB c = false := by rcases h with rfl | rfl | rfl <;> decide
theorem end_sgn {c : Int} (h : c = 41 ∨ c = 0 ∨ c = 124) : sgn c = none := by rcases h with rfl | rfl | rfl <;> decide
theorem end_notBl {c : Int} (h : c = 41 ∨ c = 0 ∨ c = 124) : isBl c = false := by rcases h with rfl | rfl | rfl <;> decide

/-! ### Sets of words -/
theorem chR_reads {S : ByteArray} : ∀ (ws : List ByteArray) (f k : Nat) (seen : List ByteArray), ws ≠ [] → At S k (wordsT ws ++ [93]) → (∀ w, w ∈ ws → isWd w = true) → ((seen ++ ws).map (fun b => b.data.toList)).Pairwise (fun a b => a < b) → S.size < k + f →
    chR S f k seen = .ok (k + (wordsT ws ++ [93]).length) 0 (seen ++ ws)
  | [], _, _, _, h, _, _, _, _ => absurd rfl h
  | w :: r, 0, k, seen, _, hat, _, _, hf => by have := hat.1; omega
  | w :: r, f + 1, k, seen, _, hat, hw, hnd, hf => by
    have hww := hw w (by simp)
    obtain ⟨hpos, hfst⟩ := wd_first hww
    have hsz : w.data.toList.length = w.size := (Lib.size_eq w).symm
    have hcons : wordsT (w :: r) = w.data.toList ++ Lib.joinTail [44] (r.map (·.data.toList)) := by unfold wordsT; rw [List.map_cons, Lib.join_cons]
    rw [hcons, List.append_assoc] at hat
    have ha1 := hat.left
    have ha2 := hat.right
    rw [hsz] at ha2
    have hwa := ha1.word
    have hb0 : byteI S k = byteI w 0 := by have := hwa.2 0 hpos; rwa [Nat.add_zero] at this
    have hfb : fstB (byteI S k) = true := by
      rw [hb0]
      unfold fstB
      rcases hfst with h | h <;> simp [h]
    have hs0 : skp S k = k := skp_stay (fst_notBl hfb)
    obtain ⟨b, rest, hbr, hbc⟩ : ∃ b rest, Lib.joinTail [44] (r.map (·.data.toList)) ++ [93] = b :: rest ∧ (b = 44 ∧ r ≠ [] ∨ b = 93 ∧ r = []) := by
      cases r with
      | nil => exact ⟨93, [], rfl, .inr ⟨rfl, rfl⟩⟩
      | cons y r' => exact ⟨44, _, rfl, .inl ⟨rfl, by simp⟩⟩
    have hnb : byteI S (k + w.size) = (b.toNat : Int) := by rw [hbr] at ha2; exact ha2.head
    have hdl : dlm (byteI S (k + w.size)) := by
      rw [hnb]
      rcases hbc with ⟨rfl, -⟩ | ⟨rfl, -⟩ <;> exact dlm_of (by decide)
    have hrd := (WAt.mk hwa.1 hwa.2 hdl.1 hdl.2.1 hdl.2.2).reads hww
    have hs1 : skp S (k + w.size) = k + w.size := skp_stay (by rw [hnb]; rcases hbc with ⟨rfl, -⟩ | ⟨rfl, -⟩ <;> decide)
    have hext : S.extract k (k + w.size) = w := by
      have := ha1.extract
      rw [hsz] at this
      rw [this]
    have hnc : (seen.map (fun b => b.data.toList)).contains w.data.toList = false := by
      cases hc : (seen.map (fun b => b.data.toList)).contains w.data.toList with
      | false => rfl
      | true =>
        exfalso
        have hm : w.data.toList ∈ seen.map (fun b => b.data.toList) := by simpa using hc
        rw [List.map_append, List.map_cons] at hnd
        exact List.lt_irrefl _ ((List.pairwise_append.1 hnd).2.2 _ hm _ (by simp))
    rw [chR, hs0, hrd.1, hrd.2, hext, if_neg (by decide), if_neg (by rw [hnc]; decide), hs1, hnb]
    rcases hbc with ⟨rfl, hr⟩ | ⟨rfl, hr⟩
    · rw [if_pos (by decide)]
      cases r with
      | nil => exact absurd rfl hr
      | cons y r' =>
        have ht : Lib.joinTail [44] ((y :: r').map (·.data.toList)) = 44 :: wordsT (y :: r') := by
          unfold wordsT
          rw [List.map_cons, Lib.join_cons]
          rfl
        rw [ht] at ha2
        have h3 := chR_reads (y :: r') f (k + w.size + 1) (seen ++ [w]) (by simp) (by have := ha2.tail; simpa using this) (fun z hz => hw z (List.mem_cons_of_mem _ hz)) (by simpa using hnd) (by omega)
        rw [h3]
        congr 1
        · rw [hcons, ht]
          simp
          omega
        · simp
    · subst hr
      rw [if_neg (by decide), if_pos (by decide)]
      congr 1
      rw [hcons]
      first | (simp [Lib.joinTail]; done) | (simp [Lib.joinTail]; omega)
theorem noneW_all {ws : List ByteArray} (h : ws.any (fun w => !isWd w) = false) : ∀ w, w ∈ ws → isWd w = true := by
  intro w hw
  have := List.any_eq_false.1 h w hw
  simpa using this
theorem wordsF_all {ws : List ByteArray} (h : wordsF ws = 0) : ws ≠ [] ∧ (∀ w, w ∈ ws → isWd w = true) ∧ risesW ws = true := by
  unfold wordsF at h
  split at h
  · cases h
  · rename_i h1
    split at h
    · rename_i h2
      refine ⟨fun e => h1 (.inl (by rw [e]; rfl)), noneW_all ?_, h2⟩
      cases hb : ws.any (fun w => !isWd w) with
      | false => rfl
      | true => exact absurd (.inr hb) h1
    · cases h
/-- An Atom's text, read again. -/
theorem atom_reads {S : ByteArray} {sub : Option (Nat → Nat → RO Rx)} {t : Bool} {ws : List ByteArray} {k n : Nat} (h : wordsF ws = 0) (hat : At S k (atomT t ws)) (hd : dlm (byteI S (k + (atomT t ws).length))) (hn : n + 1 ≤ 100) :
    bsR S sub k n = .ok (k + (atomT t ws).length) (n + 1) (.mk 1 t ws []) := by
  obtain ⟨hne, hall, hup⟩ := wordsF_all h
  have hset : ∀ (neg : Bool), At S k (91 :: ((if neg then [94] else []) ++ (wordsT ws ++ [93]))) → bsR S sub k n = .ok (k + (91 :: ((if neg then [94] else []) ++ (wordsT ws ++ [93]))).length) (n + 1) (.mk 1 neg ws []) := by
    intro neg hat
    have hb := hat.head
    have h91 : byteI S k = 91 := hb
    have hs0 : skp S k = k := skp_stay (by rw [h91]; decide)
    have ht := hat.tail
    have hfirst : ∃ b rest, wordsT ws = b :: rest ∧ ((b.toNat : Int) = 36 ∨ isLet (b.toNat : Int) = true) := by
      cases ws with
      | nil => exact absurd rfl hne
      | cons w r =>
        have hcons : wordsT (w :: r) = w.data.toList ++ Lib.joinTail [44] (r.map (·.data.toList)) := by unfold wordsT; rw [List.map_cons, Lib.join_cons]
        obtain ⟨hpos, hfst⟩ := wd_first (hall w (by simp))
        rw [hcons]
        cases hl : w.data.toList with
        | nil => rw [Lib.size_eq, hl] at hpos; simp at hpos
        | cons b l =>
          refine ⟨b, _, rfl, ?_⟩
          have hb : byteI w 0 = (b.toNat : Int) := by
            have e : (⟨w.data.toList.toArray⟩ : ByteArray) = w := by simp
            rw [← e, byteI_list, hl]
            rfl
          rwa [hb] at hfst
    obtain ⟨b, rest, hbr, hbf⟩ := hfirst
    have hfb : fstB (b.toNat : Int) = true := by
      unfold fstB
      rcases hbf with h | h <;> simp [h]
    have hb2 := (fstB_iff _).1 hfb
    unfold bsR
    rw [hs0, h91, if_neg (by decide), if_neg (by decide), if_pos rfl]
    cases neg with
    | true =>
      have ht1 : At S (k + 1) (94 :: (wordsT ws ++ [93])) := ht
      have h94 : byteI S (k + 1) = 94 := ht1.head
      have hs1 : skp S (k + 1) = k + 1 := skp_stay (by rw [h94]; decide)
      have hnk : notK S (k + 1) = k + 1 + 1 := by unfold notK; rw [hs1, if_pos h94]
      have hc := chR_reads ws (S.size + 1) (k + 1 + 1) [] hne ht1.tail hall (by simpa using rises_pair hup) (by omega)
      rw [hnk, hc]
      simp only
      rw [hs1, h94, List.nil_append, srt_up hup]
      unfold cnt
      rw [if_neg (by omega)]
      congr 1
      simp
      omega
    | false =>
      have ht1 : At S (k + 1) (wordsT ws ++ [93]) := ht
      have hb0 : byteI S (k + 1) = (b.toNat : Int) := by rw [hbr] at ht1; exact ht1.head
      have hs1 : skp S (k + 1) = k + 1 := skp_stay (by rw [hb0]; exact fst_notBl hfb)
      have h94 : ¬ byteI S (k + 1) = 94 := by rw [hb0]; omega
      have hnk : notK S (k + 1) = k + 1 := by unfold notK; rw [hs1, if_neg h94]
      have hc := chR_reads ws (S.size + 1) (k + 1) [] hne ht1 hall (by simpa using rises_pair hup) (by omega)
      rw [hnk, hc]
      simp only
      rw [hs1, decide_eq_false h94, List.nil_append, srt_up hup]
      unfold cnt
      rw [if_neg (by omega)]
      congr 1
      simp
      omega
  unfold atomT at hat hd ⊢
  cases t with
  | true =>
    rw [if_pos rfl] at hat ⊢
    exact hset true hat
  | false =>
    rw [if_neg (by decide)] at hat hd ⊢
    by_cases h1 : 1 < ws.length
    · rw [if_pos h1] at hat ⊢
      exact hset false hat
    · rw [if_neg h1] at hat hd ⊢
      obtain ⟨w, rfl⟩ : ∃ w, ws = [w] := by
        cases ws with
        | nil => exact absurd rfl hne
        | cons w r =>
          cases r with
          | nil => exact ⟨w, rfl⟩
          | cons y r => simp at h1
      · have hw1 : wordsT [w] = w.data.toList := Lib.join_one _ _
        rw [hw1] at hat hd ⊢
        have hww := hall w (by simp)
        obtain ⟨hpos, hfst⟩ := wd_first hww
        have hsz : w.data.toList.length = w.size := (Lib.size_eq w).symm
        rw [hsz] at hd ⊢
        have hwa := hat.word
        have hb0 : byteI S k = byteI w 0 := by have := hwa.2 0 hpos; rwa [Nat.add_zero] at this
        have hfb : byteI S k = 36 ∨ isLet (byteI S k) = true := by rw [hb0]; exact hfst
        have hne2 : ¬ byteI S k = 40 ∧ ¬ byteI S k = 46 ∧ ¬ byteI S k = 91 ∧ isBl (byteI S k) = false := by
          have hf : fstB (byteI S k) = true := by unfold fstB; rcases hfb with h | h <;> simp [h]
          refine ⟨?_, ?_, ?_, fst_notBl hf⟩ <;>
          · intro e
            rw [e] at hfb
            revert hfb
            decide
        have hs0 : skp S k = k := skp_stay hne2.2.2.2
        have hrd := (WAt.mk hwa.1 hwa.2 hd.1 hd.2.1 hd.2.2).reads hww
        have hext : S.extract k (k + w.size) = w := by
          have := hat.extract
          rw [hsz] at this
          rw [this]
        unfold bsR
        rw [hs0, if_neg hne2.1, if_neg hne2.2.1, if_neg hne2.2.2.1, hrd.1, hrd.2, hext, if_neg (by decide)]
        unfold cnt
        rw [if_neg (by omega)]
end Go.Proofs.YtpccdhkghlbhkaaGreatDoor

namespace Go.Proofs.YtpccdhkghlbhkaaGreatDoor
open Go.RowKit Go.Extern.Stop Go.Stop Go.Extern

/-! ### How deep -/
def brN (k : Int) (x : Rx) : Nat := if brk k x then 1 else 0
mutual
def bd : Rx → Nat
  | .mk k _ _ ks => max (if k = 2 ∧ ks.length = 0 then 1 else 0) (bds k ks)
def bds : Int → List Rx → Nat
  | _, [] => 0
  | k, x :: r => max (bd x + brN k x) (bds k r)
end
theorem bds_mem (k : Int) : ∀ {l : List Rx} {y : Rx}, y ∈ l → bd y + brN k y ≤ bds k l
  | [], _, h => by cases h
  | x :: r, y, h => by
    rw [bds]
    rcases List.mem_cons.1 h with rfl | h
    · exact Nat.le_max_left _ _
    · exact Nat.le_trans (bds_mem k h) (Nat.le_max_right _ _)
/-- An expression that stands in brackets within others. -/
def big : Rx → Prop
  | .mk k _ _ ks => k = 3 ∨ k = 2 ∧ 0 < ks.length
theorem brk_big {k : Int} {x : Rx} (h : brk k x = true) : big x := by
  cases x with
  | mk k' t ws ks =>
    rw [brk] at h
    rw [big]
    by_cases h2 : k' = 2
    · rw [if_pos h2] at h
      simp only [Bool.and_eq_true, decide_eq_true_eq] at h
      exact .inr ⟨h2, h.1⟩
    · rw [if_neg h2] at h
      exact .inl (by simpa using h)
theorem fault_mem {l : List Rx} (h : faultEs l = 0) {y : Rx} (hy : y ∈ l) : faultE y = 0 := by
  obtain ⟨i, hi⟩ := List.getElem?_of_mem hy
  exact faultEs_zero h hi
theorem bds_bd (k : Int) (t : Bool) (ws : List ByteArray) (ks : List Rx) : bds k ks ≤ bd (.mk k t ws ks) := by rw [bd]; exact Nat.le_max_right _ _
mutual
theorem bd_le : ∀ x : Rx, faultE x = 0 → 2 * bd x ≤ rxSize x + 1 ∧ (big x → 2 * bd x + 1 ≤ rxSize x)
  | .mk k t ws ks, h => by
    obtain ⟨h1, h2⟩ := faultE_zero h
    obtain ⟨-, -, hm, -, -⟩ := ownF_zero h1
    have h3 := bds_le k ks h2
    rw [bd, rxSize]
    by_cases hz : k = 2 ∧ ks.length = 0
    · rw [if_pos hz]
      have hks : ks = [] := List.eq_nil_of_length_eq_zero hz.2
      subst hks
      rw [bds, rxsSize]
      refine ⟨by omega, fun hb => ?_⟩
      rw [big] at hb
      rcases hb with h | ⟨-, h⟩
      · rw [hz.1] at h; cases h
      · simp at h
    · rw [if_neg hz]
      refine ⟨?_, fun hb => ?_⟩
      · cases ks with
        | nil => rw [bds, rxsSize]; omega
        | cons y r => rw [List.length_cons] at h3; omega
      · rw [big] at hb
        have hl : 2 ≤ ks.length := by
          rcases hb with rfl | ⟨rfl, h0⟩
          · simpa [mayH] using hm
          · have : ks.length ≠ 1 := by simpa [mayH] using hm
            omega
        omega
theorem bds_le : ∀ (k : Int) (l : List Rx), faultEs l = 0 → 2 * bds k l + l.length ≤ rxsSize l + 2
  | k, [], _ => by simp [bds, rxsSize]
  | k, x :: r, h => by
    have hx := fault_mem h (List.mem_cons_self)
    have hr : faultEs r = 0 := by
      rw [faultEs] at h
      split at h
      · rename_i h1; exact absurd hx h1
      · exact h
    have h1 := bd_le x hx
    have h2 := bds_le k r hr
    have h3 := len_sizes r
    have h5 := rxSize_pos x
    have h4 : 2 * (bd x + brN k x) ≤ rxSize x + 1 := by
      unfold brN
      split
      · have := h1.2 (brk_big (by assumption)); omega
      · omega
    rw [bds, rxsSize, List.length_cons]
    omega
end

/-! ### The first byte -/
theorem first_go : ∀ (m : Nat) (x : Rx), SizeOf.sizeOf x < m → faultE x = 0 → ∃ b r, textE x = b :: r ∧ fstB (b.toNat : Int) = true
  | 0, _, h, _ => absurd h (Nat.not_lt_zero _)
  | m + 1, .mk k t ws ks, hm, h => by
    simp only [Rx.mk.sizeOf_spec] at hm
    obtain ⟨h1, h2⟩ := faultE_zero h
    obtain ⟨-, -, hmay, hatom, -⟩ := ownF_zero h1
    rw [textE]
    by_cases k0 : k = 0
    · rw [if_pos k0]
      exact ⟨46, [], rfl, by decide⟩
    rw [if_neg k0]
    by_cases k1 : k = 1
    · rw [if_pos k1]
      obtain ⟨hne, hall, -⟩ := wordsF_all (hatom k1)
      unfold atomT
      split
      · exact ⟨91, _, rfl, by decide⟩
      · split
        · exact ⟨91, _, rfl, by decide⟩
        · cases ws with
          | nil => exact absurd rfl hne
          | cons w r =>
            obtain ⟨hpos, hfst⟩ := wd_first (hall w (by simp))
            have hcons : wordsT (w :: r) = w.data.toList ++ Lib.joinTail [44] (r.map (·.data.toList)) := by unfold wordsT; rw [List.map_cons, Lib.join_cons]
            rw [hcons]
            cases hl : w.data.toList with
            | nil => rw [Lib.size_eq, hl] at hpos; simp at hpos
            | cons b l =>
              refine ⟨b, _, rfl, ?_⟩
              have hb : byteI w 0 = (b.toNat : Int) := by
                have e : (⟨w.data.toList.toArray⟩ : ByteArray) = w := by simp
                rw [← e, byteI_list, hl]
                rfl
              rw [hb] at hfst
              unfold fstB
              rcases hfst with h | h <;> simp [h]
    rw [if_neg k1]
    by_cases k2 : k = 2 ∧ ks.length = 0
    · rw [if_pos k2]
      exact ⟨40, _, rfl, by decide⟩
    rw [if_neg k2]
    have hpos : ks ≠ [] := by
      intro e
      subst e
      by_cases e2 : k = 2
      · exact k2 ⟨e2, rfl⟩
      · simp [mayH, k0, k1, e2] at hmay
    cases ks with
    | nil => exact absurd rfl hpos
    | cons y r =>
      rw [kidsT, Lib.join_cons]
      unfold brT
      split
      · exact ⟨40, _, rfl, by decide⟩
      · obtain ⟨b, l, e, hb⟩ := first_go m y (by simp only [List.cons.sizeOf_spec] at hm; omega) (fault_mem h2 List.mem_cons_self)
        rw [e]
        exact ⟨b, _, rfl, hb⟩
theorem first_any {x : Rx} (h : faultE x = 0) : ∃ b r, textE x = b :: r ∧ fstB (b.toNat : Int) = true := first_go _ x (Nat.lt_succ_self _) h
theorem brT_first (b : Bool) {x : Rx} (h : faultE x = 0) : ∃ c r, brT b (textE x) = c :: r ∧ fstB (c.toNat : Int) = true := by
  unfold brT
  split
  · exact ⟨40, _, rfl, by decide⟩
  · exact first_any h
theorem At.fst {S : ByteArray} {k : Nat} {b : Bool} {x : Rx} {r : List UInt8} (h : At S k (brT b (textE x) ++ r)) (hx : faultE x = 0) : fstB (byteI S k) = true := by
  obtain ⟨c, l, e, hc⟩ := brT_first b hx
  rw [e] at h
  have : byteI S k = (c.toNat : Int) := h.head
  rw [this]
  exact hc

/-! ### What is read does not hang on blanks ahead -/
theorem skp_skp (S : ByteArray) (k : Nat) : skp S (skp S k) = skp S k := by
  by_cases h : skp S k < S.size
  · have h1 := runTo_halts isBl S _ k rfl h
    exact skp_stay h1
  · unfold skp at h ⊢
    exact runTo_end h
theorem bsR_skp (S : ByteArray) (sub : Option (Nat → Nat → RO Rx)) (k n : Nat) : bsR S sub (skp S k) n = bsR S sub k n := by
  unfold bsR
  rw [skp_skp]
theorem ptR_skp (S : ByteArray) (sub : Option (Nat → Nat → RO Rx)) (k n : Nat) : ptR S sub (skp S k) n = ptR S sub k n := by
  unfold ptR
  rw [bsR_skp]

/-! ### Read again -/
def PSp (y : Rx) : Prop := ∀ (kk : Int), kk ≠ 3 → ∀ S e k n, At S k (brT (brk kk y) (textE y)) → dlm (byteI S (k + (brT (brk kk y) (textE y)).length)) → n + rxSize y ≤ 100 → bd y + brN kk y ≤ e →
  ∃ k0 n0 x0 j, bsR S (subR S e) k n = .ok k0 n0 x0 ∧ j ≤ rxSize y ∧ ∀ f, sgR S (f + j) k0 n0 x0 = sgR S f (k + (brT (brk kk y) (textE y)).length) (n + rxSize y) y
def RSp (y : Rx) : Prop := ∀ S e k n, At S k (brT (brk 3 y) (textE y)) → (byteI S (k + (brT (brk 3 y) (textE y)).length) = 41 ∨ byteI S (k + (brT (brk 3 y) (textE y)).length) = 0 ∨ byteI S (k + (brT (brk 3 y) (textE y)).length) = 124) → n + rxSize y ≤ 100 → bd y + brN 3 y ≤ e →
  rwR S (subR S e) k n = .ok (k + (brT (brk 3 y) (textE y)).length) (n + rxSize y) y
def ASp (y : Rx) : Prop := ∀ S e k n, At S k (textE y) → (byteI S (k + (textE y).length) = 41 ∨ byteI S (k + (textE y).length) = 0) → n + rxSize y ≤ 100 → bd y ≤ e → alR S e k n = .ok (k + (textE y).length) (n + rxSize y) y
/-- A part, with its signs. -/
theorem PSp.pt {y : Rx} (h : PSp y) {kk : Int} (hk : kk ≠ 3) {S : ByteArray} {e k n : Nat} (ha : At S k (brT (brk kk y) (textE y))) (hd : dlm (byteI S (k + (brT (brk kk y) (textE y)).length)))
    (hs : sgn (byteI S (skp S (k + (brT (brk kk y) (textE y)).length))) = none) (hn : n + rxSize y ≤ 100) (he : bd y + brN kk y ≤ e) : ptR S (subR S e) k n = .ok (k + (brT (brk kk y) (textE y)).length) (n + rxSize y) y := by
  obtain ⟨k0, n0, x0, j, h1, h2, h3⟩ := h kk hk S e k n ha hd hn he
  unfold ptR
  rw [h1]
  simp only
  have h4 := h3 (100 - j + 1)
  rw [show 100 - j + 1 + j = 101 by omega] at h4
  rw [h4, sgR, hs]
/-- A row of one part. -/
theorem row_one {y : Rx} {S : ByteArray} {e k n k1 n1 : Nat} (h : ptR S (subR S e) k n = .ok k1 n1 y) (hc : byteI S k1 = 41 ∨ byteI S k1 = 0 ∨ byteI S k1 = 124) : rwR S (subR S e) k n = .ok k1 n1 y := by
  have hs : skp S k1 = k1 := skp_stay (end_notBl hc)
  unfold rwR jnR
  rw [h]
  simp only [rwM, hs, begB_fst, fst_not hc]
  rfl
/-- Alternatives of one row. -/
theorem alt_one {y : Rx} {S : ByteArray} {e k n k1 n1 : Nat} (h : rwR S (subR S e) k n = .ok k1 n1 y) (hc : byteI S k1 = 41 ∨ byteI S k1 = 0) : alR S e k n = .ok k1 n1 y := by
  have hs : skp S k1 = k1 := skp_stay (end_notBl (hc.elim .inl (fun h => .inr (.inl h))))
  have h124 : ¬ byteI S k1 = 124 := by rcases hc with h | h <;> rw [h] <;> decide
  rw [alR_eq]
  unfold jnR
  rw [h]
  simp only [alM, hs, if_neg h124]
end Go.Proofs.YtpccdhkghlbhkaaGreatDoor

namespace Go.Proofs.YtpccdhkghlbhkaaGreatDoor
open Go.RowKit Go.Extern.Stop Go.Stop Go.Extern

/-- The rest of a row: blanks and parts. -/
theorem row_rest {S : ByteArray} {e : Nat} : ∀ (r : List Rx) (f k n : Nat) (l : List Rx), r ≠ [] → (∀ y, y ∈ r → PSp y ∧ faultE y = 0 ∧ bd y + brN 2 y ≤ e) → At S k (Lib.joinTail [32] (kidsT 2 r)) →
    (byteI S (k + (Lib.joinTail [32] (kidsT 2 r)).length) = 41 ∨ byteI S (k + (Lib.joinTail [32] (kidsT 2 r)).length) = 0 ∨ byteI S (k + (Lib.joinTail [32] (kidsT 2 r)).length) = 124) → n + rxsSize r ≤ 100 → r.length ≤ f →
    jnL 2 (ptR S (subR S e)) (rwM S) f k n l = .ok (k + (Lib.joinTail [32] (kidsT 2 r)).length) (n + rxsSize r) (.mk 2 false [] (l ++ r))
  | [], _, _, _, _, h, _, _, _, _, _ => absurd rfl h
  | y :: r, 0, _, _, _, _, _, _, _, _, hf => by simp at hf
  | y :: r, f + 1, k, n, l, _, hall, hat, hend, hn, hf => by
    obtain ⟨hp, hy0, hye⟩ := hall y List.mem_cons_self
    have ht : Lib.joinTail [32] (kidsT 2 (y :: r)) = 32 :: (brT (brk 2 y) (textE y) ++ Lib.joinTail [32] (kidsT 2 r)) := by
      rw [kidsT]
      rfl
    rw [ht] at hat hend ⊢
    rw [rxsSize] at hn ⊢
    have h32 : byteI S k = 32 := hat.head
    have ha1 := hat.tail
    have hfb := ha1.fst hy0
    have hs0 : skp S k = k + 1 := by
      have hk : k < S.size := byteI_in h32 (by decide)
      have h1 : skp S k = skp S (k + 1) := by
        unfold skp
        rw [runTo_step _ S k hk, h32, if_pos (by decide)]
      rw [h1]
      exact skp_stay (fst_notBl hfb)
    have hm := ha1.right
    have hlen : (32 :: (brT (brk 2 y) (textE y) ++ Lib.joinTail [32] (kidsT 2 r)) : List UInt8).length = 1 + (brT (brk 2 y) (textE y)).length + (Lib.joinTail [32] (kidsT 2 r)).length := by simp; omega
    rw [hlen] at hend ⊢
    have hpt : dlm (byteI S (k + 1 + (brT (brk 2 y) (textE y)).length)) → sgn (byteI S (skp S (k + 1 + (brT (brk 2 y) (textE y)).length))) = none → ptR S (subR S e) k n = .ok (k + 1 + (brT (brk 2 y) (textE y)).length) (n + rxSize y) y := by
      intro hd hs
      rw [← ptR_skp, hs0]
      exact hp.pt (by decide) ha1.left hd hs (by omega) hye
    rw [jnL]
    cases r with
    | nil =>
      have hj0 : (Lib.joinTail [32] (kidsT 2 [])).length = 0 := by rw [kidsT]; rfl
      rw [hj0] at hend ⊢
      have hend2 : byteI S (k + 1 + (brT (brk 2 y) (textE y)).length) = 41 ∨ byteI S (k + 1 + (brT (brk 2 y) (textE y)).length) = 0 ∨ byteI S (k + 1 + (brT (brk 2 y) (textE y)).length) = 124 := by
        rw [show k + 1 + (brT (brk 2 y) (textE y)).length = k + (1 + (brT (brk 2 y) (textE y)).length + 0) by omega]
        exact hend
      have hs1 := skp_stay (end_notBl hend2)
      rw [hpt (dlm_of (by omega)) (by rw [hs1]; exact end_sgn hend2)]
      simp only [rwM, hs1, begB_fst, fst_not hend2]
      rw [rxsSize]
      simp only [Bool.false_eq_true, if_false]
      congr 1
      omega
    | cons z r' =>
      have hz := hall z (by simp)
      have ht2 : Lib.joinTail [32] (kidsT 2 (z :: r')) = 32 :: (brT (brk 2 z) (textE z) ++ Lib.joinTail [32] (kidsT 2 r')) := by
        rw [kidsT]
        rfl
      have hm2 := hm
      rw [ht2] at hm2
      have h32b := hm2.head
      have hfb2 := hm2.tail.fst hz.2.1
      have hk1 : k + 1 + (brT (brk 2 y) (textE y)).length < S.size := byteI_in h32b (by decide)
      have hs1 : skp S (k + 1 + (brT (brk 2 y) (textE y)).length) = k + 1 + (brT (brk 2 y) (textE y)).length + 1 := by
        have h1 : skp S (k + 1 + (brT (brk 2 y) (textE y)).length) = skp S (k + 1 + (brT (brk 2 y) (textE y)).length + 1) := by
          unfold skp
          rw [runTo_step _ S _ hk1, h32b, if_pos (by decide)]
        rw [h1]
        exact skp_stay (fst_notBl hfb2)
      rw [hpt (by rw [h32b]; exact dlm_of (by decide)) (by rw [hs1]; exact fst_sgn hfb2)]
      simp only [rwM, hs1, begB_fst, hfb2]
      have hih := row_rest (z :: r') f (k + 1 + (brT (brk 2 y) (textE y)).length) (n + rxSize y) (l ++ [y]) (by simp) (fun x hx => hall x (List.mem_cons_of_mem _ hx)) hm (by
        rw [show k + 1 + (brT (brk 2 y) (textE y)).length + (Lib.joinTail [32] (kidsT 2 (z :: r'))).length = k + (1 + (brT (brk 2 y) (textE y)).length + (Lib.joinTail [32] (kidsT 2 (z :: r'))).length) by omega]
        exact hend) (by omega) (by simp at hf ⊢; omega)
      simp only [if_true]
      rw [hih]
      congr 1
      · omega
      · omega
      · simp
/-- Alternatives from one on. -/
theorem alt_rest {S : ByteArray} {e : Nat} : ∀ (r : List Rx) (f k n : Nat) (l : List Rx), r ≠ [] → (∀ y, y ∈ r → RSp y ∧ faultE y = 0 ∧ bd y + brN 3 y ≤ e) → At S k (Lib.join (kidsT 3 r) [124]) →
    (byteI S (k + (Lib.join (kidsT 3 r) [124]).length) = 41 ∨ byteI S (k + (Lib.join (kidsT 3 r) [124]).length) = 0) → n + rxsSize r ≤ 100 → r.length ≤ f →
    jnL 3 (rwR S (subR S e)) (alM S) f k n l = .ok (k + (Lib.join (kidsT 3 r) [124]).length) (n + rxsSize r) (.mk 3 false [] (l ++ r))
  | [], _, _, _, _, h, _, _, _, _, _ => absurd rfl h
  | y :: r, 0, _, _, _, _, _, _, _, _, hf => by simp at hf
  | y :: r, f + 1, k, n, l, _, hall, hat, hend, hn, hf => by
    obtain ⟨hp, hy0, hye⟩ := hall y List.mem_cons_self
    have ht : Lib.join (kidsT 3 (y :: r)) [124] = brT (brk 3 y) (textE y) ++ Lib.joinTail [124] (kidsT 3 r) := by
      rw [kidsT, Lib.join_cons]
    rw [ht] at hat hend ⊢
    rw [rxsSize] at hn ⊢
    have hm := hat.right
    rw [List.length_append] at hend ⊢
    rw [jnL]
    cases r with
    | nil =>
      have hj0 : (Lib.joinTail [124] (kidsT 3 [])).length = 0 := by rw [kidsT]; rfl
      rw [hj0] at hend ⊢
      rw [Nat.add_zero] at hend ⊢
      have hs1 := skp_stay (end_notBl (hend.elim .inl (fun h => .inr (.inl h))))
      rw [hp S e k n hat.left (hend.elim .inl (fun h => .inr (.inl h))) (by omega) hye]
      have h124 : ¬ byteI S (k + (brT (brk 3 y) (textE y)).length) = 124 := by rcases hend with h | h <;> rw [h] <;> decide
      simp only [alM, hs1, if_neg h124]
      rw [rxsSize, Nat.add_zero]
    | cons z r' =>
      have hz := hall z (by simp)
      have ht2 : Lib.joinTail [124] (kidsT 3 (z :: r')) = 124 :: Lib.join (kidsT 3 (z :: r')) [124] := by
        rw [kidsT, Lib.join_cons]
        rfl
      rw [ht2] at hm hend ⊢
      have h124 : byteI S (k + (brT (brk 3 y) (textE y)).length) = 124 := hm.head
      have hs1 : skp S (k + (brT (brk 3 y) (textE y)).length) = k + (brT (brk 3 y) (textE y)).length := skp_stay (by rw [h124]; decide)
      rw [hp S e k n hat.left (.inr (.inr h124)) (by omega) hye]
      simp only [alM, hs1, if_pos h124]
      have hih := alt_rest (z :: r') f (k + (brT (brk 3 y) (textE y)).length + 1) (n + rxSize y) (l ++ [y]) (by simp) (fun x hx => hall x (List.mem_cons_of_mem _ hx)) hm.tail (by
        rw [show k + (brT (brk 3 y) (textE y)).length + 1 + (Lib.join (kidsT 3 (z :: r')) [124]).length = k + ((brT (brk 3 y) (textE y)).length + (124 :: Lib.join (kidsT 3 (z :: r')) [124]).length) by simp; omega]
        exact hend) (by omega) (by simp at hf ⊢; omega)
      rw [hih]
      congr 1
      · simp; omega
      · omega
      · simp
/-- In brackets. -/
theorem br_reads {y : Rx} (hy : faultE y = 0) (h : ASp y) {S : ByteArray} {e k n : Nat} (ha : At S k (40 :: (textE y ++ [41]))) (hn : n + rxSize y ≤ 100) (he : bd y + 1 ≤ e) :
    bsR S (subR S e) k n = .ok (k + (40 :: (textE y ++ [41]) : List UInt8).length) (n + rxSize y) y := by
  obtain ⟨e', rfl⟩ : ∃ e', e = e' + 1 := ⟨e - 1, by omega⟩
  have h40 : byteI S k = 40 := ha.head
  have hs0 : skp S k = k := skp_stay (by rw [h40]; decide)
  have ht := ha.tail
  have hcl : byteI S (k + 1 + (textE y).length) = 41 := ht.right.head
  obtain ⟨b, r, hbr, hb⟩ := first_any hy
  have hfb : fstB (byteI S (k + 1)) = true := by
    have h1 := ht.left
    rw [hbr] at h1
    rw [h1.head]
    exact hb
  have hs1 : skp S (k + 1) = k + 1 := skp_stay (fst_notBl hfb)
  have h41 : ¬ byteI S (k + 1) = 41 := by
    intro e
    rw [e] at hfb
    revert hfb
    decide
  have hal := h S e' (k + 1) n ht.left (.inl hcl) hn (by omega)
  have hs2 : skp S (k + 1 + (textE y).length) = k + 1 + (textE y).length := skp_stay (by rw [hcl]; decide)
  unfold bsR
  rw [hs0, h40, if_pos rfl]
  simp only [subR]
  rw [hs1, if_neg h41, hal]
  simp only
  rw [hs2, hcl, if_pos rfl]
  congr 1
  simp
  omega
end Go.Proofs.YtpccdhkghlbhkaaGreatDoor
