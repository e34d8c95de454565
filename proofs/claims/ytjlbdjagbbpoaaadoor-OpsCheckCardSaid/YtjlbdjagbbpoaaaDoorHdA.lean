/-
  Layer 9, plain: kinds of labels, and which headers may be. No program in it.
-/
import Derived.Test.YtjlbdjagbbpoaaaDoorBitL
namespace Go.Proofs.YtjlbdjagbbpoaaaDoor
open Go

/-- A label's kind, by a list. -/
def kindI (ks : List Int) (i : Int) : Int :=
  if 0 ≤ i ∧ i < (ks.length : Int) then (if 1 ≤ ks.getD i.toNat 0 ∧ ks.getD i.toNat 0 ≤ 3 then ks.getD i.toNat 0 else 0) else 0
theorem kindI_range (ks : List Int) (i : Int) : 0 ≤ kindI ks i ∧ kindI ks i ≤ 3 := by
  unfold kindI
  split
  · split <;> omega
  · omega
/-- May one of the kind a stand right on one of the kind b? -/
def mayB (a b : Int) : Bool := (decide (a = 2) && decide (b = 1)) || (decide (a = 3) && (decide (b = 2) || decide (b = 3)))
/-- May a header be, by its kinds? -/
def validP : List Int → Bool
  | [] => false
  | [a] => decide (a = 1)
  | a :: b :: r => mayB a b && validP (b :: r)
theorem validP_iff : ∀ l : List Int, validP l = true ↔ l = [1] ∨ ∃ n, l = List.replicate n 3 ++ [2, 1]
  | [] => by
    constructor
    · intro h; simp [validP] at h
    · rintro (h | ⟨n, h⟩)
      · simp at h
      · simp at h
  | [a] => by
    constructor
    · intro h; simp [validP] at h; left; rw [h]
    · rintro (h | ⟨n, h⟩)
      · simp at h; simp [validP, h]
      · have := congrArg List.length h; simp at this
  | a :: b :: r => by
    rw [validP, Bool.and_eq_true, validP_iff (b :: r)]
    constructor
    · rintro ⟨hm, h | ⟨n, h⟩⟩
      · injection h with h1 h2
        subst h1 h2
        right
        refine ⟨0, ?_⟩
        simp [mayB] at hm
        simp [hm]
      · right
        cases n with
        | zero =>
          injection h with h1 h2
          subst h1
          refine ⟨1, ?_⟩
          simp [mayB] at hm
          simp [hm, h2, List.replicate]
        | succ n =>
          have h' := h
          rw [List.replicate_succ, List.cons_append] at h'
          injection h' with h1 h2
          subst h1
          refine ⟨n + 2, ?_⟩
          simp [mayB] at hm
          rw [h, hm]
          rfl
    · rintro (h | ⟨n, h⟩)
      · simp at h
      · cases n with
        | zero =>
          injection h with h1 h2
          injection h2 with h2 h3
          subst h1 h2 h3
          exact ⟨by decide, .inl rfl⟩
        | succ n =>
          rw [List.replicate_succ, List.cons_append] at h
          injection h with h1 h2
          subst h1
          refine ⟨?_, .inr ⟨n, h2⟩⟩
          cases n with
          | zero => injection h2 with h2 h3; subst h2; decide
          | succ n => rw [List.replicate_succ, List.cons_append] at h2; injection h2 with h2 h3; subst h2; decide
theorem validP_cons {a : Int} {l : List Int} (h : validP (a :: l) = true) (hl : l ≠ []) : validP l = true := by
  cases l with
  | nil => exact absurd rfl hl
  | cons b r => rw [validP, Bool.and_eq_true] at h; exact h.2
theorem validP_drop : ∀ (k : Nat) (l : List Int), validP l = true → k < l.length → validP (l.drop k) = true
  | 0, l, h, _ => by simpa using h
  | k + 1, [], _, hk => by simp at hk
  | k + 1, a :: l, h, hk => by
    rw [List.drop_succ_cons]
    exact validP_drop k l (validP_cons h (by rintro rfl; simp at hk)) (by simpa using hk)
/-- As the document goes through it, from the last label on. -/
theorem validP_ref (l : List Int) : validP l = true ↔ (0 < l.length ∧ l.getD (l.length - 1) 0 = 1 ∧ (1 < l.length → l.getD (l.length - 2) 0 = 2) ∧ ∀ i, i < l.length - 2 → l.getD i 0 = 3) := by
  rw [validP_iff]
  constructor
  · rintro (rfl | ⟨n, rfl⟩)
    · simp
    · simp only [List.length_append, List.length_replicate, List.length_cons, List.length_nil]
      refine ⟨by omega, ?_, fun _ => ?_, fun i hi => ?_⟩
      · simp [List.getD_eq_getElem?_getD]
      · simp [List.getD_eq_getElem?_getD]
      · have : i < n := by omega
        simp [List.getD_eq_getElem?_getD, List.getElem?_append, this]
  · rintro ⟨h0, h1, h2, h3⟩
    by_cases hl : l.length = 1
    · left
      match l, hl with
      | [a], _ => simp at h1; rw [h1]
    · right
      refine ⟨l.length - 2, List.ext_getElem? fun i => ?_⟩
      have h2 := h2 (by omega)
      rw [List.getD_eq_getElem?_getD] at h1 h2
      rw [List.getElem?_append]
      simp only [List.length_replicate]
      by_cases hi : i < l.length - 2
      · have h3 := h3 i hi
        rw [List.getD_eq_getElem?_getD, List.getElem?_eq_getElem (by omega)] at h3
        rw [if_pos hi, List.getElem?_eq_getElem (by omega), List.getElem?_replicate, if_pos hi]
        simpa using h3
      · rw [if_neg hi]
        by_cases hi2 : i = l.length - 2
        · subst hi2
          rw [List.getElem?_eq_getElem (by omega)] at h2 ⊢
          simp at h2 ⊢
          exact h2
        · by_cases hi3 : i = l.length - 1
          · subst hi3
            rw [show l.length - 1 - (l.length - 2) = 1 by omega]
            rw [List.getElem?_eq_getElem (by omega)] at h1 ⊢
            simp at h1 ⊢
            exact h1
          · rw [List.getElem?_eq_none (by omega), List.getElem?_eq_none (by simp; omega)]
end Go.Proofs.YtjlbdjagbbpoaaaDoor
