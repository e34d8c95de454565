/-
  Layer 9, plain: kinds of labels, and which headers may be. No program in it.
  Layer 10, plain: chains done to headers; what is known of tops while a chain is done to a header that isn't known; the document's own way to say it. No program in it.
  Package header by contracts, first part: Word, Kind, Below, Onto; the document's own Kind.
  Package header by contracts, second part: Valid; the document's own Kind and Valid.
  Package header by contracts, third part: the document's own Valid; chapter 9's example; HeaderValid's body.
  Chapter 9's example, HeaderValid's and HeaderEnds's bodies, by contract.
-/
import Derived.Test.YtlcpbfklnjlgnaaGreatDoorGf
namespace Go.Proofs.YtlcpbfklnjlgnaaGreatDoor
open Go

/-- A label's kind, by a list. -/
def kindI (ks : List Int) (i : Int) : Int :=
  if 0 ≤ i ∧ i < (ks.length : Int) then (if 1 ≤ ks.getD i.toNat 0 ∧ ks.getD i.toNat 0 ≤ 3 then ks.getD i.toNat 0 else 0) else 0
theorem kindI_range (ks : List Int) (i : Int) : 0 ≤ kindI ks i ∧ kindI ks i ≤ 3 := by
  unfold kindI
  split
  · split <;> omega
  · omega
/-- May one of the kind a stand right on one of the kind b? -/
def mayB (a b : Int) : Bool := (decide (a = 2) && decide (b = 1)) || (decide (a = 3) && (decide (b = 2) || decide (b = 3)))
/-- May a header be, by its kinds? -/
def validP : List Int → Bool
  | [] => false
  | [a] => decide (a = 1)
  | a :: b :: r => mayB a b && validP (b :: r)
theorem validP_iff : ∀ l : List Int, validP l = true ↔ l = [1] ∨ ∃ n, l = List.replicate n 3 ++ [2, 1]
  | [] => by
    constructor
    · intro h; simp [validP] at h
    · rintro (h | ⟨n, h⟩)
      · simp at h
      · simp at h
  | [a] => by
    constructor
    · intro h; simp [validP] at h; left; rw [h]
    · rintro (h | ⟨n, h⟩)
      · simp at h; simp [validP, h]
      · have := congrArg List.length h; simp at this
  | a :: b :: r => by
    rw [validP, Bool.and_eq_true, validP_iff (b :: r)]
    constructor
    · rintro ⟨hm, h | ⟨n, h⟩⟩
      · injection h with h1 h2
        subst h1 h2
        right
        refine ⟨0, ?_⟩
        simp [mayB] at hm
        simp [hm]
      · right
        cases n with
        | zero =>
          injection h with h1 h2
          subst h1
          refine ⟨1, ?_⟩
          simp [mayB] at hm
          simp [hm, h2, List.replicate]
        | succ n =>
          have h' := h
          rw [List.replicate_succ, List.cons_append] at h'
          injection h' with h1 h2
          subst h1
          refine ⟨n + 2, ?_⟩
          simp [mayB] at hm
          rw [h, hm]
          rfl
    · rintro (h | ⟨n, h⟩)
      · simp at h
      · cases n with
        | zero =>
          injection h with h1 h2
          injection h2 with h2 h3
          subst h1 h2 h3
          exact ⟨by decide, .inl rfl⟩
        | succ n =>
          rw [List.replicate_succ, List.cons_append] at h
          injection h with h1 h2
          subst h1
          refine ⟨?_, .inr ⟨n, h2⟩⟩
          cases n with
          | zero => injection h2 with h2 h3; subst h2; decide
          | succ n => rw [List.replicate_succ, List.cons_append] at h2; injection h2 with h2 h3; subst h2; decide
theorem validP_cons {a : Int} {l : List Int} (h : validP (a :: l) = true) (hl : l ≠ []) : validP l = true := by
  cases l with
  | nil => exact absurd rfl hl
  | cons b r => rw [validP, Bool.and_eq_true] at h; exact h.2
theorem validP_drop : ∀ (k : Nat) (l : List Int), validP l = true → k < l.length → validP (l.drop k) = true
  | 0, l, h, _ => by simpa using h
  | k + 1, [], _, hk => by simp at hk
  | k + 1, a :: l, h, hk => by
    rw [List.drop_succ_cons]
    exact validP_drop k l (validP_cons h (by rintro rfl; simp at hk)) (by simpa using hk)
/-- As the document goes through it, from the last label on. -/
theorem validP_ref (l : List Int) : validP l = true ↔ (0 < l.length ∧ l.getD (l.length - 1) 0 = 1 ∧ (1 < l.length → l.getD (l.length - 2) 0 = 2) ∧ ∀ i, i < l.length - 2 → l.getD i 0 = 3) := by
  rw [validP_iff]
  constructor
  · rintro (rfl | ⟨n, rfl⟩)
    · simp
    · simp only [List.length_append, List.length_replicate, List.length_cons, List.length_nil]
      refine ⟨by omega, ?_, fun _ => ?_, fun i hi => ?_⟩
      · simp [List.getD_eq_getElem?_getD]
      · simp [List.getD_eq_getElem?_getD]
      · have : i < n := by omega
        simp [List.getD_eq_getElem?_getD, List.getElem?_append, this]
  · rintro ⟨h0, h1, h2, h3⟩
    by_cases hl : l.length = 1
    · left
      match l, hl with
      | [a], _ => simp at h1; rw [h1]
    · right
      refine ⟨l.length - 2, List.ext_getElem? fun i => ?_⟩
      have h2 := h2 (by omega)
      rw [List.getD_eq_getElem?_getD] at h1 h2
      rw [List.getElem?_append]
      simp only [List.length_replicate]
      by_cases hi : i < l.length - 2
      · have h3 := h3 i hi
        rw [List.getD_eq_getElem?_getD, List.getElem?_eq_getElem (by omega)] at h3
        rw [if_pos hi, List.getElem?_eq_getElem (by omega), List.getElem?_replicate, if_pos hi]
        simpa using h3
      · rw [if_neg hi]
        by_cases hi2 : i = l.length - 2
        · subst hi2
          rw [List.getElem?_eq_getElem (by omega)] at h2 ⊢
          simp at h2 ⊢
          exact h2
        · by_cases hi3 : i = l.length - 1
          · subst hi3
            rw [show l.length - 1 - (l.length - 2) = 1 by omega]
            rw [List.getElem?_eq_getElem (by omega)] at h1 ⊢
            simp at h1 ⊢
            exact h1
          · rw [List.getElem?_eq_none (by omega), List.getElem?_eq_none (by simp; omega)]
end Go.Proofs.YtlcpbfklnjlgnaaGreatDoor

namespace Go.Proofs.YtlcpbfklnjlgnaaGreatDoor
open Go

/-! ### Ops, plain -/
/-- Can an op of a kind, with a label of a kind, be done to a header whose top has a kind? -/
def topsB (o lk t : Int) : Bool := if o = 1 then decide (t = 2) || decide (t = 3) else if o = 2 then decide (t = lk) else if o = 3 then mayB lk t else false
def stepL (o lab : Int) (h : List Int) : List Int := if o = 1 then h.tail else if o = 2 then lab :: h.tail else lab :: h
/-- A chain done to a header that may be. -/
def doL (ks : List Int) : List (Int × Int) → List Int → Option (List Int)
  | [], h => some h
  | o :: r, h => if topsB o.1 (kindI ks o.2) (kindI ks (h.headD 0)) then doL ks r (stepL o.1 o.2 h) else none
def validH (ks h : List Int) : Bool := validP (h.map (kindI ks))
def doO (ks h : List Int) (c : List (Int × Int)) : Option (List Int) := if validH ks h then doL ks c h else none
theorem validH_ne {ks h : List Int} (hv : validH ks h = true) : ∃ a t, h = a :: t := by
  cases h with
  | nil => simp [validH, validP] at hv
  | cons a t => exact ⟨a, t, rfl⟩
theorem validP_top {a : Int} {l : List Int} (h : validP (a :: l) = true) : 1 ≤ a ∧ a ≤ 3 ∧ ((a = 2 ∨ a = 3) ↔ l ≠ []) := by
  cases l with
  | nil => simp [validP] at h; subst h; simp
  | cons b r =>
    rw [validP, Bool.and_eq_true] at h
    have := h.1
    simp [mayB] at this
    have e : (a = 2 ∨ a = 3) := by omega
    exact ⟨by omega, by omega, fun _ => by simp, fun _ => e⟩
theorem step_ref {ks h : List Int} {o lab : Int} (hv : validH ks h = true) (ho : o = 1 ∨ o = 2 ∨ o = 3) (h2 : o = 2 → kindI ks (h.headD 0) = kindI ks lab) :
    validH ks (stepL o lab h) = topsB o (kindI ks lab) (kindI ks (h.headD 0)) := by
  obtain ⟨a, t, rfl⟩ := validH_ne hv
  unfold validH at hv ⊢
  rw [List.map_cons] at hv
  obtain ⟨t1, t2, t3⟩ := validP_top hv
  simp only [List.headD_cons] at h2 ⊢
  rcases ho with rfl | rfl | rfl
  · simp only [stepL, if_pos, List.tail_cons, topsB]
    by_cases ht : t = []
    · subst ht
      have : ¬ (kindI ks a = 2 ∨ kindI ks a = 3) := fun h => (t3.1 h) rfl
      simp [validP]
      omega
    · have : (kindI ks a = 2 ∨ kindI ks a = 3) := t3.2 (by simpa using ht)
      rw [validP_cons hv (by simpa using ht)]
      symm
      simpa using this
  · have h2 := h2 rfl
    simp only [stepL, topsB, List.tail_cons, List.map_cons, if_pos, if_neg (show ¬ ((2 : Int) = 1) by decide)]
    rw [← h2, hv]
    simp
  · simp only [stepL, topsB, List.map_cons, if_pos, if_neg (show ¬ ((3 : Int) = 1) by decide), if_neg (show ¬ ((3 : Int) = 2) by decide)]
    rw [validP, hv, Bool.and_true]
theorem topsB_kind {o lk t : Int} (h : topsB o lk t = true) : o = 1 ∨ o = 2 ∨ o = 3 := by
  unfold topsB at h
  split at h
  · omega
  · split at h
    · omega
    · split at h
      · omega
      · cases h
theorem topsB_swap {lk t : Int} (h : topsB 2 lk t = true) : t = lk := by simpa [topsB] using h
theorem step_valid {ks h : List Int} {o lab : Int} (hv : validH ks h = true) (ht : topsB o (kindI ks lab) (kindI ks (h.headD 0)) = true) : validH ks (stepL o lab h) = true := by
  rw [step_ref hv (topsB_kind ht) (fun e => by subst e; exact topsB_swap ht), ht]
theorem doL_valid {ks : List Int} : ∀ {c : List (Int × Int)} {h x : List Int}, validH ks h = true → doL ks c h = some x → validH ks x = true
  | [], h, x, hv, e => by injection e with e; rw [← e]; exact hv
  | o :: c, h, x, hv, e => by
    rw [doL] at e
    split at e
    · rename_i ht
      exact doL_valid (step_valid hv ht) e
    · cases e
theorem doL_append (ks : List Int) : ∀ (a b : List (Int × Int)) (h : List Int), doL ks (a ++ b) h = (doL ks a h).bind (doL ks b)
  | [], b, h => rfl
  | o :: a, b, h => by
    rw [List.cons_append, doL, doL]
    split
    · exact doL_append ks a b _
    · rfl
def countI (c : List (Int × Int)) (k : Int) : Nat := (c.filter fun o => decide (o.1 = k)).length
theorem countI_append (a b : List (Int × Int)) (k : Int) : countI (a ++ b) k = countI a k + countI b k := by unfold countI; rw [List.filter_append, List.length_append]
theorem countI_cons (o : Int × Int) (b : List (Int × Int)) (k : Int) : countI (o :: b) k = (if o.1 = k then 1 else 0) + countI b k := by
  unfold countI
  rw [List.filter_cons]
  by_cases h : o.1 = k <;> simp [h] <;> omega
theorem countI_le (c : List (Int × Int)) (k : Int) : countI c k ≤ c.length := List.length_filter_le _ _
theorem doL_len {ks : List Int} : ∀ {c : List (Int × Int)} {h x : List Int}, validH ks h = true → doL ks c h = some x → x.length + countI c 1 = h.length + countI c 3
  | [], h, x, hv, e => by injection e with e; rw [← e]; rfl
  | o :: c, h, x, hv, e => by
    rw [doL] at e
    split at e
    · rename_i ht
      have ih := doL_len (step_valid hv ht) e
      obtain ⟨a, t, rfl⟩ := validH_ne hv
      have hk := topsB_kind ht
      rw [countI_cons, countI_cons]
      rcases hk with hk | hk | hk <;> rw [hk] at ih ⊢ <;> simp [stepL] at ih ⊢ <;> omega
    · cases e

/-! ### By lengths alone -/
/-- The top's kind of a header that may be, by its length. -/
def tN (L : Nat) : Nat := if L ≤ 1 then 1 else if L = 2 then 2 else 3
theorem tN_range (L : Nat) : 1 ≤ tN L ∧ tN L ≤ 3 := by unfold tN; split <;> (try split) <;> omega
theorem valid_top {ks h : List Int} (hv : validH ks h = true) : kindI ks (h.headD 0) = (tN h.length : Int) ∧ 1 ≤ h.length := by
  obtain ⟨a, t, rfl⟩ := validH_ne hv
  unfold validH at hv
  rw [validP_iff] at hv
  simp only [List.headD_cons, List.length_cons]
  rcases hv with h | ⟨n, h⟩
  · have hl := congrArg List.length h
    simp at hl
    subst hl
    simp at h
    exact ⟨by rw [h]; rfl, by omega⟩
  · have hl := congrArg List.length h
    simp at hl
    cases n with
    | zero =>
      injection h with h1 h2
      rw [h1]
      exact ⟨by unfold tN; rw [if_neg (by omega), if_pos (by omega)]; rfl, by omega⟩
    | succ n =>
      rw [List.replicate_succ, List.cons_append] at h
      injection h with h1 h2
      rw [h1]
      exact ⟨by unfold tN; rw [if_neg (by omega), if_neg (by omega)]; rfl, by omega⟩
def stepN (o lk : Int) (L : Nat) : Option Nat := if topsB o lk (tN L) then some (if o = 1 then L - 1 else if o = 2 then L else L + 1) else none
def runN : List (Int × Int) → Nat → Option Nat
  | [], L => some L
  | o :: c, L => (stepN o.1 o.2 L).bind (runN c)
/-- The kind of an op's label, where it counts. -/
def opK (ks : List Int) (o : Int × Int) : Int × Int := (o.1, if o.1 = 1 then 0 else kindI ks o.2)
theorem topsB_opK (ks : List Int) (o : Int × Int) (t : Int) : topsB (opK ks o).1 (opK ks o).2 t = topsB o.1 (kindI ks o.2) t := by
  unfold opK topsB
  by_cases h : o.1 = 1 <;> simp [h]
theorem do_run {ks : List Int} : ∀ {c : List (Int × Int)} {h : List Int}, validH ks h = true → (doL ks c h).map List.length = runN (c.map (opK ks)) h.length
  | [], h, hv => rfl
  | o :: c, h, hv => by
    obtain ⟨ht, hl⟩ := valid_top hv
    rw [doL, List.map_cons, runN, stepN, topsB_opK, ← ht]
    by_cases e : topsB o.1 (kindI ks o.2) (kindI ks (h.headD 0)) = true
    · rw [if_pos e, if_pos e, do_run (step_valid hv e), Option.bind_some]
      congr 1
      obtain ⟨a, t, rfl⟩ := validH_ne hv
      rcases topsB_kind e with hk | hk | hk <;> simp [stepL, opK, hk]
    · rw [if_neg e, if_neg e]
      rfl
theorem do_some {ks h : List Int} {c : List (Int × Int)} (hv : validH ks h = true) : (doL ks c h).isSome = (runN (c.map (opK ks)) h.length).isSome := by
  rw [← do_run hv, Option.isSome_map]
theorem runN_append : ∀ (a b : List (Int × Int)) (L : Nat), runN (a ++ b) L = (runN a L).bind (runN b)
  | [], b, L => rfl
  | o :: a, b, L => by
    rw [List.cons_append, runN, runN]
    cases stepN o.1 o.2 L with
    | none => rfl
    | some M => exact runN_append a b M
/-- High headers are all alike. -/
theorem run_high : ∀ (c : List (Int × Int)) (L M : Nat), 3 + c.length ≤ L → 3 + c.length ≤ M → (runN c L).isSome = (runN c M).isSome
  | [], _, _, _, _ => rfl
  | o :: c, L, M, hL, hM => by
    simp only [List.length_cons] at hL hM
    have eL : tN L = 3 := by unfold tN; rw [if_neg (by omega), if_neg (by omega)]
    have eM : tN M = 3 := by unfold tN; rw [if_neg (by omega), if_neg (by omega)]
    rw [runN, runN, stepN, stepN, eL, eM]
    split
    · rw [Option.bind_some, Option.bind_some]
      apply run_high
      · split
        · omega
        · split <;> omega
      · split
        · omega
        · split <;> omega
    · rfl

/-! ### What is known of tops, in words of bits -/
def oneK (k : Int) : Nat := 2 ^ k.toNat
def belowW (k : Int) : Nat := if k = 2 then 2 else if k = 3 then 12 else 0
def topsW (o lk : Int) : Nat := if o = 1 then 12 else if o = 2 then oneK lk else if o = 3 then belowW lk else 0
def underW (a : Nat) : Nat := (if a.testBit 2 then 2 else 0) ||| (if a.testBit 3 then 12 else 0)
theorem topsW_lt {o lk : Int} (h : 0 ≤ lk ∧ lk ≤ 3) : topsW o lk < 16 := by
  unfold topsW oneK belowW
  have : lk = 0 ∨ lk = 1 ∨ lk = 2 ∨ lk = 3 := by omega
  rcases this with rfl | rfl | rfl | rfl <;> (split <;> (try split) <;> (try split) <;> simp)
theorem topsW_bit {o lk : Int} (h : 0 ≤ lk ∧ lk ≤ 3) {t : Nat} (ht : 1 ≤ t ∧ t ≤ 3) : (topsW o lk).testBit t = topsB o lk (t : Int) := by
  have h1 : lk = 0 ∨ lk = 1 ∨ lk = 2 ∨ lk = 3 := by omega
  have h2 : t = 1 ∨ t = 2 ∨ t = 3 := by omega
  unfold topsW topsB
  by_cases o1 : o = 1
  · rw [if_pos o1, if_pos o1]
    rcases h2 with rfl | rfl | rfl <;> decide
  · rw [if_neg o1, if_neg o1]
    by_cases o2 : o = 2
    · rw [if_pos o2, if_pos o2]
      rcases h1 with rfl | rfl | rfl | rfl <;> rcases h2 with rfl | rfl | rfl <;> decide
    · rw [if_neg o2, if_neg o2]
      by_cases o3 : o = 3
      · rw [if_pos o3, if_pos o3]
        rcases h1 with rfl | rfl | rfl | rfl <;> rcases h2 with rfl | rfl | rfl <;> decide
      · rw [if_neg o3, if_neg o3]
        simp
def knownB (ks : List Int) (o : Int × Int) : Bool := if o.1 = 1 then true else if o.1 = 2 ∨ o.1 = 3 then decide (kindI ks o.2 ≠ 0) else false
/-- As the program guesses what may stand there, the top first. -/
def guessL (o lk : Int) : List Nat → List Nat
  | [] => []
  | m :: rest => if o = 3 then oneK lk :: m :: rest else if o = 1 then (if rest = [] then [underW m] else rest) else m :: rest
def chkL (ks : List Int) : List (Int × Int) → Nat → List Nat → Int × Int
  | [], _, _ => (0, 0)
  | o :: c, i, may => if knownB ks o then (if may.headD 0 &&& topsW o.1 (kindI ks o.2) = 0 then (9, (i : Int)) else chkL ks c (i + 1) (guessL o.1 (kindI ks o.2) ((may.headD 0 &&& topsW o.1 (kindI ks o.2)) :: may.tail))) else (2, (i : Int))
def chkE (ks : List Int) (top : Int) (c : List (Int × Int)) : Int × Int := if kindI ks top = 0 then (2, -1) else if 8 < c.length then (6, 8) else chkL ks c 0 [oneK (kindI ks top)]

/-- What may stand there, and which lengths there may be. -/
structure Sim (may : List Nat) (R : Nat → Prop) : Prop where
  ex : ∃ (B : Nat) (ps : List Nat), may = ps ++ [B] ∧ B < 16 ∧ B.testBit 0 = false ∧ (∃ L, 1 ≤ L ∧ B.testBit (tN L) = true) ∧ (∀ L, R L ↔ ∃ L', 1 ≤ L' ∧ L = L' + ps.length ∧ B.testBit (tN L') = true) ∧
    ∀ j w, ps[j]? = some w → ∀ L', 1 ≤ L' → B.testBit (tN L') = true → w = 2 ^ (tN (L' + ps.length - j))
theorem tN_small {t : Nat} (h : 1 ≤ t ∧ t ≤ 3) : tN t = t := by
  have : t = 1 ∨ t = 2 ∨ t = 3 := by omega
  rcases this with rfl | rfl | rfl <;> rfl
theorem and_zero_bits : ∀ a < 16, ∀ b < 16, a.testBit 0 = false → ((a &&& b = 0) ↔ ¬ ((a &&& b).testBit 1 = true ∨ (a &&& b).testBit 2 = true ∨ (a &&& b).testBit 3 = true)) := by decide
theorem and_zero {B T : Nat} (hB : B < 16) (h0 : B.testBit 0 = false) (hT : T < 16) : B &&& T = 0 ↔ ∀ L, 1 ≤ L → B.testBit (tN L) = true → T.testBit (tN L) = false := by
  rw [and_zero_bits B hB T hT h0]
  constructor
  · intro h L hL hb
    have ht := tN_range L
    have : tN L = 1 ∨ tN L = 2 ∨ tN L = 3 := by omega
    cases hc : T.testBit (tN L)
    · rfl
    · exfalso
      apply h
      rcases this with e | e | e <;> rw [e] at hb hc <;> simp [hb, hc]
  · intro h hc
    have key : ∀ t, 1 ≤ t ∧ t ≤ 3 → (B &&& T).testBit t = true → False := fun t ht hb => by
      rw [Nat.testBit_and, Bool.and_eq_true] at hb
      have := h t ht.1 (by rw [tN_small ht]; exact hb.1)
      rw [tN_small ht, hb.2] at this
      cases this
    rcases hc with hc | hc | hc
    · exact key 1 (by omega) hc
    · exact key 2 (by omega) hc
    · exact key 3 (by omega) hc
theorem pow_and' : ∀ t < 4, ∀ T < 16, (2 ^ t &&& T) = if T.testBit t then 2 ^ t else 0 := by decide
theorem push_kind {lk : Int} {L : Nat} (hL : 1 ≤ L) (h : topsB 3 lk (tN L) = true) : oneK lk = 2 ^ tN (L + 1) := by
  simp only [topsB, if_neg (show ¬ ((3 : Int) = 1) by decide), if_neg (show ¬ ((3 : Int) = 2) by decide), if_pos, mayB] at h
  unfold tN at h ⊢
  unfold oneK
  by_cases h1 : L = 1
  · subst h1
    simp at h
    rw [h]; rfl
  · rw [if_neg (by omega)] at h
    rw [if_neg (by omega), if_neg (by omega)]
    have : lk = 3 := by
      by_cases h2 : L = 2
      · simp [h2] at h; omega
      · simp [h2] at h; omega
    rw [this]; rfl
theorem under_bits : ∀ a < 16, (underW a).testBit 0 = false ∧ underW a < 16 ∧ ((underW a).testBit 1 = a.testBit 2) ∧ ((underW a).testBit 2 = a.testBit 3) ∧ ((underW a).testBit 3 = a.testBit 3) := by decide
theorem pow_inj {a b : Nat} (h : (2 : Nat) ^ a = 2 ^ b) : a = b := (Nat.pow_right_inj (by omega)).1 h
theorem sim_step {m : Nat} {rest : List Nat} {R : Nat → Prop} (hs : Sim (m :: rest) R) {o lk : Int} (ho : o = 1 ∨ o = 2 ∨ o = 3) (hk : 0 ≤ lk ∧ lk ≤ 3) :
    (m &&& topsW o lk = 0 ↔ ∀ L, R L → stepN o lk L = none) ∧ (m &&& topsW o lk ≠ 0 → Sim (guessL o lk ((m &&& topsW o lk) :: rest)) (fun M => ∃ L, R L ∧ stepN o lk L = some M)) := by
  obtain ⟨B, ps, hm, hB, h0, ⟨L0, hL0, hb0⟩, hR, hp⟩ := hs
  have hT := topsW_lt (o := o) hk
  have tb : ∀ L, (topsW o lk).testBit (tN L) = topsB o lk (tN L) := fun L => topsW_bit hk (tN_range L)
  have sn : ∀ L, stepN o lk L = none ↔ topsB o lk (tN L) = false := fun L => by unfold stepN; split <;> simp_all
  cases ps with
  | nil =>
    simp only [List.nil_append, List.cons.injEq] at hm
    obtain ⟨rfl, rfl⟩ := hm
    simp only [List.length_nil, Nat.add_zero] at hR
    have hR' : ∀ L, R L ↔ 1 ≤ L ∧ m.testBit (tN L) = true := fun L => by
      rw [hR]
      constructor
      · rintro ⟨L', h1, rfl, h2⟩; exact ⟨h1, h2⟩
      · rintro ⟨h1, h2⟩; exact ⟨L, h1, rfl, h2⟩
    refine ⟨?_, fun hne => ?_⟩
    · rw [and_zero hB h0 hT]
      constructor
      · intro h L hL
        rw [sn, ← tb]
        exact h L ((hR' L).1 hL).1 ((hR' L).1 hL).2
      · intro h L h1 h2
        rw [tb, ← sn]
        exact h L ((hR' L).2 ⟨h1, h2⟩)
    · have hne' : ∃ L, 1 ≤ L ∧ (m &&& topsW o lk).testBit (tN L) = true := by
        apply Classical.byContradiction
        intro hn
        apply hne
        rw [and_zero hB h0 hT]
        intro L h1 h2
        cases hc : (topsW o lk).testBit (tN L)
        · rfl
        · exact absurd ⟨L, h1, by rw [Nat.testBit_and, h2, hc]; rfl⟩ hn
      obtain ⟨L1, g1, g2⟩ := hne'
      have hm16 : m &&& topsW o lk < 16 := Nat.lt_of_le_of_lt Nat.and_le_left hB
      have hm0 : (m &&& topsW o lk).testBit 0 = false := by rw [Nat.testBit_and, h0]; rfl
      rcases ho with rfl | rfl | rfl
      · -- Pop
        simp only [guessL, if_neg (show ¬ ((1 : Int) = 3) by decide), if_pos]
        obtain ⟨u0, u16, u1, u2, u3⟩ := under_bits _ hm16
        have tt : ∀ L, topsB 1 lk (tN L) = decide (2 ≤ L) := fun L => by
          unfold topsB tN
          by_cases l1 : L ≤ 1
          · simp [l1]; omega
          · by_cases l2 : L = 2
            · simp [l2]
            · simp [l1, l2]; omega
        have hgt : 2 ≤ L1 := by
          rw [Nat.testBit_and, Bool.and_eq_true, tb, tt] at g2
          simpa using g2.2
        have hU : ∀ M, 1 ≤ M → ((underW (m &&& topsW 1 lk)).testBit (tN M) = true ↔ m.testBit (tN (M + 1)) = true) := fun M hM => by
          have e : (m &&& topsW 1 lk).testBit (tN (M + 1)) = m.testBit (tN (M + 1)) := by
            rw [Nat.testBit_and, tb, tt]; simp; omega
          rw [← e]
          by_cases h1 : M = 1
          · subst h1
            show (underW _).testBit 1 = true ↔ _
            rw [u1]
            rfl
          · have e3 : tN (M + 1) = 3 := by unfold tN; rw [if_neg (by omega), if_neg (by omega)]
            rw [e3]
            by_cases h2 : M = 2
            · subst h2
              show (underW _).testBit 2 = true ↔ _
              rw [u2]
            · have e3 : tN M = 3 := by unfold tN; rw [if_neg (by omega), if_neg (by omega)]
              rw [e3, u3]
        refine ⟨⟨underW (m &&& topsW 1 lk), [], rfl, u16, u0, ⟨L1 - 1, by omega, ?_⟩, fun M => ?_, by simp⟩⟩
        · rw [hU _ (by omega), show L1 - 1 + 1 = L1 by omega]
          rw [Nat.testBit_and, Bool.and_eq_true] at g2
          exact g2.1
        · constructor
          · rintro ⟨L, hL, hst⟩
            obtain ⟨q1, q2⟩ := (hR' L).1 hL
            unfold stepN at hst
            rw [tt] at hst
            split at hst
            · rename_i hl
              have hl : 2 ≤ L := by simpa using hl
              simp only [if_pos, Option.some.injEq] at hst
              subst hst
              refine ⟨L - 1, by omega, rfl, ?_⟩
              rw [hU _ (by omega), show L - 1 + 1 = L by omega]
              exact q2
            · cases hst
          · rintro ⟨M', hM, rfl, hbit⟩
            refine ⟨M + 1, (hR' _).2 ⟨by omega, (hU _ hM).1 hbit⟩, ?_⟩
            unfold stepN
            rw [tt, if_pos (by simpa using hM)]
            simp
      · -- Swap
        simp only [guessL, if_neg (show ¬ ((2 : Int) = 3) by decide), if_neg (show ¬ ((2 : Int) = 1) by decide)]
        refine ⟨⟨m &&& topsW 2 lk, [], rfl, hm16, hm0, ⟨L1, g1, g2⟩, fun M => ?_, by simp⟩⟩
        simp only [List.length_nil, Nat.add_zero]
        constructor
        · rintro ⟨L, hL, hst⟩
          obtain ⟨q1, q2⟩ := (hR' L).1 hL
          unfold stepN at hst
          split at hst
          · rename_i hl
            simp only [if_neg (show ¬ ((2 : Int) = 1) by decide), if_pos, Option.some.injEq] at hst
            subst hst
            exact ⟨L, q1, rfl, by rw [Nat.testBit_and, q2, tb, hl]; rfl⟩
          · cases hst
        · rintro ⟨M', hM, rfl, hbit⟩
          rw [Nat.testBit_and, Bool.and_eq_true, tb] at hbit
          refine ⟨M, (hR' _).2 ⟨hM, hbit.1⟩, ?_⟩
          unfold stepN
          rw [if_pos hbit.2]
          simp
      · -- Push
        simp only [guessL, if_pos]
        refine ⟨⟨m &&& topsW 3 lk, [oneK lk], rfl, hm16, hm0, ⟨L1, g1, g2⟩, fun M => ?_, ?_⟩⟩
        · simp only [List.length_cons, List.length_nil]
          constructor
          · rintro ⟨L, hL, hst⟩
            obtain ⟨q1, q2⟩ := (hR' L).1 hL
            unfold stepN at hst
            split at hst
            · rename_i hl
              simp only [if_neg (show ¬ ((3 : Int) = 1) by decide), if_neg (show ¬ ((3 : Int) = 2) by decide), Option.some.injEq] at hst
              subst hst
              exact ⟨L, q1, rfl, by rw [Nat.testBit_and, q2, tb, hl]; rfl⟩
            · cases hst
          · rintro ⟨M', hM, rfl, hbit⟩
            rw [Nat.testBit_and, Bool.and_eq_true, tb] at hbit
            refine ⟨M', (hR' _).2 ⟨hM, hbit.1⟩, ?_⟩
            unfold stepN
            rw [if_pos hbit.2]
            simp
        · intro j w hj L' hL hbit
          rw [Nat.testBit_and, Bool.and_eq_true, tb] at hbit
          cases j with
          | zero =>
            simp at hj
            subst hj
            simpa using push_kind hL hbit.2
          | succ j => simp at hj
  | cons p0 ps =>
    simp only [List.cons_append, List.cons.injEq] at hm
    obtain ⟨rfl, rfl⟩ := hm
    have hs0 : ∀ L', 1 ≤ L' → B.testBit (tN L') = true → m = 2 ^ tN (L' + (ps.length + 1)) := fun L' h1 h2 => by
      have := hp 0 m rfl L' h1 h2
      simpa using this
    have hall : ∀ L', 1 ≤ L' → B.testBit (tN L') = true → tN (L' + (ps.length + 1)) = tN (L0 + (ps.length + 1)) := fun L' h1 h2 => pow_inj ((hs0 L' h1 h2).symm.trans (hs0 L0 hL0 hb0))
    have hm1 := hs0 L0 hL0 hb0
    obtain ⟨t, ht⟩ : ∃ t, t = tN (L0 + (ps.length + 1)) := ⟨_, rfl⟩
    rw [← ht] at hm1 hall
    have htr : 1 ≤ t ∧ t ≤ 3 := by rw [ht]; exact tN_range _
    have hand : m &&& topsW o lk = if topsB o lk (t : Int) then 2 ^ t else 0 := by
      rw [hm1, pow_and' t (by omega) _ hT, topsW_bit hk htr]
    have hR' : ∀ L, R L → tN L = t := fun L hL => by
      obtain ⟨L', h1, rfl, h2⟩ := (hR L).1 hL
      exact hall L' h1 h2
    have hin : R (L0 + (ps.length + 1)) := (hR _).2 ⟨L0, hL0, rfl, hb0⟩
    by_cases hc : topsB o lk (t : Int) = true
    · rw [if_pos hc] at hand
      have hne : m &&& topsW o lk ≠ 0 := by
        rw [hand]
        have := Nat.two_pow_pos t
        omega
      refine ⟨⟨fun h => absurd h hne, fun h => ?_⟩, fun _ => ?_⟩
      · have := h _ hin
        rw [sn, hR' _ hin, hc] at this
        cases this
      · rw [hand, ← hm1]
        have hst : ∀ L, R L → stepN o lk L = some (if o = 1 then L - 1 else if o = 2 then L else L + 1) := fun L hL => by
          unfold stepN
          rw [hR' L hL, if_pos hc]
        rcases ho with rfl | rfl | rfl
        · simp only [guessL, if_neg (show ¬ ((1 : Int) = 3) by decide), if_pos]
          rw [if_neg (by simp)]
          refine ⟨⟨B, ps, rfl, hB, h0, ⟨L0, hL0, hb0⟩, fun M => ?_, fun j w hj L' h1 h2 => ?_⟩⟩
          · constructor
            · rintro ⟨L, hL, e⟩
              rw [hst L hL, if_pos rfl, Option.some.injEq] at e
              obtain ⟨L', h1, rfl, h2⟩ := (hR L).1 hL
              simp only [List.length_cons] at e
              exact ⟨L', h1, by omega, h2⟩
            · rintro ⟨L', h1, rfl, h2⟩
              have hL : R (L' + (ps.length + 1)) := (hR _).2 ⟨L', h1, rfl, h2⟩
              exact ⟨_, hL, by rw [hst _ hL, if_pos rfl]; congr 1⟩
          · have := hp (j + 1) w (by simpa using hj) L' h1 h2
            rw [this]
            congr 2
            simp only [List.length_cons]
            omega
        · simp only [guessL, if_neg (show ¬ ((2 : Int) = 3) by decide), if_neg (show ¬ ((2 : Int) = 1) by decide)]
          refine ⟨⟨B, m :: ps, rfl, hB, h0, ⟨L0, hL0, hb0⟩, fun M => ?_, hp⟩⟩
          rw [← hR]
          constructor
          · rintro ⟨L, hL, e⟩
            rw [hst L hL] at e
            simp at e
            rw [← e]; exact hL
          · intro hM
            exact ⟨M, hM, by rw [hst M hM]; simp⟩
        · simp only [guessL, if_pos]
          refine ⟨⟨B, oneK lk :: m :: ps, rfl, hB, h0, ⟨L0, hL0, hb0⟩, fun M => ?_, fun j w hj L' h1 h2 => ?_⟩⟩
          · constructor
            · rintro ⟨L, hL, e⟩
              rw [hst L hL] at e
              simp at e
              obtain ⟨L', h1, rfl, h2⟩ := (hR L).1 hL
              simp only [List.length_cons] at e ⊢
              exact ⟨L', h1, by omega, h2⟩
            · rintro ⟨L', h1, rfl, h2⟩
              have hL : R (L' + (ps.length + 1)) := (hR _).2 ⟨L', h1, rfl, h2⟩
              exact ⟨_, hL, by rw [hst _ hL]; simp [List.length_cons]; omega⟩
          · cases j with
            | zero =>
              simp at hj
              subst hj
              have e := hall L' h1 h2
              have := push_kind (lk := lk) (L := L' + (ps.length + 1)) (by omega) (by rw [e]; exact hc)
              rw [this]
              simp only [List.length_cons]
              congr 1
            | succ j =>
              have := hp j w (by simpa using hj) L' h1 h2
              rw [this]
              congr 2
              simp only [List.length_cons]
              omega
    · rw [if_neg hc] at hand
      rw [hand]
      refine ⟨⟨fun _ L hL => ?_, fun _ => rfl⟩, fun h => absurd rfl h⟩
      rw [sn, hR' L hL]
      simpa using hc

/-! ### The document's own way to say it -/
theorem sim_start {k : Nat} (hk : 1 ≤ k ∧ k ≤ 3) : Sim [oneK (k : Int)] (fun L => 1 ≤ L ∧ tN L = k) := by
  have hb : ∀ t, (oneK (k : Int)).testBit t = decide (k = t) := fun t => by unfold oneK; rw [Int.toNat_natCast, Nat.testBit_two_pow]
  refine ⟨⟨oneK k, [], rfl, ?_, ?_, ⟨k, hk.1, ?_⟩, fun L => ?_, by simp⟩⟩
  · have : k = 1 ∨ k = 2 ∨ k = 3 := by omega
    rcases this with rfl | rfl | rfl <;> decide
  · rw [hb]; simp; omega
  · rw [hb, tN_small hk]; simp
  · simp only [List.length_nil, Nat.add_zero]
    constructor
    · rintro ⟨h1, h2⟩
      exact ⟨L, h1, rfl, by rw [hb, h2]; simp⟩
    · rintro ⟨L', h1, rfl, h2⟩
      rw [hb] at h2
      exact ⟨h1, (of_decide_eq_true h2).symm⟩
/-- The first n ops can be done to a header of so many labels more. -/
def frontB (k : Nat) (c : List (Int × Int)) (n : Nat) : Bool := (List.range (n + 1)).any fun m => (runN c (if k = 3 then m + 3 else k)).isSome
theorem front_iff {k : Nat} (hk : 1 ≤ k ∧ k ≤ 3) (c : List (Int × Int)) : frontB k c c.length = true ↔ ∃ L, (1 ≤ L ∧ tN L = k) ∧ (runN c L).isSome = true := by
  unfold frontB
  rw [List.any_eq_true]
  constructor
  · rintro ⟨m, hm, h⟩
    refine ⟨_, ⟨?_, ?_⟩, h⟩
    · split <;> omega
    · split
      · rename_i h3
        unfold tN; rw [if_neg (by omega), if_neg (by omega), h3]
      · exact tN_small hk
  · rintro ⟨L, ⟨h1, h2⟩, h⟩
    by_cases h3 : k = 3
    · subst h3
      have hL : 3 ≤ L := by
        unfold tN at h2
        split at h2
        · omega
        · split at h2 <;> omega
      by_cases hle : L ≤ 3 + c.length
      · exact ⟨L - 3, by rw [List.mem_range]; omega, by rw [if_pos rfl, show L - 3 + 3 = L by omega]; exact h⟩
      · exact ⟨c.length, by rw [List.mem_range]; omega, by rw [if_pos rfl, run_high c (c.length + 3) L (by omega) (by omega)]; exact h⟩
    · have : L = k := by
        unfold tN at h2
        split at h2
        · omega
        · split at h2 <;> omega
      subst this
      exact ⟨0, by simp, by rw [if_neg h3]; exact h⟩
/-- As the document goes through a chain. -/
def rchkL (ks : List Int) (k : Nat) (c : List (Int × Int)) : List (Int × Int) → Nat → Int × Int
  | [], _ => (0, 0)
  | o :: r, i => if knownB ks o then (if frontB k ((c.take (i + 1)).map (opK ks)) (i + 1) then rchkL ks k c r (i + 1) else (9, (i : Int))) else (2, (i : Int))
def rchkE (ks : List Int) (top : Int) (c : List (Int × Int)) : Int × Int := if kindI ks top = 0 then (2, -1) else if 8 < c.length then (6, 8) else rchkL ks (kindI ks top).toNat c c 0
theorem known_kind {ks : List Int} {o : Int × Int} (h : knownB ks o = true) : o.1 = 1 ∨ o.1 = 2 ∨ o.1 = 3 := by
  unfold knownB at h
  split at h
  · omega
  · split at h
    · omega
    · cases h
theorem topsW_opK (ks : List Int) (o : Int × Int) : topsW (opK ks o).1 (opK ks o).2 = topsW o.1 (kindI ks o.2) := by
  unfold opK topsW
  by_cases h : o.1 = 1 <;> simp [h]
theorem guess_opK (ks : List Int) (o : Int × Int) (m : List Nat) : guessL (opK ks o).1 (opK ks o).2 m = guessL o.1 (kindI ks o.2) m := by
  cases m with
  | nil => rfl
  | cons a m =>
    unfold opK guessL
    by_cases h : o.1 = 1 <;> simp [h]
theorem sim_ne {may : List Nat} {R : Nat → Prop} (hs : Sim may R) : ∃ m r, may = m :: r := by
  obtain ⟨B, ps, h, -⟩ := hs
  cases ps with
  | nil => exact ⟨_, _, h⟩
  | cons p ps => exact ⟨_, _, h⟩
theorem opK_range (ks : List Int) (o : Int × Int) : 0 ≤ (opK ks o).2 ∧ (opK ks o).2 ≤ 3 := by
  unfold opK
  simp only
  split
  · omega
  · exact kindI_range _ _
theorem runN_snoc (a : List (Int × Int)) (o : Int × Int) (L : Nat) : runN (a ++ [o]) L = (runN a L).bind (stepN o.1 o.2) := by
  rw [runN_append]
  congr 1
  funext M
  rw [runN]
  cases stepN o.1 o.2 M <;> rfl
theorem sim_congr {may : List Nat} {R R' : Nat → Prop} (h : ∀ L, R L ↔ R' L) (hs : Sim may R) : Sim may R' := by
  have : R = R' := funext fun L => propext (h L)
  rwa [← this]
theorem chk_same (ks : List Int) {k : Nat} (hk : 1 ≤ k ∧ k ≤ 3) (c : List (Int × Int)) : ∀ (r : List (Int × Int)) (i : Nat) (may : List Nat), c.drop i = r → i ≤ c.length →
    Sim may (fun L => ∃ L0, (1 ≤ L0 ∧ tN L0 = k) ∧ runN ((c.take i).map (opK ks)) L0 = some L) → chkL ks r i may = rchkL ks k c r i
  | [], i, may, hr, hi, hs => rfl
  | o :: r, i, may, hr, hi, hs => by
    obtain ⟨m, rest, rfl⟩ := sim_ne hs
    have hlt : i < c.length := by
      have := congrArg List.length hr
      simp at this
      omega
    have hget : c[i]? = some o := by
      have := congrArg (fun l => l[0]?) hr
      simpa using this
    have htake : c.take (i + 1) = c.take i ++ [o] := by rw [List.take_add_one, hget]; rfl
    rw [chkL, rchkL]
    by_cases hkn : knownB ks o = true
    · rw [if_pos hkn, if_pos hkn]
      obtain ⟨s1, s2⟩ := sim_step hs (o := (opK ks o).1) (lk := (opK ks o).2) (known_kind (o := o) hkn) (opK_range ks o)
      rw [topsW_opK] at s1 s2
      rw [guess_opK] at s2
      have hlen : ((c.take (i + 1)).map (opK ks)).length = i + 1 := by simp; omega
      have hf : frontB k ((c.take (i + 1)).map (opK ks)) (i + 1) = true ↔ ¬ (m &&& topsW o.1 (kindI ks o.2) = 0) := by
        have hf0 := front_iff hk ((c.take (i + 1)).map (opK ks))
        rw [hlen] at hf0
        rw [hf0, s1]
        constructor
        · rintro ⟨L0, h1, h2⟩ hn
          rw [htake, List.map_append, List.map_cons, List.map_nil, runN_snoc] at h2
          cases he : runN ((c.take i).map (opK ks)) L0 with
          | none => rw [he] at h2; cases h2
          | some L =>
            rw [he, Option.bind_some, hn L ⟨L0, h1, he⟩] at h2
            cases h2
        · intro hn
          apply Classical.byContradiction
          intro hno
          apply hn
          rintro L ⟨L0, h1, h2⟩
          cases he : stepN (opK ks o).1 (opK ks o).2 L with
          | none => rfl
          | some M =>
            exact absurd ⟨L0, h1, by rw [htake, List.map_append, List.map_cons, List.map_nil, runN_snoc, h2, Option.bind_some, he]; rfl⟩ hno
      by_cases h0 : m &&& topsW o.1 (kindI ks o.2) = 0
      · have hff : ¬ frontB k ((c.take (i + 1)).map (opK ks)) (i + 1) = true := fun h => hf.1 h h0
        rw [if_pos (show (m :: rest).headD 0 &&& topsW o.1 (kindI ks o.2) = 0 from h0), if_neg hff]
      · have hz : ¬ ((m :: rest).headD 0 &&& topsW o.1 (kindI ks o.2) = 0) := h0
        rw [if_neg hz, if_pos (hf.2 h0)]
        refine chk_same ks hk c r (i + 1) _ (by rw [← List.drop_drop, hr]; rfl) (by omega) (sim_congr (fun M => ?_) (s2 h0))
        constructor
        · rintro ⟨L, ⟨L0, h1, h2⟩, h3⟩
          exact ⟨L0, h1, by rw [htake, List.map_append, List.map_cons, List.map_nil, runN_snoc, h2, Option.bind_some, h3]⟩
        · rintro ⟨L0, h1, h2⟩
          rw [htake, List.map_append, List.map_cons, List.map_nil, runN_snoc] at h2
          cases he : runN ((c.take i).map (opK ks)) L0 with
          | none => rw [he] at h2; cases h2
          | some L =>
            rw [he, Option.bind_some] at h2
            exact ⟨L, ⟨L0, h1, he⟩, h2⟩
    · rw [if_neg hkn, if_neg hkn]
theorem chkE_same (ks : List Int) (top : Int) (c : List (Int × Int)) : chkE ks top c = rchkE ks top c := by
  unfold chkE rchkE
  have hr := kindI_range ks top
  split
  · rfl
  · split
    · rfl
    · obtain ⟨k, hk⟩ := Int.eq_ofNat_of_zero_le hr.1
      rw [hk, Int.toNat_natCast]
      have hk3 : 1 ≤ k ∧ k ≤ 3 := by omega
      refine chk_same ks hk3 c c 0 _ rfl (by omega) (sim_congr (fun L => ?_) (sim_start hk3))
      simp [runN]
/-- What can be done was found to be possible. -/
theorem chkL_ok (ks : List Int) : ∀ (c : List (Int × Int)) (i : Nat) (may : List Nat) (R : Nat → Prop) (h : List Int), Sim may R → R h.length → validH ks h = true → (doL ks c h).isSome = true → chkL ks c i may = (0, 0)
  | [], _, _, _, _, _, _, _, _ => rfl
  | o :: c, i, may, R, h, hs, hR, hv, hd => by
    obtain ⟨m, rest, rfl⟩ := sim_ne hs
    rw [doL] at hd
    split at hd
    · rename_i ht
      have hk := topsB_kind ht
      obtain ⟨vt, vl⟩ := valid_top hv
      have hkn : knownB ks o = true := by
        unfold knownB
        rcases hk with h1 | h1 | h1
        · rw [if_pos h1]
        · rw [if_neg (by omega), if_pos (by omega), decide_eq_true_iff]
          rw [h1] at ht
          have := topsB_swap ht
          have := tN_range h.length
          omega
        · rw [if_neg (by omega), if_pos (by omega), decide_eq_true_iff]
          rw [h1] at ht
          intro e0
          rw [e0] at ht
          simp [topsB, mayB] at ht
      obtain ⟨s1, s2⟩ := sim_step hs (o := (opK ks o).1) (lk := (opK ks o).2) (known_kind (o := o) hkn) (opK_range ks o)
      rw [topsW_opK] at s1 s2
      rw [guess_opK] at s2
      have hst : stepN (opK ks o).1 (opK ks o).2 h.length = some (stepL o.1 o.2 h).length := by
        unfold stepN
        rw [topsB_opK, ← vt, if_pos ht]
        obtain ⟨a, t, rfl⟩ := validH_ne hv
        rcases hk with h1 | h1 | h1 <;> simp [stepL, opK, h1]
      have h0 : ¬ (m &&& topsW o.1 (kindI ks o.2) = 0) := fun h => by
        have := s1.1 h _ hR
        rw [hst] at this
        cases this
      rw [chkL, if_pos hkn]
      have hz : ¬ ((m :: rest).headD 0 &&& topsW o.1 (kindI ks o.2) = 0) := h0
      rw [if_neg hz]
      exact chkL_ok ks c (i + 1) _ _ _ (s2 h0) ⟨_, hR, hst⟩ (step_valid hv ht) hd
    · cases hd
theorem chkE_ok {ks h : List Int} {c : List (Int × Int)} (hv : validH ks h = true) (hd : (doL ks c h).isSome = true) (hc : c.length ≤ 8) : chkE ks (h.headD 0) c = (0, 0) := by
  obtain ⟨vt, vl⟩ := valid_top hv
  have hr := tN_range h.length
  unfold chkE
  rw [if_neg (by rw [vt]; omega), if_neg (by omega), vt]
  exact chkL_ok ks c 0 _ _ h (sim_start hr) ⟨vl, rfl⟩ hv hd
end Go.Proofs.YtlcpbfklnjlgnaaGreatDoor

namespace Go.Proofs.YtlcpbfklnjlgnaaGreatDoor
open Go.RowKit Go.Extern.Stop Go.Stop Go.Extern

def wordB (k : Int) : ByteArray := if k = 1 then ⟨#[105, 112]⟩ else if k = 2 then ⟨#[115, 109, 112, 108, 115]⟩ else if k = 3 then ⟨#[109, 112, 108, 115]⟩ else ⟨#[]⟩
theorem wordB_none {k : Int} (h1 : k ≠ 1) (h2 : k ≠ 2) (h3 : k ≠ 3) : wordB k = ⟨#[]⟩ := by unfold wordB; rw [if_neg h1, if_neg h2, if_neg h3]
theorem word_any (k : Int) (w : World) : Calls Tryz.prog 78 #[.int .i64 k] w fun e w' => e = .returned (.string (wordB k)) ∧ w' = w := by
  by_cases h1 : k = 1
  · subst h1
    go_enter Tryz.func78, Tryz.ntmps78
    go_wp2
    go_ret
    exact ⟨rfl, rfl⟩
  by_cases h2 : k = 2
  · subst h2
    go_enter Tryz.func78, Tryz.ntmps78
    go_wp2
    go_ret
    exact ⟨rfl, rfl⟩
  by_cases h3 : k = 3
  · subst h3
    go_enter Tryz.func78, Tryz.ntmps78
    go_wp2
    go_ret
    exact ⟨rfl, rfl⟩
  rw [wordB_none h1 h2 h3]
  have e1 : (k == 1) = false := by simpa using h1
  have e2 : (k == 2) = false := by simpa using h2
  have e3 : (k == 3) = false := by simpa using h3
  clear h1 h2 h3
  go_enter Tryz.func78, Tryz.ntmps78
  go_wp2
  go_ret
  exact ⟨rfl, rfl⟩

theorem kindI_at {ks : List Int} {j : Nat} {x : Int} (hx : ks[j]? = some x) : kindI ks (j : Int) = if 1 ≤ x ∧ x ≤ 3 then x else 0 := by
  have hj := (List.getElem?_eq_some_iff.1 hx).1
  unfold kindI
  rw [if_pos (by omega), Int.toNat_natCast, List.getD_eq_getElem?_getD, hx, Option.getD_some]
set_option maxHeartbeats 1000000 in
theorem kind_any (ks : List Int) (v : Value) (i : Int) (w : World) (hv : IntsAt w v ks) :
    Calls Tryz.prog 46 #[v, .int .i64 i] w fun e w' => e = .returned (.int .i64 (kindI ks i)) ∧ w' = w := by
  obtain ⟨a, cap, rfl⟩ := hv.form
  by_cases h0 : i < 0
  · have e : kindI ks i = 0 := by unfold kindI; rw [if_neg (by omega)]
    rw [e]
    clear hv e
    go_enter Tryz.func46, Tryz.ntmps46
    go_wp2
    go_ret
    exact ⟨rfl, rfl⟩
  obtain ⟨j, rfl⟩ : ∃ j : Nat, i = j := ⟨i.toNat, by omega⟩
  by_cases h1 : ks.length ≤ j
  · have e : kindI ks (j : Int) = 0 := by unfold kindI; rw [if_neg (by omega)]
    rw [e]
    have hc : (ks.length : Int) ≤ j := by omega
    clear hv e
    go_enter Tryz.func46, Tryz.ntmps46
    go_wp2
    go_ret
    exact ⟨rfl, rfl⟩
  obtain ⟨x, hx⟩ : ∃ x, ks[j]? = some x := ⟨_, List.getElem?_eq_getElem (by omega)⟩
  obtain ⟨b, off, rfl, hcell⟩ := hv.at hx (Below.refl w.heap.size w)
  rw [kindI_at hx]
  have hj : (j : Int) < ks.length := by omega
  have HW := Lib.hid (word_any x w)
  clear hv hx
  by_cases g1 : x = 1
  · subst g1
    rw [show wordB 1 = ⟨#[105, 112]⟩ from rfl] at HW
    go_enter Tryz.func46, Tryz.ntmps46
    go_wp2_with (go_at_call 78; refine HW.out.mono ?_; rintro e w' ⟨rfl, rfl⟩)
    go_ret
    exact ⟨rfl, rfl⟩
  by_cases g2 : x = 2
  · subst g2
    rw [show wordB 2 = ⟨#[115, 109, 112, 108, 115]⟩ from rfl] at HW
    go_enter Tryz.func46, Tryz.ntmps46
    go_wp2_with (go_at_call 78; refine HW.out.mono ?_; rintro e w' ⟨rfl, rfl⟩)
    go_ret
    exact ⟨rfl, rfl⟩
  by_cases g3 : x = 3
  · subst g3
    rw [show wordB 3 = ⟨#[109, 112, 108, 115]⟩ from rfl] at HW
    go_enter Tryz.func46, Tryz.ntmps46
    go_wp2_with (go_at_call 78; refine HW.out.mono ?_; rintro e w' ⟨rfl, rfl⟩)
    go_ret
    exact ⟨rfl, rfl⟩
  rw [wordB_none g1 g2 g3] at HW
  rw [if_neg (by omega)]
  clear g1 g2 g3
  go_enter Tryz.func46, Tryz.ntmps46
  go_wp2_with (go_at_call 78; refine HW.out.mono ?_; rintro e w' ⟨rfl, rfl⟩)
  go_ret
  exact ⟨rfl, rfl⟩

/-- The result's block, and old memory. -/
structure RW (w0 : World) (b : Nat) (w : World) : Prop where
  res : SetAt w b 0 0
  below : Below w0.heap.size w0 w
theorem RW.step {w0 : World} {b : Nat} {w w' : World} (h : RW w0 b w) (hb : Below w.heap.size w w') : RW w0 b w' := ⟨h.res.step hb, h.below.trans (hb.mono h.below.size)⟩
theorem RW.start (w : World) : RW w w.heap.size (w.alloc (.cells #[.int .u64 0, .int .u64 0] 56)) := ⟨boxed_set w 0 0, below_new w _⟩
theorem ints_lit (w : World) (l : List Int) : IntsAt (w.alloc (.cells (encI l).toArray 3)) (.slice (some ⟨w.heap.size, 0, none⟩) l.length l.length) l := by
  refine .inr ⟨w.heap.size, 0, l.length, rfl, by simp, fun i c hi => ?_⟩
  rw [Lib.cell_of_heap (heap_alloc_new w _)]
  obtain ⟨hl, rfl⟩ := List.getElem?_eq_some_iff.1 hi
  simp [encI, hl]
theorem ofS1 : ofS [1] = (2, 0) := by decide
theorem ofS23 : ofS [2, 3] = (12, 0) := by decide
theorem belowW_u64 (k : Int) : U64 (belowW k) := by unfold belowW U64; split <;> (try split) <;> omega
set_option maxRecDepth 100000 in
set_option maxHeartbeats 2000000 in
theorem below_any (k : Int) (w : World) : Calls Tryz.prog 118 #[.int .i64 k] w fun e w' => e = .returned (setV (belowW k) 0) ∧ Below w.heap.size w w' := by
  have HI := Lib.hid (RW.start w)
  by_cases h2 : k = 2
  · subst h2
    have h1 := ints_lit (w.alloc (.cells #[.int .u64 0, .int .u64 0] 56)) [1]
    have HO := of_any [1] _ _ h1 (by simp)
    rw [ofS1, World.size_alloc] at HO
    have HB := Lib.hid (below_new (w.alloc (.cells #[.int .u64 0, .int .u64 0] 56)) (.cells (encI [1]).toArray 3))
    have HO := Lib.hid HO
    clear h1
    go_enter Tryz.func118, Tryz.ntmps118
    go_wp2_with fail
    refine HO.out.mono ?_
    rintro e w3 ⟨rfl, b3⟩
    have hI := (HI.out.step HB.out).step b3
    have r0 := hI.res.cells.1
    have r1 := hI.res.cells.2.1
    have r2 := hI.res.cells.2.2 0
    have r3 := hI.res.cells.2.2 1
    go_wp2_with fail
    refine bodyPost_ret (v := setV 2 0) (by simp [results, Tryz.f118, go_sem, r0, r1]) rfl ⟨rfl, ?_⟩
    exact (hI.below.setCell (p := ⟨w.heap.size, 0, none⟩) (Nat.le_refl _) _).setCell (p := ⟨w.heap.size, 1, none⟩) (Nat.le_refl _) _
  by_cases h3 : k = 3
  · subst h3
    have h1 := ints_lit (w.alloc (.cells #[.int .u64 0, .int .u64 0] 56)) [2, 3]
    have HO := of_any [2, 3] _ _ h1 (by simp)
    rw [ofS23, World.size_alloc] at HO
    have HB := Lib.hid (below_new (w.alloc (.cells #[.int .u64 0, .int .u64 0] 56)) (.cells (encI [2, 3]).toArray 3))
    have HO := Lib.hid HO
    clear h1
    go_enter Tryz.func118, Tryz.ntmps118
    go_wp2_with fail
    refine HO.out.mono ?_
    rintro e w3 ⟨rfl, b3⟩
    have hI := (HI.out.step HB.out).step b3
    have r0 := hI.res.cells.1
    have r1 := hI.res.cells.2.1
    have r2 := hI.res.cells.2.2 0
    have r3 := hI.res.cells.2.2 1
    go_wp2_with fail
    refine bodyPost_ret (v := setV 12 0) (by simp [results, Tryz.f118, go_sem, r0, r1]) rfl ⟨rfl, ?_⟩
    exact (hI.below.setCell (p := ⟨w.heap.size, 0, none⟩) (Nat.le_refl _) _).setCell (p := ⟨w.heap.size, 1, none⟩) (Nat.le_refl _) _
  have e : belowW k = 0 := by unfold belowW; rw [if_neg h2, if_neg h3]
  rw [e]
  have e2 : (k == 2) = false := by simpa using h2
  have e3 : (k == 3) = false := by simpa using h3
  have hI := HI.out
  have r0 := hI.res.cells.1
  have r1 := hI.res.cells.2.1
  have r2 := hI.res.cells.2.2 0
  have r3 := hI.res.cells.2.2 1
  clear h2 h3 e
  go_enter Tryz.func118, Tryz.ntmps118
  go_wp2_with fail
  refine bodyPost_ret (v := setV 0 0) (by simp [results, Tryz.f118, go_sem, r0, r1]) rfl ⟨rfl, ?_⟩
  exact hI.below
set_option maxRecDepth 100000 in
set_option maxHeartbeats 1000000 in
theorem onto_any (k : Int) (w : World) : Calls Tryz.prog 119 #[.int .i64 k] w fun e w' => e = .returned (setV (belowW k) 0) ∧ Below w.heap.size w w' := by
  have HI := Lib.hid (RW.start w)
  have HO := Lib.hid (below_any k (w.alloc (.cells #[.int .u64 0, .int .u64 0] 56)))
  generalize belowW k = b at *
  go_enter Tryz.func119, Tryz.ntmps119
  go_wp2_with fail
  refine HO.out.mono ?_
  rintro e w3 ⟨rfl, b3⟩
  have hI := HI.out.step b3
  have r0 := hI.res.cells.1
  have r1 := hI.res.cells.2.1
  have r2 := hI.res.cells.2.2 0
  have r3 := hI.res.cells.2.2 1
  go_wp2_with fail
  refine bodyPost_ret (v := setV b 0) (by simp [results, Tryz.f119, go_sem, r0, r1]) rfl ⟨rfl, ?_⟩
  exact (hI.below.setCell (p := ⟨w.heap.size, 0, none⟩) (Nat.le_refl _) _).setCell (p := ⟨w.heap.size, 1, none⟩) (Nat.le_refl _) _
/-- Who is among those below one. -/
theorem has_below (a b : Int) : hasI (belowW a) 0 b = mayB a b := by
  have h2 : ∀ j, hasB 2 0 j = decide (j = 1) := fun j => by
    have e : (2 : Nat) = 2 ^ 1 := rfl
    unfold hasB
    rw [e, Nat.testBit_two_pow]
    split
    · exact Bool.eq_iff_iff.2 (by simp; omega)
    · simp; omega
  have h12 : ∀ j, hasB 12 0 j = (decide (j = 2) || decide (j = 3)) := fun j => by
    have e : (12 : Nat) = 2 ^ 2 ||| 2 ^ 3 := rfl
    unfold hasB
    rw [e, Nat.testBit_or, Nat.testBit_two_pow, Nat.testBit_two_pow]
    split
    · exact Bool.eq_iff_iff.2 (by simp; omega)
    · simp; omega
  have h0 : ∀ j, hasB 0 0 j = false := fun j => by unfold hasB; simp
  unfold hasI belowW mayB
  by_cases a2 : a = 2
  · rw [if_pos a2, h2]
    exact Bool.eq_iff_iff.2 (by simp; omega)
  · rw [if_neg a2]
    by_cases a3 : a = 3
    · rw [if_pos a3, h12]
      exact Bool.eq_iff_iff.2 (by simp; omega)
    · rw [if_neg a3, h0]
      simp [a2, a3]
end Go.Proofs.YtlcpbfklnjlgnaaGreatDoor

namespace Go.Proofs.YtlcpbfklnjlgnaaGreatDoor
open Go.RowKit Go.Extern.Stop Go.Stop Go.Extern

theorem drop_two {h : List Int} {i : Nat} {x y : Int} (hx : h[i]? = some x) (hy : h[i + 1]? = some y) (ks : List Int) :
    validP ((h.drop i).map (kindI ks)) = (mayB (kindI ks x) (kindI ks y) && validP ((h.drop (i + 1)).map (kindI ks))) := by
  obtain ⟨h1, rfl⟩ := List.getElem?_eq_some_iff.1 hx
  obtain ⟨h2, rfl⟩ := List.getElem?_eq_some_iff.1 hy
  rw [List.drop_eq_getElem_cons h1, List.drop_eq_getElem_cons h2]
  rfl
theorem drop_last {h : List Int} {i : Nat} {x : Int} (hx : h[i]? = some x) (hl : h.length = i + 1) (ks : List Int) :
    validP ((h.drop i).map (kindI ks)) = decide (kindI ks x = 1) := by
  obtain ⟨h1, rfl⟩ := List.getElem?_eq_some_iff.1 hx
  rw [List.drop_eq_getElem_cons h1, List.drop_eq_nil_of_le (by omega)]
  rfl
/-- A label's kind, by name. -/
def KV (ks : List Int) (z k : Int) : Prop := kindI ks z = k
theorem kind_kv (ks : List Int) (v : Value) (z k : Int) (w : World) (hv : IntsAt w v ks) (hk : KV ks z k) : Calls Tryz.prog 46 #[v, .int .i64 z] w fun e w' => e = .returned (.int .i64 k) ∧ w' = w := by
  unfold KV at hk
  subst hk
  exact kind_any ks v z w hv
/-- On the way through a header, from its top on. -/
def VR (w : World) (ks h : List Int) (g : Nat) (v : Value) (wr : World) : Prop :=
  ∃ i : Nat, i + 1 ≤ h.length ∧ g = h.length - i ∧ v = .int .i64 i ∧ validH ks h = validP ((h.drop i).map (kindI ks)) ∧ Below w.heap.size w wr
set_option maxRecDepth 100000 in
set_option maxHeartbeats 4000000 in
theorem valid_any (ks h : List Int) (vk v : Value) (w : World) (hk : IntsAt w vk ks) (hv : IntsAt w v h) (lh : h.length ≤ 1000000) :
    Calls Tryz.prog 84 #[vk, v] w fun e w' => e = .returned (.bool (validH ks h)) ∧ Below w.heap.size w w' := by
  obtain ⟨a, cap, rfl⟩ := hv.form
  by_cases h0 : h = []
  · subst h0
    clear hv hk
    go_enter Tryz.func84, Tryz.ntmps84
    go_wp2
    go_ret
    exact ⟨rfl, Below.refl _ _⟩
  have hpos : 0 < h.length := List.length_pos_iff.2 h0
  have e0 : ((h.length : Int) == 0) = false := by rw [beq_eq_false_iff_ne]; omega
  have HV := Lib.hid hv
  have HK := Lib.hid (fun (z k : Int) (w' : World) (hz : KV ks z k) (hb : Below w.heap.size w w') => kind_kv ks vk z k w' (hk.step hb) hz)
  have H0 : Hid (VR w ks h h.length (.int .i64 0) w) := Lib.hid ⟨0, by omega, by omega, rfl, rfl, Below.refl _ _⟩
  clear hk hv h0
  go_enter Tryz.func84, Tryz.ntmps84
  go_wp2_with fail
  go_loopg [14] h.length (fun g u wr => VR w ks h g u wr)
  case atStart => exact H0.out
  case round =>
    obtain ⟨i, hi, hgi, rfl, he, hb⟩ := hrel
    obtain ⟨x, hx⟩ : ∃ x, h[i]? = some x := ⟨_, List.getElem?_eq_getElem (by omega)⟩
    by_cases hlt : i + 1 < h.length
    · obtain ⟨y, hy⟩ : ∃ y, h[i + 1]? = some y := ⟨_, List.getElem?_eq_getElem hlt⟩
      obtain ⟨b, off, rfl, c1⟩ := HV.out.at hx hb
      obtain ⟨b', off', e', c2⟩ := HV.out.at hy hb
      injection e' with e'
      injection e' with e1 e2
      subst e1 e2
      rw [drop_two hx hy] at he
      have HE := Lib.hid he
      have hB := hb
      have HBe := Lib.hid (fun w' => below_any (kindI ks x) w')
      have HHa := Lib.hid (fun w' => has_any (belowW (kindI ks x)) 0 (kindI ks y) (belowW_u64 _) zero_u64 w')
      rw [has_below] at HHa
      obtain ⟨kx, hkx⟩ : ∃ k, KV ks x k := ⟨_, rfl⟩
      obtain ⟨ky, hky⟩ : ∃ k, KV ks y k := ⟨_, rfl⟩
      rw [show kindI ks x = kx from hkx, show kindI ks y = ky from hky] at HE
      rw [show kindI ks x = kx from hkx] at HBe
      rw [show kindI ks x = kx from hkx, show kindI ks y = ky from hky] at HHa
      generalize belowW kx = bw at *
      have HC : Hid (∀ w', Below w.heap.size w w' → w'.cell? ⟨b, off + i, none⟩ = some (.int .i64 x) ∧ w'.cell? ⟨b, off + (i + 1), none⟩ = some (.int .i64 y)) := Lib.hid (fun w' hb' => by
        obtain ⟨b1, o1, e1, d1⟩ := HV.out.at hx hb'
        obtain ⟨b2, o2, e2, d2⟩ := HV.out.at hy hb'
        injection e1 with e1
        injection e1 with e1 e1'
        injection e2 with e2
        injection e2 with e2 e2'
        subst e1 e1' e2 e2'
        exact ⟨d1, d2⟩)
      have hl : (i : Int) < (h.length : Int) - 1 := by omega
      have j0 : (0 : Int) ≤ (i : Int) := by omega
      have j1 : (i : Int) < h.length := by omega
      have j2 : (0 : Int) ≤ (i : Int) + 1 := by omega
      have j3 : (i : Int) + 1 < h.length := by omega
      have j4 : IntKind.i64.wrap ((i : Int) + 1) = (i : Int) + 1 := IntWalk.i64_in _ (by omega)
      have j5 : ((i : Int) + 1).toNat = i + 1 := by omega
      clear he hx hy hb
      cases hm : mayB kx ky with
      | true =>
        rw [hm] at HE HHa
        clear hm
        go_wp2_with fail
        replace hB := hB.drew
        go_region_held3 (fun w' => w'.cell? ⟨b, off + i, none⟩ = some (.int .i64 x) ∧ w'.cell? ⟨b, off + (i + 1), none⟩ = some (.int .i64 y))
          (first | exact ⟨c1, c2⟩ | exact HC.out _ hB | go_keep)
          (first
          | (go_at_call 46; refine (HK.out _ _ _ (by assumption) hB).mono ?_; rintro e w2 ⟨rfl, rfl⟩)
          | (go_at_call 118; refine (HBe.out _).mono ?_; rintro e w2 ⟨rfl, b2⟩; replace hB := hB.trans (b2.mono hB.size))
          | (go_at_call 34; refine (HHa.out _).mono ?_; rintro e w2 ⟨rfl, b2⟩; replace hB := hB.trans (b2.mono hB.size)))
        all_goals
          go_wp2_with fail
          go_roundg (h.length - (i + 1))
          case measure => omega
          case rel => exact ⟨i + 1, by omega, rfl, by go_num, by rw [HE.out]; rfl, hB⟩
      | false =>
        rw [hm] at HE HHa
        clear hm
        go_wp2_with fail
        replace hB := hB.drew
        go_region_held3 (fun w' => w'.cell? ⟨b, off + i, none⟩ = some (.int .i64 x) ∧ w'.cell? ⟨b, off + (i + 1), none⟩ = some (.int .i64 y))
          (first | exact ⟨c1, c2⟩ | exact HC.out _ hB | go_keep)
          (first
          | (go_at_call 46; refine (HK.out _ _ _ (by assumption) hB).mono ?_; rintro e w2 ⟨rfl, rfl⟩)
          | (go_at_call 118; refine (HBe.out _).mono ?_; rintro e w2 ⟨rfl, b2⟩; replace hB := hB.trans (b2.mono hB.size))
          | (go_at_call 34; refine (HHa.out _).mono ?_; rintro e w2 ⟨rfl, b2⟩; replace hB := hB.trans (b2.mono hB.size)))
        all_goals
          go_wp2_with fail
          go_ret
          exact ⟨by rw [HE.out]; rfl, hB⟩
    · obtain ⟨b, off, rfl, c1⟩ := HV.out.at hx hb
      have hl : ¬ ((i : Int) < (h.length : Int) - 1) := by omega
      have hn : (h.length : Int) - 1 = (i : Int) := by omega
      rw [drop_last hx (by omega)] at he
      have HE := Lib.hid he
      obtain ⟨kx, hkx⟩ : ∃ k, KV ks x k := ⟨_, rfl⟩
      rw [show kindI ks x = kx from hkx] at HE
      have HB := Lib.hid hb
      clear he hx hb hlt
      go_wp2_with fail
      refine (HK.out _ _ _ (by assumption) HB.out).mono ?_
      rintro e w2 ⟨rfl, rfl⟩
      go_wp2_with fail
      go_ret
      exact ⟨by rw [HE.out]; rfl, HB.out⟩

/-! ### The document's own -/
set_option maxHeartbeats 1000000 in
theorem rkind_any (ks : List Int) (v : Value) (i : Int) (w : World) (hv : IntsAt w v ks) :
    Calls Tryz.prog 20 #[v, .int .i64 i] w fun e w' => e = .returned (.int .i64 (kindI ks i)) ∧ w' = w := by
  obtain ⟨a, cap, rfl⟩ := hv.form
  by_cases h0 : i < 0
  · have e : kindI ks i = 0 := by unfold kindI; rw [if_neg (by omega)]
    rw [e]
    clear hv e
    go_enter Tryz.func20, Tryz.ntmps20
    go_wp2
    go_ret
    exact ⟨rfl, rfl⟩
  obtain ⟨j, rfl⟩ : ∃ j : Nat, i = j := ⟨i.toNat, by omega⟩
  by_cases h1 : ks.length ≤ j
  · have e : kindI ks (j : Int) = 0 := by unfold kindI; rw [if_neg (by omega)]
    rw [e]
    have hc : (ks.length : Int) ≤ j := by omega
    clear hv e
    go_enter Tryz.func20, Tryz.ntmps20
    go_wp2
    go_ret
    exact ⟨rfl, rfl⟩
  obtain ⟨x, hx⟩ : ∃ x, ks[j]? = some x := ⟨_, List.getElem?_eq_getElem (by omega)⟩
  obtain ⟨b, off, rfl, hcell⟩ := hv.at hx (Below.refl w.heap.size w)
  rw [kindI_at hx]
  have hj : (j : Int) < ks.length := by omega
  clear hv hx
  by_cases g1 : x < 1
  · rw [if_neg (by omega)]
    go_enter Tryz.func20, Tryz.ntmps20
    go_wp2
    go_ret
    exact ⟨rfl, rfl⟩
  by_cases g3 : 3 < x
  · rw [if_neg (by omega)]
    go_enter Tryz.func20, Tryz.ntmps20
    go_wp2
    go_ret
    exact ⟨rfl, rfl⟩
  rw [if_pos (by omega)]
  go_enter Tryz.func20, Tryz.ntmps20
  go_wp2
  go_ret
  exact ⟨rfl, rfl⟩
end Go.Proofs.YtlcpbfklnjlgnaaGreatDoor

namespace Go.Proofs.YtlcpbfklnjlgnaaGreatDoor
open Go.RowKit Go.Extern.Stop Go.Stop Go.Extern

theorem map_at {ks h : List Int} {i : Nat} {x : Int} (hx : h[i]? = some x) : (h.map (kindI ks)).getD i 0 = kindI ks x := by
  rw [List.getD_eq_getElem?_getD, List.getElem?_map, hx]; rfl
theorem validH_iff (ks h : List Int) : validH ks h = true ↔ (0 < h.length ∧ (∀ x, h[h.length - 1]? = some x → kindI ks x = 1) ∧ (1 < h.length → ∀ x, h[h.length - 2]? = some x → kindI ks x = 2) ∧ ∀ i, i < h.length - 2 → ∀ x, h[i]? = some x → kindI ks x = 3) := by
  unfold validH
  rw [validP_ref, List.length_map]
  constructor
  · rintro ⟨h0, h1, h2, h3⟩
    refine ⟨h0, fun x hx => ?_, fun hl x hx => ?_, fun i hi x hx => ?_⟩
    · rw [map_at hx] at h1; exact h1
    · have := h2 hl; rw [map_at hx] at this; exact this
    · have := h3 i hi; rw [map_at hx] at this; exact this
  · rintro ⟨h0, h1, h2, h3⟩
    have ex : ∀ i, i < h.length → ∃ x, h[i]? = some x := fun i hi => ⟨_, List.getElem?_eq_getElem hi⟩
    refine ⟨h0, ?_, fun hl => ?_, fun i hi => ?_⟩
    · obtain ⟨x, hx⟩ := ex (h.length - 1) (by omega)
      rw [map_at hx]; exact h1 x hx
    · obtain ⟨x, hx⟩ := ex (h.length - 2) (by omega)
      rw [map_at hx]; exact h2 hl x hx
    · obtain ⟨x, hx⟩ := ex i (by omega)
      rw [map_at hx]; exact h3 i hi x hx
theorem rkind_kv (ks : List Int) (v : Value) (z k : Int) (w : World) (hv : IntsAt w v ks) (hk : KV ks z k) : Calls Tryz.prog 20 #[v, .int .i64 z] w fun e w' => e = .returned (.int .i64 k) ∧ w = w' := by
  unfold KV at hk
  subst hk
  exact (rkind_any ks v z w hv).mono fun _ _ h => ⟨h.1, h.2.symm⟩
set_option maxRecDepth 100000 in
set_option maxHeartbeats 4000000 in
theorem rvalid_any (ks h : List Int) (vk v : Value) (w : World) (hk : IntsAt w vk ks) (hv : IntsAt w v h) (lh : h.length ≤ 1000000) :
    Calls Tryz.prog 112 #[vk, v] w fun e w' => e = .returned (.bool (validH ks h)) ∧ w' = w := by
  obtain ⟨a, cap, rfl⟩ := hv.form
  by_cases h0 : h.length = 0
  · obtain rfl : h = [] := List.eq_nil_of_length_eq_zero h0
    clear hv hk
    go_enter Tryz.func112, Tryz.ntmps112
    go_wp2
    go_ret
    exact ⟨rfl, rfl⟩
  have HI := Lib.hid (validH_iff ks h)
  have HK := Lib.hid (fun (z k : Int) (hz : KV ks z k) => rkind_kv ks vk z k w hk hz)
  obtain ⟨m, hm⟩ : ∃ m, h.length = m + 1 := ⟨h.length - 1, by omega⟩
  obtain ⟨x, hx⟩ : ∃ x, h[m]? = some x := ⟨_, List.getElem?_eq_getElem (by omega)⟩
  obtain ⟨b, off, rfl, c1⟩ := hv.at hx (Below.refl w.heap.size w)
  have e0 : ((h.length : Int) == 0) = false := by rw [beq_eq_false_iff_ne]; omega
  have hn : (h.length : Int) - 1 = (m : Int) := by omega
  have j1 : (m : Int) < h.length := by omega
  obtain ⟨kx, hkx⟩ : ∃ k, KV ks x k := ⟨_, rfl⟩
  have HM := Lib.hid hm
  have HX := Lib.hid hx
  have HV := Lib.hid hv
  clear hk hv h0 hm hx
  by_cases g1 : kx = 1
  · subst g1
    have hlast : Hid (∀ z, h[h.length - 1]? = some z → kindI ks z = 1) := Lib.hid (fun z hz => by
      have := HM.out
      rw [show h.length - 1 = m by omega, HX.out] at hz
      injection hz with hz
      rw [← hz]; exact hkx)
    by_cases hl : h.length = 1
    · have q1 : ¬ (1 : Int) < h.length := by omega
      have q2 : ¬ (0 : Int) < (h.length : Int) - 2 := by omega
      have hT : Hid (validH ks h = true) := Lib.hid (HI.out.2 ⟨by omega, hlast.out, fun h => by omega, fun i hi => by omega⟩)
      obtain rfl : m = 0 := by have := HM.out; omega
      have c0 : w.cell? ⟨b, off, none⟩ = some (.int .i64 x) := c1
      have hn0 : (h.length : Int) - 1 = 0 := by omega
      have j0 : (0 : Int) < h.length := by omega
      clear hl c1 hn j1
      go_enter Tryz.func112, Tryz.ntmps112
      go_wp2_with (go_at_call 20; refine (HK.out _ _ (by assumption)).mono ?_; rintro e w' ⟨rfl, rfl⟩)
      refine wp_loop_rounds 1 ?_
      rw [rounds_succ]
      go_wp2
      go_ret
      exact ⟨by rw [hT.out]; rfl, rfl⟩
    · obtain ⟨m', rfl⟩ : ∃ m', m = m' + 1 := ⟨m - 1, by have := HM.out; omega⟩
      obtain ⟨y, hy⟩ : ∃ y, h[m']? = some y := ⟨_, List.getElem?_eq_getElem (by have := HM.out; omega)⟩
      have c2 : w.cell? ⟨b, off + m', none⟩ = some (.int .i64 y) := by
        obtain ⟨b2, o2, e2, d2⟩ := HV.out.at hy (Below.refl w.heap.size w)
        injection e2 with e2
        injection e2 with e2 e2'
        subst e2 e2'
        exact d2
      have hn2 : (h.length : Int) - 2 = (m' : Int) := by omega
      have q1 : (1 : Int) < h.length := by omega
      have j2 : (m' : Int) < h.length := by omega
      obtain ⟨ky, hky⟩ : ∃ k, KV ks y k := ⟨_, rfl⟩
      have HY := Lib.hid hy
      have HL : Hid (h.length - 2 = m') := Lib.hid (by have := HM.out; omega)
      clear hl hy
      by_cases g2 : ky = 2
      · subst g2
        go_enter Tryz.func112, Tryz.ntmps112
        go_wp2_with (go_at_call 20; refine (HK.out _ _ (by assumption)).mono ?_; rintro e w' ⟨rfl, rfl⟩)
        go_loop [6] (fun u => ∃ k : Nat, k ≤ m' ∧ u = .int .i64 k ∧ Hid (∀ i, i < k → ∀ z, h[i]? = some z → kindI ks z = 3)) (fun u => h.length - (intOf u).toNat)
        case atStart => exact ⟨0, Nat.zero_le _, rfl, Lib.hid (fun i hi => by omega)⟩
        case round =>
          obtain ⟨k, hk, rfl, hall⟩ := hrel
          by_cases hlt : k < m'
          · obtain ⟨z, hz⟩ : ∃ z, h[k]? = some z := ⟨_, List.getElem?_eq_getElem (by have := HM.out; omega)⟩
            have c3 : w.cell? ⟨b, off + k, none⟩ = some (.int .i64 z) := by
              obtain ⟨b2, o2, e2, d2⟩ := HV.out.at hz (Below.refl w.heap.size w)
              injection e2 with e2
              injection e2 with e2 e2'
              subst e2 e2'
              exact d2
            obtain ⟨kz, hkz⟩ : ∃ k, KV ks z k := ⟨_, rfl⟩
            have HZ := Lib.hid hz
            have j3 : (k : Int) < h.length := by omega
            clear hz
            by_cases g3 : kz = 3
            · subst g3
              have hnew : Hid (∀ i, i < k + 1 → ∀ u, h[i]? = some u → kindI ks u = 3) := Lib.hid (fun i hi u hu => by
                by_cases hik : i = k
                · subst hik
                  rw [HZ.out] at hu
                  injection hu with hu
                  rw [← hu]; exact hkz
                · exact hall.out i (by omega) u hu)
              clear hall
              go_wp2_with (go_at_call 20; refine (HK.out _ _ (by assumption)).mono ?_; rintro e w' ⟨rfl, rfl⟩)
              go_round
              case rel => exact ⟨k + 1, by omega, by go_num, hnew⟩
              case measure => simp [intOf]; omega
            · have q3 : (kz != 3) = true := by simpa using g3
              have q4 : (kz == 3) = false := by simpa using g3
              have hF : Hid (validH ks h = false) := Lib.hid (by
                cases hc : validH ks h
                · rfl
                · exact absurd ((HI.out.1 hc).2.2.2 k (by have := HL.out; omega) z HZ.out) (by rw [show kindI ks z = kz from hkz]; exact g3))
              clear hall g3
              go_wp2_with (go_at_call 20; refine (HK.out _ _ (by assumption)).mono ?_; rintro e w' ⟨rfl, rfl⟩)
              go_ret
              exact ⟨by rw [hF.out]; rfl, rfl⟩
          · obtain rfl : k = m' := by omega
            have hT : Hid (validH ks h = true) := Lib.hid (HI.out.2 ⟨by omega, hlast.out, fun _ u hu => by
              rw [HL.out, HY.out] at hu
              injection hu with hu
              rw [← hu]; exact hky, fun i hi => hall.out i (by have := HL.out; omega)⟩)
            clear hall
            go_wp2
            go_ret
            exact ⟨by rw [hT.out]; rfl, rfl⟩
      · have q3 : (ky != 2) = true := by simpa using g2
        have q4 : (ky == 2) = false := by simpa using g2
        have hF : Hid (validH ks h = false) := Lib.hid (by
          cases hc : validH ks h
          · rfl
          · exact absurd ((HI.out.1 hc).2.2.1 (by omega) y (by rw [HL.out]; exact HY.out)) (by rw [show kindI ks y = ky from hky]; exact g2))
        clear g2
        go_enter Tryz.func112, Tryz.ntmps112
        go_wp2_with (go_at_call 20; refine (HK.out _ _ (by assumption)).mono ?_; rintro e w' ⟨rfl, rfl⟩)
        go_ret
        exact ⟨by rw [hF.out]; rfl, rfl⟩
  · have q3 : (kx != 1) = true := by simpa using g1
    have q4 : (kx == 1) = false := by simpa using g1
    have hF : Hid (validH ks h = false) := Lib.hid (by
      cases hc : validH ks h
      · rfl
      · exact absurd ((HI.out.1 hc).2.1 x (by rw [show h.length - 1 = m by have := HM.out; omega]; exact HX.out)) (by rw [show kindI ks x = kx from hkx]; exact g1))
    clear g1
    go_enter Tryz.func112, Tryz.ntmps112
    go_wp2_with (go_at_call 20; refine (HK.out _ _ (by assumption)).mono ?_; rintro e w' ⟨rfl, rfl⟩)
    go_ret
    exact ⟨by rw [hF.out]; rfl, rfl⟩
end Go.Proofs.YtlcpbfklnjlgnaaGreatDoor

namespace Go.Proofs.YtlcpbfklnjlgnaaGreatDoor
open Go.RowKit Go.Extern.Stop Go.Stop Go.Extern

theorem Awake7_any (w : World) (ht : TabB w) : Calls Tryz.prog 64 #[] w fun e w' => e = .returned (.bool true) ∧ Below w.heap.size w w' := by
  have HA := Lib.hid (awake7_any w ht)
  clear ht
  go_enter Tryz.func64, Tryz.ntmps64
  go_wp2_with fail
  refine HA.out.mono ?_
  rintro e w' ⟨rfl, hb⟩
  go_wp2_with fail
  go_ret
  exact ⟨rfl, hb⟩
theorem ints3 (w : World) (x y z : Int) : IntsAt (w.alloc (.cells #[.int .i64 x, .int .i64 y, .int .i64 z] 3)) (.slice (some ⟨w.heap.size, 0, none⟩) 3 3) [x, y, z] := by simpa [encI] using ints_lit w [x, y, z]
theorem ints2 (w : World) (x y : Int) : IntsAt (w.alloc (.cells #[.int .i64 x, .int .i64 y] 3)) (.slice (some ⟨w.heap.size, 0, none⟩) 2 2) [x, y] := by simpa [encI] using ints_lit w [x, y]
set_option maxRecDepth 100000 in
set_option maxHeartbeats 2000000 in
theorem awake9_any (w : World) (ht : TabB w) : Calls Tryz.prog 90 #[] w fun e w' => e = .returned (.bool true) ∧ Below w.heap.size w w' := by
  have hI := ints3 w 1 2 3
  have hB := below_new w (.cells #[.int .i64 1, .int .i64 2, .int .i64 3] 3)
  have HA := Lib.hid (Awake7_any _ (ht.below ht.lt hB))
  have HI := Lib.hid hI
  have HB := Lib.hid hB
  clear hI hB ht
  go_enter Tryz.func90, Tryz.ntmps90
  go_wp2_with fail
  refine HA.out.mono ?_
  rintro e w1 ⟨rfl, b1⟩
  have HI1 := Lib.hid (HI.out.step b1)
  have HB1 := Lib.hid (HB.out.trans (b1.mono HB.out.size))
  clear b1 HI HB HA
  have hs := World.size_alloc w (.cells #[.int .i64 1, .int .i64 2, .int .i64 3] 3)
  have hJ := ints3 w1 2 1 0
  have hb := below_new w1 (.cells #[.int .i64 2, .int .i64 1, .int .i64 0] 3)
  have HV := Lib.hid (valid_any [1, 2, 3] [2, 1, 0] _ _ _ (HI1.out.step hb) hJ (by decide))
  rw [show validH [1, 2, 3] [2, 1, 0] = true by decide] at HV
  have HI2 := Lib.hid (HI1.out.step hb)
  have HB2 := Lib.hid (HB1.out.trans (hb.mono HB1.out.size))
  clear hJ hb HI1 HB1 hs
  go_wp2_with fail
  refine HV.out.mono ?_
  rintro e w2 ⟨rfl, b2⟩
  have HI3 := Lib.hid (HI2.out.step b2)
  have HB3 := Lib.hid (HB2.out.trans (b2.mono HB2.out.size))
  clear b2 HI2 HB2 HV
  have hJ := ints2 w2 2 0
  have hb := below_new w2 (.cells #[.int .i64 2, .int .i64 0] 3)
  have HV := Lib.hid (valid_any [1, 2, 3] [2, 0] _ _ _ (HI3.out.step hb) hJ (by decide))
  rw [show validH [1, 2, 3] [2, 0] = false by decide] at HV
  have HB4 := Lib.hid (HB3.out.trans (hb.mono HB3.out.size))
  clear hJ hb HI3 HB3
  go_wp2_with fail
  refine HV.out.mono ?_
  rintro e w3 ⟨rfl, b3⟩
  have HB5 := Lib.hid (HB4.out.trans (b3.mono HB4.out.size))
  clear b3 HB4 HV
  have HW := Lib.hid (word_any 3 w3)
  rw [show wordB 3 = ⟨#[109, 112, 108, 115]⟩ from rfl] at HW
  go_wp2_with fail
  refine HW.out.mono ?_
  rintro e w4 ⟨rfl, rfl⟩
  go_wp2_with fail
  go_ret
  exact ⟨rfl, HB5.out⟩

/-- What is left of a row behind a cut. -/
theorem IntsAt.cut {w : World} {b off cap : Nat} {l : List Int} {n : Nat} (h : IntsAt w (.slice (some ⟨b, off, none⟩) l.length cap) l) (hn : n < l.length) : IntsAt w (.slice (some ⟨b, off + n, none⟩) (l.length - n) (cap - n)) (l.drop n) := by
  rcases h with ⟨a, cp, -, rfl⟩ | ⟨b', off', cp, e, hlt, hc⟩
  · simp at hn
  · injection e with e
    injection e with e
    injection e with e1 e2
    subst e1 e2
    refine .inr ⟨b, off + n, cap - n, by rw [List.length_drop], hlt, fun i c hi => ?_⟩
    rw [List.getElem?_drop] at hi
    rw [Nat.add_assoc]
    exact hc _ _ hi
theorem validH_drop {ks h : List Int} (hv : validH ks h = true) {n : Nat} (hn : n < h.length) : validH ks (h.drop n) = true := by
  unfold validH at hv ⊢
  rw [List.map_drop]
  exact validP_drop n _ hv (by simpa using hn)
end Go.Proofs.YtlcpbfklnjlgnaaGreatDoor
