/-
  Layer 10, plain: chains done to headers; what is known of tops while a chain is done to a header that isn't known; the document's own way to say it. No program in it.
-/
import Derived.Test.YtjlbdjagbbpoaaaDoorHdA
namespace Go.Proofs.YtjlbdjagbbpoaaaDoor
open Go

/-! ### Ops, plain -/
/-- Can an op of a kind, with a label of a kind, be done to a header whose top has a kind? -/
def topsB (o lk t : Int) : Bool := if o = 1 then decide (t = 2) || decide (t = 3) else if o = 2 then decide (t = lk) else if o = 3 then mayB lk t else false
def stepL (o lab : Int) (h : List Int) : List Int := if o = 1 then h.tail else if o = 2 then lab :: h.tail else lab :: h
/-- A chain done to a header that may be. -/
def doL (ks : List Int) : List (Int × Int) → List Int → Option (List Int)
  | [], h => some h
  | o :: r, h => if topsB o.1 (kindI ks o.2) (kindI ks (h.headD 0)) then doL ks r (stepL o.1 o.2 h) else none
def validH (ks h : List Int) : Bool := validP (h.map (kindI ks))
def doO (ks h : List Int) (c : List (Int × Int)) : Option (List Int) := if validH ks h then doL ks c h else none
theorem validH_ne {ks h : List Int} (hv : validH ks h = true) : ∃ a t, h = a :: t := by
  cases h with
  | nil => simp [validH, validP] at hv
  | cons a t => exact ⟨a, t, rfl⟩
theorem validP_top {a : Int} {l : List Int} (h : validP (a :: l) = true) : 1 ≤ a ∧ a ≤ 3 ∧ ((a = 2 ∨ a = 3) ↔ l ≠ []) := by
  cases l with
  | nil => simp [validP] at h; subst h; simp
  | cons b r =>
    rw [validP, Bool.and_eq_true] at h
    have := h.1
    simp [mayB] at this
    have e : (a = 2 ∨ a = 3) := by omega
    exact ⟨by omega, by omega, fun _ => by simp, fun _ => e⟩
theorem step_ref {ks h : List Int} {o lab : Int} (hv : validH ks h = true) (ho : o = 1 ∨ o = 2 ∨ o = 3) (h2 : o = 2 → kindI ks (h.headD 0) = kindI ks lab) :
    validH ks (stepL o lab h) = topsB o (kindI ks lab) (kindI ks (h.headD 0)) := by
  obtain ⟨a, t, rfl⟩ := validH_ne hv
  unfold validH at hv ⊢
  rw [List.map_cons] at hv
  obtain ⟨t1, t2, t3⟩ := validP_top hv
  simp only [List.headD_cons] at h2 ⊢
  rcases ho with rfl | rfl | rfl
  · simp only [stepL, if_pos, List.tail_cons, topsB]
    by_cases ht : t = []
    · subst ht
      have : ¬ (kindI ks a = 2 ∨ kindI ks a = 3) := fun h => (t3.1 h) rfl
      simp [validP]
      omega
    · have : (kindI ks a = 2 ∨ kindI ks a = 3) := t3.2 (by simpa using ht)
      rw [validP_cons hv (by simpa using ht)]
      symm
      simpa using this
  · have h2 := h2 rfl
    simp only [stepL, topsB, List.tail_cons, List.map_cons, if_pos, if_neg (show ¬ ((2 : Int) = 1) by decide)]
    rw [← h2, hv]
    simp
  · simp only [stepL, topsB, List.map_cons, if_pos, if_neg (show ¬ ((3 : Int) = 1) by decide), if_neg (show ¬ ((3 : Int) = 2) by decide)]
    rw [validP, hv, Bool.and_true]
theorem topsB_kind {o lk t : Int} (h : topsB o lk t = true) : o = 1 ∨ o = 2 ∨ o = 3 := by
  unfold topsB at h
  split at h
  · omega
  · split at h
    · omega
    · split at h
      · omega
      · cases h
theorem topsB_swap {lk t : Int} (h : topsB 2 lk t = true) : t = lk := by simpa [topsB] using h
theorem step_valid {ks h : List Int} {o lab : Int} (hv : validH ks h = true) (ht : topsB o (kindI ks lab) (kindI ks (h.headD 0)) = true) : validH ks (stepL o lab h) = true := by
  rw [step_ref hv (topsB_kind ht) (fun e => by subst e; exact topsB_swap ht), ht]
theorem doL_valid {ks : List Int} : ∀ {c : List (Int × Int)} {h x : List Int}, validH ks h = true → doL ks c h = some x → validH ks x = true
  | [], h, x, hv, e => by injection e with e; rw [← e]; exact hv
  | o :: c, h, x, hv, e => by
    rw [doL] at e
    split at e
    · rename_i ht
      exact doL_valid (step_valid hv ht) e
    · cases e
theorem doL_append (ks : List Int) : ∀ (a b : List (Int × Int)) (h : List Int), doL ks (a ++ b) h = (doL ks a h).bind (doL ks b)
  | [], b, h => rfl
  | o :: a, b, h => by
    rw [List.cons_append, doL, doL]
    split
    · exact doL_append ks a b _
    · rfl
def countI (c : List (Int × Int)) (k : Int) : Nat := (c.filter fun o => decide (o.1 = k)).length
theorem countI_append (a b : List (Int × Int)) (k : Int) : countI (a ++ b) k = countI a k + countI b k := by unfold countI; rw [List.filter_append, List.length_append]
theorem countI_cons (o : Int × Int) (b : List (Int × Int)) (k : Int) : countI (o :: b) k = (if o.1 = k then 1 else 0) + countI b k := by
  unfold countI
  rw [List.filter_cons]
  by_cases h : o.1 = k <;> simp [h] <;> omega
theorem countI_le (c : List (Int × Int)) (k : Int) : countI c k ≤ c.length := List.length_filter_le _ _
theorem doL_len {ks : List Int} : ∀ {c : List (Int × Int)} {h x : List Int}, validH ks h = true → doL ks c h = some x → x.length + countI c 1 = h.length + countI c 3
  | [], h, x, hv, e => by injection e with e; rw [← e]; rfl
  | o :: c, h, x, hv, e => by
    rw [doL] at e
    split at e
    · rename_i ht
      have ih := doL_len (step_valid hv ht) e
      obtain ⟨a, t, rfl⟩ := validH_ne hv
      have hk := topsB_kind ht
      rw [countI_cons, countI_cons]
      rcases hk with hk | hk | hk <;> rw [hk] at ih ⊢ <;> simp [stepL] at ih ⊢ <;> omega
    · cases e

/-! ### By lengths alone -/
/-- The top's kind of a header that may be, by its length. -/
def tN (L : Nat) : Nat := if L ≤ 1 then 1 else if L = 2 then 2 else 3
theorem tN_range (L : Nat) : 1 ≤ tN L ∧ tN L ≤ 3 := by unfold tN; split <;> (try split) <;> omega
theorem valid_top {ks h : List Int} (hv : validH ks h = true) : kindI ks (h.headD 0) = (tN h.length : Int) ∧ 1 ≤ h.length := by
  obtain ⟨a, t, rfl⟩ := validH_ne hv
  unfold validH at hv
  rw [validP_iff] at hv
  simp only [List.headD_cons, List.length_cons]
  rcases hv with h | ⟨n, h⟩
  · have hl := congrArg List.length h
    simp at hl
    subst hl
    simp at h
    exact ⟨by rw [h]; rfl, by omega⟩
  · have hl := congrArg List.length h
    simp at hl
    cases n with
    | zero =>
      injection h with h1 h2
      rw [h1]
      exact ⟨by unfold tN; rw [if_neg (by omega), if_pos (by omega)]; rfl, by omega⟩
    | succ n =>
      rw [List.replicate_succ, List.cons_append] at h
      injection h with h1 h2
      rw [h1]
      exact ⟨by unfold tN; rw [if_neg (by omega), if_neg (by omega)]; rfl, by omega⟩
def stepN (o lk : Int) (L : Nat) : Option Nat := if topsB o lk (tN L) then some (if o = 1 then L - 1 else if o = 2 then L else L + 1) else none
def runN : List (Int × Int) → Nat → Option Nat
  | [], L => some L
  | o :: c, L => (stepN o.1 o.2 L).bind (runN c)
/-- The kind of an op's label, where it counts. -/
def opK (ks : List Int) (o : Int × Int) : Int × Int := (o.1, if o.1 = 1 then 0 else kindI ks o.2)
theorem topsB_opK (ks : List Int) (o : Int × Int) (t : Int) : topsB (opK ks o).1 (opK ks o).2 t = topsB o.1 (kindI ks o.2) t := by
  unfold opK topsB
  by_cases h : o.1 = 1 <;> simp [h]
theorem do_run {ks : List Int} : ∀ {c : List (Int × Int)} {h : List Int}, validH ks h = true → (doL ks c h).map List.length = runN (c.map (opK ks)) h.length
  | [], h, hv => rfl
  | o :: c, h, hv => by
    obtain ⟨ht, hl⟩ := valid_top hv
    rw [doL, List.map_cons, runN, stepN, topsB_opK, ← ht]
    by_cases e : topsB o.1 (kindI ks o.2) (kindI ks (h.headD 0)) = true
    · rw [if_pos e, if_pos e, do_run (step_valid hv e), Option.bind_some]
      congr 1
      obtain ⟨a, t, rfl⟩ := validH_ne hv
      rcases topsB_kind e with hk | hk | hk <;> simp [stepL, opK, hk]
    · rw [if_neg e, if_neg e]
      rfl
theorem do_some {ks h : List Int} {c : List (Int × Int)} (hv : validH ks h = true) : (doL ks c h).isSome = (runN (c.map (opK ks)) h.length).isSome := by
  rw [← do_run hv, Option.isSome_map]
theorem runN_append : ∀ (a b : List (Int × Int)) (L : Nat), runN (a ++ b) L = (runN a L).bind (runN b)
  | [], b, L => rfl
  | o :: a, b, L => by
    rw [List.cons_append, runN, runN]
    cases stepN o.1 o.2 L with
    | none => rfl
    | some M => exact runN_append a b M
/-- High headers are all alike. -/
theorem run_high : ∀ (c : List (Int × Int)) (L M : Nat), 3 + c.length ≤ L → 3 + c.length ≤ M → (runN c L).isSome = (runN c M).isSome
  | [], _, _, _, _ => rfl
  | o :: c, L, M, hL, hM => by
    simp only [List.length_cons] at hL hM
    have eL : tN L = 3 := by unfold tN; rw [if_neg (by omega), if_neg (by omega)]
    have eM : tN M = 3 := by unfold tN; rw [if_neg (by omega), if_neg (by omega)]
    rw [runN, runN, stepN, stepN, eL, eM]
    split
    · rw [Option.bind_some, Option.bind_some]
      apply run_high
      · split
        · omega
        · split <;> omega
      · split
        · omega
        · split <;> omega
    · rfl

/-! ### What is known of tops, in words of bits -/
def oneK (k : Int) : Nat := 2 ^ k.toNat
def belowW (k : Int) : Nat := if k = 2 then 2 else if k = 3 then 12 else 0
def topsW (o lk : Int) : Nat := if o = 1 then 12 else if o = 2 then oneK lk else if o = 3 then belowW lk else 0
def underW (a : Nat) : Nat := (if a.testBit 2 then 2 else 0) ||| (if a.testBit 3 then 12 else 0)
theorem topsW_lt {o lk : Int} (h : 0 ≤ lk ∧ lk ≤ 3) : topsW o lk < 16 := by
  unfold topsW oneK belowW
  have : lk = 0 ∨ lk = 1 ∨ lk = 2 ∨ lk = 3 := by omega
  rcases this with rfl | rfl | rfl | rfl <;> (split <;> (try split) <;> (try split) <;> simp)
theorem topsW_bit {o lk : Int} (h : 0 ≤ lk ∧ lk ≤ 3) {t : Nat} (ht : 1 ≤ t ∧ t ≤ 3) : (topsW o lk).testBit t = topsB o lk (t : Int) := by
  have h1 : lk = 0 ∨ lk = 1 ∨ lk = 2 ∨ lk = 3 := by omega
  have h2 : t = 1 ∨ t = 2 ∨ t = 3 := by omega
  unfold topsW topsB
  by_cases o1 : o = 1
  · rw [if_pos o1, if_pos o1]
    rcases h2 with rfl | rfl | rfl <;> decide
  · rw [if_neg o1, if_neg o1]
    by_cases o2 : o = 2
    · rw [if_pos o2, if_pos o2]
      rcases h1 with rfl | rfl | rfl | rfl <;> rcases h2 with rfl | rfl | rfl <;> decide
    · rw [if_neg o2, if_neg o2]
      by_cases o3 : o = 3
      · rw [if_pos o3, if_pos o3]
        rcases h1 with rfl | rfl | rfl | rfl <;> rcases h2 with rfl | rfl | rfl <;> decide
      · rw [if_neg o3, if_neg o3]
        simp
def knownB (ks : List Int) (o : Int × Int) : Bool := if o.1 = 1 then true else if o.1 = 2 ∨ o.1 = 3 then decide (kindI ks o.2 ≠ 0) else false
/-- As the program guesses what may stand there, the top first. -/
def guessL (o lk : Int) : List Nat → List Nat
  | [] => []
  | m :: rest => if o = 3 then oneK lk :: m :: rest else if o = 1 then (if rest = [] then [underW m] else rest) else m :: rest
def chkL (ks : List Int) : List (Int × Int) → Nat → List Nat → Int × Int
  | [], _, _ => (0, 0)
  | o :: c, i, may => if knownB ks o then (if may.headD 0 &&& topsW o.1 (kindI ks o.2) = 0 then (9, (i : Int)) else chkL ks c (i + 1) (guessL o.1 (kindI ks o.2) ((may.headD 0 &&& topsW o.1 (kindI ks o.2)) :: may.tail))) else (2, (i : Int))
def chkE (ks : List Int) (top : Int) (c : List (Int × Int)) : Int × Int := if kindI ks top = 0 then (2, -1) else if 8 < c.length then (6, 8) else chkL ks c 0 [oneK (kindI ks top)]

/-- What may stand there, and which lengths there may be. -/
structure Sim (may : List Nat) (R : Nat → Prop) : Prop where
  ex : ∃ (B : Nat) (ps : List Nat), may = ps ++ [B] ∧ B < 16 ∧ B.testBit 0 = false ∧ (∃ L, 1 ≤ L ∧ B.testBit (tN L) = true) ∧ (∀ L, R L ↔ ∃ L', 1 ≤ L' ∧ L = L' + ps.length ∧ B.testBit (tN L') = true) ∧
    ∀ j w, ps[j]? = some w → ∀ L', 1 ≤ L' → B.testBit (tN L') = true → w = 2 ^ (tN (L' + ps.length - j))
theorem tN_small {t : Nat} (h : 1 ≤ t ∧ t ≤ 3) : tN t = t := by
  have : t = 1 ∨ t = 2 ∨ t = 3 := by omega
  rcases this with rfl | rfl | rfl <;> rfl
theorem and_zero_bits : ∀ a < 16, ∀ b < 16, a.testBit 0 = false → ((a &&& b = 0) ↔ ¬ ((a &&& b).testBit 1 = true ∨ (a &&& b).testBit 2 = true ∨ (a &&& b).testBit 3 = true)) := by decide
theorem and_zero {B T : Nat} (hB : B < 16) (h0 : B.testBit 0 = false) (hT : T < 16) : B &&& T = 0 ↔ ∀ L, 1 ≤ L → B.testBit (tN L) = true → T.testBit (tN L) = false := by
  rw [and_zero_bits B hB T hT h0]
  constructor
  · intro h L hL hb
    have ht := tN_range L
    have : tN L = 1 ∨ tN L = 2 ∨ tN L = 3 := by omega
    cases hc : T.testBit (tN L)
    · rfl
    · exfalso
      apply h
      rcases this with e | e | e <;> rw [e] at hb hc <;> simp [hb, hc]
  · intro h hc
    have key : ∀ t, 1 ≤ t ∧ t ≤ 3 → (B &&& T).testBit t = true → False := fun t ht hb => by
      rw [Nat.testBit_and, Bool.and_eq_true] at hb
      have := h t ht.1 (by rw [tN_small ht]; exact hb.1)
      rw [tN_small ht, hb.2] at this
      cases this
    rcases hc with hc | hc | hc
    · exact key 1 (by omega) hc
    · exact key 2 (by omega) hc
    · exact key 3 (by omega) hc
theorem pow_and' : ∀ t < 4, ∀ T < 16, (2 ^ t &&& T) = if T.testBit t then 2 ^ t else 0 := by decide
theorem push_kind {lk : Int} {L : Nat} (hL : 1 ≤ L) (h : topsB 3 lk (tN L) = true) : oneK lk = 2 ^ tN (L + 1) := by
  simp only [topsB, if_neg (show ¬ ((3 : Int) = 1) by decide), if_neg (show ¬ ((3 : Int) = 2) by decide), if_pos, mayB] at h
  unfold tN at h ⊢
  unfold oneK
  by_cases h1 : L = 1
  · subst h1
    simp at h
    rw [h]; rfl
  · rw [if_neg (by omega)] at h
    rw [if_neg (by omega), if_neg (by omega)]
    have : lk = 3 := by
      by_cases h2 : L = 2
      · simp [h2] at h; omega
      · simp [h2] at h; omega
    rw [this]; rfl
theorem under_bits : ∀ a < 16, (underW a).testBit 0 = false ∧ underW a < 16 ∧ ((underW a).testBit 1 = a.testBit 2) ∧ ((underW a).testBit 2 = a.testBit 3) ∧ ((underW a).testBit 3 = a.testBit 3) := by decide
theorem pow_inj {a b : Nat} (h : (2 : Nat) ^ a = 2 ^ b) : a = b := (Nat.pow_right_inj (by omega)).1 h
theorem sim_step {m : Nat} {rest : List Nat} {R : Nat → Prop} (hs : Sim (m :: rest) R) {o lk : Int} (ho : o = 1 ∨ o = 2 ∨ o = 3) (hk : 0 ≤ lk ∧ lk ≤ 3) :
    (m &&& topsW o lk = 0 ↔ ∀ L, R L → stepN o lk L = none) ∧ (m &&& topsW o lk ≠ 0 → Sim (guessL o lk ((m &&& topsW o lk) :: rest)) (fun M => ∃ L, R L ∧ stepN o lk L = some M)) := by
  obtain ⟨B, ps, hm, hB, h0, ⟨L0, hL0, hb0⟩, hR, hp⟩ := hs
  have hT := topsW_lt (o := o) hk
  have tb : ∀ L, (topsW o lk).testBit (tN L) = topsB o lk (tN L) := fun L => topsW_bit hk (tN_range L)
  have sn : ∀ L, stepN o lk L = none ↔ topsB o lk (tN L) = false := fun L => by unfold stepN; split <;> simp_all
  cases ps with
  | nil =>
    simp only [List.nil_append, List.cons.injEq] at hm
    obtain ⟨rfl, rfl⟩ := hm
    simp only [List.length_nil, Nat.add_zero] at hR
    have hR' : ∀ L, R L ↔ 1 ≤ L ∧ m.testBit (tN L) = true := fun L => by
      rw [hR]
      constructor
      · rintro ⟨L', h1, rfl, h2⟩; exact ⟨h1, h2⟩
      · rintro ⟨h1, h2⟩; exact ⟨L, h1, rfl, h2⟩
    refine ⟨?_, fun hne => ?_⟩
    · rw [and_zero hB h0 hT]
      constructor
      · intro h L hL
        rw [sn, ← tb]
        exact h L ((hR' L).1 hL).1 ((hR' L).1 hL).2
      · intro h L h1 h2
        rw [tb, ← sn]
        exact h L ((hR' L).2 ⟨h1, h2⟩)
    · have hne' : ∃ L, 1 ≤ L ∧ (m &&& topsW o lk).testBit (tN L) = true := by
        apply Classical.byContradiction
        intro hn
        apply hne
        rw [and_zero hB h0 hT]
        intro L h1 h2
        cases hc : (topsW o lk).testBit (tN L)
        · rfl
        · exact absurd ⟨L, h1, by rw [Nat.testBit_and, h2, hc]; rfl⟩ hn
      obtain ⟨L1, g1, g2⟩ := hne'
      have hm16 : m &&& topsW o lk < 16 := Nat.lt_of_le_of_lt Nat.and_le_left hB
      have hm0 : (m &&& topsW o lk).testBit 0 = false := by rw [Nat.testBit_and, h0]; rfl
      rcases ho with rfl | rfl | rfl
      · -- Pop
        simp only [guessL, if_neg (show ¬ ((1 : Int) = 3) by decide), if_pos]
        obtain ⟨u0, u16, u1, u2, u3⟩ := under_bits _ hm16
        have tt : ∀ L, topsB 1 lk (tN L) = decide (2 ≤ L) := fun L => by
          unfold topsB tN
          by_cases l1 : L ≤ 1
          · simp [l1]; omega
          · by_cases l2 : L = 2
            · simp [l2]
            · simp [l1, l2]; omega
        have hgt : 2 ≤ L1 := by
          rw [Nat.testBit_and, Bool.and_eq_true, tb, tt] at g2
          simpa using g2.2
        have hU : ∀ M, 1 ≤ M → ((underW (m &&& topsW 1 lk)).testBit (tN M) = true ↔ m.testBit (tN (M + 1)) = true) := fun M hM => by
          have e : (m &&& topsW 1 lk).testBit (tN (M + 1)) = m.testBit (tN (M + 1)) := by
            rw [Nat.testBit_and, tb, tt]; simp; omega
          rw [← e]
          by_cases h1 : M = 1
          · subst h1
            show (underW _).testBit 1 = true ↔ _
            rw [u1]
            rfl
          · have e3 : tN (M + 1) = 3 := by unfold tN; rw [if_neg (by omega), if_neg (by omega)]
            rw [e3]
            by_cases h2 : M = 2
            · subst h2
              show (underW _).testBit 2 = true ↔ _
              rw [u2]
            · have e3 : tN M = 3 := by unfold tN; rw [if_neg (by omega), if_neg (by omega)]
              rw [e3, u3]
        refine ⟨⟨underW (m &&& topsW 1 lk), [], rfl, u16, u0, ⟨L1 - 1, by omega, ?_⟩, fun M => ?_, by simp⟩⟩
        · rw [hU _ (by omega), show L1 - 1 + 1 = L1 by omega]
          rw [Nat.testBit_and, Bool.and_eq_true] at g2
          exact g2.1
        · constructor
          · rintro ⟨L, hL, hst⟩
            obtain ⟨q1, q2⟩ := (hR' L).1 hL
            unfold stepN at hst
            rw [tt] at hst
            split at hst
            · rename_i hl
              have hl : 2 ≤ L := by simpa using hl
              simp only [if_pos, Option.some.injEq] at hst
              subst hst
              refine ⟨L - 1, by omega, rfl, ?_⟩
              rw [hU _ (by omega), show L - 1 + 1 = L by omega]
              exact q2
            · cases hst
          · rintro ⟨M', hM, rfl, hbit⟩
            refine ⟨M + 1, (hR' _).2 ⟨by omega, (hU _ hM).1 hbit⟩, ?_⟩
            unfold stepN
            rw [tt, if_pos (by simpa using hM)]
            simp
      · -- Swap
        simp only [guessL, if_neg (show ¬ ((2 : Int) = 3) by decide), if_neg (show ¬ ((2 : Int) = 1) by decide)]
        refine ⟨⟨m &&& topsW 2 lk, [], rfl, hm16, hm0, ⟨L1, g1, g2⟩, fun M => ?_, by simp⟩⟩
        simp only [List.length_nil, Nat.add_zero]
        constructor
        · rintro ⟨L, hL, hst⟩
          obtain ⟨q1, q2⟩ := (hR' L).1 hL
          unfold stepN at hst
          split at hst
          · rename_i hl
            simp only [if_neg (show ¬ ((2 : Int) = 1) by decide), if_pos, Option.some.injEq] at hst
            subst hst
            exact ⟨L, q1, rfl, by rw [Nat.testBit_and, q2, tb, hl]; rfl⟩
          · cases hst
        · rintro ⟨M', hM, rfl, hbit⟩
          rw [Nat.testBit_and, Bool.and_eq_true, tb] at hbit
          refine ⟨M, (hR' _).2 ⟨hM, hbit.1⟩, ?_⟩
          unfold stepN
          rw [if_pos hbit.2]
          simp
      · -- Push
        simp only [guessL, if_pos]
        refine ⟨⟨m &&& topsW 3 lk, [oneK lk], rfl, hm16, hm0, ⟨L1, g1, g2⟩, fun M => ?_, ?_⟩⟩
        · simp only [List.length_cons, List.length_nil]
          constructor
          · rintro ⟨L, hL, hst⟩
            obtain ⟨q1, q2⟩ := (hR' L).1 hL
            unfold stepN at hst
            split at hst
            · rename_i hl
              simp only [if_neg (show ¬ ((3 : Int) = 1) by decide), if_neg (show ¬ ((3 : Int) = 2) by decide), Option.some.injEq] at hst
              subst hst
              exact ⟨L, q1, rfl, by rw [Nat.testBit_and, q2, tb, hl]; rfl⟩
            · cases hst
          · rintro ⟨M', hM, rfl, hbit⟩
            rw [Nat.testBit_and, Bool.and_eq_true, tb] at hbit
            refine ⟨M', (hR' _).2 ⟨hM, hbit.1⟩, ?_⟩
            unfold stepN
            rw [if_pos hbit.2]
            simp
        · intro j w hj L' hL hbit
          rw [Nat.testBit_and, Bool.and_eq_true, tb] at hbit
          cases j with
          | zero =>
            simp at hj
            subst hj
            simpa using push_kind hL hbit.2
          | succ j => simp at hj
  | cons p0 ps =>
    simp only [List.cons_append, List.cons.injEq] at hm
    obtain ⟨rfl, rfl⟩ := hm
    have hs0 : ∀ L', 1 ≤ L' → B.testBit (tN L') = true → m = 2 ^ tN (L' + (ps.length + 1)) := fun L' h1 h2 => by
      have := hp 0 m rfl L' h1 h2
      simpa using this
    have hall : ∀ L', 1 ≤ L' → B.testBit (tN L') = true → tN (L' + (ps.length + 1)) = tN (L0 + (ps.length + 1)) := fun L' h1 h2 => pow_inj ((hs0 L' h1 h2).symm.trans (hs0 L0 hL0 hb0))
    have hm1 := hs0 L0 hL0 hb0
    obtain ⟨t, ht⟩ : ∃ t, t = tN (L0 + (ps.length + 1)) := ⟨_, rfl⟩
    rw [← ht] at hm1 hall
    have htr : 1 ≤ t ∧ t ≤ 3 := by rw [ht]; exact tN_range _
    have hand : m &&& topsW o lk = if topsB o lk (t : Int) then 2 ^ t else 0 := by
      rw [hm1, pow_and' t (by omega) _ hT, topsW_bit hk htr]
    have hR' : ∀ L, R L → tN L = t := fun L hL => by
      obtain ⟨L', h1, rfl, h2⟩ := (hR L).1 hL
      exact hall L' h1 h2
    have hin : R (L0 + (ps.length + 1)) := (hR _).2 ⟨L0, hL0, rfl, hb0⟩
    by_cases hc : topsB o lk (t : Int) = true
    · rw [if_pos hc] at hand
      have hne : m &&& topsW o lk ≠ 0 := by
        rw [hand]
        have := Nat.two_pow_pos t
        omega
      refine ⟨⟨fun h => absurd h hne, fun h => ?_⟩, fun _ => ?_⟩
      · have := h _ hin
        rw [sn, hR' _ hin, hc] at this
        cases this
      · rw [hand, ← hm1]
        have hst : ∀ L, R L → stepN o lk L = some (if o = 1 then L - 1 else if o = 2 then L else L + 1) := fun L hL => by
          unfold stepN
          rw [hR' L hL, if_pos hc]
        rcases ho with rfl | rfl | rfl
        · simp only [guessL, if_neg (show ¬ ((1 : Int) = 3) by decide), if_pos]
          rw [if_neg (by simp)]
          refine ⟨⟨B, ps, rfl, hB, h0, ⟨L0, hL0, hb0⟩, fun M => ?_, fun j w hj L' h1 h2 => ?_⟩⟩
          · constructor
            · rintro ⟨L, hL, e⟩
              rw [hst L hL, if_pos rfl, Option.some.injEq] at e
              obtain ⟨L', h1, rfl, h2⟩ := (hR L).1 hL
              simp only [List.length_cons] at e
              exact ⟨L', h1, by omega, h2⟩
            · rintro ⟨L', h1, rfl, h2⟩
              have hL : R (L' + (ps.length + 1)) := (hR _).2 ⟨L', h1, rfl, h2⟩
              exact ⟨_, hL, by rw [hst _ hL, if_pos rfl]; congr 1⟩
          · have := hp (j + 1) w (by simpa using hj) L' h1 h2
            rw [this]
            congr 2
            simp only [List.length_cons]
            omega
        · simp only [guessL, if_neg (show ¬ ((2 : Int) = 3) by decide), if_neg (show ¬ ((2 : Int) = 1) by decide)]
          refine ⟨⟨B, m :: ps, rfl, hB, h0, ⟨L0, hL0, hb0⟩, fun M => ?_, hp⟩⟩
          rw [← hR]
          constructor
          · rintro ⟨L, hL, e⟩
            rw [hst L hL] at e
            simp at e
            rw [← e]; exact hL
          · intro hM
            exact ⟨M, hM, by rw [hst M hM]; simp⟩
        · simp only [guessL, if_pos]
          refine ⟨⟨B, oneK lk :: m :: ps, rfl, hB, h0, ⟨L0, hL0, hb0⟩, fun M => ?_, fun j w hj L' h1 h2 => ?_⟩⟩
          · constructor
            · rintro ⟨L, hL, e⟩
              rw [hst L hL] at e
              simp at e
              obtain ⟨L', h1, rfl, h2⟩ := (hR L).1 hL
              simp only [List.length_cons] at e ⊢
              exact ⟨L', h1, by omega, h2⟩
            · rintro ⟨L', h1, rfl, h2⟩
              have hL : R (L' + (ps.length + 1)) := (hR _).2 ⟨L', h1, rfl, h2⟩
              exact ⟨_, hL, by rw [hst _ hL]; simp [List.length_cons]; omega⟩
          · cases j with
            | zero =>
              simp at hj
              subst hj
              have e := hall L' h1 h2
              have := push_kind (lk := lk) (L := L' + (ps.length + 1)) (by omega) (by rw [e]; exact hc)
              rw [this]
              simp only [List.length_cons]
              congr 1
            | succ j =>
              have := hp j w (by simpa using hj) L' h1 h2
              rw [this]
              congr 2
              simp only [List.length_cons]
              omega
    · rw [if_neg hc] at hand
      rw [hand]
      refine ⟨⟨fun _ L hL => ?_, fun _ => rfl⟩, fun h => absurd rfl h⟩
      rw [sn, hR' L hL]
      simpa using hc

/-! ### The document's own way to say it -/
theorem sim_start {k : Nat} (hk : 1 ≤ k ∧ k ≤ 3) : Sim [oneK (k : Int)] (fun L => 1 ≤ L ∧ tN L = k) := by
  have hb : ∀ t, (oneK (k : Int)).testBit t = decide (k = t) := fun t => by unfold oneK; rw [Int.toNat_natCast, Nat.testBit_two_pow]
  refine ⟨⟨oneK k, [], rfl, ?_, ?_, ⟨k, hk.1, ?_⟩, fun L => ?_, by simp⟩⟩
  · have : k = 1 ∨ k = 2 ∨ k = 3 := by omega
    rcases this with rfl | rfl | rfl <;> decide
  · rw [hb]; simp; omega
  · rw [hb, tN_small hk]; simp
  · simp only [List.length_nil, Nat.add_zero]
    constructor
    · rintro ⟨h1, h2⟩
      exact ⟨L, h1, rfl, by rw [hb, h2]; simp⟩
    · rintro ⟨L', h1, rfl, h2⟩
      rw [hb] at h2
      exact ⟨h1, (of_decide_eq_true h2).symm⟩
/-- The first n ops can be done to a header of so many labels more. -/
def frontB (k : Nat) (c : List (Int × Int)) (n : Nat) : Bool := (List.range (n + 1)).any fun m => (runN c (if k = 3 then m + 3 else k)).isSome
theorem front_iff {k : Nat} (hk : 1 ≤ k ∧ k ≤ 3) (c : List (Int × Int)) : frontB k c c.length = true ↔ ∃ L, (1 ≤ L ∧ tN L = k) ∧ (runN c L).isSome = true := by
  unfold frontB
  rw [List.any_eq_true]
  constructor
  · rintro ⟨m, hm, h⟩
    refine ⟨_, ⟨?_, ?_⟩, h⟩
    · split <;> omega
    · split
      · rename_i h3
        unfold tN; rw [if_neg (by omega), if_neg (by omega), h3]
      · exact tN_small hk
  · rintro ⟨L, ⟨h1, h2⟩, h⟩
    by_cases h3 : k = 3
    · subst h3
      have hL : 3 ≤ L := by
        unfold tN at h2
        split at h2
        · omega
        · split at h2 <;> omega
      by_cases hle : L ≤ 3 + c.length
      · exact ⟨L - 3, by rw [List.mem_range]; omega, by rw [if_pos rfl, show L - 3 + 3 = L by omega]; exact h⟩
      · exact ⟨c.length, by rw [List.mem_range]; omega, by rw [if_pos rfl, run_high c (c.length + 3) L (by omega) (by omega)]; exact h⟩
    · have : L = k := by
        unfold tN at h2
        split at h2
        · omega
        · split at h2 <;> omega
      subst this
      exact ⟨0, by simp, by rw [if_neg h3]; exact h⟩
/-- As the document goes through a chain. -/
def rchkL (ks : List Int) (k : Nat) (c : List (Int × Int)) : List (Int × Int) → Nat → Int × Int
  | [], _ => (0, 0)
  | o :: r, i => if knownB ks o then (if frontB k ((c.take (i + 1)).map (opK ks)) (i + 1) then rchkL ks k c r (i + 1) else (9, (i : Int))) else (2, (i : Int))
def rchkE (ks : List Int) (top : Int) (c : List (Int × Int)) : Int × Int := if kindI ks top = 0 then (2, -1) else if 8 < c.length then (6, 8) else rchkL ks (kindI ks top).toNat c c 0
theorem known_kind {ks : List Int} {o : Int × Int} (h : knownB ks o = true) : o.1 = 1 ∨ o.1 = 2 ∨ o.1 = 3 := by
  unfold knownB at h
  split at h
  · omega
  · split at h
    · omega
    · cases h
theorem topsW_opK (ks : List Int) (o : Int × Int) : topsW (opK ks o).1 (opK ks o).2 = topsW o.1 (kindI ks o.2) := by
  unfold opK topsW
  by_cases h : o.1 = 1 <;> simp [h]
theorem guess_opK (ks : List Int) (o : Int × Int) (m : List Nat) : guessL (opK ks o).1 (opK ks o).2 m = guessL o.1 (kindI ks o.2) m := by
  cases m with
  | nil => rfl
  | cons a m =>
    unfold opK guessL
    by_cases h : o.1 = 1 <;> simp [h]
theorem sim_ne {may : List Nat} {R : Nat → Prop} (hs : Sim may R) : ∃ m r, may = m :: r := by
  obtain ⟨B, ps, h, -⟩ := hs
  cases ps with
  | nil => exact ⟨_, _, h⟩
  | cons p ps => exact ⟨_, _, h⟩
theorem opK_range (ks : List Int) (o : Int × Int) : 0 ≤ (opK ks o).2 ∧ (opK ks o).2 ≤ 3 := by
  unfold opK
  simp only
  split
  · omega
  · exact kindI_range _ _
theorem runN_snoc (a : List (Int × Int)) (o : Int × Int) (L : Nat) : runN (a ++ [o]) L = (runN a L).bind (stepN o.1 o.2) := by
  rw [runN_append]
  congr 1
  funext M
  rw [runN]
  cases stepN o.1 o.2 M <;> rfl
theorem sim_congr {may : List Nat} {R R' : Nat → Prop} (h : ∀ L, R L ↔ R' L) (hs : Sim may R) : Sim may R' := by
  have : R = R' := funext fun L => propext (h L)
  rwa [← this]
theorem chk_same (ks : List Int) {k : Nat} (hk : 1 ≤ k ∧ k ≤ 3) (c : List (Int × Int)) : ∀ (r : List (Int × Int)) (i : Nat) (may : List Nat), c.drop i = r → i ≤ c.length →
    Sim may (fun L => ∃ L0, (1 ≤ L0 ∧ tN L0 = k) ∧ runN ((c.take i).map (opK ks)) L0 = some L) → chkL ks r i may = rchkL ks k c r i
  | [], i, may, hr, hi, hs => rfl
  | o :: r, i, may, hr, hi, hs => by
    obtain ⟨m, rest, rfl⟩ := sim_ne hs
    have hlt : i < c.length := by
      have := congrArg List.length hr
      simp at this
      omega
    have hget : c[i]? = some o := by
      have := congrArg (fun l => l[0]?) hr
      simpa using this
    have htake : c.take (i + 1) = c.take i ++ [o] := by rw [List.take_add_one, hget]; rfl
    rw [chkL, rchkL]
    by_cases hkn : knownB ks o = true
    · rw [if_pos hkn, if_pos hkn]
      obtain ⟨s1, s2⟩ := sim_step hs (o := (opK ks o).1) (lk := (opK ks o).2) (known_kind (o := o) hkn) (opK_range ks o)
      rw [topsW_opK] at s1 s2
      rw [guess_opK] at s2
      have hlen : ((c.take (i + 1)).map (opK ks)).length = i + 1 := by simp; omega
      have hf : frontB k ((c.take (i + 1)).map (opK ks)) (i + 1) = true ↔ ¬ (m &&& topsW o.1 (kindI ks o.2) = 0) := by
        have hf0 := front_iff hk ((c.take (i + 1)).map (opK ks))
        rw [hlen] at hf0
        rw [hf0, s1]
        constructor
        · rintro ⟨L0, h1, h2⟩ hn
          rw [htake, List.map_append, List.map_cons, List.map_nil, runN_snoc] at h2
          cases he : runN ((c.take i).map (opK ks)) L0 with
          | none => rw [he] at h2; cases h2
          | some L =>
            rw [he, Option.bind_some, hn L ⟨L0, h1, he⟩] at h2
            cases h2
        · intro hn
          apply Classical.byContradiction
          intro hno
          apply hn
          rintro L ⟨L0, h1, h2⟩
          cases he : stepN (opK ks o).1 (opK ks o).2 L with
          | none => rfl
          | some M =>
            exact absurd ⟨L0, h1, by rw [htake, List.map_append, List.map_cons, List.map_nil, runN_snoc, h2, Option.bind_some, he]; rfl⟩ hno
      by_cases h0 : m &&& topsW o.1 (kindI ks o.2) = 0
      · have hff : ¬ frontB k ((c.take (i + 1)).map (opK ks)) (i + 1) = true := fun h => hf.1 h h0
        rw [if_pos (show (m :: rest).headD 0 &&& topsW o.1 (kindI ks o.2) = 0 from h0), if_neg hff]
      · have hz : ¬ ((m :: rest).headD 0 &&& topsW o.1 (kindI ks o.2) = 0) := h0
        rw [if_neg hz, if_pos (hf.2 h0)]
        refine chk_same ks hk c r (i + 1) _ (by rw [← List.drop_drop, hr]; rfl) (by omega) (sim_congr (fun M => ?_) (s2 h0))
        constructor
        · rintro ⟨L, ⟨L0, h1, h2⟩, h3⟩
          exact ⟨L0, h1, by rw [htake, List.map_append, List.map_cons, List.map_nil, runN_snoc, h2, Option.bind_some, h3]⟩
        · rintro ⟨L0, h1, h2⟩
          rw [htake, List.map_append, List.map_cons, List.map_nil, runN_snoc] at h2
          cases he : runN ((c.take i).map (opK ks)) L0 with
          | none => rw [he] at h2; cases h2
          | some L =>
            rw [he, Option.bind_some] at h2
            exact ⟨L, ⟨L0, h1, he⟩, h2⟩
    · rw [if_neg hkn, if_neg hkn]
theorem chkE_same (ks : List Int) (top : Int) (c : List (Int × Int)) : chkE ks top c = rchkE ks top c := by
  unfold chkE rchkE
  have hr := kindI_range ks top
  split
  · rfl
  · split
    · rfl
    · obtain ⟨k, hk⟩ := Int.eq_ofNat_of_zero_le hr.1
      rw [hk, Int.toNat_natCast]
      have hk3 : 1 ≤ k ∧ k ≤ 3 := by omega
      refine chk_same ks hk3 c c 0 _ rfl (by omega) (sim_congr (fun L => ?_) (sim_start hk3))
      simp [runN]
/-- What can be done was found to be possible. -/
theorem chkL_ok (ks : List Int) : ∀ (c : List (Int × Int)) (i : Nat) (may : List Nat) (R : Nat → Prop) (h : List Int), Sim may R → R h.length → validH ks h = true → (doL ks c h).isSome = true → chkL ks c i may = (0, 0)
  | [], _, _, _, _, _, _, _, _ => rfl
  | o :: c, i, may, R, h, hs, hR, hv, hd => by
    obtain ⟨m, rest, rfl⟩ := sim_ne hs
    rw [doL] at hd
    split at hd
    · rename_i ht
      have hk := topsB_kind ht
      obtain ⟨vt, vl⟩ := valid_top hv
      have hkn : knownB ks o = true := by
        unfold knownB
        rcases hk with h1 | h1 | h1
        · rw [if_pos h1]
        · rw [if_neg (by omega), if_pos (by omega), decide_eq_true_iff]
          rw [h1] at ht
          have := topsB_swap ht
          have := tN_range h.length
          omega
        · rw [if_neg (by omega), if_pos (by omega), decide_eq_true_iff]
          rw [h1] at ht
          intro e0
          rw [e0] at ht
          simp [topsB, mayB] at ht
      obtain ⟨s1, s2⟩ := sim_step hs (o := (opK ks o).1) (lk := (opK ks o).2) (known_kind (o := o) hkn) (opK_range ks o)
      rw [topsW_opK] at s1 s2
      rw [guess_opK] at s2
      have hst : stepN (opK ks o).1 (opK ks o).2 h.length = some (stepL o.1 o.2 h).length := by
        unfold stepN
        rw [topsB_opK, ← vt, if_pos ht]
        obtain ⟨a, t, rfl⟩ := validH_ne hv
        rcases hk with h1 | h1 | h1 <;> simp [stepL, opK, h1]
      have h0 : ¬ (m &&& topsW o.1 (kindI ks o.2) = 0) := fun h => by
        have := s1.1 h _ hR
        rw [hst] at this
        cases this
      rw [chkL, if_pos hkn]
      have hz : ¬ ((m :: rest).headD 0 &&& topsW o.1 (kindI ks o.2) = 0) := h0
      rw [if_neg hz]
      exact chkL_ok ks c (i + 1) _ _ _ (s2 h0) ⟨_, hR, hst⟩ (step_valid hv ht) hd
    · cases hd
theorem chkE_ok {ks h : List Int} {c : List (Int × Int)} (hv : validH ks h = true) (hd : (doL ks c h).isSome = true) (hc : c.length ≤ 8) : chkE ks (h.headD 0) c = (0, 0) := by
  obtain ⟨vt, vl⟩ := valid_top hv
  have hr := tN_range h.length
  unfold chkE
  rw [if_neg (by rw [vt]; omega), if_neg (by omega), vt]
  exact chkL_ok ks c 0 _ _ h (sim_start hr) ⟨vl, rfl⟩ hv hd
end Go.Proofs.YtjlbdjagbbpoaaaDoor
