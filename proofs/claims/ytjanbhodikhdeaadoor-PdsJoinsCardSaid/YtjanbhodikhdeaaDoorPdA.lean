/-
  Chapter 21, plainly: systems with a stack, their rules, what a run comes to, what is wrong with a system; rules for one with a long Push.
-/
import Derived.Test.YtjanbhodikhdeaaDoorAmt
namespace Go.Proofs.YtjanbhodikhdeaaDoor

/-- A rule. -/
structure Ru where
  fr : Int
  top : Int
  to : Int
  push : List Int
  cost : Int
/-- Is it one of so many, from 0 on? -/
def inB (n i : Int) : Bool := decide (0 ≤ i) && decide (i < n)
theorem inB_iff {n i : Int} : inB n i = true ↔ 0 ≤ i ∧ i < n := by simp [inB]
theorem inB_not {n i : Int} : inB n i = false ↔ ¬ (0 ≤ i ∧ i < n) := by rw [← inB_iff]; cases inB n i <;> simp
/-- Why a rule may not be; 0, where it may. -/
def ruF (S L : Int) (r : Ru) : Int :=
  if inB S r.fr = true ∧ inB S r.to = true ∧ inB L r.top = true ∧ (r.push.any fun x => !inB L x) = false then
    if 2 < r.push.length then 6 else if most < r.cost then 19 else 0
  else 7
/-- The first rule that may not be, from one on. -/
def rusF (S L : Int) : List Ru → Int → Int × Int
  | [], _ => (0, 0)
  | r :: rs, at_ => if ruF S L r ≠ 0 then (ruF S L r, at_) else rusF S L rs (at_ + 1)
/-- Are its states and labels not as many as may be? -/
def szF (S L : Int) : Bool := decide (S < 0) || decide (1048576 < S) || decide (L < 0) || decide (128 < L)
/-- What is wrong with a system: the number (0: nothing), the place. -/
def pdsF (S L : Int) (rs : List Ru) : Int × Int := if szF S L = true then (7, -1) else rusF S L rs 0
theorem rusF_go {S L : Int} {rs : List Ru} {i : Nat} {r : Ru} (h : rs[i]? = some r) (h0 : ruF S L r = 0) : rusF S L (rs.drop i) (i : Int) = rusF S L (rs.drop (i + 1)) ((i : Int) + 1) := by
  have e : rs.drop i = r :: rs.drop (i + 1) := by
    obtain ⟨hi, rfl⟩ := List.getElem?_eq_some_iff.1 h
    exact List.drop_eq_getElem_cons hi
  rw [e, rusF, if_neg (fun h => h h0)]
theorem rusF_at {S L : Int} {rs : List Ru} {i : Nat} {r : Ru} (h : rs[i]? = some r) (h0 : ruF S L r ≠ 0) : rusF S L (rs.drop i) (i : Int) = (ruF S L r, (i : Int)) := by
  have e : rs.drop i = r :: rs.drop (i + 1) := by
    obtain ⟨hi, rfl⟩ := List.getElem?_eq_some_iff.1 h
    exact List.drop_eq_getElem_cons hi
  rw [e, rusF, if_pos h0]
theorem rusF_end (S L : Int) (rs : List Ru) : rusF S L (rs.drop rs.length) (rs.length : Int) = (0, 0) := by rw [List.drop_length]; rfl
theorem rusF_zero {S L : Int} : ∀ {rs : List Ru} {i : Int}, (rusF S L rs i).1 = 0 → ∀ r ∈ rs, ruF S L r = 0
  | [], _, _, r, h => by cases h
  | a :: rs, i, h0, r, h => by
    unfold rusF at h0
    by_cases ha : ruF S L a = 0
    · rw [if_neg (fun h => h ha)] at h0
      rcases List.mem_cons.1 h with rfl | h
      · exact ha
      · exact rusF_zero h0 r h
    · rw [if_pos ha] at h0
      exact absurd h0 ha
theorem rusF_ok {S L : Int} : ∀ {rs : List Ru} (i : Int), (∀ r ∈ rs, ruF S L r = 0) → rusF S L rs i = (0, 0)
  | [], _, _ => rfl
  | a :: rs, i, h => by
    unfold rusF
    rw [if_neg (fun hn => hn (h a (List.mem_cons_self ..)))]
    exact rusF_ok (i + 1) fun r hr => h r (List.mem_cons_of_mem _ hr)
theorem pdsF_zero {S L : Int} {rs : List Ru} (h : (pdsF S L rs).1 = 0) : szF S L = false ∧ ∀ r ∈ rs, ruF S L r = 0 := by
  unfold pdsF at h
  cases hs : szF S L with
  | true => rw [hs, if_pos rfl] at h; exact absurd h (by decide)
  | false => rw [hs, if_neg (by decide)] at h; exact ⟨rfl, rusF_zero h⟩
theorem ruF_zero {S L : Int} {r : Ru} (h : ruF S L r = 0) : (inB S r.fr = true ∧ inB S r.to = true ∧ inB L r.top = true ∧ (r.push.any fun x => !inB L x) = false) ∧ r.push.length ≤ 2 ∧ r.cost ≤ most := by
  unfold ruF at h
  split at h
  · rename_i hc
    refine ⟨hc, ?_⟩
    split at h
    · exact absurd h (by decide)
    · split at h
      · exact absurd h (by decide)
      · omega
  · exact absurd h (by decide)

/-! ### Runs -/
/-- A configuration: its state, its stack. -/
abbrev Cf := Int × List Int
def fitsB (r : Ru) (c : Cf) : Bool := match c.2 with
  | [] => false
  | t :: _ => decide (c.1 = r.fr) && decide (t = r.top)
def doC (r : Ru) (c : Cf) : Cf := (r.to, r.push ++ c.2.tail)
/-- The rule at a place, if there is one. -/
def ruAt (rs : List Ru) (i : Int) : Option Ru := if 0 ≤ i then rs[i.toNat]? else none
/-- What a run answers: the configuration, what it cost, the error (0: none), its place. -/
structure Ans where
  c : Cf
  n : Int
  code : Int
  at_ : Int
def goC (rs : List Ru) : List Int → Int → Cf → Int → Ans
  | [], _, c, n => ⟨c, n, 0, 0⟩
  | i :: l, a, c, n => match ruAt rs i with
    | none => ⟨c, n, 11, a⟩
    | some r => if fitsB r c then goC rs l (a + 1) (doC r c) (addI n r.cost) else ⟨c, n, 17, a⟩
def stepsC (rs : List Ru) (c : Cf) : List Int := ((List.range rs.length).filter fun i => (rs[i]?.map fun r => fitsB r c).getD false).map Int.ofNat
theorem stepsC_take {rs : List Ru} {i : Nat} {r : Ru} (c : Cf) (h : rs[i]? = some r) :
    ((List.range (i + 1)).filter fun i => (rs[i]?.map fun r => fitsB r c).getD false).map Int.ofNat = ((List.range i).filter fun i => (rs[i]?.map fun r => fitsB r c).getD false).map Int.ofNat ++ if fitsB r c then [(i : Int)] else [] := by
  rw [List.range_succ, List.filter_append, List.map_append]
  congr 1
  simp [List.filter_cons, h]
  split <;> simp
theorem ruAt_none {rs : List Ru} {i : Int} (h : ruAt rs i = none) : ¬ (0 ≤ i ∧ i < rs.length) := by
  intro ⟨h1, h2⟩
  unfold ruAt at h
  rw [if_pos h1, List.getElem?_eq_none_iff] at h
  omega
theorem ruAt_some {rs : List Ru} {i : Int} {r : Ru} (h : ruAt rs i = some r) : ∃ k : Nat, i = k ∧ k < rs.length ∧ rs[k]? = some r := by
  unfold ruAt at h
  split at h
  · refine ⟨i.toNat, by omega, ?_, h⟩
    exact (List.getElem?_eq_some_iff.1 h).1
  · cases h
theorem goC_len {rs : List Ru} {P : Nat} (hp : ∀ r ∈ rs, r.push.length ≤ P) : ∀ (l : List Int) (a : Int) (c : Cf) (n : Int), (goC rs l a c n).c.2.length ≤ c.2.length + P * l.length
  | [], _, c, n => by simp [goC]
  | i :: l, a, c, n => by
    unfold goC
    cases h : ruAt rs i with
    | none => simp
    | some r =>
      simp only []
      split
      · obtain ⟨k, -, -, hk⟩ := ruAt_some h
        have h1 := goC_len hp l (a + 1) (doC r c) (addI n r.cost)
        have h2 := hp r (List.mem_of_getElem? hk)
        simp only [doC, List.length_append, List.length_tail, List.length_cons] at h1 ⊢
        have h3 : P * (l.length + 1) = P * l.length + P := Nat.mul_succ _ _
        omega
      · simp
/-- Is it an error? -/
def Ans.bad (x : Ans) : Bool := x.code != 0
theorem goC_cons (rs : List Ru) (i : Int) (l : List Int) (a : Int) (c : Cf) (n : Int) : goC rs (i :: l) a c n = match ruAt rs i with
    | none => ⟨c, n, 11, a⟩
    | some r => if fitsB r c then goC rs l (a + 1) (doC r c) (addI n r.cost) else ⟨c, n, 17, a⟩ := rfl
theorem goC_app {rs : List Ru} : ∀ (l m : List Int) (a : Int) (c : Cf) (n : Int), (goC rs l a c n).code = 0 → goC rs (l ++ m) a c n = goC rs m (a + l.length) (goC rs l a c n).c (goC rs l a c n).n
  | [], m, a, c, n, _ => by simp [goC]
  | i :: l, m, a, c, n, h => by
    rw [List.cons_append, goC_cons, goC_cons rs i l]
    rw [goC_cons] at h
    cases hr : ruAt rs i with
    | none => rw [hr] at h; simp at h
    | some r =>
      rw [hr] at h
      simp only [] at h ⊢
      by_cases hf : fitsB r c = true
      · rw [if_pos hf] at h
        rw [if_pos hf, if_pos hf, goC_app l m (a + 1) _ _ h]
        rw [show a + 1 + (l.length : Int) = a + ((i :: l).length : Int) by simp only [List.length_cons]; omega]
      · rw [if_neg hf] at h
        simp at h
theorem goC_app_bad {rs : List Ru} : ∀ (l m : List Int) (a : Int) (c : Cf) (n : Int), (goC rs l a c n).code ≠ 0 → goC rs (l ++ m) a c n = goC rs l a c n
  | [], m, a, c, n, h => absurd rfl h
  | i :: l, m, a, c, n, h => by
    rw [List.cons_append]
    unfold goC at h ⊢
    cases hr : ruAt rs i with
    | none => rfl
    | some r =>
      rw [hr] at h
      simp only [] at h ⊢
      split
      · rename_i hf
        rw [if_pos hf] at h
        exact goC_app_bad l m (a + 1) _ _ h
      · rfl
/-- The places of a run's errors, and what it costs, go by where it began. -/
theorem goC_at {rs : List Ru} : ∀ (l : List Int) (a b : Int) (c : Cf) (n : Int), (goC rs l a c n).c = (goC rs l b c n).c ∧ (goC rs l a c n).n = (goC rs l b c n).n ∧ (goC rs l a c n).code = (goC rs l b c n).code
  | [], _, _, _, _ => ⟨rfl, rfl, rfl⟩
  | i :: l, a, b, c, n => by
    unfold goC
    cases ruAt rs i with
    | none => exact ⟨rfl, rfl, rfl⟩
    | some r =>
      simp only []
      split
      · exact goC_at l (a + 1) (b + 1) _ _
      · exact ⟨rfl, rfl, rfl⟩
theorem goC_cost {rs : List Ru} (hc : ∀ r ∈ rs, 0 ≤ r.cost) : ∀ (l : List Int) (a : Int) (c : Cf) (n m : Int), 0 ≤ n → 0 ≤ m →
    (goC rs l a c (addI n m)).c = (goC rs l a c m).c ∧ (goC rs l a c (addI n m)).code = (goC rs l a c m).code ∧ (goC rs l a c (addI n m)).n = addI n (goC rs l a c m).n
  | [], _, _, _, _, _, _ => ⟨rfl, rfl, rfl⟩
  | i :: l, a, c, n, m, hn, hm => by
    unfold goC
    cases h : ruAt rs i with
    | none => exact ⟨rfl, rfl, rfl⟩
    | some r =>
      simp only []
      split
      · obtain ⟨k, -, -, hk⟩ := ruAt_some h
        have h0 := hc r (List.mem_of_getElem? hk)
        rw [← addI_assoc n m r.cost hn h0]
        exact goC_cost hc l (a + 1) _ n (addI m r.cost) hn (addI_bd m r.cost hm h0).1
      · exact ⟨rfl, rfl, rfl⟩
theorem goC_bd {rs : List Ru} (hc : ∀ r ∈ rs, 0 ≤ r.cost) : ∀ (l : List Int) (a : Int) (c : Cf) (n : Int), 0 ≤ n → n ≤ most → 0 ≤ (goC rs l a c n).n ∧ (goC rs l a c n).n ≤ most
  | [], _, _, _, h, h' => ⟨h, h'⟩
  | i :: l, a, c, n, hn, hm => by
    unfold goC
    cases h : ruAt rs i with
    | none => exact ⟨hn, hm⟩
    | some r =>
      simp only []
      split
      · obtain ⟨k, -, -, hk⟩ := ruAt_some h
        have h0 := hc r (List.mem_of_getElem? hk)
        exact goC_bd hc l (a + 1) _ _ (addI_bd n r.cost hn h0).1 (addI_bd n r.cost hn h0).2
      · exact ⟨hn, hm⟩
/-- What stands below the stack stays there. -/
theorem goC_below {rs : List Ru} (z : List Int) : ∀ (l : List Int) (a : Int) (c : Cf) (n : Int), (goC rs l a c n).code = 0 →
    goC rs l a (c.1, c.2 ++ z) n = ⟨((goC rs l a c n).c.1, (goC rs l a c n).c.2 ++ z), (goC rs l a c n).n, 0, (goC rs l a c n).at_⟩
  | [], _, _, _, _ => rfl
  | i :: l, a, c, n, h => by
    unfold goC at h ⊢
    cases hr : ruAt rs i with
    | none => rw [hr] at h; simp at h
    | some r =>
      rw [hr] at h
      simp only [] at h ⊢
      by_cases hf : fitsB r c = true
      · rw [if_pos hf] at h ⊢
        obtain ⟨s, st⟩ := c
        cases st with
        | nil => simp [fitsB] at hf
        | cons t st =>
          have hf2 : fitsB r (s, (t :: st) ++ z) = true := hf
          rw [if_pos hf2]
          have e : doC r (s, (t :: st) ++ z) = ((doC r (s, t :: st)).1, (doC r (s, t :: st)).2 ++ z) := by simp [doC]
          rw [e]
          exact goC_below z l (a + 1) _ _ h
      · rw [if_neg hf] at h
        simp at h
end Go.Proofs.YtjanbhodikhdeaaDoor
