/-
  A part of the proof of the statement NfaAccepts.
-/
import Derived.Test.YtbhkfifmgbcknaaGreatDoorG19
set_option linter.unusedSimpArgs false
set_option linter.unusedVariables false
namespace Go.Proofs.YtbhkfifmgbcknaaGreatDoor.Ex
open Go Go.RowKit
structure Sq (P : Program) (ng nt : Nat) (call : Caller) (all : List Oper) (tb : T Nat) (al : List Nat) (tm : Fr) (n0 : Nat) (t0 : T Ent) (seq : Nat → DS) : Prop where
  st : ∀ j o, all[j]? = some o → stepD P ng nt call all tb (eLs (mkOf tb) all 0) al o j (seq j) = some (seq (j + 1))
  s0 : seq 0 = ⟨undef, tm, n0, 0, t0, .leaf, [t0], []⟩
  sf : ∀ j o, all[j]? = some o → SF all tb j o
  mn : CallMn call
def dstAt (all : List Oper) (j : Nat) : Option Nat := (all[j]?).bind (·.dst)
theorem dstAt_eq {all : List Oper} {j : Nat} {o : Oper} (h : all[j]? = some o) : dstAt all j = o.dst := by
  unfold dstAt
  rw [h]; rfl
section
variable {P : Program} {ng nt : Nat} {call : Caller} {all : List Oper} {tb : T Nat} {al : List Nat} {tm : Fr} {n0 : Nat} {t0 : T Ent} {seq : Nat → DS}
theorem Sq.m (S : Sq P ng nt call all tb al tm n0 t0 seq) : ∀ k, k ≤ all.length → (seq k).m = (all.take k).countP isE
  | 0, _ => by rw [S.s0]; simp
  | k + 1, hk => by
    have ih := S.m k (by omega)
    have ho : all[k]? = some all[k] := by simp
    have hst := S.st k _ ho
    have htk : all.take (k + 1) = all.take k ++ [all[k]] := by
      rw [List.take_add_one, ho]; rfl
    rw [htk, List.countP_append, ← ih, List.countP_singleton]
    by_cases he : kdOf all[k] = .e
    · rw [(stepD_e hst he).2.1, if_pos (isE_eq.2 he)]
    · rw [((stepD_any hst).2.2.2.2.1 he).1, if_neg (fun h => he (isE_eq.1 h))]
      rfl
theorem Sq.cs (S : Sq P ng nt call all tb al tm n0 t0 seq) : ∀ k, k ≤ all.length → (seq k).cs.length = (seq k).m + 1 ∧ cAt (seq k).cs (seq k).m = (seq k).core
  | 0, _ => by rw [S.s0]; exact ⟨rfl, cAt_head _ _ rfl⟩
  | k + 1, hk => by
    obtain ⟨h1, h2⟩ := S.cs k (by omega)
    have ho : all[k]? = some all[k] := by simp
    have hst := S.st k _ ho
    by_cases he : kdOf all[k] = .e
    · obtain ⟨-, h3, h4⟩ := stepD_e hst he
      rw [h3, h4]
      exact ⟨by rw [List.length_cons, h1], cAt_head _ _ h1⟩
    · obtain ⟨h3, h4, h5⟩ := (stepD_any hst).2.2.2.2.1 he
      rw [h3, h4, h5]
      exact ⟨h1, h2⟩
theorem Sq.cKeep1 (S : Sq P ng nt call all tb al tm n0 t0 seq) {k : Nat} (hk : k < all.length) : (seq k).cs.length ≤ (seq (k + 1)).cs.length ∧ ∀ m, m < (seq k).cs.length → cAt (seq (k + 1)).cs m = cAt (seq k).cs m := by
  have ho : all[k]? = some all[k] := by simp
  have hst := S.st k _ ho
  by_cases he : kdOf all[k] = .e
  · obtain ⟨-, -, h4⟩ := stepD_e hst he
    rw [h4]
    exact ⟨by rw [List.length_cons]; omega, fun m hm => cAt_tail _ _ hm⟩
  · obtain ⟨-, -, h5⟩ := (stepD_any hst).2.2.2.2.1 he
    rw [h5]
    exact ⟨Nat.le_refl _, fun _ _ => rfl⟩
theorem Sq.cKeep (S : Sq P ng nt call all tb al tm n0 t0 seq) {k : Nat} : ∀ d, k + d ≤ all.length → (seq k).cs.length ≤ (seq (k + d)).cs.length ∧ ∀ m, m < (seq k).cs.length → cAt (seq (k + d)).cs m = cAt (seq k).cs m
  | 0, _ => ⟨Nat.le_refl _, fun _ _ => rfl⟩
  | d + 1, h => by
    obtain ⟨h1, h2⟩ := S.cKeep (k := k) d (by omega)
    obtain ⟨h3, h4⟩ := S.cKeep1 (k := k + d) (by omega)
    exact ⟨Nat.le_trans h1 h3, fun m hm => (h4 m (by omega)).trans (h2 m hm)⟩
theorem Sq.en (S : Sq P ng nt call all tb al tm n0 t0 seq) : ∀ k, k ≤ all.length → ∀ j i e, (seq k).en.get j = some (i, e) → j < k ∧ ∃ o t, all[j]? = some o ∧ kdOf o = .p ∧ i = (seq j).n ∧ (seq j).n < (seq (j + 1)).n ∧
    oneI call (cI P ng nt all o) (restr (seq j).tm (readsOf all o)) ⟨.leaf, (seq j).n⟩ = some ((seq (j + 1)).v, ⟨t, (seq (j + 1)).n⟩) ∧ t.get i = some e
  | 0, _, j, i, e, h => by rw [S.s0] at h; cases h
  | k + 1, hk, j, i, e, h => by
    have ho : all[k]? = some all[k] := by simp
    have hst := S.st k _ ho
    have old : (seq k).en.get j = some (i, e) → j < k + 1 ∧ ∃ o t, all[j]? = some o ∧ kdOf o = .p ∧ i = (seq j).n ∧ (seq j).n < (seq (j + 1)).n ∧
        oneI call (cI P ng nt all o) (restr (seq j).tm (readsOf all o)) ⟨.leaf, (seq j).n⟩ = some ((seq (j + 1)).v, ⟨t, (seq (j + 1)).n⟩) ∧ t.get i = some e := fun h => by
      obtain ⟨h1, h2⟩ := S.en k (by omega) j i e h
      exact ⟨by omega, h2⟩
    by_cases hp : kdOf all[k] = .p
    · obtain ⟨t, h1, h2⟩ := stepD_p hst hp
      rw [h2] at h
      unfold laid at h
      split at h
      · rename_i e' he'
        split at h
        · rename_i hb
          rw [T.get_set] at h
          by_cases hj : j = k
          · rw [if_pos hj] at h
            cases h
            subst hj
            exact ⟨Nat.lt_succ_self _, all[j], t, ho, hp, rfl, Nat.le_of_ble_eq_true hb, h1, he'⟩
          · rw [if_neg hj] at h
            exact old h
        · exact old h
      · exact old h
    · rw [(stepD_any hst).2.2.2.2.2 hp] at h
      exact old h
theorem Sq.enKeep (S : Sq P ng nt call all tb al tm n0 t0 seq) {k j : Nat} (hj : j < k) : ∀ d, k + d ≤ all.length → (seq (k + d)).en.get j = (seq k).en.get j
  | 0, _ => rfl
  | d + 1, h => by
    have ho : all[k + d]? = some all[k + d] := by simp
    have hst := S.st (k + d) _ ho
    rw [show k + (d + 1) = k + d + 1 by omega, (stepD_any hst).2.2.1 j (by omega)]
    exact S.enKeep hj d (by omega)
theorem Sq.rsKeep (S : Sq P ng nt call all tb al tm n0 t0 seq) {k : Nat} {r : RR} (hr : r ∈ (seq k).rs) : ∀ d, k + d ≤ all.length → r ∈ (seq (k + d)).rs
  | 0, _ => hr
  | d + 1, h => by
    have ho : all[k + d]? = some all[k + d] := by simp
    exact (stepD_any (S.st (k + d) _ ho)).2.2.2.1 r (S.rsKeep hr d (by omega))
theorem Sq.tms (S : Sq P ng nt call all tb al tm n0 t0 seq) : ∀ k, k ≤ all.length → ∀ t v, (seq k).tm.get t = some v →
    (∃ j, j < k ∧ dstAt all j = some t ∧ (seq (j + 1)).v = v ∧ ∀ j', j < j' → j' < k → dstAt all j' ≠ some t) ∨ (tm.get t = some v ∧ ∀ j, j < k → dstAt all j ≠ some t)
  | 0, _, t, v, h => by rw [S.s0] at h; exact .inr ⟨h, fun j hj => absurd hj (Nat.not_lt_zero _)⟩
  | k + 1, hk, t, v, h => by
    have ho : all[k]? = some all[k] := by simp
    have hst := S.st k _ ho
    have hd := dstAt_eq ho
    have old : dstAt all k ≠ some t → (seq k).tm.get t = some v → (∃ j, j < k + 1 ∧ dstAt all j = some t ∧ (seq (j + 1)).v = v ∧ ∀ j', j < j' → j' < k + 1 → dstAt all j' ≠ some t) ∨ (tm.get t = some v ∧ ∀ j, j < k + 1 → dstAt all j ≠ some t) := by
      intro hne h
      rcases S.tms k (by omega) t v h with ⟨j, h1, h2, h3, h4⟩ | ⟨h1, h2⟩
      · refine .inl ⟨j, by omega, h2, h3, fun j' h5 h6 => ?_⟩
        by_cases hjk : j' = k
        · rw [hjk]; exact hne
        · exact h4 j' h5 (by omega)
      · refine .inr ⟨h1, fun j' h6 => ?_⟩
        by_cases hjk : j' = k
        · rw [hjk]; exact hne
        · exact h2 j' (by omega)
    rw [(stepD_any hst).1] at h
    cases hdk : all[k].dst with
    | none =>
      rw [hdk] at h
      exact old (by rw [hd, hdk]; exact fun h => nomatch h) h
    | some u =>
      rw [hdk] at h
      have h' : ((seq k).tm.set (seq (k + 1)).v u).get t = some v := h
      rw [T.get_set] at h'
      by_cases hu : t = u
      · rw [if_pos hu] at h'
        cases h'
        exact .inl ⟨k, Nat.lt_succ_self _, by rw [hd, hdk, hu], rfl, fun j' a b => by omega⟩
      · rw [if_neg hu] at h'
        exact old (by rw [hd, hdk]; exact fun h => hu (by cases h; rfl)) h'
theorem Sq.nle (S : Sq P ng nt call all tb al tm n0 t0 seq) {k : Nat} (hk : k < all.length) : (seq k).n ≤ (seq (k + 1)).n := by
  have ho : all[k]? = some all[k] := by simp
  have hst := S.st k _ ho
  cases hkd : kdOf all[k] with
  | p =>
    obtain ⟨t, h1, -⟩ := stepD_p hst hkd
    exact oneI_mn S.mn h1
  | r =>
    rw [(stepD_r hst hkd).2.1]
    exact Nat.le_refl _
  | e => exact oneI_mn S.mn (stepD_e hst hkd).1
theorem Sq.nles (S : Sq P ng nt call all tb al tm n0 t0 seq) : ∀ k, k ≤ all.length → n0 ≤ (seq k).n
  | 0, _ => by rw [S.s0]; exact Nat.le_refl _
  | k + 1, h => Nat.le_trans (S.nles k (by omega)) (S.nle (by omega))
theorem Sq.pmlt (S : Sq P ng nt call all tb al tm n0 t0 seq) : ∀ n k, k < n → k < all.length → ∀ j, (mkOf tb k).testBit j = true → j < k := by
  intro n
  induction n with
  | zero => intro k h; exact absurd h (Nat.not_lt_zero _)
  | succ n ih =>
    intro k hk hkN j hj
    have ho : all[k]? = some all[k] := by simp
    obtain ⟨e, he, hb, hje⟩ := (S.sf k _ ho).pmin j hj
    have hon := (S.sf k _ ho).edge e he hb
    rcases hje with hje | hje
    · omega
    · have := ih e.on (by omega) (by omega) j hje
      omega
end
noncomputable def planOf (all : List Oper) (tb : T Nat) (al : List Nat) (tm : Fr) (seq : Nat → DS) : Plan where
  N := all.length
  M := (seq all.length).m
  pm := fun k j => (mkOf tb k).testBit j = true
  kd := fun k => match all[k]? with
    | some o => kdOf o
    | none => .p
  eix := fun k => (seq k).m
  n := fun k => (seq k).n
  val := fun k => (seq (k + 1)).v
  ent := fun k => match (seq all.length).en.get k with
    | some (_, e) => some e
    | none => none
  C := fun m => cAt (seq all.length).cs m
  fr := fun k => match all[k]? with
    | some o => restr (seq k).tm (readsOf all o)
    | none => .leaf
  dst := dstAt all
  tab := fun k m => tabOf (seq all.length).en (eLs (mkOf tb) all 0) (mkOf tb k) m (cAt (seq all.length).cs m) al
  tm0 := tm
  A := True
  lo := 0
  sd := fun _ => none
section
variable {P : Program} {ng nt : Nat} {call : Caller} {all : List Oper} {ops : Array Oper} {tb : T Nat} {al : List Nat} {tm : Fr} {n0 : Nat} {t0 : T Ent} {seq : Nat → DS}
theorem Sq.ent (S : Sq P ng nt call all tb al tm n0 t0 seq) {k : Nat} {e : Ent} (h : (planOf all tb al tm seq).ent k = some e) : (seq all.length).en.get k = some ((seq k).n, e) := by
  have h' : (match (seq all.length).en.get k with
    | some (_, e) => some e
    | none => none) = some e := h
  cases hg : (seq all.length).en.get k with
  | none => rw [hg] at h'; cases h'
  | some q =>
    obtain ⟨i, e'⟩ := q
    rw [hg] at h'
    cases h'
    obtain ⟨-, o, t, -, -, hi, -⟩ := S.en _ (Nat.le_refl _) _ _ _ hg
    rw [hi]
theorem Sq.fa (S : Sq P ng nt call all tb al tm n0 t0 seq) {p m : Nat} : freeAt m p (eLs (mkOf tb) all 0) 0 = true ↔ (planOf all tb al tm seq).FreeAt p m := by
  constructor
  · intro h e he hke hpe
    have ho : all[e]? = some all[e] := List.getElem?_eq_getElem he
    have hke' : kdOf all[e] = .e := by
      have h1 : (match all[e]? with
        | some o => kdOf o
        | none => .p) = Kd.e := hke
      rw [ho] at h1
      exact h1
    have h2 := eLs_at (mkOf tb) all 0 e _ ho (isE_eq.2 hke')
    have h3 := freeAt_ok _ 0 h _ _ h2 (by rw [Nat.zero_add]; exact hpe)
    have h4 := S.m e (Nat.le_of_lt he)
    show m ≤ (seq e).m
    omega
  · intro h
    refine freeAt_of _ 0 fun x q hq hb => ?_
    obtain ⟨j, o, h1, h2, h3, h4⟩ := eLs_of (mkOf tb) all 0 x q hq
    have hj : j < all.length := (List.getElem?_eq_some_iff.1 h1).1
    have h5 := h j hj (show (match all[j]? with | some o => kdOf o | none => .p) = Kd.e by rw [h1]; exact isE_eq.1 h2) (show (mkOf tb j).testBit p = true by rw [h4, Nat.zero_add] at hb; exact hb)
    have h6 := S.m j (Nat.le_of_lt hj)
    have h5' : m ≤ (seq j).m := h5
    omega
theorem Sq.plan (S : Sq P ng nt call ops.toList tb al tm n0 t0 seq) (hN : noNum P = true) (hC : CallOk P ng call) {Q : Exit → Act → World → Prop} {df : List Deferred}
    (hw : wAll call (seq ops.toList.length).en (eLs (mkOf tb) ops.toList 0) (eLs (fun k => k) ops.toList 0) al (seq ops.toList.length).cs (seq ops.toList.length).rs = true) :
    (planOf ops.toList tb al tm seq).Ok P ops Q ng nt df := by
  have kdE : ∀ {k o}, ops.toList[k]? = some o → (planOf ops.toList tb al tm seq).kd k = kdOf o := fun {k o} h => by
    show (match ops.toList[k]? with | some o => kdOf o | none => .p) = _
    rw [h]
  have frE : ∀ {k o}, ops.toList[k]? = some o → (planOf ops.toList tb al tm seq).fr k = restr (seq k).tm (readsOf ops.toList o) := fun {k o} h => by
    show (match ops.toList[k]? with | some o => restr (seq k).tm (readsOf ops.toList o) | none => .leaf) = _
    rw [h]
  have at_ : ∀ {k : Nat} (h : k < ops.toList.length), ops.toList[k]? = some ops.toList[k] := fun h => List.getElem?_eq_getElem h
  have at' : ∀ {k : Nat} {o : Oper}, ops.toList[k]? = some o → ops[k]? = some o := fun h => by rw [← Array.getElem?_toList]; exact h
  have opAt : ∀ {k : Nat} {o : Oper}, ops[k]? = some o → ops.toList[k]? = some o := fun h => by rw [Array.getElem?_toList]; exact h
  have tabE : ∀ {k}, k < ops.toList.length → (planOf ops.toList tb al tm seq).tab k (seq k).m = tabOf (seq k).en (eLs (mkOf tb) ops.toList 0) (mkOf tb k) (seq k).m (seq k).core al := fun {k} hk => by
    show tabOf (seq ops.toList.length).en (eLs (mkOf tb) ops.toList 0) (mkOf tb k) (seq k).m (cAt (seq ops.toList.length).cs (seq k).m) al = _
    obtain ⟨h1, h2⟩ := S.cs k (Nat.le_of_lt hk)
    have h3 := (S.cKeep (k := k) (ops.toList.length - k) (by omega)).2 (seq k).m (by omega)
    rw [show k + (ops.toList.length - k) = ops.toList.length by omega] at h3
    rw [h3, h2]
    refine tabOf_congr (fun j hj => ?_) al
    have hjk := S.pmlt (k + 1) k (Nat.lt_succ_self k) hk j hj
    have h4 := S.enKeep hjk (ops.toList.length - k) (by omega)
    rw [show k + (ops.toList.length - k) = ops.toList.length by omega] at h4
    exact h4
  refine { size := by simp [planOf], dlt := ?_, pmlt := ?_, pmin := ?_, edge := ?_, tot := ?_, eixlt := ?_, econs := ?_, eM := ?_, mono := ?_, entlt := ?_, waw := ?_, frd := ?_, war := ?_, tabs := ?_, sdn := (fun _ _ h => nomatch h), sdt := (fun _ _ _ _ h => nomatch h), opP := ?_, opR := ?_, opE := ?_ }
  · intro k t hk hd
    have hk' : k < ops.toList.length := hk
    have h1 := (stepD_any (S.st k _ (at_ hk'))).2.1
    have hd' : dstAt ops.toList k = some t := hd
    rw [dstAt_eq (at_ hk')] at hd'
    rw [hd'] at h1
    exact Nat.le_of_ble_eq_true h1
  · intro k j hk hj
    exact S.pmlt (k + 1) k (Nat.lt_succ_self k) hk j hj
  · intro k o ho j hj
    have h1 := S.sf k o (opAt ho)
    obtain ⟨e, he, hb, hje⟩ := h1.pmin j hj
    have h2 := h1.edge e he hb
    have h3 : k < ops.toList.length := (List.getElem?_eq_some_iff.1 (opAt ho)).1
    exact ⟨e, he, hb, Nat.lt_trans h2 h3, hje⟩
  · intro k o ho e he hb
    exact (S.sf k o (opAt ho)).edge e he hb
  · intro i j hij hj hi he
    have hj' : j < ops.toList.length := hj
    have hi' : i < ops.toList.length := by omega
    rw [kdE (at_ hi')] at hi
    rw [kdE (at_ hj')] at he
    exact (S.sf j _ (at_ hj')).tot he i _ hij (at_ hi') hi
  · intro i j hij hj hi he
    have hj' : j < ops.toList.length := hj
    have hi' : i < ops.toList.length := by omega
    rw [kdE (at_ hi')] at hi
    have h1 := (stepD_e (S.st i _ (at_ hi')) hi).2.1
    have h2 := S.m (i + 1) (by omega)
    have h3 := S.m j (by omega)
    have h4 : (ops.toList.take (i + 1)).countP isE ≤ (ops.toList.take j).countP isE := by
      refine List.Sublist.countP_le ?_
      exact List.take_sublist_take_left (by omega)
    show (seq i).m < (seq j).m
    omega
  · intro k hk hkd
    have hk' : k < ops.toList.length := hk
    by_cases h0 : (seq k).m = 0
    · exact .inl h0
    · refine .inr ?_
      have : ∀ n, n ≤ ops.toList.length → (seq n).m ≠ 0 → ∃ e, e < n ∧ (planOf ops.toList tb al tm seq).kd e = .e ∧ (seq n).m = (seq e).m + 1 := by
        intro n
        induction n with
        | zero => intro _ h; rw [S.s0] at h; exact absurd rfl h
        | succ n ih =>
          intro hn hne
          have hst := S.st n _ (at_ (by omega))
          by_cases he : kdOf ops.toList[n] = .e
          · exact ⟨n, Nat.lt_succ_self _, by rw [kdE (at_ (by omega))]; exact he, (stepD_e hst he).2.1⟩
          · have h1 := ((stepD_any hst).2.2.2.2.1 he).1
            obtain ⟨e, h2, h3, h4⟩ := ih (by omega) (by rw [← h1]; exact hne)
            exact ⟨e, by omega, h3, by rw [h1]; exact h4⟩
      exact this k (Nat.le_of_lt hk') h0
  · intro k hk hkd
    have hk' : k < ops.toList.length := hk
    rw [kdE (at_ hk')] at hkd
    have h1 := (stepD_e (S.st k _ (at_ hk')) hkd).2.1
    have h2 := S.m (k + 1) (by omega)
    have h3 := S.m ops.toList.length (Nat.le_refl _)
    have h4 : (ops.toList.take (k + 1)).countP isE ≤ (ops.toList.take ops.toList.length).countP isE := by
      refine List.Sublist.countP_le ?_
      exact List.take_sublist_take_left (by omega)
    show (seq k).m < (seq ops.toList.length).m
    omega
  · intro k hk
    exact S.nle hk
  · intro k e hk he
    obtain ⟨-, o, t, -, -, -, hlt, -⟩ := S.en _ (Nat.le_refl _) _ _ _ (S.ent he)
    exact hlt
  · intro i j t hij hj hdi hdj
    have hj' : j < ops.toList.length := hj
    have hi' : i < ops.toList.length := by omega
    have hdi' : dstAt ops.toList i = some t := hdi
    have hdj' : dstAt ops.toList j = some t := hdj
    rw [dstAt_eq (at_ hi')] at hdi'
    rw [dstAt_eq (at_ hj')] at hdj'
    exact (S.sf j _ (at_ hj')).waw t hdj' i _ hij (at_ hi') hdi'
  · intro k t v hk hv
    have hk' : k < ops.toList.length := hk
    rw [frE (at_ hk')] at hv
    obtain ⟨h1, h2⟩ := restr_get _ _ hv
    rcases S.tms k (Nat.le_of_lt hk') t v h2 with ⟨j, h3, h4, h5, h6⟩ | h3
    · refine .inl ⟨j, ?_, h4, h5, h6⟩
      have hj' : j < ops.toList.length := by omega
      have h4' := h4
      rw [dstAt_eq (at_ hj')] at h4'
      exact (S.sf k _ (at_ hk')).raw t h1 j _ h3 (at_ hj') h4'
    · exact .inr h3
  · intro k t v j hkj hj hv hd
    have hj' : j < ops.toList.length := hj
    have hk' : k < ops.toList.length := by omega
    rw [frE (at_ hk')] at hv
    obtain ⟨h1, -⟩ := restr_get _ _ hv
    have hd' : dstAt ops.toList j = some t := hd
    rw [dstAt_eq (at_ hj')] at hd'
    exact (S.sf j _ (at_ hj')).war t hd' k _ hkj (at_ hk') h1
  · intro k m i e hg
    rcases tabOf_get al hg with h | ⟨j, h1, h2, h3⟩
    · exact .inl h
    · obtain ⟨h4, o, t, h5, h6, h7, -⟩ := S.en _ (Nat.le_refl _) _ _ _ h2
      refine .inr ⟨j, h1, by rw [kdE h5]; exact h6, S.fa.1 h3, h7, ?_⟩
      show (match (seq ops.toList.length).en.get j with
        | some (_, e) => some e
        | none => none) = some e
      rw [h2]
  · intro k hk hkd
    have hk' : k < ops.toList.length := hk
    rw [kdE (at_ hk')] at hkd
    obtain ⟨t, h1, -⟩ := stepD_p (S.st k _ (at_ hk')) hkd
    refine ⟨t, ?_, fun e he => ?_⟩
    · have h2 := opOk_of hN hC (Q := Q) (df := df) (at' (at_ hk')) h1
      have h3 : (planOf ops.toList tb al tm seq).dst k = ops.toList[k].dst := dstAt_eq (at_ hk')
      rw [frE (at_ hk'), h3]
      exact h2
    · obtain ⟨-, o, t', h5, -, -, -, h8, h9⟩ := S.en _ (Nat.le_refl _) _ _ _ (S.ent he)
      rw [at_ hk'] at h5
      cases h5
      rw [h1] at h8
      cases h8
      exact h9
  · intro _ k m hk hkd hW hm
    have hk' : k < ops.toList.length := hk
    rw [kdE (at_ hk')] at hkd
    obtain ⟨h1, h2, h3⟩ := stepD_r (S.st k _ (at_ hk')) hkd
    have h3' := S.rsKeep h3 (ops.toList.length - (k + 1)) (by omega)
    rw [show k + 1 + (ops.toList.length - (k + 1)) = ops.toList.length by omega] at h3'
    have hcs := (S.cs _ (Nat.le_refl _)).1
    have hm' : m < (seq ops.toList.length).cs.length := by
      have : m ≤ (seq ops.toList.length).m := hm
      omega
    have h4 := wCores_ok _ (wAll_ok _ hw _ h3') m hm'
    have hdst : (planOf ops.toList tb al tm seq).dst k = ops.toList[k].dst := dstAt_eq (at_ hk')
    rw [frE (at_ hk'), hdst]
    have hn : (planOf ops.toList tb al tm seq).n (k + 1) = (planOf ops.toList tb al tm seq).n k := h2
    rw [hn]
    by_cases hmk : m = (seq k).m
    · subst hmk
      rw [tabE hk']
      rw [h2] at h1
      exact opOk_of hN hC (at' (at_ hk')) h1
    · unfold wOne at h4
      have hb : Nat.beq m (seq k).m = false := by
        cases hb : Nat.beq m (seq k).m with
        | false => rfl
        | true => exact absurd (Nat.eq_of_beq_eq_true hb) hmk
      dsimp only at h4
      rw [hb] at h4
      dsimp only at h4
      have hlo : loOk (mkOf tb k) m (eLs (fun k => k) ops.toList 0) 0 = true := by
        refine loOk_of _ 0 fun x e hx hbit => ?_
        obtain ⟨j, o, g1, g2, g3, g4⟩ := eLs_of (fun k => k) ops.toList 0 x e hx
        have hj : j < ops.toList.length := (List.getElem?_eq_some_iff.1 g1).1
        have hej : e = j := by rw [g4, Nat.zero_add]
        subst hej
        have g5 := hW.1 e hj (by rw [kdE g1]; exact isE_eq.1 g2) hbit
        have g6 := S.m e (Nat.le_of_lt hj)
        have g5' : (seq e).m < m := g5
        omega
      have hfa : freeAt m k (eLs (mkOf tb) ops.toList 0) 0 = true := S.fa.2 hW.2
      rw [hlo] at h4
      dsimp only at h4
      rw [hfa] at h4
      dsimp only at h4
      split at h4
      · rename_i v h5 h6
        have h7 := oneI_rd hkd h6
        subst h7
        rw [veq_ok _ _ _ h4] at h6
        exact opOk_of hN hC (at' (at_ hk')) h6
      · cases h4
  · intro k hk hkd
    have hk' : k < ops.toList.length := hk
    rw [kdE (at_ hk')] at hkd
    obtain ⟨h1, h2, h3⟩ := stepD_e (S.st k _ (at_ hk')) hkd
    have hdst : (planOf ops.toList tb al tm seq).dst k = ops.toList[k].dst := dstAt_eq (at_ hk')
    rw [frE (at_ hk'), hdst]
    have he : (planOf ops.toList tb al tm seq).eix k = (seq k).m := rfl
    rw [he, tabE hk']
    have hcore : (planOf ops.toList tb al tm seq).C ((seq k).m + 1) = (seq (k + 1)).core := by
      show cAt (seq ops.toList.length).cs ((seq k).m + 1) = _
      obtain ⟨g1, g2⟩ := S.cs (k + 1) (by omega)
      have g3 := (S.cKeep (k := k + 1) (ops.toList.length - (k + 1)) (by omega)).2 (seq (k + 1)).m (by omega)
      rw [show k + 1 + (ops.toList.length - (k + 1)) = ops.toList.length by omega] at g3
      rw [← h2, g3, g2]
    rw [hcore]
    exact opOk_of hN hC (at' (at_ hk')) h1
theorem runR_okW (hN : noNum P = true) (hC : CallOk P ng call) (hM : CallMn call) {Q : Exit → Act → World → Prop} {df : List Deferred} {h : H} {tm' : Fr} {h' : H}
    (hr : runR P ng nt call ops.toList tm h = some (tm', h')) {E : Env} {F : Full} {w : World} {a : Act} (s : St E F h w) (hg : Glob E ng) (ht : TmR E nt df tm a) (hfr : Free E h.n h'.n)
    (hq : ∀ E' F' a' w', Go E F h w E' F' h' w' → TmR E' nt df tm' a' → Q .normal a' w') : wpAny P .any ops Q ops.size (Array.replicate ops.size false) a w.drew := by
  unfold runR at hr
  generalize htb : masks ops.toList 0 .leaf = tb at hr
  generalize hal : alOf ops.toList 0 = al at hr
  split at hr
  · rename_i hsc
    split at hr
    · rename_i sF hrun
      split at hr
      · rename_i hw
        obtain ⟨seq, h0, h1, h2⟩ := runD_seq _ _ _ _ hrun
        simp only [Nat.zero_add] at h1 h2
        have S : Sq P ng nt call ops.toList tb al tm h.n h.t seq := ⟨h2, h0, fun j o ho => scheck_ok _ _ _ 0 0 _ _ rfl hsc (fun i p hi => absurd hi (Nat.not_lt_zero _)) (fun i p t hi => absurd hi (Nat.not_lt_zero _)) (fun i p t hi => absurd hi (Nat.not_lt_zero _)) j o (Nat.zero_le _) ho, hM⟩
        subst h1
        cases hr
        refine Plan.Ok.regionW (S.plan hN hC hw) trivial rfl (fun _ => rfl) s hg ht hfr (show (seq 0).n = h.n by rw [h0]) ?_ ?_ ?_ ?_ hq
        · show cAt (seq ops.toList.length).cs 0 = h.t
          have g := (S.cKeep (k := 0) ops.toList.length (by omega)).2 0 (by rw [h0]; exact Nat.zero_lt_one)
          rw [Nat.zero_add] at g
          rw [g, h0]
          exact cAt_head _ _ rfl
        · show (seq ops.toList.length).m = 0 ∨ _
          by_cases hm : (seq ops.toList.length).m = 0
          · exact .inl hm
          · refine .inr ?_
            have : ∀ n, n ≤ ops.toList.length → (seq n).m ≠ 0 → ∃ e, e < n ∧ (planOf ops.toList tb al tm seq).kd e = .e ∧ (seq n).m = (seq e).m + 1 := by
              intro n
              induction n with
              | zero => intro _ h; rw [h0] at h; exact absurd rfl h
              | succ n ih =>
                intro hn hne
                have ho : ops.toList[n]? = some ops.toList[n] := List.getElem?_eq_getElem (by omega)
                have hst := S.st n _ ho
                by_cases he : kdOf ops.toList[n] = .e
                · refine ⟨n, Nat.lt_succ_self _, ?_, (stepD_e hst he).2.1⟩
                  show (match ops.toList[n]? with | some o => kdOf o | none => .p) = Kd.e
                  rw [ho]
                  exact he
                · have h1 := ((stepD_any hst).2.2.2.2.1 he).1
                  obtain ⟨e, h2, h3, h4⟩ := ih (by omega) (by rw [← h1]; exact hne)
                  exact ⟨e, by omega, h3, by rw [h1]; exact h4⟩
            exact this _ (Nat.le_refl _) hm
        · intro i e hgt
          rcases tabOf_get al hgt with g | ⟨j, -, g2, g3⟩
          · refine .inl ?_
            show (cAt (seq ops.toList.length).cs (seq ops.toList.length).m).get i = some e
            rw [(S.cs _ (Nat.le_refl _)).2]
            exact g
          · obtain ⟨g4, o, t, g5, g6, g7, -⟩ := S.en _ (Nat.le_refl _) _ _ _ g2
            refine .inr ⟨j, g4, ?_, S.fa.1 g3, g7, ?_⟩
            · show (match ops.toList[j]? with | some o => kdOf o | none => .p) = Kd.p
              rw [g5]
              exact g6
            · show (match (seq ops.toList.length).en.get j with
                | some (_, e) => some e
                | none => none) = some e
              rw [g2]
        · intro t v hv
          rcases S.tms _ (Nat.le_refl _) t v hv with ⟨j, g1, g2, g3, g4⟩ | ⟨g1, g2⟩
          · refine .inl ⟨j, g1, trivial, g2, g3, fun j' g5 _ g6 => ?_⟩
            rcases Nat.lt_or_ge j j' with g7 | g7
            · exact absurd g6 (g4 j' g7 g5)
            · exact g7
          · exact .inr ⟨g1, fun j g5 _ => g2 j g5⟩
      · cases hr
    · cases hr
  · cases hr
theorem runR_mn (hM : CallMn call) {all : List Oper} {h : H} {tm' : Fr} {h' : H} (hr : runR P ng nt call all tm h = some (tm', h')) : h.n ≤ h'.n := by
  unfold runR at hr
  generalize htb : masks all 0 .leaf = tb at hr
  generalize hal : alOf all 0 = al at hr
  split at hr
  · rename_i hsc
    split at hr
    · rename_i sF hrun
      split at hr
      · obtain ⟨seq, h0, h1, h2⟩ := runD_seq _ _ _ _ hrun
        simp only [Nat.zero_add] at h1 h2
        have S : Sq P ng nt call all tb al tm h.n h.t seq := ⟨h2, h0, fun j o ho => scheck_ok _ _ _ 0 0 _ _ rfl hsc (fun i p hi => absurd hi (Nat.not_lt_zero _)) (fun i p t hi => absurd hi (Nat.not_lt_zero _)) (fun i p t hi => absurd hi (Nat.not_lt_zero _)) j o (Nat.zero_le _) ho, hM⟩
        subst h1
        cases hr
        exact S.nles _ (Nat.le_refl _)
      · cases hr
    · cases hr
  · cases hr
end
end Go.Proofs.YtbhkfifmgbcknaaGreatDoor.Ex
