/-
  A part of the proof of the statement NfaAccepts.
-/
import Derived.Test.YtbhkfifmgbcknaaGreatDoorExLt
set_option linter.unusedSimpArgs false
set_option linter.unusedVariables false
namespace Go.Proofs.YtbhkfifmgbcknaaGreatDoor.Ex
open Go Go.RowKit
noncomputable def stOp (o : Oper) : Option (Operand × Operand) := match o.op with
  | .store _ a v => match o.guard with
    | none => match o.dst with
      | none => some (a, v)
      | some _ => none
    | some _ => none
  | _ => none
theorem stOp_ok {o : Oper} {a v : Operand} (h : stOp o = some (a, v)) : ∃ t, o.op = .store t a v ∧ o.guard = none ∧ o.dst = none := by
  unfold stOp at h
  split at h
  · rename_i t a' v' ho
    split at h
    · rename_i hg
      split at h
      · rename_i hd
        cases h
        exact ⟨t, ho, hg, hd⟩
      · cases h
    · cases h
  · cases h
theorem store_one {P : Program} {ng nt : Nat} {call : Caller} {all : List Oper} {o : Oper} {a v : Operand} (ho : stOp o = some (a, v)) {fr : Fr} {t : T Ent} {n : Nat} {u : Value} {h' : H} (h1 : oneI call (cI P ng nt all o) fr ⟨t, n⟩ = some (u, h')) :
    ∃ b off sp e e', ev fr (cOpd ng a) = some (.pointer (some ⟨b, off, sp⟩)) ∧ t.get b = some e ∧ u = undef ∧ h' = ⟨t.set e' b, n⟩ ∧ ∀ t2 n2, t2.get b = some e → oneI call (cI P ng nt all o) fr ⟨t2, n2⟩ = some (undef, ⟨t2.set e' b, n2⟩) := by
  obtain ⟨ty, hop, hg, hd⟩ := stOp_ok ho
  have hcX1 : ∀ i, P.info? ty = some i → cX P ng o = xStore i.size (cOpd ng a) (cOpd ng v) := fun i hq => by
    unfold cX
    rw [hop]
    dsimp only
    rw [hq]
  have hcX0 : P.info? ty = none → cX P ng o = xFail := fun hq => by
    unfold cX
    rw [hop]
    dsimp only
    rw [hq]
  have hI : ∀ t2 n2, oneI call (cI P ng nt all o) fr ⟨t2, n2⟩ = (match cX P ng o fr ⟨t2, n2⟩ with
      | .val v h' => some (v, h')
      | .enter f args h' => call f args h'
      | .fail => none) := fun t2 n2 => by
    show (match wants fr (match dstOk nt o.dst with | true => cGd all o.guard | false => .bad) with
      | some true => match cX P ng o fr ⟨t2, n2⟩ with
        | .val v h' => some (v, h')
        | .enter f args h' => call f args h'
        | .fail => none
      | some false => some (undef, ⟨t2, n2⟩)
      | none => none) = _
    rw [hd, hg]
    rfl
  rw [hI] at h1
  cases hi : P.info? ty with
  | none => rw [hcX0 hi] at h1; cases h1
  | some i =>
    simp only [hcX1 i hi] at h1 hI
    unfold xStore at h1 hI
    cases hx : ev fr (cOpd ng a) with
    | none => rw [hx] at h1; cases h1
    | some p =>
      rw [hx] at h1
      cases p with
      | pointer p =>
        cases p with
        | none => cases h1
        | some p =>
          obtain ⟨b, off, sp⟩ := p
          dsimp only at h1
          cases hy : ev fr (cOpd ng v) with
          | none => rw [hy] at h1; cases h1
          | some w =>
            rw [hy] at h1
            dsimp only at h1
            cases hb : t.get b with
            | none => rw [hb] at h1; cases h1
            | some e =>
              rw [hb] at h1
              dsimp only at h1
              cases hc : e.cs with
              | none => rw [hc] at h1; cases h1
              | some cs =>
                rw [hc] at h1
                dsimp only at h1
                cases hn : Nat.beq w.cells.toList.length i.size with
                | false => rw [hn] at h1; cases h1
                | true =>
                  rw [hn] at h1
                  dsimp only at h1
                  cases hon : ones w.cells.toList with
                  | false => rw [hon] at h1; cases h1
                  | true =>
                    rw [hon] at h1
                    dsimp only at h1
                    cases hl : lput off w.cells.toList cs with
                    | none => rw [hl] at h1; cases h1
                    | some cs2 =>
                      rw [hl] at h1
                      cases h1
                      refine ⟨b, off, sp, e, e.with cs2, rfl, hb, rfl, rfl, fun t2 n2 h2 => ?_⟩
                      rw [hI, hx]
                      dsimp only
                      rw [hy]
                      dsimp only
                      rw [h2]
                      dsimp only
                      rw [hc]
                      dsimp only
                      rw [hn]
                      dsimp only
                      rw [hon]
                      dsimp only
                      rw [hl]
      | _ => cases h1
noncomputable def nopOf (o : Oper) (a v : Operand) : Oper := { o with op := .makeFunc (.func 0) #[a, v] #[], dst := none, guard := none }
theorem xFunc_same {f : FuncId} {l m : List Opd} {fr : Fr} {h : H} : (∀ v h', xFunc f l m fr h = .val v h' → h' = h) ∧ ∀ g k h', xFunc f l m fr h ≠ .enter g k h' := by
  unfold xFunc
  constructor
  · intro v h' e
    repeat' split at e
    all_goals (cases e; try rfl)
  · intro g k h' e
    repeat' split at e
    all_goals cases e
theorem nop_one {P : Program} {ng nt : Nat} {call : Caller} {all : List Oper} {o : Oper} {a v : Operand} {fr : Fr} {h : H} {u : Value} {h' : H} (h1 : oneI call (cI P ng nt all (nopOf o a v)) fr h = some (u, h')) : h' = h := by
  have h2 : (match xFunc 0 [cOpd ng a, cOpd ng v] [] fr h with
      | .val v h' => some (v, h')
      | .enter f args h' => call f args h'
      | .fail => none) = some (u, h') := h1
  cases hx : xFunc 0 [cOpd ng a, cOpd ng v] [] fr h with
  | val v2 h3 => rw [hx] at h2; cases h2; exact xFunc_same.1 _ _ hx
  | enter f args h3 => exact absurd hx (xFunc_same.2 _ _ _)
  | fail => rw [hx] at h2; cases h2
noncomputable def lset (n : Nat) (x : Oper) : List Oper → List Oper :=
  Nat.rec (motive := fun _ => List Oper → List Oper) (fun l => List.rec (motive := fun _ => List Oper) [] (fun _ l _ => x :: l) l)
    (fun _ ih l => List.rec (motive := fun _ => List Oper) [] (fun a l _ => a :: ih l) l) n
theorem lset_eq (x : Oper) : ∀ (n : Nat) (l : List Oper), lset n x l = l.set n x
  | 0, [] => rfl
  | 0, _ :: _ => rfl
  | n + 1, [] => rfl
  | n + 1, a :: l => by
    show a :: lset n x l = _
    rw [lset_eq x n l]; rfl
noncomputable def lateOk (p i0 : Nat) (l : List Oper) : Nat → Bool :=
  List.rec (motive := fun _ => Nat → Bool) (fun _ => true) (fun o _ ih k => match kdOf o with
    | .p => ih (Nat.succ k)
    | _ => match Nat.beq k i0 with
      | true => ih (Nat.succ k)
      | false => match Nat.testBit p k with
        | true => ih (Nat.succ k)
        | false => false) l
theorem lateOk_ok {p i0 : Nat} : ∀ (l : List Oper) (k : Nat), lateOk p i0 l k = true → ∀ j o, l[j]? = some o → kdOf o ≠ .p → k + j ≠ i0 → p.testBit (k + j) = true
  | [], _, _, j, o, h, _, _ => by simp at h
  | x :: l, k, h, j, o, ho, hk, hj => by
    have h' : (match kdOf x with
      | .p => lateOk p i0 l (k + 1)
      | _ => match Nat.beq k i0 with
        | true => lateOk p i0 l (k + 1)
        | false => match Nat.testBit p k with
          | true => lateOk p i0 l (k + 1)
          | false => false) = true := h
    have hrest : lateOk p i0 l (k + 1) = true := by
      cases hx : kdOf x with
      | p => rw [hx] at h'; exact h'
      | r =>
        rw [hx] at h'
        dsimp only at h'
        cases hb : Nat.beq k i0 with
        | true => rw [hb] at h'; exact h'
        | false =>
          rw [hb] at h'
          dsimp only at h'
          cases hp : Nat.testBit p k with
          | true => rw [hp] at h'; exact h'
          | false => rw [hp] at h'; cases h'
      | e =>
        rw [hx] at h'
        dsimp only at h'
        cases hb : Nat.beq k i0 with
        | true => rw [hb] at h'; exact h'
        | false =>
          rw [hb] at h'
          dsimp only at h'
          cases hp : Nat.testBit p k with
          | true => rw [hp] at h'; exact h'
          | false => rw [hp] at h'; cases h'
    cases j with
    | zero =>
      simp at ho
      subst ho
      have hne : Nat.beq k i0 = false := by
        cases hb : Nat.beq k i0 with
        | false => rfl
        | true => exact absurd (Nat.eq_of_beq_eq_true hb) hj
      cases hx : kdOf x with
      | p => exact absurd hx hk
      | r =>
        rw [hx, hne] at h'
        dsimp only at h'
        cases hp : Nat.testBit p k with
        | true => rfl
        | false => rw [hp] at h'; cases h'
      | e =>
        rw [hx, hne] at h'
        dsimp only at h'
        cases hp : Nat.testBit p k with
        | true => rfl
        | false => rw [hp] at h'; cases h'
    | succ j =>
      have e : k + (j + 1) = k + 1 + j := by omega
      rw [e] at hj ⊢
      exact lateOk_ok l (k + 1) hrest j o (by simpa using ho) hk hj
noncomputable def entEq (a b : Ent) : Bool := match a with
  | .cells e cs => match b with
    | .cells e' cs' => match Nat.beq e e' with
      | true => lEq (veq 6) cs cs'
      | false => false
    | _ => false
  | _ => false
theorem entEq_ok {a b : Ent} (h : entEq a b = true) : a = b := by
  cases a with
  | cells e cs =>
    cases b with
    | cells e' cs' =>
      have h' : (match Nat.beq e e' with
        | true => lEq (veq 6) cs cs'
        | false => false) = true := h
      cases he : Nat.beq e e' with
      | false => rw [he] at h'; cases h'
      | true =>
        rw [he] at h'
        rw [Nat.eq_of_beq_eq_true he, lEq_ok (fun a b => veq_ok 6 a b) _ _ h']
    | _ => cases h
  | _ => cases h
noncomputable def endLate (P : Program) (ng nt : Nat) (call : Caller) (l z : List Oper) (es al : List Nat) (o0 nop oI : Oper) (a aI : Operand) (h : H) (s : DS) : Option (Fr × H) :=
  match ev (restr s.tm (readsOf z nop)) (cOpd ng a) with
  | some (.pointer (some ⟨y, _, _⟩)) => match ev (restr s.tm (readsOf z oI)) (cOpd ng aI) with
    | some (.pointer (some ⟨x, _, _⟩)) => match Nat.beq x y with
      | false => match Nat.ble (Nat.succ y) h.n with
        | true => match (cAt s.cs (Nat.pred s.m)).get y with
          | some e0 => match (cAt s.cs s.m).get y with
            | some e0' => match entEq e0 e0' with
              | true => match h.t.get y with
                | some _ => match oneI call (cI P ng nt l o0) (restr s.tm (readsOf z nop)) ⟨T.leaf.set e0 y, s.n⟩ with
                  | some (_, h1) => match h1.t.get y with
                    | some e1 => some (s.tm, ⟨(tabOf s.en es (Nat.sub (Nat.shiftLeft 1 (llen z)) 1) s.m s.core al).set e1 y, s.n⟩)
                    | none => none
                  | none => none
                | none => none
              | false => none
            | none => none
          | none => none
        | false => none
      | true => none
    | _ => none
  | _ => none
noncomputable def runLate2 (P : Program) (ng nt : Nat) (call : Caller) (l z : List Oper) (k0 : Nat) (o0 nop : Oper) (a : Operand) (tm : Fr) (h : H) : Option (Fr × H) :=
  match scheck z (masks z 0 .leaf) z 0 0 .leaf .leaf with
  | true => match runD P ng nt call z (masks z 0 .leaf) (eLs (mkOf (masks z 0 .leaf)) z 0) (alOf z 0) z 0 ⟨undef, tm, h.n, 0, h.t, .leaf, [h.t], []⟩ with
    | some s => match wAll call s.en (eLs (mkOf (masks z 0 .leaf)) z 0) (eLs (fun k => k) z 0) (alOf z 0) s.cs s.rs with
      | true => match lget z (Nat.pred k0) with
        | some oI => match stOp oI with
          | some (aI, _) => match lateOk (mkOf (masks z 0 .leaf) k0) (Nat.pred k0) z 0 with
            | true => endLate P ng nt call l z (eLs (mkOf (masks z 0 .leaf)) z 0) (alOf z 0) o0 nop oI a aI h s
            | false => none
          | none => none
        | none => none
      | false => none
    | none => none
  | false => none
noncomputable def runLate1 (P : Program) (ng nt : Nat) (call : Caller) (l : List Oper) (k0 : Nat) (tm : Fr) (h : H) : Option (Fr × H) :=
  match lget l k0 with
  | some o0 => match stOp o0 with
    | some (a, v) => match Nat.ble 1 k0 with
      | true => runLate2 P ng nt call l (lset k0 (nopOf o0 a v) l) k0 o0 (nopOf o0 a v) a tm h
      | false => none
    | none => none
  | none => none
noncomputable def runLate (P : Program) (ng nt : Nat) (call : Caller) (l : List Oper) (tm : Fr) (h : H) : Option (Fr × H) := runLate1 P ng nt call l (Nat.pred (llen l)) tm h
noncomputable def runRL (P : Program) (ng nt : Nat) (call : Caller) (l : List Oper) (tm : Fr) (h : H) : Option (Fr × H) :=
  match scheck l (masks l 0 .leaf) l 0 0 .leaf .leaf with
  | true => runR P ng nt call l tm h
  | false => runLate P ng nt call l tm h
section
variable {P : Program} {ng nt : Nat} {call : Caller} {ops : Array Oper} {tm : Fr}
theorem Sq.still {all : List Oper} {tb : T Nat} {al : List Nat} {n0 : Nat} {t0 : T Ent} {seq : Nat → DS} (S : Sq P ng nt call all tb al tm n0 t0 seq) {k : Nat} {o : Oper} (ho : all[k]? = some o) (hd : o.dst = none) : (seq (k + 1)).tm = (seq k).tm := by
  have := (stepD_any (S.st k o ho)).1
  rw [hd] at this
  exact this
theorem Sq.tabAt {all : List Oper} {tb : T Nat} {al : List Nat} {n0 : Nat} {t0 : T Ent} {seq : Nat → DS} (S : Sq P ng nt call all tb al tm n0 t0 seq) {k : Nat} (hk : k < all.length) :
    (planOf all tb al tm seq).tab k (seq k).m = tabOf (seq k).en (eLs (mkOf tb) all 0) (mkOf tb k) (seq k).m (seq k).core al := by
  show tabOf (seq all.length).en (eLs (mkOf tb) all 0) (mkOf tb k) (seq k).m (cAt (seq all.length).cs (seq k).m) al = _
  obtain ⟨h1, h2⟩ := S.cs k (Nat.le_of_lt hk)
  have h3 := (S.cKeep (k := k) (all.length - k) (by omega)).2 (seq k).m (by omega)
  rw [show k + (all.length - k) = all.length by omega] at h3
  rw [h3, h2]
  refine tabOf_congr (fun j hj => ?_) al
  have hjk := S.pmlt (k + 1) k (Nat.lt_succ_self k) hk j hj
  have h4 := S.enKeep hjk (all.length - k) (by omega)
  rw [show k + (all.length - k) = all.length by omega] at h4
  exact h4
theorem Sq.coreAt {all : List Oper} {tb : T Nat} {al : List Nat} {n0 : Nat} {t0 : T Ent} {seq : Nat → DS} (S : Sq P ng nt call all tb al tm n0 t0 seq) {k : Nat} (hk : k ≤ all.length) : cAt (seq all.length).cs (seq k).m = (seq k).core := by
  obtain ⟨g1, g2⟩ := S.cs k hk
  have g3 := (S.cKeep (k := k) (all.length - k) (by omega)).2 (seq k).m (by omega)
  rw [show k + (all.length - k) = all.length by omega] at g3
  rw [g3, g2]
theorem runLate_okW (hN : noNum P = true) (hC : CallOk P ng call) (hM : CallMn call) {Q : Exit → Act → World → Prop} {df : List Deferred} {h : H} {tm' : Fr} {h' : H}
    (hr : runLate P ng nt call ops.toList tm h = some (tm', h')) {E : Env} {F : Full} {w : World} {a : Act} (s : St E F h w) (hg : Glob E ng) (ht : TmR E nt df tm a) (hfr : Free E h.n h'.n)
    (hq : ∀ E' F' a' w', Go E F h w E' F' h' w' → TmR E' nt df tm' a' → Q .normal a' w') : wpAny P .any ops Q ops.size (Array.replicate ops.size false) a w.drew := by
  unfold runLate at hr
  rw [llen_eq, Array.length_toList] at hr
  generalize hk0 : Nat.pred ops.size = k0 at hr
  have hk0' : k0 = ops.size - 1 := by rw [← hk0]; rfl
  unfold runLate1 at hr
  split at hr
  · rename_i o0 hl0
    rw [lget_eq] at hl0
    have ho0 : ops[k0]? = some o0 := by simpa using hl0
    have hlt : k0 < ops.size := (Array.getElem?_eq_some_iff.1 ho0).1
    split at hr
    · rename_i aK vK hst
      obtain ⟨tyK, hopK, hgK, hdK⟩ := stOp_ok hst
      split at hr
      · rename_i h1k
        have h1k' := Nat.le_of_ble_eq_true h1k
        generalize hnop : nopOf o0 aK vK = nop at hr
        have nopD : nop.dst = none := by rw [← hnop]; rfl
        have nopA : nop.after = o0.after := by rw [← hnop]; rfl
        have nopK : kdOf nop = .p := by rw [← hnop]; rfl
        have hz : lset k0 nop ops.toList = (zOps ops k0 nop).toList := by
          rw [lset_eq]; unfold zOps; rw [Array.toList_setIfInBounds]
        rw [hz] at hr
        unfold runLate2 at hr
        have hzlen : (zOps ops k0 nop).toList.length = ops.size := by rw [Array.length_toList, zOps_size]
        have hzk : (zOps ops k0 nop).toList[k0]? = some nop := by rw [Array.getElem?_toList]; exact zOps_at ho0
        generalize htb : masks (zOps ops k0 nop).toList 0 .leaf = tb at hr
        generalize hal : alOf (zOps ops k0 nop).toList 0 = al at hr
        split at hr
        · rename_i hsc
          split at hr
          · rename_i sF hrun
            split at hr
            · rename_i hw
              split at hr
              · rename_i oI hlI
                rw [lget_eq] at hlI
                split at hr
                · rename_i aI vI hstI
                  obtain ⟨tyI, hopI, hgI, hdI⟩ := stOp_ok hstI
                  split at hr
                  · rename_i hlate
                    obtain ⟨seq, h0, h1, h2⟩ := runD_seq _ _ _ _ hrun
                    simp only [Nat.zero_add] at h1 h2
                    have S : Sq P ng nt call (zOps ops k0 nop).toList tb al tm h.n h.t seq := ⟨h2, h0, fun j o ho => scheck_ok _ _ _ 0 0 _ _ rfl hsc (fun i p hi => absurd hi (Nat.not_lt_zero _)) (fun i p t hi => absurd hi (Nat.not_lt_zero _)) (fun i p t hi => absurd hi (Nat.not_lt_zero _)) j o (Nat.zero_le _) ho, hM⟩
                    subst h1
                    have hi0 : Nat.pred k0 = k0 - 1 := rfl
                    have hN1 : k0 + 1 = (zOps ops k0 nop).toList.length := by rw [hzlen]; omega
                    have hkI : kdOf oI = .e := by unfold kdOf; rw [hopI]
                    have hik : Nat.pred k0 + 1 = k0 := by rw [hi0]; omega
                    have tmI : (seq (zOps ops k0 nop).toList.length).tm = (seq (Nat.pred k0)).tm := by
                      have e1 := S.still hzk nopD
                      have e2 := S.still hlI hdI
                      rw [hN1] at e1
                      rw [hik] at e2
                      rw [e1, e2]
                    have tmK : (seq (zOps ops k0 nop).toList.length).tm = (seq k0).tm := by
                      have e1 := S.still hzk nopD
                      rw [hN1] at e1
                      exact e1
                    have hstepK := stepD_p (S.st k0 nop hzk) nopK
                    have hstepI := stepD_e (S.st (Nat.pred k0) oI hlI) hkI
                    rw [hik] at hstepI
                    have mK : (seq (zOps ops k0 nop).toList.length).m = (seq k0).m := by
                      have := ((stepD_any (S.st k0 nop hzk)).2.2.2.2.1 (by rw [nopK]; exact fun h => nomatch h)).1
                      rw [hN1] at this
                      exact this
                    have mI : (seq (zOps ops k0 nop).toList.length).m = (seq (Nat.pred k0)).m + 1 := by rw [mK]; exact hstepI.2.1
                    obtain ⟨tK, hoK, -⟩ := hstepK
                    have nK : (seq (zOps ops k0 nop).toList.length).n = (seq k0).n := by
                      have e1 : (seq (k0 + 1)).n = (seq k0).n := by
                        have hr2 := hoK
                        rw [← hnop] at hr2
                        exact congrArg H.n (nop_one hr2)
                      rw [hN1] at e1
                      exact e1
                    unfold endLate at hr
                    split at hr
                    · rename_i y offy spy hy
                      split at hr
                      · rename_i x offx spx hx
                        split at hr
                        · rename_i hxy
                          split at hr
                          · rename_i hyn
                            split at hr
                            · rename_i e0 he0
                              split at hr
                              · rename_i e0' he0'
                                split at hr
                                · rename_i heq
                                  split at hr
                                  · rename_i ey hey
                                    split at hr
                                    · rename_i u1 h1 hone
                                      split at hr
                                      · rename_i e1 he1
                                        cases hr
                                        have hxy' : x ≠ y := fun hh => by rw [hh, Nat.beq_refl] at hxy; cases hxy
                                        have heq' := entEq_ok heq
                                        subst heq'
                                        have hyn' : y < h.n := Nat.le_of_ble_eq_true hyn
                                        have hilt : Nat.pred k0 < (zOps ops k0 nop).toList.length := by rw [hzlen]; omega
                                        have hm1 : Nat.pred (seq (zOps ops k0 nop).toList.length).m = (seq (Nat.pred k0)).m := by rw [mI]; rfl
                                        rw [hm1] at he0
                                        rw [mI] at he0'
                                        have hc1 : (seq k0).m = (seq (Nat.pred k0)).m + 1 := hstepI.2.1
                                        have kdAt : ∀ {j : Nat} {o : Oper}, (zOps ops k0 nop).toList[j]? = some o → (planOf (zOps ops k0 nop).toList tb al tm seq).kd j = kdOf o := fun {j o} hh => by
                                          show (match (zOps ops k0 nop).toList[j]? with | some o => kdOf o | none => .p) = _
                                          rw [hh]
                                        have frAt : ∀ {j : Nat} {o : Oper}, (zOps ops k0 nop).toList[j]? = some o → (planOf (zOps ops k0 nop).toList tb al tm seq).fr j = restr (seq j).tm (readsOf (zOps ops k0 nop).toList o) := fun {j o} hh => by
                                          show (match (zOps ops k0 nop).toList[j]? with | some o => restr (seq j).tm (readsOf (zOps ops k0 nop).toList o) | none => .leaf) = _
                                          rw [hh]
                                        have hkn : (seq (k0 + 1)).n = (seq k0).n := by rw [hN1, nK]
                                        have hsI := hstepI.1
                                        rw [← S.tabAt hilt] at hsI
                                        obtain ⟨b, offb, spb, eb, eb', hb1, hb2, hb3, hb4, hb5⟩ := store_one hstI hsI
                                        rw [← tmI] at hb1
                                        rw [hx] at hb1
                                        cases hb1
                                        injection hb4 with hb4 hb4n
                                        have l : Late (planOf (zOps ops k0 nop).toList tb al tm seq) P ops nop Q ng nt df k0 (Nat.pred k0) y e0 e1 := by
                                          refine { klt := ?_, kk := ?_, kn := hkn, ke := ?_, kd := ?_, ilt := hilt, ik := ?_, pmE := ?_, pmR := ?_, last := mI, y0 := ?_, c0 := he0, c1 := he0', opK := ?_, opI := ?_ }
                                          · show k0 < (zOps ops k0 nop).toList.length
                                            rw [hzlen]; exact hlt
                                          · rw [kdAt hzk]; exact nopK
                                          · show (match (seq (zOps ops k0 nop).toList.length).en.get k0 with | some (_, e) => some e | none => none) = none
                                            cases hen : (seq (zOps ops k0 nop).toList.length).en.get k0 with
                                            | none => rfl
                                            | some p =>
                                              obtain ⟨pi, pe⟩ := p
                                              obtain ⟨-, o, t, -, -, -, hlt2, -⟩ := S.en _ (Nat.le_refl _) _ _ _ hen
                                              rw [hkn] at hlt2
                                              exact absurd hlt2 (Nat.lt_irrefl _)
                                          · show dstAt _ k0 = none
                                            rw [dstAt_eq hzk]; exact nopD
                                          · rw [kdAt hlI]; exact hkI
                                          · intro e he hke hne
                                            have hoe : (zOps ops k0 nop).toList[e]? = some (zOps ops k0 nop).toList[e] := List.getElem?_eq_getElem he
                                            rw [kdAt hoe] at hke
                                            have := lateOk_ok _ 0 hlate e _ hoe (by rw [hke]; exact fun h => nomatch h) (by rw [Nat.zero_add]; exact hne)
                                            rw [Nat.zero_add] at this
                                            exact this
                                          · intro e he hke
                                            have hoe : (zOps ops k0 nop).toList[e]? = some (zOps ops k0 nop).toList[e] := List.getElem?_eq_getElem he
                                            have hke' := hke
                                            rw [kdAt hoe] at hke
                                            have := lateOk_ok _ 0 hlate e _ hoe (by rw [hke]; exact fun h => nomatch h) (by
                                              rw [Nat.zero_add]
                                              intro hh
                                              rw [hh, kdAt hlI, hkI] at hke'
                                              cases hke')
                                            rw [Nat.zero_add] at this
                                            exact this
                                          · show y < (seq 0).n
                                            rw [h0]; exact hyn'
                                          · obtain ⟨b2, offb2, spb2, eb2, eb2', hc1', hc2, hc3, hc4, -⟩ := store_one hst hone
                                            refine ⟨h1.t, u1, he1, ?_⟩
                                            rw [frAt hzk, ← tmK]
                                            have e1 := opOk_of hN hC (Q := Q) (df := df) ho0 hone
                                            rw [hdK] at e1
                                            have hn1 : h1 = ⟨h1.t, (seq (zOps ops k0 nop).toList.length).n⟩ := by rw [hc4]
                                            rw [hn1] at e1
                                            show OpOk P ops Q ng nt df k0 _ ⟨_, (seq k0).n⟩ ⟨_, (seq k0).n⟩ _ none
                                            rw [← nK]
                                            exact e1
                                          · have hoz : (zOps ops k0 nop)[Nat.pred k0]? = some oI := by rw [← Array.getElem?_toList]; exact hlI
                                            have hdel : (((planOf (zOps ops k0 nop).toList tb al tm seq).tab (Nat.pred k0) (seq (Nat.pred k0)).m).del y).get x = some eb := del_get.2 ⟨hxy', hb2⟩
                                            have e1 := opOk_of hN hC (Q := Q) (df := df) hoz (hb5 _ (seq (Nat.pred k0)).n hdel)
                                            refine ⟨((((planOf (zOps ops k0 nop).toList tb al tm seq).tab (Nat.pred k0) (seq (Nat.pred k0)).m).del y).set eb' x), ?_, ?_⟩
                                            · rw [frAt hlI]
                                              have hd1 : (planOf (zOps ops k0 nop).toList tb al tm seq).dst (Nat.pred k0) = none := by
                                                show dstAt _ _ = none
                                                rw [dstAt_eq hlI]; exact hdI
                                              have hv1 : (planOf (zOps ops k0 nop).toList tb al tm seq).val (Nat.pred k0) = undef := by
                                                show (seq (Nat.pred k0 + 1)).v = undef
                                                rw [hik]; exact hb3
                                              rw [hd1, hv1]
                                              rw [hdI] at e1
                                              show OpOk P (zOps ops k0 nop) Q ng nt df (Nat.pred k0) _ ⟨_, (seq (Nat.pred k0)).n⟩ ⟨_, (seq (Nat.pred k0 + 1)).n⟩ _ none
                                              rw [hik, hb4n]
                                              exact e1
                                            · intro i e hi hg
                                              have hg' : (cAt (seq (zOps ops k0 nop).toList.length).cs ((seq (Nat.pred k0)).m + 1)).get i = some e := hg
                                              rw [← hc1, S.coreAt (by rw [hzlen]; omega), hb4, T.get_set] at hg'
                                              rw [T.get_set]
                                              by_cases hix : i = x
                                              · rw [if_pos hix] at hg' ⊢; exact hg'
                                              · rw [if_neg hix] at hg' ⊢
                                                exact del_get.2 ⟨hi, hg'⟩
                                        have hmI : (planOf (zOps ops k0 nop).toList tb al tm seq).M = (seq (zOps ops k0 nop).toList.length).m := rfl
                                        refine Late.regionW (S.plan hN hC hw) trivial rfl (fun _ => rfl) l ho0 nopA nopD hdK s hg ht hfr (show (seq 0).n = h.n by rw [h0]) ?_ ?_ (by rw [hey]; exact fun h => nomatch h) ?_ hq
                                        · show cAt (seq (zOps ops k0 nop).toList.length).cs 0 = h.t
                                          have g := S.coreAt (k := 0) (Nat.zero_le _)
                                          rw [h0] at g
                                          exact g
                                        · intro i e hgt
                                          rw [T.get_set] at hgt
                                          by_cases hiy : i = y
                                          · rw [if_pos hiy] at hgt
                                            cases hgt
                                            exact .inl ⟨hiy, rfl⟩
                                          · rw [if_neg hiy] at hgt
                                            refine .inr ⟨hiy, ?_⟩
                                            rcases tabOf_get al hgt with g | ⟨j, -, g2, g3⟩
                                            · refine .inl ?_
                                              show (cAt (seq (zOps ops k0 nop).toList.length).cs (seq (zOps ops k0 nop).toList.length).m).get i = some e
                                              rw [S.coreAt (Nat.le_refl _)]
                                              exact g
                                            · obtain ⟨g4, o, t, g5, g6, g7, -⟩ := S.en _ (Nat.le_refl _) _ _ _ g2
                                              refine .inr ⟨j, g4, ?_, S.fa.1 g3, g7, ?_⟩
                                              · rw [kdAt g5]; exact g6
                                              · show (match (seq (zOps ops k0 nop).toList.length).en.get j with
                                                  | some (_, e) => some e
                                                  | none => none) = some e
                                                rw [g2]
                                        · intro t v hv
                                          rcases S.tms _ (Nat.le_refl _) t v hv with ⟨j, g1, g2, g3, g4⟩ | ⟨g1, g2⟩
                                          · refine .inl ⟨j, g1, trivial, g2, g3, fun j' g5 _ g6 => ?_⟩
                                            rcases Nat.lt_or_ge j j' with g7 | g7
                                            · exact absurd g6 (g4 j' g7 g5)
                                            · exact g7
                                          · exact .inr ⟨g1, fun j g5 _ => g2 j g5⟩
                                      · cases hr
                                    · cases hr
                                  · cases hr
                                · cases hr
                              · cases hr
                            · cases hr
                          · cases hr
                        · cases hr
                      · cases hr
                    · cases hr
                  · cases hr
                · cases hr
              · cases hr
            · cases hr
          · cases hr
        · cases hr
      · cases hr
    · cases hr
  · cases hr
theorem runRL_okW (hN : noNum P = true) (hC : CallOk P ng call) (hM : CallMn call) {Q : Exit → Act → World → Prop} {df : List Deferred} {h : H} {tm' : Fr} {h' : H}
    (hr : runRL P ng nt call ops.toList tm h = some (tm', h')) {E : Env} {F : Full} {w : World} {a : Act} (s : St E F h w) (hg : Glob E ng) (ht : TmR E nt df tm a) (hfr : Free E h.n h'.n)
    (hq : ∀ E' F' a' w', Go E F h w E' F' h' w' → TmR E' nt df tm' a' → Q .normal a' w') : wpAny P .any ops Q ops.size (Array.replicate ops.size false) a w.drew := by
  unfold runRL at hr
  split at hr
  · exact runR_okW hN hC hM hr s hg ht hfr hq
  · exact runLate_okW hN hC hM hr s hg ht hfr hq
theorem endLate_n {l z : List Oper} {es al : List Nat} {o0 nop oI : Oper} {a aI : Operand} {h : H} {s : DS} {tm' : Fr} {h' : H} (hr : endLate P ng nt call l z es al o0 nop oI a aI h s = some (tm', h')) : h'.n = s.n := by
  unfold endLate at hr
  repeat' split at hr
  all_goals first
    | (cases hr; rfl)
    | cases hr
theorem runLate_mn (hM : CallMn call) {l : List Oper} {h : H} {tm' : Fr} {h' : H} (hr : runLate P ng nt call l tm h = some (tm', h')) : h.n ≤ h'.n := by
  unfold runLate runLate1 at hr
  split at hr
  · rename_i o0 hl0
    split at hr
    · rename_i aK vK hst
      split at hr
      · generalize lset (llen l).pred (nopOf o0 aK vK) l = z at hr
        unfold runLate2 at hr
        split at hr
        · rename_i hsc
          split at hr
          · rename_i sF hrun
            split at hr
            · split at hr
              · split at hr
                · split at hr
                  · obtain ⟨seq, h0, h1, h2⟩ := runD_seq _ _ _ _ hrun
                    simp only [Nat.zero_add] at h1 h2
                    have S : Sq P ng nt call z (masks z 0 .leaf) (alOf z 0) tm h.n h.t seq := ⟨h2, h0, fun j o ho => scheck_ok _ _ _ 0 0 _ _ rfl hsc (fun i p hi => absurd hi (Nat.not_lt_zero _)) (fun i p t hi => absurd hi (Nat.not_lt_zero _)) (fun i p t hi => absurd hi (Nat.not_lt_zero _)) j o (Nat.zero_le _) ho, hM⟩
                    rw [endLate_n hr, ← h1]
                    exact S.nles _ (Nat.le_refl _)
                  · cases hr
                · cases hr
              · cases hr
            · cases hr
          · cases hr
        · cases hr
      · cases hr
    · cases hr
  · cases hr
theorem runRL_mn (hM : CallMn call) {l : List Oper} {h : H} {tm' : Fr} {h' : H} (hr : runRL P ng nt call l tm h = some (tm', h')) : h.n ≤ h'.n := by
  unfold runRL at hr
  split at hr
  · exact runR_mn hM hr
  · exact runLate_mn hM hr
end
end Go.Proofs.YtbhkfifmgbcknaaGreatDoor.Ex
