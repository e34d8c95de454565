/-
  A part of the proof of the statement NfaAccepts.
-/
import Derived.Test.YtbhkfifmgbcknaaGreatDoorExI
import Derived.Orders
set_option linter.unusedSimpArgs false
set_option linter.unusedVariables false
namespace Go.Proofs.YtbhkfifmgbcknaaGreatDoor.Ex
open Go Go.RowKit
inductive Gd where
  | always
  | on (t : Nat) (b : Bool)
  | bad
structure Ins where
  g : Gd
  d : Option Nat
  x : X
noncomputable def cGd (all : List Oper) (g : Option (Nat × Bool)) : Gd := match g with
  | none => .always
  | some (j, b) => match lget all j with
    | some p => match p.dst with
      | some t => .on t b
      | none => .bad
    | none => .bad
noncomputable def dstOk (nt : Nat) (d : Option Nat) : Bool := match d with
  | none => true
  | some t => Nat.ble (Nat.succ t) nt
noncomputable def cI (P : Program) (ng nt : Nat) (all : List Oper) (o : Oper) : Ins := ⟨match dstOk nt o.dst with | true => cGd all o.guard | false => .bad, o.dst, cX P ng o⟩
noncomputable def cL (P : Program) (ng nt : Nat) (all : List Oper) (l : List Oper) : List Ins :=
  List.rec (motive := fun _ => List Ins) [] (fun o _ ih => cI P ng nt all o :: ih) l
noncomputable def put (d : Option Nat) (v : Value) (tm : Fr) : Fr := match d with
  | some t => tm.set v t
  | none => tm
noncomputable def wants (tm : Fr) (g : Gd) : Option Bool := match g with
  | .always => some true
  | .on t b => match tm.get t with
    | some (.bool c) => some (match b with | true => c | false => bnot c)
    | some _ => some false
    | none => none
  | .bad => none
abbrev Caller := FuncId → List Value → H → Option (Value × H)
noncomputable def runL (call : Caller) (l : List Ins) : Fr → H → Option (Fr × H) :=
  List.rec (motive := fun _ => Fr → H → Option (Fr × H)) (fun tm h => some (tm, h))
    (fun i _ ih tm h => match wants tm i.g with
      | some true => match i.x tm h with
        | .val v h' => ih (put i.d v tm) h'
        | .enter f args h' => match call f args h' with
          | some (v, h'') => ih (put i.d v tm) h''
          | none => none
        | .fail => none
      | some false => ih (put i.d undef tm) h
      | none => none) l
theorem TmR.put {E : Env} {nt : Nat} {df : List Deferred} {tm : Fr} {a : Act} (h : TmR E nt df tm a) {d : Option Nat} (hd : dstOk nt d = true) {v v' : Value} (hv : VR E v v') : TmR E nt df (put d v tm) (a.put d v') := by
  cases d with
  | none => exact h
  | some t =>
    have ht : t < a.tmps.size := by rw [h.size]; exact Nat.le_of_ble_eq_true hd
    refine ⟨?_, ?_, h.defers⟩
    · show (a.tmps.setIfInBounds t v').size = nt
      rw [Array.size_setIfInBounds]; exact h.size
    · intro u w hg
      have hg' : (tm.set v t).get u = some w := hg
      rw [T.get_set] at hg'
      show ∃ w', (a.tmps.setIfInBounds t v')[u]? = some w' ∧ _
      by_cases hu : u = t
      · rw [if_pos hu] at hg'
        injection hg' with hg'
        subst hg'
        subst hu
        exact ⟨v', by simp [ht], hv⟩
      · rw [if_neg hu] at hg'
        obtain ⟨w', h1, h2⟩ := h.at_ u w hg'
        exact ⟨w', by rw [Array.getElem?_setIfInBounds_ne (fun h => hu h.symm)]; exact h1, h2⟩
theorem vr_undef (E : Env) : VR E undef undef := VR.tuple (xs := []) (xs' := []) .nil
def asB : Value → Option Bool
  | .bool b => some b
  | _ => none
theorem wants_ok {E : Env} {nt : Nat} {df : List Deferred} {tm : Fr} {a : Act} (ht : TmR E nt df tm a) {ops : Array Oper} {o : Oper} {b : Bool} (h : wants tm (cGd ops.toList o.guard) = some b) : Region.wanted o (yielded ops a.tmps) = b := by
  unfold Region.wanted
  cases hg : o.guard with
  | none =>
    rw [hg] at h
    have h' : some true = some b := h
    injection h' with h'
  | some q =>
    obtain ⟨j, c⟩ := q
    rw [hg] at h
    dsimp only [cGd] at h
    cases hp : lget ops.toList j with
    | none => rw [hp] at h; cases h
    | some p =>
      rw [hp] at h
      dsimp only at h
      cases hd : p.dst with
      | none => rw [hd] at h; cases h
      | some t =>
        rw [hd] at h
        dsimp only [wants] at h
        rw [lget_eq] at hp
        have hp' : ops[j]? = some p := by simpa using hp
        cases hv : tm.get t with
        | none => rw [hv] at h; cases h
        | some v =>
          rw [hv] at h
          obtain ⟨v', h1, h2⟩ := ht.at_ t v hv
          have hy : yielded ops a.tmps j = asB v' := by
            unfold yielded
            rw [hp', Option.bind_some, hd, Option.bind_some, h1]
            cases v' <;> rfl
          dsimp only
          rw [hy]
          cases v with
          | bool e =>
            have := h2.bool_inv
            subst this
            dsimp only at h
            cases c <;> cases e <;> (cases h; rfl)
          | _ =>
            dsimp only at h
            cases h
            cases h2 <;> rfl
def CallOk (P : Program) (ng : Nat) (call : Caller) : Prop :=
  ∀ (f : FuncId) (args : List Value) (h : H) (v : Value) (h' : H), call f args h = some (v, h') → ∀ (E : Env) (F : Full) (w : World) (args' : List Value), St E F h w → Glob E ng → VsR E args args' → Free E h.n h'.n →
    Calls P f args'.toArray w fun e w' => ∃ E' F' v', Go E F h w E' F' h' w' ∧ VR E' v v' ∧ e = .returned v'
def CallMn (call : Caller) : Prop := ∀ f args h v h', call f args h = some (v, h') → h.n ≤ h'.n
theorem runL_mn {P : Program} {ng nt : Nat} {call : Caller} (hM : CallMn call) (all : List Oper) : ∀ (l : List Oper) (tm : Fr) (h : H) (tm' : Fr) (h' : H), runL call (cL P ng nt all l) tm h = some (tm', h') → h.n ≤ h'.n := by
  intro l
  induction l with
  | nil =>
    intro tm h tm' h' hr
    have hr' : some (tm, h) = some (tm', h') := hr
    cases hr'
    exact Nat.le_refl _
  | cons o l ih =>
    intro tm h tm' h' hr
    have hr' : (match wants tm (match dstOk nt o.dst with | true => cGd all o.guard | false => .bad) with
      | some true => match cX P ng o tm h with
        | .val v h1 => runL call (cL P ng nt all l) (put o.dst v tm) h1
        | .enter f args h1 => match call f args h1 with
          | some (v, h2) => runL call (cL P ng nt all l) (put o.dst v tm) h2
          | none => none
        | .fail => none
      | some false => runL call (cL P ng nt all l) (put o.dst undef tm) h
      | none => none) = some (tm', h') := hr
    generalize wants tm (match dstOk nt o.dst with | true => cGd all o.guard | false => .bad) = q at hr'
    cases q with
    | none => cases hr'
    | some b =>
      cases b with
      | false => exact ih _ _ _ _ hr'
      | true =>
        dsimp only at hr'
        cases hx : cX P ng o tm h with
        | fail => rw [hx] at hr'; cases hr'
        | val v h1 =>
          rw [hx] at hr'
          exact Nat.le_trans (mn_cX P ng o tm h v h1 hx) (ih _ _ _ _ hr')
        | enter f args h1 =>
          rw [hx] at hr'
          dsimp only at hr'
          have h0 := en_cX P ng o tm h f args h1 hx
          subst h0
          cases hc : call f args h1 with
          | none => rw [hc] at hr'; cases hr'
          | some r =>
            obtain ⟨v, h2⟩ := r
            rw [hc] at hr'
            exact Nat.le_trans (hM f args h1 v h2 hc) (ih _ _ _ _ hr')
theorem Free.cut {E : Env} {n m n' m' : Nat} (h : Free E n m) (h1 : n ≤ n') (h2 : m' ≤ m) : Free E n' m' := fun i a b => h i (Nat.le_trans h1 a) (Nat.lt_of_lt_of_le b h2)
theorem Free.on {E : Env} {F : Full} {h : H} {w : World} {E1 : Env} {F1 : Full} {h1 : H} {w1 : World} {m : Nat} (hf : Free E h.n m) (g : Go E F h w E1 F1 h1 w1) : Free E1 h1.n m := fun i a b => by
  rw [g.step.out i (.inr a)]
  exact hf i (Nat.le_trans g.step.nle a) b
theorem runL_ok {P : Program} {ng nt : Nat} (hN : noNum P = true) {call : Caller} (hC : CallOk P ng call) (hM : CallMn call) {ops : Array Oper} {Q : Exit → Act → World → Prop} {df : List Deferred} : ∀ (l : List Oper) (k : Nat), ops.toList.drop k = l →
    ∀ (tm : Fr) (h : H) (tm' : Fr) (h' : H), runL call (cL P ng nt ops.toList l) tm h = some (tm', h') →
    ∀ (E : Env) (F : Full) (w : World) (a : Act), St E F h w → Glob E ng → TmR E nt df tm a → Free E h.n h'.n →
    (∀ E' F' a' w', Go E F h w E' F' h' w' → TmR E' nt df tm' a' → Q .normal a' w') → wpOps P ops Q (List.range' k l.length) a w := by
  intro l
  induction l with
  | nil =>
    intro k hk tm h tm' h' hr E F w a s hg ht hfr hq
    have hr' : some (tm, h) = some (tm', h') := hr
    injection hr' with hr'
    injection hr' with e1 e2
    subst e1
    subst e2
    exact hq E F a w (Go.refl s) ht
  | cons o l ih =>
    intro k hk tm h tm' h' hr E F w a s hg ht hfr hq
    have hk' : ops.toList.drop (k + 1) = l := by
      have := congrArg (List.drop 1) hk
      simpa [List.drop_drop] using this
    have ho : ops[k]? = some o := by
      have e1 : (ops.toList.drop k)[0]? = some o := by rw [hk]; rfl
      rw [List.getElem?_drop] at e1
      simpa using e1
    rw [List.length_cons, List.range'_succ]
    have hr' : (match wants tm (match dstOk nt o.dst with | true => cGd ops.toList o.guard | false => .bad) with
      | some true => match cX P ng o tm h with
        | .val v h1 => runL call (cL P ng nt ops.toList l) (put o.dst v tm) h1
        | .enter f args h1 => match call f args h1 with
          | some (v, h2) => runL call (cL P ng nt ops.toList l) (put o.dst v tm) h2
          | none => none
        | .fail => none
      | some false => runL call (cL P ng nt ops.toList l) (put o.dst undef tm) h
      | none => none) = some (tm', h') := hr
    cases hd : dstOk nt o.dst with
    | false => rw [hd] at hr'; cases hr'
    | true =>
      rw [hd] at hr'
      dsimp only at hr'
      simp only [wpOps, ho]
      cases hw : wants tm (cGd ops.toList o.guard) with
      | none => rw [hw] at hr'; cases hr'
      | some b =>
        rw [hw] at hr'
        rw [wants_ok ht hw]
        cases b with
        | false =>
          dsimp only at hr'
          simp only [Bool.false_eq_true, if_false]
          exact ih (k + 1) hk' _ _ _ _ hr' E F w _ s hg (ht.put hd (vr_undef E)) hfr hq
        | true =>
          dsimp only at hr'
          simp only [if_true]
          refine .inl ?_
          have hdo := does_cX hN ng nt o tm h E F w a df s hg ht
          cases hx : cX P ng o tm h with
          | fail => rw [hx] at hr'; cases hr'
          | val v h1 =>
            rw [hx] at hr' hdo
            dsimp only at hr'
            have hm1 := runL_mn hM ops.toList l _ _ _ _ hr'
            obtain ⟨E1, F1, w1, r, hgo, hval, hrun⟩ := hdo (hfr.cut (Nat.le_refl _) hm1)
            have hle := hgo.step.le
            have hnext : ∀ v', VR E1 v v' → wpOps P ops Q (List.range' (k + 1) l.length) (a.put o.dst v') w1 := fun v' hv' =>
              ih (k + 1) hk' _ _ _ _ hr' E1 F1 w1 _ hgo.st (hg.mono hle) ((ht.mono hle).put hd hv') (hfr.on hgo) (fun E' F' a' w' g => hq E' F' a' w' (hgo.trans g))
            unfold Oper.wp
            rw [hrun]
            rcases hval with ⟨v', rfl, hv'⟩ | ⟨rfl, rfl⟩
            · exact hnext v' hv'
            · exact hnext undef (vr_undef E1)
          | enter f args h1 =>
            rw [hx] at hr' hdo
            dsimp only at hr'
            obtain ⟨rfl, args', hargs, hrun⟩ := hdo
            cases hc : call f args h1 with
            | none => rw [hc] at hr'; cases hr'
            | some q =>
              obtain ⟨v, h2⟩ := q
              rw [hc] at hr'
              dsimp only at hr'
              unfold Oper.wp
              rw [hrun]
              have hm2 := runL_mn hM ops.toList l _ _ _ _ hr'
              refine (hC f args h1 v h2 hc E F w args' s hg hargs (hfr.cut (Nat.le_refl _) hm2)).mono ?_
              rintro e w1 ⟨E1, F1, v', hgo, hv', rfl⟩
              have hle := hgo.step.le
              exact ih (k + 1) hk' _ _ _ _ hr' E1 F1 w1 _ hgo.st (hg.mono hle) ((ht.mono hle).put hd hv') (hfr.on hgo) (fun E' F' a' w' g => hq E' F' a' w' (hgo.trans g))
theorem region_ok {P : Program} {ng nt : Nat} (hN : noNum P = true) {call : Caller} (hC : CallOk P ng call) (hM : CallMn call) {id : Nat} {ops : Array Oper} {Q : Exit → Act → World → Prop} {df : List Deferred} {tm : Fr} {h : H} {tm' : Fr} {h' : H}
    (hr : runL call (cL P ng nt ops.toList ops.toList) tm h = some (tm', h')) {E : Env} {F : Full} {w : World} {a : Act} (s : St E F h w) (hg : Glob E ng) (ht : TmR E nt df tm a) (hfr : Free E h.n h'.n)
    (hq : ∀ E' F' a' w', Go E F h w E' F' h' w' → TmR E' nt df tm' a' → Q .normal a' w') : (Code.region id ops false).wp P Q a w := by
  refine wp_region ?_
  have := runL_ok hN hC hM ops.toList 0 rfl tm h tm' h' hr E F w a s hg ht hfr hq
  rw [Array.length_toList] at this
  rwa [List.range_eq_range']
end Go.Proofs.YtbhkfifmgbcknaaGreatDoor.Ex
namespace Go.Proofs.YtbhkfifmgbcknaaGreatDoor.Ex
open Go Go.RowKit
inductive Kd where
  | p
  | r
  | e
structure Plan where
  N : Nat
  M : Nat
  pm : Nat → Nat → Prop
  kd : Nat → Kd
  eix : Nat → Nat
  n : Nat → Nat
  val : Nat → Value
  ent : Nat → Option Ent
  C : Nat → T Ent
  fr : Nat → Fr
  dst : Nat → Option Nat
  tab : Nat → Nat → T Ent
  tm0 : Fr
  A : Prop
  lo : Nat
  sd : Nat → Option Ent
def Plan.FreeAt (q : Plan) (p m : Nat) : Prop := ∀ e, e < q.N → q.kd e = .e → q.pm e p → m ≤ q.eix e
def Plan.Win (q : Plan) (k m : Nat) : Prop := (∀ e, e < q.N → q.kd e = .e → q.pm k e → q.eix e < m) ∧ (∀ e, e < q.N → q.kd e = .e → q.pm e k → m ≤ q.eix e)
def Plan.Last (q : Plan) (L : Nat → Prop) (t : Nat) (v : Value) : Prop :=
  (∃ j, j < q.N ∧ L j ∧ q.dst j = some t ∧ q.val j = v ∧ ∀ j', j' < q.N → L j' → q.dst j' = some t → j' ≤ j) ∨ (q.tm0.get t = some v ∧ ∀ j, j < q.N → L j → q.dst j ≠ some t)
def OpOk (P : Program) (ops : Array Oper) (Q : Exit → Act → World → Prop) (ng nt : Nat) (df : List Deferred) (k : Nat) (fr : Fr) (h h' : H) (v : Value) (d : Option Nat) : Prop :=
  ∀ (E : Env) (F : Full) (w : World) (a : Act), St E F h w → Glob E ng → TmR E nt df fr a → Free E h.n h'.n → ∀ K : Act → World → Prop,
    (∀ E' F' w' v', Go E F h w E' F' h' w' → VR E' v v' → K (a.put d v') w') → wpOp P ops Q k K a w
structure Plan.Ok (q : Plan) (P : Program) (ops : Array Oper) (Q : Exit → Act → World → Prop) (ng nt : Nat) (df : List Deferred) : Prop where
  size : ops.size = q.N
  dlt : ∀ k t, k < q.N → q.dst k = some t → t < nt
  pmlt : ∀ k j, k < q.N → q.pm k j → j < k
  pmin : ∀ k o, ops[k]? = some o → ∀ j, q.pm k j → ∃ e, e ∈ o.after ∧ Region.binds .any e = true ∧ e.on < q.N ∧ (j = e.on ∨ q.pm e.on j)
  edge : ∀ k o, ops[k]? = some o → ∀ e, e ∈ o.after → Region.binds .any e = true → e.on < k
  tot : ∀ i j, i < j → j < q.N → q.kd i = .e → q.kd j = .e → q.pm j i
  eixlt : ∀ i j, i < j → j < q.N → q.kd i = .e → q.kd j = .e → q.eix i < q.eix j
  econs : ∀ k, k < q.N → q.kd k = .e → q.eix k = 0 ∨ ∃ e, e < k ∧ q.kd e = .e ∧ q.eix k = q.eix e + 1
  eM : ∀ k, k < q.N → q.kd k = .e → q.eix k < q.M
  mono : ∀ k, k < q.N → q.n k ≤ q.n (k + 1)
  entlt : ∀ k e, k < q.N → q.ent k = some e → q.n k < q.n (k + 1)
  waw : ∀ i j t, i < j → j < q.N → q.dst i = some t → q.dst j = some t → q.pm j i
  frd : ∀ k t v, k < q.N → (q.fr k).get t = some v → (∃ j, q.pm k j ∧ q.dst j = some t ∧ q.val j = v ∧ ∀ j', j < j' → j' < k → q.dst j' ≠ some t) ∨ (q.tm0.get t = some v ∧ ∀ j, j < k → q.dst j ≠ some t)
  war : ∀ k t v j, k < j → j < q.N → (q.fr k).get t = some v → q.dst j = some t → q.pm j k
  tabs : ∀ k m i e, (q.tab k m).get i = some e → (q.C m).get i = some e ∨ ∃ p, q.pm k p ∧ q.kd p = .p ∧ q.FreeAt p m ∧ i = q.n p ∧ q.ent p = some e
  opP : ∀ k, k < q.N → q.kd k = .p → ∃ t, OpOk P ops Q ng nt df k (q.fr k) ⟨.leaf, q.n k⟩ ⟨t, q.n (k + 1)⟩ (q.val k) (q.dst k) ∧ ∀ e, q.ent k = some e → t.get (q.n k) = some e
  sdn : ∀ i e, q.sd i = some e → i < q.n 0
  sdt : ∀ k m i e, q.sd i = some e → q.lo ≤ m → (q.tab k m).get i = none
  opR : q.A → ∀ k m, k < q.N → q.kd k = .r → q.Win k m → m ≤ q.M → OpOk P ops Q ng nt df k (q.fr k) ⟨q.tab k m, q.n k⟩ ⟨q.tab k m, q.n (k + 1)⟩ (q.val k) (q.dst k)
  opE : ∀ k, k < q.N → q.kd k = .e → OpOk P ops Q ng nt df k (q.fr k) ⟨q.tab k (q.eix k), q.n k⟩ ⟨q.C (q.eix k + 1), q.n (k + 1)⟩ (q.val k) (q.dst k)
theorem Step.within {E E1 E2 : Env} {F F1 F2 : Full} {n n1 n2 n3 : Nat} {w w1 w2 : World} (h : Step E F n w E1 F1 n3 w1) (k : Step E1 F1 n1 w1 E2 F2 n2 w2) (hl : n ≤ n1) (hh : n2 ≤ n3) : Step E F n w E2 F2 n3 w2 := by
  refine ⟨h.le.trans k.le, k.rel, ?_, ?_, Nat.le_trans h.size k.size, k.os.trans h.os, k.tape.trans h.tape, k.output.trans h.output, h.nle, ?_⟩
  · intro i e p hf he
    rcases k.own i e p hf he with hb | ⟨j, e1, q, hf1, he1, hq⟩
    · exact .inl (Nat.le_trans h.size hb)
    · rcases h.own j e1 q hf1 he1 with hb | ⟨j0, e0, q0, hf0, he0, hq0⟩
      · exact .inl (hq ▸ hb)
      · exact .inr ⟨j0, e0, q0, hf0, he0, hq0.trans hq⟩
  · intro b hb hne
    rw [k.frame b (Nat.lt_of_lt_of_le hb h.size) ?_, h.frame b hb hne]
    intro i e p hf he hpb
    rcases h.own i e p hf he with hb' | ⟨j, e0, q, hf0, he0, hq⟩
    · omega
    · exact hne j e0 q hf0 he0 (hq.trans hpb)
  · intro i hi
    rw [k.out i (by omega), h.out i (by omega)]
structure Plan.Inv (q : Plan) (ng nt : Nat) (df : List Deferred) (E0 : Env) (F0 : Full) (h0 : H) (w0 : World) (L : Nat → Prop) (m : Nat) (E : Env) (F : Full) (w : World) (a : Act) : Prop where
  step : Step E0 F0 (q.n 0) w0 E F (q.n q.N) w
  core : ∀ i e, (q.C m).get i = some e → F i = some e
  pblk : ∀ p, p < q.N → L p → q.kd p = .p → q.FreeAt p m → ∀ e, q.ent p = some e → F (q.n p) = some e
  free : ∀ k, k < q.N → ¬L k → Free E (q.n k) (q.n (k + 1))
  dom : ∀ p, p < q.N → q.kd p = .p → q.FreeAt p m → ∀ i, q.n p ≤ i → i < q.n (p + 1) → (q.C m).get i = none
  old : ∀ i, i < q.n 0 ∨ q.n q.N ≤ i → h0.t.get i = none → (q.C m).get i = none
  keep : ∀ i, i < q.n 0 ∨ q.n q.N ≤ i → h0.t.get i = none → F i = F0 i
  glob : Glob E ng
  size : a.tmps.size = nt
  dfs : a.defers = df
  tm : ∀ t v, q.Last L t v → ∃ v', a.tmps[t]? = some v' ∧ VR E v v'
  em : ∀ e, e < q.N → q.kd e = .e → (L e ↔ q.eix e < m)
  down : ∀ k, k < q.N → L k → ∀ j, q.pm k j → L j
  mM : m ≤ q.M
  side : ∀ i e, q.sd i = some e → F i = some e
  mlo : q.lo ≤ m
section
variable {q : Plan} {P : Program} {ops : Array Oper} {Q : Exit → Act → World → Prop} {ng nt : Nat} {df : List Deferred} {E0 : Env} {F0 : Full} {h0 : H} {w0 : World}
theorem Plan.Ok.nle (ok : q.Ok P ops Q ng nt df) {i : Nat} : ∀ {j : Nat}, i ≤ j → j ≤ q.N → q.n i ≤ q.n j
  | 0, h, _ => by
    have : i = 0 := by omega
    rw [this]; exact Nat.le_refl _
  | j + 1, h, hN => by
    by_cases hi : i = j + 1
    · rw [hi]; exact Nat.le_refl _
    · exact Nat.le_trans (ok.nle (j := j) (by omega) (by omega)) (ok.mono j (by omega))
theorem Plan.Ok.apart (ok : q.Ok P ops Q ng nt df) {i j x : Nat} (hi : i < q.N) (hj : j < q.N) (hij : i ≠ j) (h1 : q.n i ≤ x) (h2 : x < q.n (i + 1)) : x < q.n j ∨ q.n (j + 1) ≤ x := by
  rcases Nat.lt_or_gt_of_ne hij with h | h
  · have := ok.nle (i := i + 1) (j := j) (by omega) (by omega)
    omega
  · have := ok.nle (i := j + 1) (j := i) (by omega) (by omega)
    omega
variable {L : Nat → Prop} {m : Nat} {E : Env} {F : Full} {w : World} {a : Act}
theorem Plan.Inv.known (I : q.Inv ng nt df E0 F0 h0 w0 L m E F w a) {k : Nat} (hk : k < q.N) (hL : ¬L k) {i : Nat} {e : Ent} (hf : F i = some e) : i < q.n k ∨ q.n (k + 1) ≤ i := by
  obtain ⟨p, hp, -⟩ := I.step.rel.at_ i e hf
  rcases Nat.lt_or_ge i (q.n k) with h | h
  · exact .inl h
  · rcases Nat.lt_or_ge i (q.n (k + 1)) with h' | h'
    · rw [I.free k hk hL i h h'] at hp; cases hp
    · exact .inr h'
theorem Plan.Inv.frame (ok : q.Ok P ops Q ng nt df) (I : q.Inv ng nt df E0 F0 h0 w0 L m E F w a) {k : Nat} (hk : k < q.N) (hL : ¬L k) (hpm : ∀ j, q.pm k j → L j) : TmR E nt df (q.fr k) a := by
  refine ⟨I.size, fun t v hv => I.tm t v ?_, I.dfs⟩
  have late : ∀ j, j < q.N → L j → q.dst j = some t → j < k := fun j hj hLj hd => by
    rcases Nat.lt_trichotomy j k with h | h | h
    · exact h
    · exact absurd (h ▸ hLj) hL
    · exact absurd (I.down j hj hLj k (ok.war k t v j h hj hv hd)) hL
  rcases ok.frd k t v hk hv with ⟨j, hj, hd, hval, hlast⟩ | ⟨h0, hno⟩
  · have hjk := ok.pmlt k j hk hj
    refine .inl ⟨j, by omega, hpm j hj, hd, hval, fun j' hj' hL' hd' => ?_⟩
    rcases Nat.lt_or_ge j j' with h | h
    · exact absurd hd' (hlast j' h (late j' hj' hL' hd'))
    · exact h
  · exact .inr ⟨h0, fun j hj hLj hd => hno j (late j hj hLj hd) hd⟩
theorem Plan.Inv.go (ok : q.Ok P ops Q ng nt df) (I : q.Inv ng nt df E0 F0 h0 w0 L m E F w a) {k : Nat} (hk : k < q.N) (hL : ¬L k) (hpm : ∀ j, q.pm k j → L j) {h h' : H} (hn : h.n = q.n k) (hn' : h'.n = q.n (k + 1)) {E' : Env} {F' : Full} {w' : World}
    (g : Go E F h w E' F' h' w') (htab : ∀ i, i < q.n 0 ∨ q.n q.N ≤ i → h0.t.get i = none → h.t.get i = none) {v' : Value} (hv : VR E' (q.val k) v') {m' : Nat}
    (hcore : ∀ i e, (q.C m').get i = some e → F' i = some e)
    (hpb : ∀ p, p < q.N → (L p ∨ p = k) → q.kd p = .p → q.FreeAt p m' → ∀ e, q.ent p = some e → F' (q.n p) = some e)
    (hdom : ∀ p, p < q.N → q.kd p = .p → q.FreeAt p m' → ∀ i, q.n p ≤ i → i < q.n (p + 1) → (q.C m').get i = none)
    (hold : ∀ i, i < q.n 0 ∨ q.n q.N ≤ i → h0.t.get i = none → (q.C m').get i = none)
    (hem : ∀ e, e < q.N → q.kd e = .e → ((L e ∨ e = k) ↔ q.eix e < m')) (hM : m' ≤ q.M) (hside : ∀ i e, q.sd i = some e → F' i = some e) (hlo : q.lo ≤ m') :
    q.Inv ng nt df E0 F0 h0 w0 (fun j => L j ∨ j = k) m' E' F' w' (a.put (q.dst k) v') := by
  have h1 := ok.nle (i := 0) (j := k) (by omega) (by omega)
  have h2 := ok.nle (i := k + 1) (j := q.N) (by omega) (by omega)
  have gs := g.step
  rw [hn, hn'] at gs
  have hout := gs.out
  refine ⟨I.step.within gs h1 h2, hcore, hpb, ?_, hdom, hold, ?_, I.glob.mono gs.le, ?_, ?_, ?_, hem, ?_, hM, hside, hlo⟩
  · intro j hj hLj i hi1 hi2
    have hjk : j ≠ k := fun h => hLj (.inr h)
    rw [hout i (ok.apart hj hk hjk hi1 hi2)]
    exact I.free j hj (fun h => hLj (.inl h)) i hi1 hi2
  · intro i hi h0i
    rw [g.fits.keep i (by rw [hn, hn']; omega) (htab i hi h0i)]
    exact I.keep i hi h0i
  · cases hd : q.dst k with
    | none => exact I.size
    | some t =>
      show (a.tmps.setIfInBounds t v').size = nt
      rw [Array.size_setIfInBounds]; exact I.size
  · cases hd : q.dst k with
    | none => exact I.dfs
    | some t => exact I.dfs
  · intro t v hl
    by_cases hd : q.dst k = some t
    · have hlt : t < a.tmps.size := by rw [I.size]; exact ok.dlt k t hk hd
      have hvk : v = q.val k := by
        rcases hl with ⟨j, hj, hLj, hdj, hvj, hlast⟩ | ⟨-, hno⟩
        · rcases hLj with hLj | hLj
          · have hkj := hlast k hk (.inr rfl) hd
            have hne : k ≠ j := fun h => hL (h ▸ hLj)
            exact absurd (I.down j hj hLj k (ok.waw k j t (by omega) hj hd hdj)) hL
          · rw [← hvj, hLj]
        · exact absurd hd (hno k hk (.inr rfl))
      rw [hd]
      refine ⟨v', ?_, hvk ▸ hv⟩
      show (a.tmps.setIfInBounds t v')[t]? = some v'
      simp [hlt]
    · have hl' : q.Last L t v := by
        rcases hl with ⟨j, hj, hLj, hdj, hvj, hlast⟩ | ⟨h0, hno⟩
        · rcases hLj with hLj | hLj
          · exact .inl ⟨j, hj, hLj, hdj, hvj, fun j' a b c => hlast j' a (.inl b) c⟩
          · exact absurd (hLj ▸ hdj) hd
        · exact .inr ⟨h0, fun j a b => hno j a (.inl b)⟩
      obtain ⟨u, hu, hvr⟩ := I.tm t v hl'
      refine ⟨u, ?_, hvr.mono gs.le⟩
      cases hd' : q.dst k with
      | none => exact hu
      | some t' =>
        show (a.tmps.setIfInBounds t' v')[t]? = some u
        rw [Array.getElem?_setIfInBounds_ne (fun h => hd (by rw [hd', h]))]
        exact hu
  · intro j hj hLj i hi
    rcases hLj with hLj | hLj
    · exact .inl (I.down j hj hLj i hi)
    · exact .inl (hpm i (hLj ▸ hi))
theorem Plan.Inv.tabSub (ok : q.Ok P ops Q ng nt df) (I : q.Inv ng nt df E0 F0 h0 w0 L m E F w a) {k : Nat} (hk : k < q.N) (hpm : ∀ j, q.pm k j → L j) : ∀ i e, (q.tab k m).get i = some e → F i = some e := by
  intro i e hg
  rcases ok.tabs k m i e hg with h | ⟨p, hp, hkd, hfr, hi, he⟩
  · exact I.core i e h
  · have := ok.pmlt k p hk hp
    rw [hi]
    exact I.pblk p (by omega) (hpm p hp) hkd hfr e he
theorem Plan.Inv.tabOld (ok : q.Ok P ops Q ng nt df) (I : q.Inv ng nt df E0 F0 h0 w0 L m E F w a) {k : Nat} (hk : k < q.N) : ∀ i, i < q.n 0 ∨ q.n q.N ≤ i → h0.t.get i = none → (q.tab k m).get i = none := by
  intro i hi h0i
  cases hg : (q.tab k m).get i with
  | none => rfl
  | some e =>
    rcases ok.tabs k m i e hg with h | ⟨p, hp, hkd, hfr, hip, he⟩
    · rw [I.old i hi h0i] at h; cases h
    · have h1 := ok.pmlt k p hk hp
      have h2 := ok.entlt p e (by omega) he
      have h3 := ok.nle (i := 0) (j := p) (by omega) (by omega)
      have h4 := ok.nle (i := p + 1) (j := q.N) (by omega) (by omega)
      omega
theorem Plan.Inv.next (ok : q.Ok P ops Q ng nt df) (I : q.Inv ng nt df E0 F0 h0 w0 L m E F w a) {k : Nat} (hk : k < q.N) (hL : ¬L k) (hpm : ∀ j, q.pm k j → L j) {K : Act → World → Prop}
    (hA : q.kd k = .r → q.A) (hK : ∀ m' E' F' w' a', q.Inv ng nt df E0 F0 h0 w0 (fun j => L j ∨ j = k) m' E' F' w' a' → K a' w') : wpOp P ops Q k K a w := by
  have hfrm := I.frame ok hk hL hpm
  have hfree := I.free k hk hL
  have hsd : ∀ i e, q.sd i = some e → i < q.n k ∨ q.n (k + 1) ≤ i := fun i e h => by
    have h1 := ok.sdn i e h
    have h2 := ok.nle (i := 0) (j := k) (by omega) (by omega)
    exact .inl (by omega)
  have hNoE : q.kd k ≠ .e → ∀ e, e < q.N → q.kd e = .e → ((L e ∨ e = k) ↔ q.eix e < m) := fun hne e he hkd =>
    ⟨fun h => by
      rcases h with h | h
      · exact (I.em e he hkd).1 h
      · exact absurd (h ▸ hkd) hne, fun h => .inl ((I.em e he hkd).2 h)⟩
  cases hkd : q.kd k with
  | p =>
    obtain ⟨t, hop, hent⟩ := ok.opP k hk hkd
    refine hop E F w a ⟨I.step.rel, fun i e h => by cases h⟩ I.glob hfrm hfree K fun E' F' w' v' g hv => ?_
    have hF : ∀ i, i < q.n k ∨ q.n (k + 1) ≤ i → F' i = F i := fun i hi => g.fits.keep i hi rfl
    refine hK m E' F' w' _ (I.go ok hk hL hpm rfl rfl g (fun i _ _ => rfl) hv ?_ ?_ I.dom I.old (hNoE (by rw [hkd]; exact fun h => nomatch h)) I.mM (fun i e h => by rw [hF i (hsd i e h)]; exact I.side i e h) I.mlo)
    · intro i e h
      rw [hF i (I.known hk hL (I.core i e h))]
      exact I.core i e h
    · intro p hp hLp hkp hfr e he
      rcases hLp with hLp | hLp
      · have := I.pblk p hp hLp hkp hfr e he
        rw [hF _ (I.known hk hL this)]
        exact this
      · subst hLp
        exact g.fits.sub _ _ (hent e he)
  | r =>
    have hW : q.Win k m := ⟨fun e he hke hem => (I.em e he hke).1 (hpm e hem), fun e he hke hem => by
      rcases Nat.lt_or_ge (q.eix e) m with h | h
      · exact absurd (I.down e he ((I.em e he hke).2 h) k hem) hL
      · exact h⟩
    refine ok.opR (hA hkd) k m hk hkd hW I.mM E F w a ⟨I.step.rel, I.tabSub ok hk hpm⟩ I.glob hfrm hfree K fun E' F' w' v' g hv => ?_
    have hF : ∀ i, F i ≠ none → i < q.n k ∨ q.n (k + 1) ≤ i → F' i = F i := fun i _ hi => by
      cases hg : (q.tab k m).get i with
      | none => exact g.fits.keep i hi hg
      | some e => rw [g.fits.sub i e hg, I.tabSub ok hk hpm i e hg]
    refine hK m E' F' w' _ (I.go ok hk hL hpm rfl rfl g (I.tabOld ok hk) hv ?_ ?_ I.dom I.old (hNoE (by rw [hkd]; exact fun h => nomatch h)) I.mM (fun i e h => by rw [hF i (by rw [I.side i e h]; exact fun h => nomatch h) (hsd i e h)]; exact I.side i e h) I.mlo)
    · intro i e h
      have h' := I.core i e h
      rw [hF i (by rw [h']; exact fun h => nomatch h) (I.known hk hL h')]
      exact h'
    · intro p hp hLp hkp hfr e he
      rcases hLp with hLp | hLp
      · have h' := I.pblk p hp hLp hkp hfr e he
        rw [hF _ (by rw [h']; exact fun h => nomatch h) (I.known hk hL h')]
        exact h'
      · rw [hLp, hkd] at hkp; cases hkp
  | e =>
    have hm : m = q.eix k := by
      have h1 : ¬q.eix k < m := fun h => hL ((I.em k hk hkd).2 h)
      rcases ok.econs k hk hkd with h | ⟨e, he, hke, hee⟩
      · omega
      · have := (I.em e (by omega) hke).1 (hpm e (ok.tot e k he hk hke hkd))
        omega
    subst hm
    refine ok.opE k hk hkd E F w a ⟨I.step.rel, I.tabSub ok hk hpm⟩ I.glob hfrm hfree K fun E' F' w' v' g hv => ?_
    have hfa : ∀ p, q.FreeAt p (q.eix k + 1) → q.FreeAt p (q.eix k) ∧ ¬q.pm k p := fun p hp =>
      ⟨fun e he hke hpe => Nat.le_of_succ_le (hp e he hke hpe), fun hpk => by
        have := hp k hk hkd hpk
        omega⟩
    have htabNone : ∀ p, p < q.N → q.kd p = .p → q.FreeAt p (q.eix k + 1) → ∀ i, q.n p ≤ i → i < q.n (p + 1) → (q.tab k (q.eix k)).get i = none := by
      intro p hp hkp hfr i hi1 hi2
      obtain ⟨hf1, hf2⟩ := hfa p hfr
      cases hg : (q.tab k (q.eix k)).get i with
      | none => rfl
      | some e =>
        rcases ok.tabs k _ i e hg with h | ⟨p', hp', hkd', hfr', hip, he⟩
        · rw [I.dom p hp hkp hf1 i hi1 hi2] at h; cases h
        · have h1 := ok.pmlt k p' hk hp'
          have h2 := ok.entlt p' e (by omega) he
          have hne : p ≠ p' := fun h => hf2 (h ▸ hp')
          have h3 := ok.apart hp (by omega : p' < q.N) hne hi1 hi2
          omega
    have hne : ∀ p, q.kd p = .p → p ≠ k := fun p hkp h => by rw [h, hkd] at hkp; cases hkp
    refine hK _ E' F' w' _ (I.go ok hk hL hpm rfl rfl g (I.tabOld ok hk) hv (fun i e h => g.fits.sub i e h) ?_ ?_ ?_ ?_ (ok.eM k hk hkd) (fun i e h => by rw [g.fits.keep i (hsd i e h) (ok.sdt k _ i e h I.mlo)]; exact I.side i e h) (Nat.le_succ_of_le I.mlo))
    · intro p hp hLp hkp hfr e he
      rcases hLp with hLp | hLp
      · obtain ⟨hf1, hf2⟩ := hfa p hfr
        have h' := I.pblk p hp hLp hkp hf1 e he
        have hlt := ok.entlt p e hp he
        rw [g.fits.keep _ (ok.apart hp hk (hne p hkp) (Nat.le_refl _) hlt) (htabNone p hp hkp hfr _ (Nat.le_refl _) hlt)]
        exact h'
      · exact absurd hLp (hne p hkp)
    · intro p hp hkp hfr i hi1 hi2
      exact g.fits.old i (ok.apart hp hk (hne p hkp) hi1 hi2) (htabNone p hp hkp hfr i hi1 hi2)
    · intro i hi h0i
      have h1 := ok.nle (i := 0) (j := k) (by omega) (by omega)
      have h2 := ok.nle (i := k + 1) (j := q.N) (by omega) (by omega)
      exact g.fits.old i (by dsimp only; omega) (I.tabOld ok hk i hi h0i)
    · intro e he hke
      constructor
      · rintro (h | h)
        · exact Nat.lt_succ_of_lt ((I.em e he hke).1 h)
        · rw [h]; exact Nat.lt_succ_self _
      · intro h
        rcases Nat.lt_trichotomy e k with h' | h' | h'
        · exact .inl ((I.em e he hke).2 (ok.eixlt e k h' hk hke hkd))
        · exact .inr h'
        · have := ok.eixlt k e h' he hkd hke
          omega
end
end Go.Proofs.YtbhkfifmgbcknaaGreatDoor.Ex
