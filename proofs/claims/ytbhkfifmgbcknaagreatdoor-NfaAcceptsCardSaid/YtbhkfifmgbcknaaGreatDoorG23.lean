/-
  A part of the proof of the statement NfaAccepts.
-/
import Derived.Test.YtbhkfifmgbcknaaGreatDoorExLx
import Derived.LoopN
import Derived.Scope
set_option linter.unusedSimpArgs false
set_option linter.unusedVariables false
namespace Go.Proofs.YtbhkfifmgbcknaaGreatDoor.Ex
open Go Go.RowKit
noncomputable def loadV (P : Program) (t : TypeId) (h : H) (b o : Nat) : Option Value := match P.underlying t with
  | some d => match aggD d with
    | true => match P.info? t with
      | some i => match cellsAt h b o i.size with
        | some l => some (.agg l.toArray)
        | none => none
      | none => none
    | false => match h.t.get b with
      | some e => match e.cs with
        | some cs => lget cs o
        | none => none
      | none => none
  | none => none
theorem loadV_ok {P : Program} {t : TypeId} {E : Env} {F : Full} {h : H} {w : World} (s : St E F h w) {b o : Nat} {v : Value} {p : Pl} (hl : loadV P t h b o = some v) (hp : E b = some p) :
    ∃ v', VR E v v' ∧ (loadVar t ⟨p.b, p.o + o, none⟩).run P w = .ok v' w := by
  unfold loadV at hl
  cases hd : P.underlying t with
  | none => rw [hd] at hl; cases hl
  | some d =>
    rw [hd] at hl
    dsimp only at hl
    have hA := run_isAgg hd w
    cases ha : aggD d with
    | true =>
      rw [ha] at hl hA
      dsimp only at hl
      cases hi : P.info? t with
      | none => rw [hi] at hl; cases hl
      | some i =>
        rw [hi] at hl
        dsimp only at hl
        cases hc : cellsAt h b o i.size with
        | none => rw [hc] at hl; cases hl
        | some l =>
          rw [hc] at hl
          injection hl with hl
          subst hl
          obtain ⟨l', h4, -, -, h6⟩ := cellsAt_ok (P := P) s hc hp
          exact ⟨_, .agg h4, by simp [loadVar, hA, run_size hi, h6]⟩
    | false =>
      rw [ha] at hl hA
      dsimp only at hl
      cases hb : h.t.get b with
      | none => rw [hb] at hl; cases hl
      | some e =>
        rw [hb] at hl
        dsimp only at hl
        cases hc : e.cs with
        | none => rw [hc] at hl; cases hl
        | some cs =>
          rw [hc] at hl
          dsimp only at hl
          rw [lget_eq] at hl
          obtain ⟨u', h4, h5⟩ := (s.at_ hb hp).cell hc hl
          exact ⟨u', h5, by simp [loadVar, hA, h4]⟩
noncomputable def res1 (P : Program) (tm : Fr) (h : H) (r : ResultVar) : Option Value := match r with
  | .tmp t => tm.get t
  | .cell a t => match tm.get a with
    | some (.pointer (some ⟨b, o, _⟩)) => loadV P t h b o
    | _ => none
noncomputable def resL (P : Program) (tm : Fr) (h : H) (rs : List ResultVar) : Option (List Value) :=
  List.rec (motive := fun _ => Option (List Value)) (some []) (fun r _ ih => match res1 P tm h r with
    | some v => match ih with
      | some l => some (v :: l)
      | none => none
    | none => none) rs
noncomputable def resV (l : List Value) : Value := match l with
  | [v] => v
  | l => .tuple l.toArray
def rv (a : Act) : ResultVar → Sem Value
  | .tmp t => pure (a.tmps.getD t undef)
  | .cell q t => do loadVar t (← asAddr (a.tmps.getD q undef))
theorem res1_ok {P : Program} {E : Env} {F : Full} {h : H} {w : World} (s : St E F h w) {nt : Nat} {df : List Deferred} {tm : Fr} {a : Act} (ht : TmR E nt df tm a) {r : ResultVar} {v : Value} (hr : res1 P tm h r = some v) :
    ∃ v', VR E v v' ∧ (rv a r).run P w = .ok v' w := by
  have hgd : ∀ t v, tm.get t = some v → VR E v (a.tmps.getD t undef) := fun t v hv => by
    obtain ⟨v', h1, h2⟩ := ht.at_ t v hv
    rw [Array.getD_eq_getD_getElem?, h1]; exact h2
  cases r with
  | tmp t => exact ⟨_, hgd t v hr, rfl⟩
  | cell q t =>
    dsimp only [res1] at hr
    cases hq : tm.get q with
    | none => rw [hq] at hr; cases hr
    | some u =>
      rw [hq] at hr
      have hu := hgd q u hq
      cases u with
      | pointer p =>
        cases p with
        | none => cases hr
        | some p =>
          obtain ⟨b, o, sp⟩ := p
          obtain ⟨pl, h1, -, h3⟩ := hu.ptr_inv
          obtain ⟨v', h4, h5⟩ := loadV_ok s hr h1
          exact ⟨v', h4, by simp only [rv, h3, asAddr, Sem.run_bind, Sem.run_pure, Result.andThen_ok, h5]⟩
      | _ => cases hr
theorem resL_ok {P : Program} {E : Env} {F : Full} {h : H} {w : World} (s : St E F h w) {nt : Nat} {df : List Deferred} {tm : Fr} {a : Act} (ht : TmR E nt df tm a) : ∀ (rs : List ResultVar) (l : List Value), resL P tm h rs = some l →
    ∃ l', VsR E l l' ∧ (rs.mapM (rv a)).run P w = .ok l' w
  | [], l, hr => by
    have hr' : some [] = some l := hr
    injection hr' with hr'
    subst hr'
    exact ⟨[], .nil, by simp⟩
  | r :: rs, l, hr => by
    have hr' : (match res1 P tm h r with
      | some v => match resL P tm h rs with
        | some l => some (v :: l)
        | none => none
      | none => none) = some l := hr
    cases h1 : res1 P tm h r with
    | none => rw [h1] at hr'; cases hr'
    | some v =>
      rw [h1] at hr'
      dsimp only at hr'
      cases h2 : resL P tm h rs with
      | none => rw [h2] at hr'; cases hr'
      | some l0 =>
        rw [h2] at hr'
        injection hr' with hr'
        subst hr'
        obtain ⟨v', hv, e1⟩ := res1_ok s ht h1
        obtain ⟨l', hl, e2⟩ := resL_ok s ht rs l0 h2
        refine ⟨v' :: l', .cons hv hl, ?_⟩
        rw [List.mapM_cons, Sem.run_bind, e1, Result.andThen_ok, Sem.run_bind, e2]
        rfl
theorem results_ok {P : Program} {E : Env} {F : Full} {h : H} {w : World} (s : St E F h w) {nt : Nat} {df : List Deferred} {tm : Fr} {a : Act} (ht : TmR E nt df tm a) {fn : Func} {l : List Value} (hr : resL P tm h fn.results.toList = some l) :
    ∃ v', VR E (resV l) v' ∧ (results fn a.tmps).run P w = .ok v' w := by
  obtain ⟨l', h1, h2⟩ := resL_ok s ht fn.results.toList l hr
  have h3 : (fn.results.mapM (rv a)).run P w = .ok l'.toArray w := by
    rw [Array.mapM_eq_mapM_toList, Sem.run_map, h2]
    rfl
  have h4 : (results fn a.tmps).run P w = .ok (if h : l'.toArray.size = 1 then l'.toArray[0] else .tuple l'.toArray) w := by
    have e : results fn a.tmps = (do
        let vs ← fn.results.mapM (rv a)
        pure (if h : vs.size = 1 then vs[0] else .tuple vs)) := by
      unfold results
      congr 1
    rw [e, Sem.run_bind, h3]
    rfl
  refine ⟨_, ?_, h4⟩
  cases h1 with
  | nil => exact .tuple .nil
  | cons hv hs =>
    cases hs with
    | nil => simpa [resV] using hv
    | cons hv2 hs2 =>
      simp [resV]
      exact .tuple (.cons hv (.cons hv2 hs2))
inductive Exi where
  | normal
  | exit (n : Nat)
  | ret
def Exi.to : Exi → Exit
  | .normal => .normal
  | .exit n => .exit n
  | .ret => .ret
abbrev Runner := Nat → Code → Fr → H → Option (Exi × Fr × H)
noncomputable def fgo (l : List Func) : Nat → T Func → T Func :=
  List.rec (motive := fun _ => Nat → T Func → T Func) (fun _ t => t) (fun f _ ih n t => ih (Nat.succ n) (t.set f n)) l
noncomputable def ftab (P : Program) : T Func := fgo P.funcs.toList 0 .leaf
theorem fgo_get : ∀ (l : List Func) (n : Nat) (t : T Func) (i : Nat), (fgo l n t).get i = if n ≤ i ∧ i < n + l.length then l[i - n]? else t.get i
  | [], n, t, i => by
    rw [if_neg (by simp <;> omega)]; rfl
  | f :: l, n, t, i => by
    show (fgo l (n + 1) (t.set f n)).get i = _
    rw [fgo_get l (n + 1) (t.set f n) i, T.get_set]
    by_cases h1 : i = n
    · subst h1
      rw [if_neg (by omega), if_pos rfl, if_pos (by simp)]
      simp
    · by_cases h2 : n + 1 ≤ i ∧ i < n + 1 + l.length
      · rw [if_pos h2, if_pos (by simp; omega)]
        have e : i - n = (i - (n + 1)) + 1 := by omega
        rw [e, List.getElem?_cons_succ]
      · rw [if_neg h2, if_neg h1, if_neg (by simp; omega)]
theorem ftab_get (P : Program) (f : FuncId) : (ftab P).get f = P.funcs[f]? := by
  unfold ftab
  rw [fgo_get]
  by_cases h : 0 ≤ f ∧ f < 0 + P.funcs.toList.length
  · rw [if_pos h]; simp
  · rw [if_neg h]
    symm
    apply Array.getElem?_eq_none
    simp at h
    exact h
noncomputable def pgo (l : List Value) : Nat → Fr → Fr :=
  List.rec (motive := fun _ => Nat → Fr → Fr) (fun _ t => t) (fun v _ ih n t => ih (Nat.succ n) (t.set v n)) l
theorem pgo_get : ∀ (l : List Value) (n : Nat) (t : Fr) (i : Nat), (pgo l n t).get i = if n ≤ i ∧ i < n + l.length then l[i - n]? else t.get i
  | [], n, t, i => by
    rw [if_neg (by simp <;> omega)]; rfl
  | f :: l, n, t, i => by
    show (pgo l (n + 1) (t.set f n)).get i = _
    rw [pgo_get l (n + 1) (t.set f n) i, T.get_set]
    by_cases h1 : i = n
    · subst h1
      rw [if_neg (by omega), if_pos rfl, if_pos (by simp)]
      simp
    · by_cases h2 : n + 1 ≤ i ∧ i < n + 1 + l.length
      · rw [if_pos h2, if_pos (by simp; omega)]
        have e : i - n = (i - (n + 1)) + 1 := by omega
        rw [e, List.getElem?_cons_succ]
      · rw [if_neg h2, if_neg h1, if_neg (by simp; omega)]
noncomputable def isRet (e : Exi) : Bool := match e with
  | .normal => true
  | .ret => true
  | .exit _ => false
abbrev Hook := FuncId → Option Caller
noncomputable def callBody (P : Program) (ex : Runner) : Caller := fun f args h => match (ftab P).get f with
  | some fn => match fn.body with
    | some c => match Nat.ble (llen args) fn.ntmps with
      | true => match ex fn.ntmps c (pgo args 0 .leaf) h with
        | some (e, tm, h') => match isRet e with
          | true => match resL P tm h' fn.results.toList with
            | some l => some (resV l, h')
            | none => none
          | false => none
        | none => none
      | false => none
    | none => none
  | none => none
noncomputable def callWith (P : Program) (hk : Hook) (ex : Runner) : Caller := fun f args h => match hk f with
  | some c => match c f args h with
    | some r => some r
    | none => callBody P ex f args h
  | none => callBody P ex f args h
def HkMn (hk : Hook) : Prop := ∀ f c, hk f = some c → ∀ args h v h', c f args h = some (v, h') → h.n ≤ h'.n
def HkOk (P : Program) (ng : Nat) (hk : Hook) : Prop := ∀ f c, hk f = some c → ∀ args h v h', c f args h = some (v, h') → ∀ (E : Env) (F : Full) (w : World) (args' : List Value), St E F h w → Glob E ng → VsR E args args' → Free E h.n h'.n →
  Calls P f args'.toArray w fun e w' => ∃ E' F' v', Go E F h w E' F' h' w' ∧ VR E' v v' ∧ e = .returned v'
noncomputable def boolO (v : Option Value) : Option Bool := match v with
  | some (.bool b) => some b
  | _ => none
noncomputable def exec (P : Program) (ng : Nat) (hk : Hook) (n : Nat) : Runner :=
  Nat.rec (motive := fun _ => Runner) (fun _ _ _ _ => none)
    (fun _ ih nt c tm h => match c with
      | .skip => some (.normal, tm, h)
      | .region _ ops false => match runL (callWith P hk ih) (cL P ng nt ops.toList ops.toList) tm h with
        | some (tm', h') => some (.normal, tm', h')
        | none => none
      | .region _ ops true => match runRL P ng nt (callWith P hk ih) ops.toList tm h with
        | some (tm', h') => some (.normal, tm', h')
        | none => none
      | .seq x y => match ih nt x tm h with
        | some (.normal, tm', h') => ih nt y tm' h'
        | r => r
      | .cond c x y => match boolO (ev tm (cOpd ng c)) with
        | some true => ih nt x tm h
        | some false => ih nt y tm h
        | none => none
      | .block id x => match ih nt x tm h with
        | some (.exit j, tm', h') => match Nat.beq j id with
          | true => some (.normal, tm', h')
          | false => some (.exit j, tm', h')
        | r => r
      | .loop x => match ih nt x tm h with
        | some (.normal, tm', h') => ih nt (.loop x) tm' h'
        | r => r
      | .exit id => some (.exit id, tm, h)
      | .scope x => ih nt x tm h
      | .label _ => some (.normal, tm, h)
      | .ret => some (.ret, tm, h)
      | _ => none) n
def RunMn (ex : Runner) : Prop := ∀ (nt : Nat) (c : Code) (tm : Fr) (h : H) (e : Exi) (tm' : Fr) (h' : H), ex nt c tm h = some (e, tm', h') → h.n ≤ h'.n
theorem bodyMn_of {P : Program} {ex : Runner} (hx : RunMn ex) : CallMn (callBody P ex) := by
  intro f args h v h' hc
  unfold callBody at hc
  repeat' split at hc
  all_goals first
    | (cases hc; exact hx _ _ _ _ _ _ _ (by assumption))
    | cases hc
theorem callMn_of {P : Program} {hk : Hook} (hm : HkMn hk) {ex : Runner} (hx : RunMn ex) : CallMn (callWith P hk ex) := by
  intro f args h v h' hc
  unfold callWith at hc
  cases hf : hk f with
  | none => rw [hf] at hc; exact bodyMn_of hx _ _ _ _ _ hc
  | some c =>
    rw [hf] at hc
    dsimp only at hc
    cases hq : c f args h with
    | some r => rw [hq] at hc; cases hc; exact hm f c hf _ _ _ _ hq
    | none => rw [hq] at hc; exact bodyMn_of hx _ _ _ _ _ hc
theorem exec_mn (P : Program) (ng : Nat) {hk : Hook} (hm : HkMn hk) : ∀ n, RunMn (exec P ng hk n) := by
  intro n
  induction n with
  | zero => intro nt c tm h e tm' h' hx; cases hx
  | succ n ih =>
    have hC := callMn_of (P := P) hm ih
    intro nt c tm h e tm' h' hx
    cases c with
    | skip => cases (show some (Exi.normal, tm, h) = some (e, tm', h') from hx); exact Nat.le_refl _
    | label l => cases (show some (Exi.normal, tm, h) = some (e, tm', h') from hx); exact Nat.le_refl _
    | ret => cases (show some (Exi.ret, tm, h) = some (e, tm', h') from hx); exact Nat.le_refl _
    | exit id => cases (show some (Exi.exit id, tm, h) = some (e, tm', h') from hx); exact Nat.le_refl _
    | region id ops draw =>
      cases draw with
      | true =>
        have hx' : (match runRL P ng nt (callWith P hk (exec P ng hk n)) ops.toList tm h with
          | some (tm', h') => some (Exi.normal, tm', h')
          | none => none) = some (e, tm', h') := hx
        cases hr : runRL P ng nt (callWith P hk (exec P ng hk n)) ops.toList tm h with
        | none => rw [hr] at hx'; cases hx'
        | some q =>
          obtain ⟨tm1, h1⟩ := q
          rw [hr] at hx'
          cases hx'
          exact runRL_mn hC hr
      | false =>
        have hx' : (match runL (callWith P hk (exec P ng hk n)) (cL P ng nt ops.toList ops.toList) tm h with
          | some (tm', h') => some (Exi.normal, tm', h')
          | none => none) = some (e, tm', h') := hx
        cases hr : runL (callWith P hk (exec P ng hk n)) (cL P ng nt ops.toList ops.toList) tm h with
        | none => rw [hr] at hx'; cases hx'
        | some q =>
          obtain ⟨tm1, h1⟩ := q
          rw [hr] at hx'
          cases hx'
          exact runL_mn hC _ _ _ _ _ _ hr
    | seq x y =>
      have hx' : (match exec P ng hk n nt x tm h with
        | some (.normal, tm', h') => exec P ng hk n nt y tm' h'
        | r => r) = some (e, tm', h') := hx
      cases hr : exec P ng hk n nt x tm h with
      | none => rw [hr] at hx'; cases hx'
      | some q =>
        obtain ⟨e1, tm1, h1⟩ := q
        rw [hr] at hx'
        have h0 := ih _ _ _ _ _ _ _ hr
        cases e1 with
        | normal => exact Nat.le_trans h0 (ih _ _ _ _ _ _ _ hx')
        | exit j => cases hx'; exact h0
        | ret => cases hx'; exact h0
    | cond c x y =>
      have hx' : (match boolO (ev tm (cOpd ng c)) with
        | some true => exec P ng hk n nt x tm h
        | some false => exec P ng hk n nt y tm h
        | none => none) = some (e, tm', h') := hx
      generalize boolO (ev tm (cOpd ng c)) = q at hx'
      cases q with
      | none => cases hx'
      | some b => cases b <;> exact ih _ _ _ _ _ _ _ hx'
    | block id x =>
      have hx' : (match exec P ng hk n nt x tm h with
        | some (.exit j, tm', h') => match Nat.beq j id with
          | true => some (.normal, tm', h')
          | false => some (.exit j, tm', h')
        | r => r) = some (e, tm', h') := hx
      cases hr : exec P ng hk n nt x tm h with
      | none => rw [hr] at hx'; cases hx'
      | some q =>
        obtain ⟨e1, tm1, h1⟩ := q
        rw [hr] at hx'
        have h0 := ih _ _ _ _ _ _ _ hr
        cases e1 with
        | normal => cases hx'; exact h0
        | ret => cases hx'; exact h0
        | exit j =>
          dsimp only at hx'
          generalize Nat.beq j id = q at hx'
          cases q <;> (cases hx'; exact h0)
    | loop x =>
      have hx' : (match exec P ng hk n nt x tm h with
        | some (.normal, tm', h') => exec P ng hk n nt (.loop x) tm' h'
        | r => r) = some (e, tm', h') := hx
      cases hr : exec P ng hk n nt x tm h with
      | none => rw [hr] at hx'; cases hx'
      | some q =>
        obtain ⟨e1, tm1, h1⟩ := q
        rw [hr] at hx'
        have h0 := ih _ _ _ _ _ _ _ hr
        cases e1 with
        | normal => exact Nat.le_trans h0 (ih _ _ _ _ _ _ _ hx')
        | exit j => cases hx'; exact h0
        | ret => cases hx'; exact h0
    | scope x => exact ih nt x tm h e tm' h' hx
    | _ => cases hx
def RunOk (P : Program) (ng : Nat) (n : Nat) (ex : Runner) : Prop :=
  ∀ (nt : Nat) (c : Code) (tm : Fr) (h : H) (e : Exi) (tm' : Fr) (h' : H), ex nt c tm h = some (e, tm', h') → ∀ (df : List Deferred) (E : Env) (F : Full) (w : World) (a : Act) (Q : Exit → Act → World → Prop), St E F h w → Glob E ng → TmR E nt df tm a → Free E h.n h'.n →
    (∀ E' F' a' w', Go E F h w E' F' h' w' → TmR E' nt df tm' a' → Q e.to a' w') → c.wp P Q a w ∧ ∀ b, c = .loop b → Code.rounds P b Q n a w
theorem bodyOk_of {P : Program} {ng n : Nat} {ex : Runner} (hx : RunOk P ng n ex) : CallOk P ng (callBody P ex) := by
  intro f args h v h' hc E F w args' s hg ha hfr
  unfold callBody at hc
  rw [ftab_get] at hc
  cases hf : P.funcs[f]? with
  | none => rw [hf] at hc; cases hc
  | some fn =>
    rw [hf] at hc
    dsimp only at hc
    cases hb : fn.body with
    | none => rw [hb] at hc; cases hc
    | some c =>
      rw [hb] at hc
      dsimp only at hc
      cases hn : Nat.ble (llen args) fn.ntmps with
      | false => rw [hn] at hc; cases hc
      | true =>
        rw [hn] at hc
        have hn' := Nat.le_of_ble_eq_true hn
        rw [llen_eq] at hn'
        dsimp only at hc
        cases he : ex fn.ntmps c (pgo args 0 .leaf) h with
        | none => rw [he] at hc; cases hc
        | some q =>
          obtain ⟨e, tm, h1⟩ := q
          rw [he] at hc
          dsimp only at hc
          cases hr : isRet e with
          | false => rw [hr] at hc; cases hc
          | true =>
            rw [hr] at hc
            dsimp only at hc
            cases hl : resL P tm h1 fn.results.toList with
            | none => rw [hl] at hc; cases hc
            | some l =>
              rw [hl] at hc
              injection hc with hc
              injection hc with e1 e2
              subst e1
              subst e2
              have hlen := ha.length
              refine calls_of_wp hf hb (hx fn.ntmps c _ h e tm h1 he [] E F w _ _ s hg ⟨?_, ?_, rfl⟩ hfr ?_).1
              · simp; omega
              · intro t v hv
                rw [pgo_get] at hv
                by_cases ht : 0 ≤ t ∧ t < 0 + args.length
                · rw [if_pos ht] at hv
                  simp only [Nat.sub_zero] at hv
                  obtain ⟨v', h3, h4⟩ := ha.at hv
                  refine ⟨v', ?_, h4⟩
                  have hlt : t < args'.toArray.size := by simp; omega
                  rw [Array.getElem?_append_left hlt]
                  simpa using h3
                · rw [if_neg ht] at hv
                  cases hv
              · intro E' F' a' w' hgo htm
                obtain ⟨v', h3, h4⟩ := results_ok (fn := fn) hgo.st htm hl
                have hp : a'.defers = [] ∧ ∃ v, (results fn a'.tmps).run P w' = .ok v w' ∧ (∃ E'' F'' v'', Go E F h w E'' F'' h1 w' ∧ VR E'' (resV l) v'' ∧ Ending.returned v = .returned v'') := ⟨htm.defers, v', h4, E', F', v', hgo, h3, rfl⟩
                cases e with
                | normal => exact hp
                | ret => exact hp
                | exit j => cases hr
theorem callOk_of {P : Program} {ng n : Nat} {hk : Hook} (ho : HkOk P ng hk) {ex : Runner} (hx : RunOk P ng n ex) : CallOk P ng (callWith P hk ex) := by
  intro f args h v h' hc E F w args' s hg ha hfr
  unfold callWith at hc
  cases hf : hk f with
  | none => rw [hf] at hc; exact bodyOk_of hx f args h v h' hc E F w args' s hg ha hfr
  | some c =>
    rw [hf] at hc
    dsimp only at hc
    cases hq : c f args h with
    | some r => rw [hq] at hc; cases hc; exact ho f c hf args h v h' hq E F w args' s hg ha hfr
    | none => rw [hq] at hc; exact bodyOk_of hx f args h v h' hc E F w args' s hg ha hfr
theorem exec_ok {P : Program} (hN : noNum P = true) (hmx : P.follows .mixedOrders = true) (ng : Nat) {hk : Hook} (ho : HkOk P ng hk) (hm : HkMn hk) : ∀ n, RunOk P ng n (exec P ng hk n) := by
  intro n
  induction n with
  | zero => intro nt c tm h e tm' h' hx; cases hx
  | succ n ih =>
    have hC := callOk_of ho ih
    have hM := callMn_of (P := P) hm (exec_mn P ng hm n)
    have hmn := exec_mn P ng hm n
    intro nt c tm h e tm' h' hx df E F w a Q s hg ht hfr hq
    cases c with
    | skip =>
      have hx' : some (Exi.normal, tm, h) = some (e, tm', h') := hx
      injection hx' with hx'
      injection hx' with e1 e2
      injection e2 with e2 e3
      subst e1; subst e2; subst e3
      exact ⟨wp_skip (hq E F a w (Go.refl s) ht), fun b hb => by cases hb⟩
    | label l =>
      have hx' : some (Exi.normal, tm, h) = some (e, tm', h') := hx
      injection hx' with hx'
      injection hx' with e1 e2
      injection e2 with e2 e3
      subst e1; subst e2; subst e3
      exact ⟨wp_label (hq E F a w (Go.refl s) ht), fun b hb => by cases hb⟩
    | ret =>
      have hx' : some (Exi.ret, tm, h) = some (e, tm', h') := hx
      injection hx' with hx'
      injection hx' with e1 e2
      injection e2 with e2 e3
      subst e1; subst e2; subst e3
      exact ⟨wp_ret (hq E F a w (Go.refl s) ht), fun b hb => by cases hb⟩
    | exit id =>
      have hx' : some (Exi.exit id, tm, h) = some (e, tm', h') := hx
      injection hx' with hx'
      injection hx' with e1 e2
      injection e2 with e2 e3
      subst e1; subst e2; subst e3
      exact ⟨wp_exit (hq E F a w (Go.refl s) ht), fun b hb => by cases hb⟩
    | region id ops draw =>
      cases draw with
      | true =>
        have hx' : (match runRL P ng nt (callWith P hk (exec P ng hk n)) ops.toList tm h with
          | some (tm', h') => some (Exi.normal, tm', h')
          | none => none) = some (e, tm', h') := hx
        cases hr : runRL P ng nt (callWith P hk (exec P ng hk n)) ops.toList tm h with
        | none => rw [hr] at hx'; cases hx'
        | some q =>
          obtain ⟨tm1, h1⟩ := q
          rw [hr] at hx'
          injection hx' with hx'
          injection hx' with e1 e2
          injection e2 with e2 e3
          subst e1; subst e2; subst e3
          exact ⟨wp_region_any hmx (runRL_okW hN hC hM hr s hg ht hfr hq), fun b hb => by cases hb⟩
      | false =>
        have hx' : (match runL (callWith P hk (exec P ng hk n)) (cL P ng nt ops.toList ops.toList) tm h with
          | some (tm', h') => some (Exi.normal, tm', h')
          | none => none) = some (e, tm', h') := hx
        cases hr : runL (callWith P hk (exec P ng hk n)) (cL P ng nt ops.toList ops.toList) tm h with
        | none => rw [hr] at hx'; cases hx'
        | some q =>
          obtain ⟨tm1, h1⟩ := q
          rw [hr] at hx'
          injection hx' with hx'
          injection hx' with e1 e2
          injection e2 with e2 e3
          subst e1; subst e2; subst e3
          exact ⟨region_ok hN hC hM hr s hg ht hfr hq, fun b hb => by cases hb⟩
    | seq x y =>
      have hx' : (match exec P ng hk n nt x tm h with
        | some (.normal, tm', h') => exec P ng hk n nt y tm' h'
        | r => r) = some (e, tm', h') := hx
      cases hr : exec P ng hk n nt x tm h with
      | none => rw [hr] at hx'; cases hx'
      | some q =>
        obtain ⟨e1, tm1, h1⟩ := q
        rw [hr] at hx'
        have hle1 : h1.n ≤ h'.n := by
          cases e1 with
          | normal => exact hmn _ _ _ _ _ _ _ hx'
          | exit j => cases hx'; exact Nat.le_refl _
          | ret => cases hx'; exact Nat.le_refl _
        refine ⟨wp_seq ((ih nt x tm h e1 tm1 h1 hr df E F w a _ s hg ht (hfr.cut (Nat.le_refl _) hle1) ?_).1), fun b hb => by cases hb⟩
        intro E1 F1 a1 w1 hgo htm
        cases e1 with
        | normal => exact (ih nt y tm1 h1 e tm' h' hx' df E1 F1 w1 a1 Q hgo.st (hg.mono hgo.step.le) htm (hfr.on hgo) (fun E' F' a' w' g => hq E' F' a' w' (hgo.trans g))).1
        | exit j =>
          injection hx' with hx'
          injection hx' with e1 e2
          injection e2 with e2 e3
          subst e1; subst e2; subst e3
          exact hq E1 F1 a1 w1 hgo htm
        | ret =>
          injection hx' with hx'
          injection hx' with e1 e2
          injection e2 with e2 e3
          subst e1; subst e2; subst e3
          exact hq E1 F1 a1 w1 hgo htm
    | cond c x y =>
      have hx' : (match boolO (ev tm (cOpd ng c)) with
        | some true => exec P ng hk n nt x tm h
        | some false => exec P ng hk n nt y tm h
        | none => none) = some (e, tm', h') := hx
      cases hc : ev tm (cOpd ng c) with
      | none => rw [hc] at hx'; cases hx'
      | some v =>
        have hv := ev_ok hg ht hc
        rw [hc] at hx'
        cases v with
        | bool b =>
          have eb := hv.bool_inv
          cases b with
          | true => exact ⟨wp_cond_true eb (ih nt x tm h e tm' h' hx' df E F w a Q s hg ht hfr hq).1, fun b hb => by cases hb⟩
          | false => exact ⟨wp_cond_false eb (ih nt y tm h e tm' h' hx' df E F w a Q s hg ht hfr hq).1, fun b hb => by cases hb⟩
        | _ => cases hx'
    | block id x =>
      have hx' : (match exec P ng hk n nt x tm h with
        | some (.exit j, tm', h') => match Nat.beq j id with
          | true => some (.normal, tm', h')
          | false => some (.exit j, tm', h')
        | r => r) = some (e, tm', h') := hx
      cases hr : exec P ng hk n nt x tm h with
      | none => rw [hr] at hx'; cases hx'
      | some q =>
        obtain ⟨e1, tm1, h1⟩ := q
        rw [hr] at hx'
        have hle1 : h1 = h' := by
          cases e1 with
          | normal => cases hx'; rfl
          | ret => cases hx'; rfl
          | exit j =>
            dsimp only at hx'
            generalize Nat.beq j id = q at hx'
            cases q <;> (cases hx'; rfl)
        refine ⟨wp_block ((ih nt x tm h e1 tm1 h1 hr df E F w a _ s hg ht (by rw [hle1]; exact hfr) ?_).1), fun b hb => by cases hb⟩
        intro E1 F1 a1 w1 hgo htm
        cases e1 with
        | normal =>
          injection hx' with hx'
          injection hx' with e1 e2
          injection e2 with e2 e3
          subst e1; subst e2; subst e3
          exact hq E1 F1 a1 w1 hgo htm
        | ret =>
          injection hx' with hx'
          injection hx' with e1 e2
          injection e2 with e2 e3
          subst e1; subst e2; subst e3
          exact hq E1 F1 a1 w1 hgo htm
        | exit j =>
          dsimp only at hx'
          cases hj : Nat.beq j id with
          | true =>
            rw [hj] at hx'
            injection hx' with hx'
            injection hx' with e1 e2
            injection e2 with e2 e3
            subst e1; subst e2; subst e3
            have := Nat.eq_of_beq_eq_true hj
            show (if j = id then Q .normal a1 w1 else Q (.exit j) a1 w1)
            rw [if_pos this]
            exact hq E1 F1 a1 w1 hgo htm
          | false =>
            rw [hj] at hx'
            injection hx' with hx'
            injection hx' with e1 e2
            injection e2 with e2 e3
            subst e1; subst e2; subst e3
            have : ¬ j = id := fun h => by rw [h, Nat.beq_refl] at hj; cases hj
            show (if j = id then Q .normal a1 w1 else Q (.exit j) a1 w1)
            rw [if_neg this]
            exact hq E1 F1 a1 w1 hgo htm
    | loop x =>
      have hx' : (match exec P ng hk n nt x tm h with
        | some (.normal, tm', h') => exec P ng hk n nt (.loop x) tm' h'
        | r => r) = some (e, tm', h') := hx
      have hround : Code.rounds P x Q (n + 1) a w := by
        rw [rounds_succ]
        cases hr : exec P ng hk n nt x tm h with
        | none => rw [hr] at hx'; cases hx'
        | some q =>
          obtain ⟨e1, tm1, h1⟩ := q
          rw [hr] at hx'
          have hle1 : h1.n ≤ h'.n := by
            cases e1 with
            | normal => exact hmn _ _ _ _ _ _ _ hx'
            | exit j => cases hx'; exact Nat.le_refl _
            | ret => cases hx'; exact Nat.le_refl _
          refine (ih nt x tm h e1 tm1 h1 hr df E F w a _ s hg ht (hfr.cut (Nat.le_refl _) hle1) ?_).1
          intro E1 F1 a1 w1 hgo htm
          cases e1 with
          | normal => exact (ih nt (.loop x) tm1 h1 e tm' h' hx' df E1 F1 w1 a1 Q hgo.st (hg.mono hgo.step.le) htm (hfr.on hgo) (fun E' F' a' w' g => hq E' F' a' w' (hgo.trans g))).2 x rfl
          | exit j =>
            injection hx' with hx'
            injection hx' with e1 e2
            injection e2 with e2 e3
            subst e1; subst e2; subst e3
            exact hq E1 F1 a1 w1 hgo htm
          | ret =>
            injection hx' with hx'
            injection hx' with e1 e2
            injection e2 with e2 e3
            subst e1; subst e2; subst e3
            exact hq E1 F1 a1 w1 hgo htm
      exact ⟨wp_loop_rounds (n + 1) hround, fun b hb => by injection hb with hb; subst hb; exact hround⟩
    | scope x =>
      have hx' : exec P ng hk n nt x tm h = some (e, tm', h') := hx
      refine ⟨wp_scope_straight ((ih nt x tm h e tm' h' hx' df E F w a _ s hg ht hfr ?_).1), fun b hb => by cases hb⟩
      intro E1 F1 a1 w1 hgo htm
      cases e <;> exact hq E1 F1 a1 w1 hgo htm
    | _ => cases hx
end Go.Proofs.YtbhkfifmgbcknaaGreatDoor.Ex
namespace Go.Proofs.YtbhkfifmgbcknaaGreatDoor.Ex
open Go Go.RowKit
theorem vsr_inv {E : Env} {f : Value → Bool} (hf : ∀ v v', f v = true → VR E v v' → v' = v) : ∀ (l l' : List Value), l.all f = true → VsR E l l' → l' = l
  | [], _, _, h => by cases h; rfl
  | v :: l, _, hl, h => by
    simp only [List.all_cons, Bool.and_eq_true] at hl
    cases h with
    | cons hv hs => rw [hf _ _ hl.1 hv, vsr_inv hf l _ hl.2 hs]
theorem gr_inv {E : Env} : ∀ (n : Nat) (v v' : Value), gr n v = true → VR E v v' → v' = v
  | 0, v, v', h, _ => by cases h
  | n + 1, v, v', h, hv => by
    have ih := gr_inv (E := E) n
    unfold gr at h
    split at h
    · exact hv.bool_inv
    · exact hv.int_inv
    · exact hv.string_inv
    · exact hv.ptr0_inv
    · cases hv; rfl
    · cases hv; rfl
    · cases hv; rfl
    · exact hv.iface0_inv
    · obtain ⟨u', e, hu⟩ := hv.iface_inv
      rw [e, ih _ _ h hu]
    · obtain ⟨xs', e, hs⟩ := hv.agg_inv
      rw [e, Array.ext' (vsr_inv ih _ _ h hs)]
    · obtain ⟨xs', e, hs⟩ := hv.tuple_inv
      rw [e, Array.ext' (vsr_inv ih _ _ h hs)]
    · cases h
def env0 (ng : Nat) : Env := fun i => if i < ng then some ⟨i, 0, none⟩ else none
end Go.Proofs.YtbhkfifmgbcknaaGreatDoor.Ex
