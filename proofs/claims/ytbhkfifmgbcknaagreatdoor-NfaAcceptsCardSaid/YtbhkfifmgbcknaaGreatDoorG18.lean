/-
  A part of the proof of the statement NfaAccepts.
-/
import Derived.Test.YtbhkfifmgbcknaaGreatDoorG17
set_option linter.unusedSimpArgs false
set_option linter.unusedVariables false
namespace Go.Proofs.YtbhkfifmgbcknaaGreatDoor.Ex
open Go Go.RowKit
theorem countP_lt {α : Type} {p p' : α → Bool} (h : ∀ x, p' x = true → p x = true) : ∀ (l : List α) {x : α}, x ∈ l → p x = true → p' x = false → l.countP p' < l.countP p
  | [], x, hx, _, _ => by cases hx
  | y :: l, x, hx, h1, h2 => by
    have hle : l.countP p' ≤ l.countP p := List.countP_mono_left fun x _ => h x
    rw [List.countP_cons, List.countP_cons]
    rcases List.mem_cons.1 hx with hx | hx
    · subst hx
      rw [h1, h2]
      simp
      omega
    · have ih := countP_lt h l hx h1 h2
      cases hy : p' y with
      | true => rw [h y hy]; simp; omega
      | false => cases p y <;> simp <;> omega
section
variable {q : Plan} {P : Program} {ops : Array Oper} {Q : Exit → Act → World → Prop} {ng nt : Nat} {df : List Deferred} {E0 : Env} {F0 : Full} {h0 : H} {w0 : World} {m : Nat} {E : Env} {F : Full} {w : World} {a : Act}
def isIn (listed : Array Bool) (j : Nat) : Prop := listed.getD j false = true
theorem isIn_set {listed : Array Bool} {k : Nat} (hk : k < listed.size) : isIn (listed.setIfInBounds k true) = fun j => isIn listed j ∨ j = k := by
  funext j
  apply propext
  unfold isIn
  by_cases h : k = j
  · subst h
    simp [hk]
  · rw [getD_set_ne false h]
    exact ⟨.inl, fun hh => hh.resolve_right fun e => h e.symm⟩
theorem Plan.Ok.least (ok : q.Ok P ops Q ng nt df) {listed : Array Bool} (hs : listed.size = q.N) (hr : Region.ready .any ops listed = []) : ∀ n k, k < n → k < q.N → isIn listed k := by
  intro n
  induction n with
  | zero => intro k h; exact absurd h (Nat.not_lt_zero _)
  | succ n ih =>
    intro k hk hkN
    by_cases hL : isIn listed k
    · exact hL
    · exfalso
      have hlt : k < ops.size := by rw [ok.size]; exact hkN
      have hmem : k ∈ Region.ready .any ops listed := by
        rw [mem_ready]
        refine ⟨?_, ops[k], by simp [hlt], fun e he hb => ?_⟩
        · unfold isIn at hL
          have : k < listed.size := by omega
          simp [this] at hL ⊢
          exact hL
        · have := ok.edge k ops[k] (by simp [hlt]) e he hb
          exact ih e.on (by omega) (by omega)
      rw [hr] at hmem
      cases hmem
theorem Plan.Ok.any (ok : q.Ok P ops Q ng nt df) (hA : q.A) (hfin : ∀ m E F w a, q.Inv ng nt df E0 F0 h0 w0 (fun _ => True) m E F w a → Q .normal a w)
    (hall : ∀ (L : Nat → Prop) m E F w a, (∀ k, k < q.N → L k) → q.Inv ng nt df E0 F0 h0 w0 L m E F w a → q.Inv ng nt df E0 F0 h0 w0 (fun _ => True) m E F w a) :
    ∀ (fuel : Nat) (listed : Array Bool) (m : Nat) (E : Env) (F : Full) (w : World) (a : Act), listed.size = q.N → (List.range q.N).countP (fun i => !listed.getD i true) ≤ fuel →
      q.Inv ng nt df E0 F0 h0 w0 (isIn listed) m E F w a → wpAny P .any ops Q fuel listed a w := by
  intro fuel
  have done : ∀ (listed : Array Bool) (m : Nat) (E : Env) (F : Full) (w : World) (a : Act), listed.size = q.N → q.Inv ng nt df E0 F0 h0 w0 (isIn listed) m E F w a → Region.ready .any ops listed = [] → Q .normal a w :=
    fun listed m E F w a hs I hr => hfin m E F w a (hall _ m E F w a (fun k hk => ok.least hs hr (k + 1) k (Nat.lt_succ_self k) hk) I)
  induction fuel with
  | zero =>
    intro listed m E F w a hs hc I
    have hr : Region.ready .any ops listed = [] := by
      apply List.eq_nil_iff_forall_not_mem.2
      intro k hk
      have h1 := mem_ready.1 hk
      have hkN : k < q.N := by
        obtain ⟨-, o, ho, -⟩ := h1
        rw [← ok.size]
        exact (Array.getElem?_eq_some_iff.1 ho).1
      have h2 := List.countP_eq_zero.1 (Nat.le_zero.1 hc) k (List.mem_range.2 hkN)
      rw [h1.1] at h2
      exact absurd rfl h2
    exact ⟨hr, done listed m E F w a hs I hr⟩
  | succ fuel ih =>
    intro listed m E F w a hs hc I
    refine ⟨fun hr => done listed m E F w a hs I hr, fun k hk => ?_⟩
    obtain ⟨hun, o, ho, hall'⟩ := mem_ready.1 hk
    have hkN : k < q.N := by
      rw [← ok.size]
      exact (Array.getElem?_eq_some_iff.1 ho).1
    have hks : k < listed.size := by omega
    have hL : ¬isIn listed k := by
      unfold isIn
      simp [hks] at hun ⊢
      exact hun
    have hpm : ∀ j, q.pm k j → isIn listed j := by
      intro j hj
      obtain ⟨e, he, hb, heN, hje⟩ := ok.pmin k o ho j hj
      have hon : isIn listed e.on := hall' e he hb
      rcases hje with hje | hje
      · rw [hje]; exact hon
      · exact I.down e.on heN hon j hje
    refine I.next ok hkN hL hpm (fun _ => hA) fun m' E' F' w' a' I' => ?_
    rw [← isIn_set hks] at I'
    refine ih _ m' E' F' w' a' (by rw [Array.size_setIfInBounds]; exact hs) ?_ I'
    refine Nat.le_of_lt_succ (Nat.lt_of_lt_of_le ?_ hc)
    refine countP_lt (fun x hx => ?_) _ (List.mem_range.2 hkN) (by rw [hun]; rfl) ?_
    · by_cases hxk : k = x
      · subst hxk
        simp [hks] at hx
      · rw [getD_set_ne true hxk] at hx; exact hx
    · simp [hks]
theorem Plan.Ok.start (ok : q.Ok P ops Q ng nt df) (hlo : q.lo = 0) (hsd0 : ∀ i, q.sd i = none) (s : St E0 F0 h0 w0) (hg : Glob E0 ng) (ht : TmR E0 nt df q.tm0 a) (hfr : Free E0 h0.n (q.n q.N)) (hn : q.n 0 = h0.n) (hC : q.C 0 = h0.t) {listed : Array Bool} (hemp : ∀ j, ¬isIn listed j) :
    q.Inv ng nt df E0 F0 h0 w0 (isIn listed) 0 E0 F0 w0.drew a := by
  have h0N := ok.nle (i := 0) (j := q.N) (by omega) (Nat.le_refl _)
  have hd := Step.drew (n := q.n 0) s.rel
  have hfr0 : ∀ k, k < q.N → ∀ i, q.n k ≤ i → i < q.n (k + 1) → E0 i = none := fun k hk i h1 h2 => by
    have h3 := ok.nle (i := 0) (j := k) (by omega) (by omega)
    have h4 := ok.nle (i := k + 1) (j := q.N) (by omega) (by omega)
    exact hfr i (by omega) (by omega)
  have hnone : ∀ k, k < q.N → ∀ i, q.n k ≤ i → i < q.n (k + 1) → h0.t.get i = none := fun k hk i h1 h2 => by
    cases hgt : h0.t.get i with
    | none => rfl
    | some e =>
      obtain ⟨p, hp, -⟩ := s.rel.at_ i e (s.sub i e hgt)
      rw [hfr0 k hk i h1 h2] at hp; cases hp
  refine ⟨⟨hd.le, hd.rel, hd.own, hd.frame, hd.size, hd.os, hd.tape, hd.output, h0N, fun _ _ => rfl⟩, fun i e h => s.sub i e (hC ▸ h), fun p _ h => absurd h (hemp p), fun k hk _ i h1 h2 => hfr0 k hk i h1 h2, fun p hp _ _ i h1 h2 => by rw [hC]; exact hnone p hp i h1 h2, fun i _ h => by rw [hC]; exact h, fun _ _ _ => rfl, hg, ht.size, ht.defers, ?_, ?_, fun k _ h => absurd h (hemp k), Nat.zero_le _, (fun i e h => nomatch (hsd0 i).symm.trans h), Nat.le_of_eq hlo⟩
  · intro t v hl
    rcases hl with ⟨j, -, h, -⟩ | ⟨h, -⟩
    · exact absurd h (hemp j)
    · exact ht.at_ t v h
  · intro e _ _
    exact ⟨fun h => absurd h (hemp e), fun h => absurd h (Nat.not_lt_zero _)⟩
theorem none_in (n : Nat) : ∀ j, ¬isIn (Array.replicate n false) j := fun j => by
  unfold isIn
  rw [Array.getD_eq_getD_getElem?]
  by_cases h : j < n
  · simp [h]
  · simp [h]
theorem Plan.Inv.full {L : Nat → Prop} (I : q.Inv ng nt df E0 F0 h0 w0 L m E F w a) (hL : ∀ k, k < q.N → L k) : q.Inv ng nt df E0 F0 h0 w0 (fun _ => True) m E F w a := by
  refine ⟨I.step, I.core, fun p hp _ => I.pblk p hp (hL p hp), fun k _ h => absurd trivial h, I.dom, I.old, I.keep, I.glob, I.size, I.dfs, ?_, ?_, fun _ _ _ _ _ => trivial, I.mM, I.side, I.mlo⟩
  · intro t v hl
    refine I.tm t v ?_
    rcases hl with ⟨j, hj, -, hd, hv, hlast⟩ | ⟨h1, hno⟩
    · exact .inl ⟨j, hj, hL j hj, hd, hv, fun j' a _ c => hlast j' a trivial c⟩
    · exact .inr ⟨h1, fun j hj _ => hno j hj trivial⟩
  · intro e he hke
    exact ⟨fun _ => (I.em e he hke).1 (hL e he), fun _ => trivial⟩
theorem Plan.Ok.regionW (ok : q.Ok P ops Q ng nt df) (hA : q.A) (hlo : q.lo = 0) (hsd0 : ∀ i, q.sd i = none) {tF : T Ent} {tmF : Fr} (s : St E0 F0 h0 w0) (hg : Glob E0 ng) (ht : TmR E0 nt df q.tm0 a) (hfr : Free E0 h0.n (q.n q.N)) (hn : q.n 0 = h0.n) (hC : q.C 0 = h0.t)
    (hMc : q.M = 0 ∨ ∃ e, e < q.N ∧ q.kd e = .e ∧ q.M = q.eix e + 1)
    (htF : ∀ i e, tF.get i = some e → (q.C q.M).get i = some e ∨ ∃ p, p < q.N ∧ q.kd p = .p ∧ q.FreeAt p q.M ∧ i = q.n p ∧ q.ent p = some e)
    (htm : ∀ t v, tmF.get t = some v → q.Last (fun _ => True) t v)
    (hq : ∀ E' F' a' w', Go E0 F0 h0 w0 E' F' ⟨tF, q.n q.N⟩ w' → TmR E' nt df tmF a' → Q .normal a' w') : wpAny P .any ops Q ops.size (Array.replicate ops.size false) a w0.drew := by
  have h0N := ok.nle (i := 0) (j := q.N) (by omega) (Nat.le_refl _)
  refine ok.any hA (E0 := E0) (F0 := F0) (h0 := h0) (w0 := w0) ?_ (fun L m E F w a hL I => I.full hL) ops.size _ 0 E0 F0 _ a (by rw [Array.size_replicate]; exact ok.size) ?_ (ok.start hlo hsd0 s hg ht hfr hn hC (none_in _))
  · intro m E F w a I
    have hmM : m = q.M := by
      have := I.mM
      rcases hMc with h | ⟨e, he, hke, hee⟩
      · omega
      · have := (I.em e he hke).1 trivial
        omega
    subst hmM
    refine hq E F a w ⟨hn ▸ I.step, ?_, ?_, ?_, hn ▸ h0N⟩ ⟨I.size, fun t v hv => I.tm t v (htm t v hv), I.dfs⟩
    · intro i e hgt
      rcases htF i e hgt with h | ⟨p, hp, hkp, hfp, hi, he⟩
      · exact I.core i e h
      · rw [hi]; exact I.pblk p hp trivial hkp hfp e he
    · intro i hi h0i
      exact I.keep i (by rw [hn]; exact hi) h0i
    · intro i hi h0i
      show tF.get i = none
      cases hgt : tF.get i with
      | none => rfl
      | some e =>
        rcases htF i e hgt with h | ⟨p, hp, -, -, hip, he⟩
        · rw [I.old i (by rw [hn]; exact hi) h0i] at h; cases h
        · have h2 := ok.entlt p e hp he
          have h3 := ok.nle (i := 0) (j := p) (by omega) (by omega)
          have h4 := ok.nle (i := p + 1) (j := q.N) (by omega) (by omega)
          have hi' : i < h0.n ∨ q.n q.N ≤ i := hi
          omega
  · rw [ok.size]
    refine Nat.le_trans List.countP_le_length ?_
    rw [List.length_range]
    exact Nat.le_refl _
end
end Go.Proofs.YtbhkfifmgbcknaaGreatDoor.Ex
namespace Go.Proofs.YtbhkfifmgbcknaaGreatDoor.Ex
open Go Go.RowKit
noncomputable def oneI (call : Caller) (i : Ins) (tm : Fr) (h : H) : Option (Value × H) := match wants tm i.g with
  | some true => match i.x tm h with
    | .val v h' => some (v, h')
    | .enter f args h' => call f args h'
    | .fail => none
  | some false => some (undef, h)
  | none => none
theorem oneI_dst {P : Program} {ng nt : Nat} {call : Caller} {all : List Oper} {o : Oper} {fr : Fr} {h : H} {r : Value × H} (h1 : oneI call (cI P ng nt all o) fr h = some r) : dstOk nt o.dst = true := by
  cases hd : dstOk nt o.dst with
  | true => rfl
  | false =>
    have h2 : (match wants fr (match dstOk nt o.dst with | true => cGd all o.guard | false => .bad) with
      | some true => match cX P ng o fr h with
        | .val v h' => some (v, h')
        | .enter f args h' => call f args h'
        | .fail => none
      | some false => some (undef, h)
      | none => none) = some r := h1
    rw [hd] at h2
    cases h2
theorem oneI_eq {P : Program} {ng nt : Nat} {call : Caller} {all : List Oper} {o : Oper} {fr : Fr} {h : H} {r : Value × H} (h1 : oneI call (cI P ng nt all o) fr h = some r) :
    (match wants fr (cGd all o.guard) with
      | some true => match cX P ng o fr h with
        | .val v h' => some (v, h')
        | .enter f args h' => call f args h'
        | .fail => none
      | some false => some (undef, h)
      | none => none) = some r := by
  have h2 : (match wants fr (match dstOk nt o.dst with | true => cGd all o.guard | false => .bad) with
      | some true => match cX P ng o fr h with
        | .val v h' => some (v, h')
        | .enter f args h' => call f args h'
        | .fail => none
      | some false => some (undef, h)
      | none => none) = some r := h1
  rw [oneI_dst h1] at h2
  exact h2
theorem opOk_of {P : Program} {ng nt : Nat} (hN : noNum P = true) {call : Caller} (hC : CallOk P ng call) {ops : Array Oper} {Q : Exit → Act → World → Prop} {df : List Deferred} {k : Nat} {o : Oper} (ho : ops[k]? = some o) {fr : Fr} {h h' : H} {v : Value}
    (h1 : oneI call (cI P ng nt ops.toList o) fr h = some (v, h')) : OpOk P ops Q ng nt df k fr h h' v o.dst := by
  intro E F w a s hg ht hfr K hK
  have hr := oneI_eq h1
  unfold wpOp
  simp only [ho]
  cases hw : wants fr (cGd ops.toList o.guard) with
  | none => rw [hw] at hr; cases hr
  | some b =>
    rw [hw] at hr
    rw [wants_ok ht hw]
    cases b with
    | false =>
      cases hr
      simp only [Bool.false_eq_true, if_false]
      exact hK E F w undef (Go.refl s) (vr_undef E)
    | true =>
      dsimp only at hr
      simp only [if_true]
      refine .inl ?_
      have hdo := does_cX hN ng nt o fr h E F w a df s hg ht
      unfold Oper.wp
      cases hx : cX P ng o fr h with
      | fail => rw [hx] at hr; cases hr
      | val u h2 =>
        rw [hx] at hr hdo
        cases hr
        obtain ⟨E1, F1, w1, r, hgo, hval, hrun⟩ := hdo hfr
        rw [hrun]
        rcases hval with ⟨v', rfl, hv'⟩ | ⟨rfl, rfl⟩
        · exact hK E1 F1 w1 v' hgo hv'
        · exact hK E1 F1 w1 undef hgo (vr_undef E1)
      | enter f args h2 =>
        rw [hx] at hr hdo
        obtain ⟨rfl, args', hargs, hrun⟩ := hdo
        rw [hrun]
        refine (hC f args h2 v h' hr E F w args' s hg hargs hfr).mono ?_
        rintro e w1 ⟨E1, F1, v', hgo, hv', rfl⟩
        exact hK E1 F1 w1 v' hgo hv'
theorem oneI_mn {P : Program} {ng nt : Nat} {call : Caller} (hM : CallMn call) {all : List Oper} {o : Oper} {fr : Fr} {h h' : H} {v : Value} (h1 : oneI call (cI P ng nt all o) fr h = some (v, h')) : h.n ≤ h'.n := by
  have hr := oneI_eq h1
  cases hw : wants fr (cGd all o.guard) with
  | none => rw [hw] at hr; cases hr
  | some b =>
    rw [hw] at hr
    cases b with
    | false => cases hr; exact Nat.le_refl _
    | true =>
      dsimp only at hr
      cases hx : cX P ng o fr h with
      | fail => rw [hx] at hr; cases hr
      | val u h2 =>
        rw [hx] at hr
        cases hr
        exact mn_cX P ng o fr h v h' hx
      | enter f args h2 =>
        rw [hx] at hr
        have := en_cX P ng o fr h f args h2 hx
        subst this
        exact hM f args h2 v h' hr
def kdOf (o : Oper) : Kd := match o.op with
  | .move _ => .p
  | .assign _ => .p
  | .pick .. => .p
  | .alloc _ => .p
  | .box .. => .p
  | .binOp .. => .p
  | .unOp .. => .p
  | .convert .. => .p
  | .nilCheck _ => .p
  | .extract .. => .p
  | .makeInterface .. => .p
  | .makeFunc .. => .p
  | .fieldAddr .. => .p
  | .indexAddr .. => .p
  | .index .. => .p
  | .build .. => .p
  | .buildSlice .. => .p
  | .makeMap .. => .p
  | .makeSlice .. => .p
  | .load .. => .r
  | .slice .. => .r
  | .lookup .. => .r
  | .call c => match c.callee with
    | .builtin .len => .p
    | _ => .e
  | _ => .e
def Rd (x : X) : Prop := ∀ tm h, (∀ v h', x tm h = .val v h' → h' = h) ∧ ∀ f l h', x tm h ≠ .enter f l h'
theorem rd_fail : Rd xFail := fun _ _ => ⟨(fun _ _ e => nomatch e), (fun _ _ _ e => nomatch e)⟩
theorem rd_load1 (x : Opd) : Rd (xLoad1 x) := fun tm h => by
  unfold xLoad1
  constructor
  · intro v h' e
    repeat' split at e
    all_goals (cases e; try rfl)
  · intro f l h' e
    repeat' split at e
    all_goals cases e
theorem rd_loadN (n : Nat) (x : Opd) : Rd (xLoadN n x) := fun tm h => by
  unfold xLoadN
  constructor
  · intro v h' e
    repeat' split at e
    all_goals (cases e; try rfl)
  · intro f l h' e
    repeat' split at e
    all_goals cases e
theorem rd_slS (x : Opd) (lo hi : Option Opd) : Rd (xSlS x lo hi) := fun tm h => by
  unfold xSlS
  constructor
  · intro v h' e
    repeat' split at e
    all_goals (cases e; try rfl)
  · intro f l h' e
    repeat' split at e
    all_goals cases e
theorem rd_slL (n : Nat) (x : Opd) (lo hi : Option Opd) : Rd (xSlL n x lo hi) := fun tm h => by
  unfold xSlL
  constructor
  · intro v h' e
    repeat' split at e
    all_goals (cases e; try rfl)
  · intro f l h' e
    repeat' split at e
    all_goals cases e
theorem rd_cX (P : Program) (ng : Nat) {o : Oper} (ho : kdOf o = .r) : Rd (cX P ng o) := by
  unfold kdOf at ho
  unfold cX
  cases hop : o.op with
  | load t x =>
    dsimp only
    repeat' split
    all_goals first
      | exact rd_fail
      | exact rd_load1 _
      | exact rd_loadN _ _
  | slice t x lo hi mx =>
    cases mx with
    | none =>
      dsimp only
      repeat' split
      all_goals first
        | exact rd_fail
        | exact rd_slS _ _ _
        | exact rd_slL _ _ _ _
    | some _ =>
      dsimp only
      unfold cX2
      rw [hop]
      exact rd_fail
  | lookup t x y ok =>
    dsimp only
    unfold cX2
    rw [hop]
    dsimp only
    repeat' split
    all_goals first
      | exact rd_fail
      | exact fun tm h => xLook_same _ _ _ _ _ tm h
  | call c =>
    rw [hop] at ho
    dsimp only at ho
    split at ho <;> cases ho
  | _ => rw [hop] at ho; cases ho
theorem oneI_rd {P : Program} {ng nt : Nat} {call : Caller} {all : List Oper} {o : Oper} (ho : kdOf o = .r) {fr : Fr} {h h' : H} {v : Value} (h1 : oneI call (cI P ng nt all o) fr h = some (v, h')) : h' = h := by
  have hr := oneI_eq h1
  cases hw : wants fr (cGd all o.guard) with
  | none => rw [hw] at hr; cases hr
  | some b =>
    rw [hw] at hr
    cases b with
    | false => cases hr; rfl
    | true =>
      dsimp only at hr
      have hrd := rd_cX P ng ho fr h
      cases hx : cX P ng o fr h with
      | fail => rw [hx] at hr; cases hr
      | val u h2 =>
        rw [hx] at hr
        cases hr
        exact hrd.1 v h' hx
      | enter f args h2 => exact absurd hx (hrd.2 f args h2)
noncomputable def mkOf (tb : T Nat) (k : Nat) : Nat := match tb.get k with
  | some m => m
  | none => 0
noncomputable def pmOf (tb : T Nat) (es : List Edge) : Nat :=
  List.rec (motive := fun _ => Nat) 0 (fun e _ ih => match Region.binds .any e with
    | true => Nat.lor (Nat.lor (Nat.shiftLeft 1 e.on) (mkOf tb e.on)) ih
    | false => ih) es
noncomputable def edgesOk (k : Nat) (es : List Edge) : Bool :=
  List.rec (motive := fun _ => Bool) true (fun e _ ih => match Region.binds .any e with
    | true => match Nat.ble (Nat.succ e.on) k with
      | true => ih
      | false => false
    | false => ih) es
noncomputable def masks (l : List Oper) : Nat → T Nat → T Nat :=
  List.rec (motive := fun _ => Nat → T Nat → T Nat) (fun _ tb => tb) (fun o _ ih k tb => ih (Nat.succ k) (tb.set (pmOf tb o.after.toList) k)) l
theorem bit_one (n j : Nat) : (Nat.shiftLeft 1 n).testBit j = true ↔ j = n := by
  show (1 <<< n).testBit j = true ↔ _
  rw [Nat.one_shiftLeft, Nat.testBit_two_pow]
  simp [eq_comm]
theorem bit_lor (a b j : Nat) : (Nat.lor a b).testBit j = true ↔ a.testBit j = true ∨ b.testBit j = true := by
  show (a ||| b).testBit j = true ↔ _
  rw [Nat.testBit_or, Bool.or_eq_true]
theorem pmOf_bit (tb : T Nat) {j : Nat} : ∀ (es : List Edge), (pmOf tb es).testBit j = true → ∃ e, e ∈ es ∧ Region.binds .any e = true ∧ (j = e.on ∨ (mkOf tb e.on).testBit j = true)
  | [], h => by
    have h' : Nat.testBit 0 j = true := h
    simp at h'
  | e :: es, h => by
    have h' : (match Region.binds .any e with
      | true => Nat.lor (Nat.lor (Nat.shiftLeft 1 e.on) (mkOf tb e.on)) (pmOf tb es)
      | false => pmOf tb es).testBit j = true := h
    cases hb : Region.binds .any e with
    | false =>
      rw [hb] at h'
      obtain ⟨e', h1, h2⟩ := pmOf_bit tb es h'
      exact ⟨e', List.mem_cons_of_mem _ h1, h2⟩
    | true =>
      rw [hb] at h'
      rcases (bit_lor _ _ _).1 h' with h1 | h1
      · rcases (bit_lor _ _ _).1 h1 with h2 | h2
        · exact ⟨e, List.mem_cons_self, hb, .inl ((bit_one _ _).1 h2)⟩
        · exact ⟨e, List.mem_cons_self, hb, .inr h2⟩
      · obtain ⟨e', h2, h3⟩ := pmOf_bit tb es h1
        exact ⟨e', List.mem_cons_of_mem _ h2, h3⟩
theorem edgesOk_ok {k : Nat} : ∀ (es : List Edge), edgesOk k es = true → ∀ e, e ∈ es → Region.binds .any e = true → e.on < k
  | [], _, e, he, _ => by cases he
  | x :: es, h, e, he, hb => by
    have h' : (match Region.binds .any x with
      | true => match Nat.ble (Nat.succ x.on) k with
        | true => edgesOk k es
        | false => false
      | false => edgesOk k es) = true := h
    rcases List.mem_cons.1 he with he | he
    · subst he
      rw [hb] at h'
      cases hl : Nat.ble (Nat.succ e.on) k with
      | false => rw [hl] at h'; cases h'
      | true => exact Nat.le_of_ble_eq_true hl
    · refine edgesOk_ok es ?_ e he hb
      cases hbx : Region.binds .any x with
      | false => rw [hbx] at h'; exact h'
      | true =>
        rw [hbx] at h'
        cases hl : Nat.ble (Nat.succ x.on) k with
        | false => rw [hl] at h'; cases h'
        | true => rw [hl] at h'; exact h'
noncomputable def lsub (a b : Nat) : Bool := Nat.beq (Nat.land a b) a
theorem lsub_bit {a b i : Nat} (h : lsub a b = true) (ha : a.testBit i = true) : b.testBit i = true := by
  have h' : a &&& b = a := Nat.eq_of_beq_eq_true h
  rw [← h', Nat.testBit_and, Bool.and_eq_true] at ha
  exact ha.2
noncomputable def tmpsOf (l : List Operand) : List Nat :=
  List.rec (motive := fun _ => List Nat) [] (fun x _ ih => match x with
    | .tmp t => t :: ih
    | _ => ih) l
noncomputable def readsOf (all : List Oper) (o : Oper) : List Nat := match cGd all o.guard with
  | .on t _ => t :: tmpsOf o.op.operands.toList
  | _ => tmpsOf o.op.operands.toList
noncomputable def bitAdd (t : T Nat) (i k : Nat) : T Nat := t.set (Nat.lor (mkOf t i) (Nat.shiftLeft 1 k)) i
theorem bitAdd_bit (t : T Nat) (i k u j : Nat) : (mkOf (bitAdd t i k) u).testBit j = true ↔ (mkOf t u).testBit j = true ∨ (u = i ∧ j = k) := by
  unfold mkOf bitAdd
  rw [T.get_set]
  by_cases hu : u = i
  · subst hu
    rw [if_pos rfl]
    dsimp only
    rw [bit_lor, bit_one]
    unfold mkOf
    simp
  · rw [if_neg hu]
    simp [hu]
noncomputable def addAll (k : Nat) (l : List Nat) : T Nat → T Nat :=
  List.rec (motive := fun _ => T Nat → T Nat) (fun t => t) (fun u _ ih t => ih (bitAdd t u k)) l
theorem addAll_bit (k : Nat) : ∀ (l : List Nat) (t : T Nat) (u j : Nat), (mkOf t u).testBit j = true ∨ (u ∈ l ∧ j = k) → (mkOf (addAll k l t) u).testBit j = true
  | [], t, u, j, h => by
    rcases h with h | ⟨h, -⟩
    · exact h
    · cases h
  | x :: l, t, u, j, h => by
    refine addAll_bit k l (bitAdd t x k) u j ?_
    rw [bitAdd_bit]
    rcases h with h | ⟨h, hj⟩
    · exact .inl (.inl h)
    · rcases List.mem_cons.1 h with h | h
      · exact .inl (.inr ⟨h, hj⟩)
      · exact .inr ⟨h, hj⟩
noncomputable def allSub (W : T Nat) (p : Nat) (l : List Nat) : Bool :=
  List.rec (motive := fun _ => Bool) true (fun u _ ih => match lsub (mkOf W u) p with
    | true => ih
    | false => false) l
theorem allSub_ok {W : T Nat} {p : Nat} : ∀ (l : List Nat), allSub W p l = true → ∀ u, u ∈ l → lsub (mkOf W u) p = true
  | [], _, u, h => by cases h
  | x :: l, h, u, hu => by
    have h' : (match lsub (mkOf W x) p with
      | true => allSub W p l
      | false => false) = true := h
    cases hx : lsub (mkOf W x) p with
    | false => rw [hx] at h'; cases h'
    | true =>
      rw [hx] at h'
      rcases List.mem_cons.1 hu with hu | hu
      · rw [hu]; exact hx
      · exact allSub_ok l h' u hu
noncomputable def dstSub (W R : T Nat) (p : Nat) (d : Option Nat) : Bool := match d with
  | some t => match lsub (mkOf W t) p with
    | true => lsub (mkOf R t) p
    | false => false
  | none => true
noncomputable def totSub (em p : Nat) (k : Kd) : Bool := match k with
  | .e => lsub em p
  | _ => true
noncomputable def dstAdd (W : T Nat) (k : Nat) (d : Option Nat) : T Nat := match d with
  | some t => bitAdd W t k
  | none => W
noncomputable def emAdd (em k : Nat) (d : Kd) : Nat := match d with
  | .e => Nat.lor em (Nat.shiftLeft 1 k)
  | _ => em
noncomputable def scheck (all : List Oper) (tb : T Nat) (l : List Oper) : Nat → Nat → T Nat → T Nat → Bool :=
  List.rec (motive := fun _ => Nat → Nat → T Nat → T Nat → Bool) (fun _ _ _ _ => true)
    (fun o _ ih k em W R => match edgesOk k o.after.toList with
      | true => match Nat.beq (mkOf tb k) (pmOf tb o.after.toList) with
        | true => match totSub em (mkOf tb k) (kdOf o) with
          | true => match allSub W (mkOf tb k) (readsOf all o) with
            | true => match dstSub W R (mkOf tb k) o.dst with
              | true => ih (Nat.succ k) (emAdd em k (kdOf o)) (dstAdd W k o.dst) (addAll k (readsOf all o) R)
              | false => false
            | false => false
          | false => false
        | false => false
      | false => false) l
structure SF (all : List Oper) (tb : T Nat) (k : Nat) (o : Oper) : Prop where
  edge : ∀ e, e ∈ o.after → Region.binds .any e = true → e.on < k
  pmin : ∀ j, (mkOf tb k).testBit j = true → ∃ e, e ∈ o.after ∧ Region.binds .any e = true ∧ (j = e.on ∨ (mkOf tb e.on).testBit j = true)
  tot : kdOf o = .e → ∀ i p, i < k → all[i]? = some p → kdOf p = .e → (mkOf tb k).testBit i = true
  raw : ∀ t, t ∈ readsOf all o → ∀ i p, i < k → all[i]? = some p → p.dst = some t → (mkOf tb k).testBit i = true
  waw : ∀ t, o.dst = some t → ∀ i p, i < k → all[i]? = some p → p.dst = some t → (mkOf tb k).testBit i = true
  war : ∀ t, o.dst = some t → ∀ i p, i < k → all[i]? = some p → t ∈ readsOf all p → (mkOf tb k).testBit i = true
theorem scheck_ok (all : List Oper) (tb : T Nat) : ∀ (l : List Oper) (k em : Nat) (W R : T Nat), all.drop k = l → scheck all tb l k em W R = true →
    (∀ i p, i < k → all[i]? = some p → kdOf p = .e → em.testBit i = true) → (∀ i p t, i < k → all[i]? = some p → p.dst = some t → (mkOf W t).testBit i = true) →
    (∀ i p t, i < k → all[i]? = some p → t ∈ readsOf all p → (mkOf R t).testBit i = true) → ∀ j o, k ≤ j → all[j]? = some o → SF all tb j o := by
  intro l
  induction l with
  | nil =>
    intro k em W R hk _ _ _ _ j o hj ho
    have := List.drop_eq_nil_iff.1 hk
    rw [List.getElem?_eq_none (by omega)] at ho
    cases ho
  | cons x l ih =>
    intro k em W R hk hc hem hW hR j o hj ho
    have hx : all[k]? = some x := by
      have e1 : (all.drop k)[0]? = some x := by rw [hk]; rfl
      rw [List.getElem?_drop] at e1
      simpa using e1
    have hk' : all.drop (k + 1) = l := by
      have := congrArg (List.drop 1) hk
      simpa [List.drop_drop] using this
    have hc' : (match edgesOk k x.after.toList with
      | true => match Nat.beq (mkOf tb k) (pmOf tb x.after.toList) with
        | true => match totSub em (mkOf tb k) (kdOf x) with
          | true => match allSub W (mkOf tb k) (readsOf all x) with
            | true => match dstSub W R (mkOf tb k) x.dst with
              | true => scheck all tb l (k + 1) (emAdd em k (kdOf x)) (dstAdd W k x.dst) (addAll k (readsOf all x) R)
              | false => false
            | false => false
          | false => false
        | false => false
      | false => false) = true := hc
    cases h1 : edgesOk k x.after.toList with
    | false => rw [h1] at hc'; cases hc'
    | true =>
    cases h2 : Nat.beq (mkOf tb k) (pmOf tb x.after.toList) with
    | false => rw [h1, h2] at hc'; cases hc'
    | true =>
    cases h3 : totSub em (mkOf tb k) (kdOf x) with
    | false => rw [h1, h2, h3] at hc'; cases hc'
    | true =>
    cases h4 : allSub W (mkOf tb k) (readsOf all x) with
    | false => rw [h1, h2, h3, h4] at hc'; cases hc'
    | true =>
    cases h5 : dstSub W R (mkOf tb k) x.dst with
    | false => rw [h1, h2, h3, h4, h5] at hc'; cases hc'
    | true =>
    rw [h1, h2, h3, h4, h5] at hc'
    dsimp only at hc'
    by_cases hjk : j = k
    · subst hjk
      rw [hx] at ho
      cases ho
      refine ⟨fun e he hb => edgesOk_ok _ h1 e (by simpa using he) hb, fun i hi => ?_, fun hkd i p hi hp hkp => ?_, fun t ht i p hi hp hd => lsub_bit (allSub_ok _ h4 t ht) (hW i p t hi hp hd), fun t hd i p hi hp hd' => ?_, fun t hd i p hi hp hr => ?_⟩
      · rw [Nat.eq_of_beq_eq_true h2] at hi
        obtain ⟨e, he, hb, hje⟩ := pmOf_bit tb _ hi
        exact ⟨e, by simpa using he, hb, hje⟩
      · rw [hkd] at h3
        exact lsub_bit h3 (hem i p hi hp hkp)
      · rw [hd] at h5
        dsimp only [dstSub] at h5
        cases h6 : lsub (mkOf W t) (mkOf tb j) with
        | false => rw [h6] at h5; cases h5
        | true => exact lsub_bit h6 (hW i p t hi hp hd')
      · rw [hd] at h5
        dsimp only [dstSub] at h5
        cases h6 : lsub (mkOf W t) (mkOf tb j) with
        | false => rw [h6] at h5; cases h5
        | true =>
          rw [h6] at h5
          exact lsub_bit h5 (hR i p t hi hp hr)
    · refine ih (k + 1) _ _ _ hk' hc' ?_ ?_ ?_ j o (by omega) ho
      · intro i p hi hp hkp
        by_cases hik : i = k
        · subst hik
          rw [hx] at hp
          cases hp
          rw [hkp]
          exact (bit_lor _ _ _).2 (.inr ((bit_one _ _).2 rfl))
        · have := hem i p (by omega) hp hkp
          unfold emAdd
          split
          · exact (bit_lor _ _ _).2 (.inl this)
          · exact this
      · intro i p t hi hp hd
        by_cases hik : i = k
        · subst hik
          rw [hx] at hp
          cases hp
          rw [hd]
          exact (bitAdd_bit _ _ _ _ _).2 (.inr ⟨rfl, rfl⟩)
        · have := hW i p t (by omega) hp hd
          unfold dstAdd
          split
          · exact (bitAdd_bit _ _ _ _ _).2 (.inl this)
          · exact this
      · intro i p t hi hp hr
        refine addAll_bit _ _ _ _ _ ?_
        by_cases hik : i = k
        · subst hik
          rw [hx] at hp
          cases hp
          exact .inr ⟨hr, rfl⟩
        · exact .inl (hR i p t (by omega) hp hr)
end Go.Proofs.YtbhkfifmgbcknaaGreatDoor.Ex
