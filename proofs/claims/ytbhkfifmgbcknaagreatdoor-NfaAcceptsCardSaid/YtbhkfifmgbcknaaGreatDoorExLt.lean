/-
  A part of the proof of the statement NfaAccepts.
-/
import Derived.Test.YtbhkfifmgbcknaaGreatDoorExR
set_option linter.unusedSimpArgs false
set_option linter.unusedVariables false
namespace Go.Proofs.YtbhkfifmgbcknaaGreatDoor.Ex
open Go Go.RowKit
theorem Go.less {E E' : Env} {F F' : Full} {h : H} {t t2 : T Ent} {n : Nat} {w w' : World} (g : Go E F h w E' F' ⟨t, n⟩ w') (hs : ∀ i e, t2.get i = some e → t.get i = some e) : Go E F h w E' F' ⟨t2, n⟩ w' := by
  refine ⟨g.step, ⟨fun i e hg => g.fits.sub i e (hs i e hg), g.fits.keep, fun i hi hn => ?_, g.fits.nle⟩⟩
  have ho := g.fits.old i hi hn
  show t2.get i = none
  cases hg : t2.get i with
  | none => rfl
  | some e =>
    have h1 : t.get i = none := ho
    rw [hs i e hg] at h1
    cases h1
theorem OpOk.less {P : Program} {ops : Array Oper} {Q : Exit → Act → World → Prop} {ng nt : Nat} {df : List Deferred} {k : Nat} {fr : Fr} {h : H} {t t2 : T Ent} {n : Nat} {v : Value} {d : Option Nat} (ho : OpOk P ops Q ng nt df k fr h ⟨t, n⟩ v d) (hs : ∀ i e, t2.get i = some e → t.get i = some e) :
    OpOk P ops Q ng nt df k fr h ⟨t2, n⟩ v d := fun E F w a s hg ht hf K hK => ho E F w a s hg ht hf K fun E' F' w' v' g hv => hK E' F' w' v' (g.less hs) hv
section
variable {P : Program} {ops : Array Oper} {Q : Exit → Act → World → Prop} {ng nt : Nat} {df : List Deferred} {k0 : Nat} {o0 nop : Oper}
def zOps (ops : Array Oper) (k0 : Nat) (nop : Oper) : Array Oper := ops.setIfInBounds k0 nop
theorem zOps_size : (zOps ops k0 nop).size = ops.size := by simp [zOps]
theorem zOps_ne {j : Nat} (h : j ≠ k0) : (zOps ops k0 nop)[j]? = ops[j]? := by
  unfold zOps
  rw [Array.getElem?_setIfInBounds_ne (fun hh => h hh.symm)]
theorem zOps_at (h : ops[k0]? = some o0) : (zOps ops k0 nop)[k0]? = some nop := by
  have hlt := (Array.getElem?_eq_some_iff.1 h).1
  unfold zOps
  simp [hlt]
theorem zOps_ready (h : ops[k0]? = some o0) (ha : nop.after = o0.after) (listed : Array Bool) : Region.ready .any (zOps ops k0 nop) listed = Region.ready .any ops listed := by
  unfold Region.ready
  rw [zOps_size]
  refine List.filter_congr fun i _ => ?_
  by_cases hi : i = k0
  · subst hi
    rw [zOps_at h, h]
    simp [ha]
  · rw [zOps_ne hi]
theorem zOps_yielded (h : ops[k0]? = some o0) (h1 : nop.dst = none) (h2 : o0.dst = none) (tmps : Array Value) : yielded (zOps ops k0 nop) tmps = yielded ops tmps := by
  funext j
  unfold yielded
  by_cases hj : j = k0
  · subst hj
    rw [zOps_at h, h]
    simp [h1, h2]
  · rw [zOps_ne hj]
theorem zOps_op (h : ops[k0]? = some o0) (h1 : nop.dst = none) (h2 : o0.dst = none) {j : Nat} (hj : j ≠ k0) {K : Act → World → Prop} {a : Act} {w : World} (hw : wpOp P (zOps ops k0 nop) Q j K a w) : wpOp P ops Q j K a w := by
  unfold wpOp at hw ⊢
  rw [zOps_ne hj, zOps_yielded h h1 h2] at hw
  exact hw
structure Late (q : Plan) (P : Program) (ops : Array Oper) (nop : Oper) (Q : Exit → Act → World → Prop) (ng nt : Nat) (df : List Deferred) (k0 i0 y : Nat) (e0 e1 : Ent) : Prop where
  klt : k0 < q.N
  kk : q.kd k0 = .p
  kn : q.n (k0 + 1) = q.n k0
  ke : q.ent k0 = none
  kd : q.dst k0 = none
  ilt : i0 < q.N
  ik : q.kd i0 = .e
  pmE : ∀ e, e < q.N → q.kd e = .e → e ≠ i0 → q.pm k0 e
  pmR : ∀ r, r < q.N → q.kd r = .r → q.pm k0 r
  last : q.M = q.eix i0 + 1
  y0 : y < q.n 0
  c0 : (q.C (q.eix i0)).get y = some e0
  c1 : (q.C (q.eix i0 + 1)).get y = some e0
  opK : ∃ t1 v, t1.get y = some e1 ∧ OpOk P ops Q ng nt df k0 (q.fr k0) ⟨T.leaf.set e0 y, q.n k0⟩ ⟨t1, q.n k0⟩ v none
  opI : ∃ tI, OpOk P (zOps ops k0 nop) Q ng nt df i0 (q.fr i0) ⟨(q.tab i0 (q.eix i0)).del y, q.n i0⟩ ⟨tI, q.n (i0 + 1)⟩ (q.val i0) (q.dst i0) ∧ ∀ i e, i ≠ y → (q.C (q.eix i0 + 1)).get i = some e → tI.get i = some e
noncomputable def lateP (q : Plan) (lo y : Nat) (sd : Nat → Option Ent) : Plan :=
  { q with C := fun m => if m < lo then q.C m else (q.C m).del y, tab := fun k m => if m < lo then q.tab k m else (q.tab k m).del y, A := False, lo := lo, sd := sd }
def sdOf (y : Nat) (e1 : Ent) : Nat → Option Ent := fun i => if i = y then some e1 else none
theorem del_get {t : T Ent} {y i : Nat} {e : Ent} : (t.del y).get i = some e ↔ i ≠ y ∧ t.get i = some e := by
  rw [T.get_del]
  by_cases h : i = y
  · simp [h]
  · simp [h]
variable {q : Plan} {i0 y : Nat} {e0 e1 : Ent}
theorem Late.ok (ok : q.Ok P (zOps ops k0 nop) Q ng nt df) (l : Late q P ops nop Q ng nt df k0 i0 y e0 e1) {sd : Nat → Option Ent} (hsd : ∀ i e, sd i = some e → i = y) : (lateP q (q.eix i0) y sd).Ok P (zOps ops k0 nop) Q ng nt df := by
  refine { size := ok.size, dlt := ok.dlt, pmlt := ok.pmlt, pmin := ok.pmin, edge := ok.edge, tot := ok.tot, eixlt := ok.eixlt, econs := ok.econs, eM := ok.eM, mono := ok.mono, entlt := ok.entlt, waw := ok.waw, frd := ok.frd, war := ok.war, tabs := ?_, sdn := ?_, sdt := ?_, opP := ok.opP, opR := (fun h => h.elim), opE := ?_ }
  · intro k m i e hg
    have hg' : (if m < q.eix i0 then q.tab k m else (q.tab k m).del y).get i = some e := hg
    by_cases hm : m < q.eix i0
    · rw [if_pos hm] at hg'
      rcases ok.tabs k m i e hg' with h | h
      · refine .inl ?_
        show (if m < q.eix i0 then q.C m else (q.C m).del y).get i = some e
        rw [if_pos hm]; exact h
      · exact .inr h
    · rw [if_neg hm] at hg'
      obtain ⟨hne, hg2⟩ := del_get.1 hg'
      rcases ok.tabs k m i e hg2 with h | h
      · refine .inl ?_
        show (if m < q.eix i0 then q.C m else (q.C m).del y).get i = some e
        rw [if_neg hm]; exact del_get.2 ⟨hne, h⟩
      · exact .inr h
  · intro i e h
    rw [hsd i e h]; exact l.y0
  · intro k m i e h hm
    have hm' : q.eix i0 ≤ m := hm
    show (if m < q.eix i0 then q.tab k m else (q.tab k m).del y).get i = none
    rw [if_neg (by omega), hsd i e h, T.get_del, if_pos rfl]
  · intro k hk hkd
    have hkd' : q.kd k = .e := hkd
    have hk' : k < q.N := hk
    show OpOk P (zOps ops k0 nop) Q ng nt df k (q.fr k) ⟨if q.eix k < q.eix i0 then q.tab k (q.eix k) else (q.tab k (q.eix k)).del y, q.n k⟩ ⟨if q.eix k + 1 < q.eix i0 then q.C (q.eix k + 1) else (q.C (q.eix k + 1)).del y, q.n (k + 1)⟩ (q.val k) (q.dst k)
    by_cases hki : k = i0
    · subst hki
      rw [if_neg (by omega), if_neg (by omega)]
      obtain ⟨tI, h1, h2⟩ := l.opI
      exact h1.less fun i e hg => by
        obtain ⟨g1, g2⟩ := del_get.1 hg
        exact h2 i e g1 g2
    · have hlt : q.eix k < q.eix i0 := by
        rcases Nat.lt_trichotomy k i0 with h | h | h
        · exact ok.eixlt k i0 h l.ilt hkd' l.ik
        · exact absurd h hki
        · have h1 := ok.eixlt i0 k h hk' l.ik hkd'
          have h2 := ok.eM k hk' hkd'
          have h3 := l.last
          omega
      rw [if_pos hlt]
      by_cases h1 : q.eix k + 1 < q.eix i0
      · rw [if_pos h1]; exact ok.opE k hk' hkd'
      · rw [if_neg h1]
        exact (ok.opE k hk' hkd').less fun i e hg => (del_get.1 hg).2
variable {E0 : Env} {F0 : Full} {h0 : H} {w0 : World} {L : Nat → Prop} {m : Nat} {E : Env} {F : Full} {w : World} {a : Act}
theorem Plan.Inv.late {lo : Nat} (I : q.Inv ng nt df E0 F0 h0 w0 L m E F w a) (hm : lo ≤ m) : (lateP q lo y (fun _ => none)).Inv ng nt df E0 F0 h0 w0 L m E F w a := by
  have hC : (lateP q lo y (fun _ => none)).C m = (q.C m).del y := by
    show (if m < lo then q.C m else (q.C m).del y) = _
    rw [if_neg (by omega)]
  refine ⟨I.step, ?_, I.pblk, I.free, ?_, ?_, I.keep, I.glob, I.size, I.dfs, I.tm, I.em, I.down, I.mM, (fun _ _ h => nomatch h), hm⟩
  · intro i e h
    rw [hC] at h
    exact I.core i e (del_get.1 h).2
  · intro p hp hkp hfr i h1 h2
    rw [hC, T.get_del]
    split
    · rfl
    · exact I.dom p hp hkp hfr i h1 h2
  · intro i hi h
    rw [hC, T.get_del]
    split
    · rfl
    · exact I.old i hi h
theorem Plan.Inv.beside {lo : Nat} (I : (lateP q lo y (fun _ => none)).Inv ng nt df E0 F0 h0 w0 L m E F w a) (hF : F y = some e1) : (lateP q lo y (sdOf y e1)).Inv ng nt df E0 F0 h0 w0 L m E F w a :=
  ⟨I.step, I.core, I.pblk, I.free, I.dom, I.old, I.keep, I.glob, I.size, I.dfs, I.tm, I.em, I.down, I.mM, (fun i e h => by
    unfold lateP sdOf at h
    dsimp only at h
    split at h
    · rename_i hi
      rw [hi, hF]; exact h
    · cases h), I.mlo⟩
theorem Late.go (ok : q.Ok P (zOps ops k0 nop) Q ng nt df) (l : Late q P ops nop Q ng nt df k0 i0 y e0 e1) (I : q.Inv ng nt df E0 F0 h0 w0 L m E F w a) (hL : ¬L k0) (hpm : ∀ j, q.pm k0 j → L j) {K : Act → World → Prop}
    (hK : ∀ E' F' w' a', (lateP q (q.eix i0) y (sdOf y e1)).Inv ng nt df E0 F0 h0 w0 (fun j => L j ∨ j = k0) m E' F' w' a' → K a' w') : wpOp P ops Q k0 K a w := by
  have hmle : q.eix i0 ≤ m := by
    rcases ok.econs i0 l.ilt l.ik with h | ⟨e, he, hke, hee⟩
    · omega
    · have hlt : e < q.N := Nat.lt_trans he l.ilt
      have := (I.em e hlt hke).1 (hpm e (l.pmE e hlt hke (by omega)))
      omega
  have hC : (q.C m).get y = some e0 := by
    have h1 := I.mM
    have h2 := l.last
    by_cases h : m = q.eix i0
    · rw [h]; exact l.c0
    · rw [show m = q.eix i0 + 1 by omega]; exact l.c1
  have hFy := I.core y e0 hC
  have hfrm := I.frame ok l.klt hL hpm
  obtain ⟨t1, v, ht1, hop⟩ := l.opK
  have okC := l.ok ok (sd := fun _ => none) (fun _ _ h => nomatch h)
  have IC := I.late (y := y) hmle
  have hy : h0.t.get y ≠ none := fun h => by
    have := I.old y (.inl l.y0) h
    rw [hC] at this; cases this
  refine hop E F w a ⟨I.step.rel, fun i e h => ?_⟩ I.glob hfrm (fun i h1 h2 => by dsimp only at h1 h2; omega) K fun E' F' w' v' g hv => ?_
  · have h' : (T.leaf.set e0 y).get i = some e := h
    rw [T.get_set] at h'
    by_cases hi : i = y
    · rw [if_pos hi] at h'
      rw [hi, hFy]; exact h'
    · rw [if_neg hi] at h'; cases h'
  · have hF : ∀ i, i ≠ y → F' i = F i := fun i hi => g.fits.keep i (by dsimp only; omega) (by
      show (T.leaf.set e0 y).get i = none
      rw [T.get_set, if_neg hi]; rfl)
    have hFy' : F' y = some e1 := g.fits.sub y e1 ht1
    have hn0 := ok.nle (i := 0) (j := k0) (by omega) (Nat.le_of_lt l.klt)
    have h1 : q.n k0 = (lateP q (q.eix i0) y (fun _ => none)).n (k0 + 1) := l.kn.symm
    have hd : (lateP q (q.eix i0) y (fun _ => none)).dst k0 = none := l.kd
    have hval : ∃ u, VR E' ((lateP q (q.eix i0) y (fun _ => none)).val k0) u ∨ True := ⟨v', .inr trivial⟩
    refine hK E' F' w' (a.put none v') (Plan.Inv.beside ?_ hFy')
    have gs := g.step
    have hout := gs.out
    dsimp only at hout
    refine ⟨IC.step.within gs hn0 (by
        have := ok.nle (i := k0) (j := q.N) (Nat.le_of_lt l.klt) (Nat.le_refl _)
        exact this), ?_, ?_, ?_, IC.dom, IC.old, ?_, IC.glob.mono gs.le, IC.size, IC.dfs, ?_, ?_, ?_, IC.mM, (fun _ _ h => nomatch h), IC.mlo⟩
    · intro i e h
      have hc : (lateP q (q.eix i0) y (fun _ => none)).C m = (q.C m).del y := by
        show (if m < q.eix i0 then q.C m else (q.C m).del y) = _
        rw [if_neg (by omega)]
      rw [hc] at h
      obtain ⟨g1, g2⟩ := del_get.1 h
      rw [hF i g1]
      exact I.core i e g2
    · intro p hp hLp hkp hfr e he
      have hne : p ≠ k0 := fun h => by
        rw [h] at he
        have : q.ent k0 = some e := he
        rw [l.ke] at this; cases this
      have h2 := ok.nle (i := 0) (j := p) (by omega) (Nat.le_of_lt hp)
      have h3 := l.y0
      have hny : q.n p ≠ y := by omega
      show F' (q.n p) = some e
      rw [hF _ hny]
      exact IC.pblk p hp (hLp.resolve_right hne) hkp hfr e he
    · intro j hj hLj i hi1 hi2
      show E' i = none
      rw [hout i (by omega)]
      exact IC.free j hj (fun h => hLj (.inl h)) i hi1 hi2
    · intro i hi h0i
      have hiy : i ≠ y := fun h => hy (h ▸ h0i)
      rw [hF i hiy]
      exact IC.keep i hi h0i
    · intro t u hl
      have hl' : (lateP q (q.eix i0) y (fun _ => none)).Last L t u := by
        rcases hl with ⟨j, hj, hLj, hdj, hvj, hlast⟩ | ⟨g0, hno⟩
        · rcases hLj with hLj | hLj
          · exact .inl ⟨j, hj, hLj, hdj, hvj, fun j' a b c => hlast j' a (.inl b) c⟩
          · rw [hLj, hd] at hdj; cases hdj
        · exact .inr ⟨g0, fun j a b => hno j a (.inl b)⟩
      obtain ⟨u', h2, h3⟩ := IC.tm t u hl'
      exact ⟨u', h2, h3.mono gs.le⟩
    · intro e he hke
      constructor
      · rintro (h | h)
        · exact (IC.em e he hke).1 h
        · rw [h] at hke
          have hk2 : q.kd k0 = .e := hke
          rw [l.kk] at hk2; cases hk2
      · intro h
        exact .inl ((IC.em e he hke).2 h)
    · intro j hj hLj i hi
      rcases hLj with hLj | hLj
      · exact .inl (IC.down j hj hLj i hi)
      · exact .inl (hpm i (hLj ▸ hi))
theorem Late.any (ok : q.Ok P (zOps ops k0 nop) Q ng nt df) (hA : q.A) (l : Late q P ops nop Q ng nt df k0 i0 y e0 e1) (ho : ops[k0]? = some o0) (ha : nop.after = o0.after) (h1 : nop.dst = none) (h2 : o0.dst = none)
    (hfin : ∀ m E F w a, (lateP q (q.eix i0) y (sdOf y e1)).Inv ng nt df E0 F0 h0 w0 (fun _ => True) m E F w a → Q .normal a w) :
    ∀ (fuel : Nat) (listed : Array Bool) (m : Nat) (E : Env) (F : Full) (w : World) (a : Act), listed.size = q.N → (List.range q.N).countP (fun i => !listed.getD i true) ≤ fuel →
      ((¬isIn listed k0 ∧ q.Inv ng nt df E0 F0 h0 w0 (isIn listed) m E F w a) ∨ (isIn listed k0 ∧ (lateP q (q.eix i0) y (sdOf y e1)).Inv ng nt df E0 F0 h0 w0 (isIn listed) m E F w a)) → wpAny P .any ops Q fuel listed a w := by
  have okB := l.ok ok (sd := sdOf y e1) (fun i e h => by
    unfold sdOf at h
    split at h
    · assumption
    · cases h)
  intro fuel
  have done : ∀ (listed : Array Bool) (m : Nat) (E : Env) (F : Full) (w : World) (a : Act), listed.size = q.N → ((¬isIn listed k0 ∧ q.Inv ng nt df E0 F0 h0 w0 (isIn listed) m E F w a) ∨ (isIn listed k0 ∧ (lateP q (q.eix i0) y (sdOf y e1)).Inv ng nt df E0 F0 h0 w0 (isIn listed) m E F w a)) → Region.ready .any ops listed = [] → Q .normal a w :=
    fun listed m E F w a hs I hr => by
      rw [← zOps_ready ho ha] at hr
      have hall : ∀ k, k < q.N → isIn listed k := fun k hk => ok.least hs hr (k + 1) k (Nat.lt_succ_self k) hk
      rcases I with ⟨hk, -⟩ | ⟨-, I⟩
      · exact absurd (hall k0 l.klt) hk
      · exact hfin m E F w a (I.full hall)
  induction fuel with
  | zero =>
    intro listed m E F w a hs hc I
    have hr : Region.ready .any ops listed = [] := by
      apply List.eq_nil_iff_forall_not_mem.2
      intro k hk
      have h1 := mem_ready.1 hk
      have hkN : k < q.N := by
        obtain ⟨-, o, ho', -⟩ := h1
        rw [← ok.size, zOps_size]
        exact (Array.getElem?_eq_some_iff.1 ho').1
      have h2 := List.countP_eq_zero.1 (Nat.le_zero.1 hc) k (List.mem_range.2 hkN)
      rw [h1.1] at h2
      exact absurd rfl h2
    exact ⟨hr, done listed m E F w a hs I hr⟩
  | succ fuel ih =>
    intro listed m E F w a hs hc I
    refine ⟨fun hr => done listed m E F w a hs I hr, fun k hk => ?_⟩
    rw [← zOps_ready ho ha] at hk
    obtain ⟨hun, o, hoz, hall'⟩ := mem_ready.1 hk
    have hkN : k < q.N := by
      rw [← ok.size]
      exact (Array.getElem?_eq_some_iff.1 hoz).1
    have hks : k < listed.size := by omega
    have hL : ¬isIn listed k := by
      unfold isIn
      simp [hks] at hun ⊢
      exact hun
    have hdown : ∀ k, k < q.N → isIn listed k → ∀ j, q.pm k j → isIn listed j := by
      rcases I with ⟨-, I⟩ | ⟨-, I⟩
      · exact I.down
      · exact I.down
    have hpm : ∀ j, q.pm k j → isIn listed j := by
      intro j hj
      obtain ⟨e, he, hb, heN, hje⟩ := ok.pmin k o hoz j hj
      have hon : isIn listed e.on := hall' e he hb
      rcases hje with hje | hje
      · rw [hje]; exact hon
      · exact hdown e.on heN hon j hje
    have hcnt : (List.range q.N).countP (fun i => !(listed.setIfInBounds k true).getD i true) ≤ fuel := by
      refine Nat.le_of_lt_succ (Nat.lt_of_lt_of_le ?_ hc)
      refine countP_lt (fun x hx => ?_) _ (List.mem_range.2 hkN) (by rw [hun]; rfl) ?_
      · by_cases hxk : k = x
        · subst hxk
          simp [hks] at hx
        · rw [getD_set_ne true hxk] at hx; exact hx
      · simp [hks]
    have hsz : (listed.setIfInBounds k true).size = q.N := by rw [Array.size_setIfInBounds]; exact hs
    by_cases hkk : k = k0
    · subst hkk
      rcases I with ⟨-, I⟩ | ⟨hin, -⟩
      · refine l.go ok I hL hpm fun E' F' w' a' I' => ?_
        rw [← isIn_set hks] at I'
        refine ih _ m E' F' w' a' hsz hcnt (.inr ⟨?_, I'⟩)
        rw [isIn_set hks]
        exact .inr rfl
      · exact absurd hin hL
    · refine zOps_op ho h1 h2 hkk ?_
      rcases I with ⟨hnk, I⟩ | ⟨hik, I⟩
      · refine I.next ok hkN hL hpm (fun _ => hA) fun m' E' F' w' a' I' => ?_
        rw [← isIn_set hks] at I'
        refine ih _ m' E' F' w' a' hsz hcnt (.inl ⟨?_, I'⟩)
        rw [isIn_set hks]
        exact fun h => h.elim hnk (fun h => hkk h.symm)
      · refine I.next okB hkN hL hpm (fun hr => ?_) fun m' E' F' w' a' I' => ?_
        · exact absurd (hdown k0 l.klt hik k (l.pmR k hkN hr)) hL
        · rw [← isIn_set hks] at I'
          refine ih _ m' E' F' w' a' hsz hcnt (.inr ⟨?_, I'⟩)
          rw [isIn_set hks]
          exact .inl hik
theorem Late.regionW (ok : q.Ok P (zOps ops k0 nop) Q ng nt df) (hA : q.A) (hlo : q.lo = 0) (hsd0 : ∀ i, q.sd i = none) (l : Late q P ops nop Q ng nt df k0 i0 y e0 e1) (ho : ops[k0]? = some o0) (ha : nop.after = o0.after) (h1 : nop.dst = none) (h2 : o0.dst = none)
    {tF : T Ent} {tmF : Fr} (s : St E0 F0 h0 w0) (hg : Glob E0 ng) (ht : TmR E0 nt df q.tm0 a) (hfr : Free E0 h0.n (q.n q.N)) (hn : q.n 0 = h0.n) (hC : q.C 0 = h0.t)
    (htF : ∀ i e, tF.get i = some e → (i = y ∧ e = e1) ∨ (i ≠ y ∧ ((q.C q.M).get i = some e ∨ ∃ p, p < q.N ∧ q.kd p = .p ∧ q.FreeAt p q.M ∧ i = q.n p ∧ q.ent p = some e)))
    (hy : h0.t.get y ≠ none) (htm : ∀ t v, tmF.get t = some v → q.Last (fun _ => True) t v)
    (hq : ∀ E' F' a' w', Go E0 F0 h0 w0 E' F' ⟨tF, q.n q.N⟩ w' → TmR E' nt df tmF a' → Q .normal a' w') : wpAny P .any ops Q ops.size (Array.replicate ops.size false) a w0.drew := by
  have h0N := ok.nle (i := 0) (j := q.N) (by omega) (Nat.le_refl _)
  have hsize : ops.size = q.N := by rw [← ok.size, zOps_size]
  refine l.any ok hA ho ha h1 h2 (E0 := E0) (F0 := F0) (h0 := h0) (w0 := w0) ?_ ops.size _ 0 E0 F0 _ a (by rw [Array.size_replicate]; exact hsize) ?_ (.inl ⟨none_in _ _, ok.start hlo hsd0 s hg ht hfr hn hC (none_in _)⟩)
  · intro m E F w a I
    have hmM : m = q.M := by
      have h3 : m ≤ q.M := I.mM
      have h4 := (I.em i0 l.ilt l.ik).1 trivial
      have h5 : q.eix i0 < m := h4
      have h6 := l.last
      omega
    subst hmM
    have hCB : (lateP q (q.eix i0) y (sdOf y e1)).C q.M = (q.C q.M).del y := by
      show (if q.M < q.eix i0 then q.C q.M else (q.C q.M).del y) = _
      rw [if_neg (by have := l.last; omega)]
    have hFy : F y = some e1 := I.side y e1 (by show sdOf y e1 y = some e1; simp [sdOf])
    refine hq E F a w ⟨hn ▸ I.step, ?_, ?_, ?_, hn ▸ h0N⟩ ⟨I.size, fun t v hv => I.tm t v (htm t v hv), I.dfs⟩
    · intro i e hgt
      rcases htF i e hgt with ⟨rfl, rfl⟩ | ⟨hi, h | ⟨p, hp, hkp, hfp, hip, he⟩⟩
      · exact hFy
      · exact I.core i e (by rw [hCB]; exact del_get.2 ⟨hi, h⟩)
      · rw [hip]; exact I.pblk p hp trivial hkp hfp e he
    · intro i hi h0i
      exact I.keep i (by show i < q.n 0 ∨ q.n q.N ≤ i; rw [hn]; exact hi) h0i
    · intro i hi h0i
      show tF.get i = none
      cases hgt : tF.get i with
      | none => rfl
      | some e =>
        rcases htF i e hgt with ⟨rfl, -⟩ | ⟨hiy, h | ⟨p, hp, -, -, hip, he⟩⟩
        · exact absurd h0i hy
        · have h3 := I.old i (by show i < q.n 0 ∨ q.n q.N ≤ i; rw [hn]; exact hi) h0i
          rw [hCB, T.get_del, if_neg hiy] at h3
          rw [h3] at h; cases h
        · have h2 := ok.entlt p e hp he
          have h3 := ok.nle (i := 0) (j := p) (by omega) (by omega)
          have h4 := ok.nle (i := p + 1) (j := q.N) (by omega) (by omega)
          have hi' : i < h0.n ∨ q.n q.N ≤ i := hi
          omega
  · rw [hsize]
    refine Nat.le_trans List.countP_le_length ?_
    rw [List.length_range]
    exact Nat.le_refl _
end
end Go.Proofs.YtbhkfifmgbcknaaGreatDoor.Ex
