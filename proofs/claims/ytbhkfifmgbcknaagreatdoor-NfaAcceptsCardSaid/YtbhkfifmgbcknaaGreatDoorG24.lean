/-
  A part of the proof of the statement NfaAccepts.
-/
import Derived.Test.YtbhkfifmgbcknaaGreatDoorG23
import Derived.Test.YtbhkfifmgbcknaaGreatDoorProg
import Derived.ProofKit
import Derived.Shelf.Strings.BuilderK
import Derived.Lib.Builder
import Derived.Shelf.Strings.Builder1
import Derived.Shelf.Small.Bits
import Derived.Shelf.Small.Strs
import Derived.Shelf.Strings.BuilderF
import Derived.Shelf.Strconv.Itoa0
import Derived.Shelf.Strconv.Itoa1
import Derived.Shelf.LaysM
import Derived.Shelf.Strconv.Itoa2
import Derived.Shelf.Strconv.Itoa3
import Derived.Shelf.Strings.Search1
import Derived.Shelf.Strings.Search2
import Derived.Shelf.Strings.Search3
import Derived.Shelf.Strings.Cut
import Derived.Shelf.Strings.Shaped
import Derived.Shelf.Sort.Plain
import Derived.Shelf.Slices.Turned
import Derived.Shelf.Slices.Reverse
import Derived.Shelf.Slices.Equal
import Derived.Ground.Names2Prog
import Derived.Shelf.Slices.Clone
import Derived.Shelf.Slices.CompactI
import Derived.Shelf.Slices.SearchI
import Derived.Shelf.Slices.Cells
import Derived.Shelf.Slices.In.SortNone
import Derived.Shelf.Slices.Empties2
import Derived.Ground.SlgnProg
import Derived.Shelf.SlicesE.Clone
set_option linter.unusedSimpArgs false
set_option linter.unusedVariables false
namespace Go.Proofs.YtbhkfifmgbcknaaGreatDoor.Ex
open Go Go.RowKit
mutual
theorem VR.fun {E : Env} : ∀ {v a b : Value}, VR E v a → VR E v b → a = b
  | _, _, _, .bool _, h => h.bool_inv.symm
  | _, _, _, .int _ _, h => h.int_inv.symm
  | _, _, _, .string _, h => h.string_inv.symm
  | _, _, _, .ptr0, h => h.ptr0_inv.symm
  | _, _, _, .ptr he, h => by
    obtain ⟨q, h1, -, h3⟩ := h.ptr_inv
    rw [he] at h1
    cases h1
    exact h3.symm
  | _, _, _, .slice0 _ _, h => h.slice0_inv.symm
  | _, _, _, .slice _ _ he hc, h => by
    cases h with
    | slice _ _ he' hc' => rw [he] at he'; cases he'; rfl
    | grown _ _ _ he' hc' => rw [he] at he'; cases he'; rw [hc] at hc'; cases hc'
  | _, _, _, .grown _ _ _ he hc, h => by
    cases h with
    | slice _ _ he' hc' => rw [he] at he'; cases he'; rw [hc] at hc'; cases hc'
    | grown _ _ _ he' hc' => rw [he] at he'; cases he'; rw [hc] at hc'; cases hc'; rfl
  | _, _, _, .map0, h => by cases h; rfl
  | _, _, _, .map he, h => by
    obtain ⟨q, h1, h3⟩ := h.map_inv
    rw [he] at h1
    cases h1
    exact h3.symm
  | _, _, _, .func (xs := xs) (ys := ys) hx hy, h => by
    generalize hu : Value.func (Fn.func _) xs.toArray ys.toArray = u at h
    cases h <;> cases hu
    rename_i hx' hy'
    rw [VsR.fun hx hx', VsR.fun hy hy']
  | _, _, _, .func0, h => by cases h; rfl
  | _, _, _, .iface _ hv, h => by
    obtain ⟨u, e, hu⟩ := h.iface_inv
    rw [e, VR.fun hv hu]
  | _, _, _, .iface0, h => h.iface0_inv.symm
  | _, _, _, .agg hs, h => by
    obtain ⟨us, e, hu⟩ := h.agg_inv
    rw [e, VsR.fun hs hu]
  | _, _, _, .tuple hs, h => by
    obtain ⟨us, e, hu⟩ := h.tuple_inv
    rw [e, VsR.fun hs hu]
theorem VsR.fun {E : Env} : ∀ {l a b : List Value}, VsR E l a → VsR E l b → a = b
  | _, _, _, .nil, h => by cases h; rfl
  | _, _, _, .cons hv hs, h => by
    cases h with
    | cons hv' hs' => rw [VR.fun hv hv', VsR.fun hs hs']
end
theorem Go.below {E : Env} {F : Full} {h : H} {w w' : World} (s : St E F h w) (hb : Below w.heap.size w w') : Go E F h w E F h w' :=
  ⟨⟨Env.le.refl E, ⟨fun i e hf => by
      obtain ⟨p, he, ha⟩ := s.rel.at_ i e hf
      exact ⟨p, he, ha.mono (Env.le.refl E) (hb.block _ ha.lt)⟩, s.rel.ne, kOnly (fun b hbk => hb.block b (s.rel.kb b hbk).1) s.rel.kn, fun b hbk => ⟨Nat.lt_of_lt_of_le (s.rel.kb b hbk).1 hb.size, (s.rel.kb b hbk).2⟩⟩, fun i e p hf he => .inr ⟨i, e, p, hf, he, rfl⟩, fun b hlt _ => hb.block b hlt, hb.size, hb.os, hb.tape, hb.output, Nat.le_refl _, fun _ _ => rfl⟩, .refl s.sub⟩
theorem Go.cell {P : Program} {E : Env} {F : Full} {h : H} {w : World} (s : St E F h w) {b : Nat} {e : TypeId} {old x x' : Value} {p : Pl} (hg : h.t.get b = some (.cells e [old])) (hp : E b = some p) (hx : VR E x x') :
    Go E F h w E (putF F b (.cells e [x])) ⟨h.t.set (.cells e [x]) b, h.n⟩ (w.setCell ⟨p.b, 0, none⟩ x') ∧ p.o = 0 ∧ (∃ o, w.cell? ⟨p.b, 0, none⟩ = some o) ∧ w.frozen? ⟨p.b, 0, none⟩ = false := by
  obtain ⟨e1, e2, cs', h3, h4⟩ := s.at_ hg hp
  cases h4 with
  | cons hv hs =>
    cases hs
    rename_i o'
    refine ⟨Go.put s hg hp ⟨e1, e2, [x'], ?_, .cons hx .nil⟩ (fun k hk => Below.heap_setCell _ _ _ _ hk) (by simp) rfl rfl rfl, e1, ⟨o', by simp [World.cell?, h3]⟩, by simp [World.frozen?, h3]⟩
    simp [World.setCell, Array.getElem?_modify, h3]
def HOk (P : Program) (ng : Nat) (f : FuncId) (c : Caller) : Prop :=
  ∀ args h v h', c f args h = some (v, h') → h.n ≤ h'.n ∧ ∀ (E : Env) (F : Full) (w : World) (args' : List Value), St E F h w → Glob E ng → VsR E args args' → Free E h.n h'.n →
    Calls P f args'.toArray w fun e w' => ∃ E' F' v', Go E F h w E' F' h' w' ∧ VR E' v v' ∧ e = .returned v'
noncomputable def hkOf (l : List (FuncId × Caller)) : Hook := fun f =>
  List.rec (motive := fun _ => Option Caller) none (fun p _ ih => Bool.rec (motive := fun _ => Option Caller) ih (some p.2) (Nat.beq f p.1)) l
def HsOk (P : Program) (ng : Nat) : List (FuncId × Caller) → Prop
  | [] => True
  | p :: l => HOk P ng p.1 p.2 ∧ HsOk P ng l
theorem hkOf_some {f : FuncId} {c : Caller} : ∀ {l : List (FuncId × Caller)}, hkOf l f = some c → (f, c) ∈ l
  | [], h => by cases h
  | p :: l, h => by
    have h' : Bool.rec (motive := fun _ => Option Caller) (hkOf l f) (some p.2) (Nat.beq f p.1) = some c := h
    cases hb : Nat.beq f p.1 with
    | false => rw [hb] at h'; exact List.mem_cons_of_mem _ (hkOf_some h')
    | true =>
      rw [hb] at h'
      cases h'
      have := Nat.eq_of_beq_eq_true hb
      subst this
      exact List.mem_cons_self
theorem HsOk.mem {P : Program} {ng : Nat} : ∀ {l : List (FuncId × Caller)}, HsOk P ng l → ∀ p, p ∈ l → HOk P ng p.1 p.2
  | [], _, p, h => by cases h
  | x :: l, hl, p, h => by
    rcases List.mem_cons.1 h with h | h
    · rw [h]; exact hl.1
    · exact hl.2.mem p h
theorem hkOf_ok {P : Program} {ng : Nat} {l : List (FuncId × Caller)} (hl : HsOk P ng l) : HkOk P ng (hkOf l) := fun f c hf args h v h' hc => (hl.mem _ (hkOf_some hf) args h v h' hc).2
theorem hkOf_mn {P : Program} {ng : Nat} {l : List (FuncId × Caller)} (hl : HsOk P ng l) : HkMn (hkOf l) := fun f c hf args h v h' hc => (hl.mem _ (hkOf_some hf) args h v h' hc).1
noncomputable def tabG (l : List (Nat × Ent)) : T Ent := List.rec (motive := fun _ => T Ent) .leaf (fun p _ ih => ih.set p.2 p.1) l
theorem tabG_get : ∀ {l : List (Nat × Ent)} {i : Nat} {e : Ent}, (tabG l).get i = some e → (i, e) ∈ l
  | [], i, e, h => by cases h
  | p :: l, i, e, h => by
    have h' : ((tabG l).set p.2 p.1).get i = some e := h
    rw [T.get_set] at h'
    by_cases hi : i = p.1
    · rw [if_pos hi] at h'
      cases h'
      rw [hi]
      exact List.mem_cons_self
    · rw [if_neg hi] at h'
      exact List.mem_cons_of_mem _ (tabG_get h')
noncomputable def kept (l : List (Nat × Ent)) (t : T Ent) : Bool :=
  List.rec (motive := fun _ => Bool) true (fun p _ ih => match t.get p.1 with
    | some e => match entEq p.2 e with
      | true => ih
      | false => false
    | none => false) l
theorem kept_ok : ∀ {l : List (Nat × Ent)} {t : T Ent}, kept l t = true → ∀ i e, (i, e) ∈ l → t.get i = some e
  | [], _, _, i, e, h => by cases h
  | p :: l, t, hk, i, e, h => by
    have hk' : (match t.get p.1 with
      | some e => match entEq p.2 e with
        | true => kept l t
        | false => false
      | none => false) = true := hk
    cases hg : t.get p.1 with
    | none => rw [hg] at hk'; cases hk'
    | some e' =>
      rw [hg] at hk'
      dsimp only at hk'
      cases he : entEq p.2 e' with
      | false => rw [he] at hk'; cases hk'
      | true =>
        rw [he] at hk'
        rcases List.mem_cons.1 h with h | h
        · rw [← entEq_ok he] at hg
          cases h
          exact hg
        · exact kept_ok hk' i e h
noncomputable def low (ng : Nat) : Nat → Value → Bool
  | 0, _ => false
  | n + 1, v => match v with
    | .bool _ => true
    | .int _ _ => true
    | .string _ => true
    | .pointer none => true
    | .pointer (some a) => Nat.ble (Nat.succ a.block) ng
    | .slice none _ _ => true
    | .nilIface => true
    | .iface _ v => low ng n v
    | .agg cs => cs.toList.all (low ng n)
    | _ => false
noncomputable def lowE (ng : Nat) (e : Ent) : Bool := match e with
  | .cells _ cs => cs.all (low ng 6)
  | _ => false
theorem lowE_ok {ng : Nat} {e : Ent} (h : lowE ng e = true) : ∃ t cs, e = .cells t cs ∧ cs.all (low ng 6) = true := by
  cases e with
  | cells t cs => exact ⟨t, cs, rfl, h⟩
  | _ => cases h
noncomputable def under (ng : Nat) (l : List (Nat × Ent)) : Bool :=
  List.rec (motive := fun _ => Bool) true (fun p _ ih => match Nat.ble (Nat.succ p.1) ng with
    | true => match lowE ng p.2 with
      | true => ih
      | false => false
    | false => false) l
theorem under_ok {ng : Nat} : ∀ {l : List (Nat × Ent)}, under ng l = true → ∀ i e, (i, e) ∈ l → i < ng ∧ ∃ t cs, e = .cells t cs ∧ cs.all (low ng 6) = true
  | [], _, i, e, h => by cases h
  | p :: l, hk, i, e, h => by
    have hk' : (match Nat.ble (Nat.succ p.1) ng with
      | true => match lowE ng p.2 with
        | true => under ng l
        | false => false
      | false => false) = true := hk
    cases hg : Nat.ble (Nat.succ p.1) ng with
    | false => rw [hg] at hk'; cases hk'
    | true =>
      rw [hg] at hk'
      dsimp only at hk'
      cases hx : lowE ng p.2 with
      | false => rw [hx] at hk'; cases hk'
      | true =>
        rw [hx] at hk'
        rcases List.mem_cons.1 h with h | h
        · cases h
          exact ⟨Nat.le_of_ble_eq_true hg, lowE_ok hx⟩
        · exact under_ok hk' i e h
def Holds (ng : Nat) (l : List (Nat × Ent)) (w : World) : Prop := ∀ i e, (i, e) ∈ l → At (env0 ng) w ⟨i, 0, none⟩ e
theorem Holds.below {ng : Nat} {l : List (Nat × Ent)} {w w' : World} (h : Holds ng l w) (hb : Below w.heap.size w w') : Holds ng l w' := fun i e hi => (h i e hi).mono (Env.le.refl _) (hb.block _ (h i e hi).lt)
theorem Holds.sub {ng : Nat} {l l' : List (Nat × Ent)} {w : World} (h : Holds ng l w) (hs : ∀ x, x ∈ l' → x ∈ l) : Holds ng l' w := fun i e hi => h i e (hs _ hi)
theorem closed2 {P : Program} (hN : noNum P = true) (hmx : P.follows .mixedOrders = true) {ng fuel : Nat} {hk : Hook} (ho : HkOk P ng hk) (hm : HkMn hk) {l : List (Nat × Ent)} (hu : under ng l = true) {f : FuncId} {args : List Value} {v : Value} {h' : H} (ha : args.all (gr 6) = true) (hv : gr 6 v = true)
    (hrun : callWith P hk (exec P ng hk fuel) f args ⟨tabG l, ng⟩ = some (v, h')) (hkp : kept l h'.t = true) (w : World) (hw : Holds ng l w) (hkn : kFact w) (hkb : ∀ b, b ∈ kBs → b < w.heap.size ∧ ∀ i e, (i, e) ∈ l → i ≠ b) : Calls P f args.toArray w fun e w' => e = .returned v ∧ Below w.heap.size w w' := by
  have hE : ∀ i, i < ng → env0 ng i = some ⟨i, 0, none⟩ := fun i h => if_pos h
  have s : St (env0 ng) (fun i => (tabG l).get i) ⟨tabG l, ng⟩ w := ⟨⟨fun i e h => ⟨_, hE i (under_ok hu i e (tabG_get h)).1, hw i e (tabG_get h)⟩, fun i j e e' p q h1 h2 hij h3 h4 => by
    rw [hE i (under_ok hu i e (tabG_get h1)).1] at h3
    rw [hE j (under_ok hu j e' (tabG_get h2)).1] at h4
    cases h3
    cases h4
    exact hij, hkn, fun b hb => ⟨(hkb b hb).1, fun i e p h1 h3 => by
      rw [hE i (under_ok hu i e (tabG_get h1)).1] at h3
      cases h3
      exact (hkb b hb).2 i e (tabG_get h1)⟩⟩, fun i e h => h⟩
  have hg : Glob (env0 ng) ng := hE
  have hfr : Free (env0 ng) ng h'.n := fun i h _ => if_neg (by omega)
  refine (callOk_of ho (exec_ok hN hmx ng ho hm fuel) f args ⟨tabG l, ng⟩ v h' hrun (env0 ng) _ w args s hg (vsr_of_all (fun v => gr_ok 6 v) args ha) hfr).mono ?_
  rintro e w' ⟨E', F', v', hgo, hvr, rfl⟩
  refine ⟨by rw [gr_inv 6 v v' hv hvr], hgo.step.os, hgo.step.tape, hgo.step.output, hgo.step.size, fun k hk => ?_⟩
  by_cases hin : ∃ e, (k, e) ∈ l
  · obtain ⟨e, he⟩ := hin
    obtain ⟨hlt, t, cs, rfl, -⟩ := under_ok hu k e he
    obtain ⟨-, -, cs1, h1, h2⟩ := hw k _ he
    have hF := hgo.fits.sub k _ (kept_ok hkp k _ he)
    obtain ⟨p, hp, -, -, cs2, h3, h4⟩ := hgo.step.rel.at_ k _ hF
    rw [hgo.step.le k _ (hE k hlt)] at hp
    cases hp
    rw [VsR.fun (h2.mono hgo.step.le) h4] at h1
    exact h3.trans h1.symm
  · refine hgo.step.frame k hk fun i e p h hp hb => hin ?_
    have hi := under_ok hu i e (tabG_get h)
    rw [hE i hi.1] at hp
    cases hp
    exact ⟨e, hb ▸ tabG_get h⟩
noncomputable def hYes : Caller := fun _ args h => match args with
  | [] => some (.bool true, h)
  | _ => none
theorem hYes_ok {P : Program} {ng : Nat} {f : FuncId} (hc : ∀ w, kFact w → Calls P f #[] w fun e w' => e = .returned (.bool true) ∧ Below w.heap.size w w') : HOk P ng f hYes := by
  intro args h v h' he
  unfold hYes at he
  split at he
  · cases he
    refine ⟨Nat.le_refl _, fun E F w args' s hg ha _ => ?_⟩
    cases ha
    refine (hc w s.rel.kn).mono ?_
    rintro e w' ⟨rfl, hb⟩
    exact ⟨E, F, _, Go.below s hb, .bool true, rfl⟩
  · cases he
end Go.Proofs.YtbhkfifmgbcknaaGreatDoor.Ex
namespace Go.Proofs.YtbhkfifmgbcknaaGreatDoor
open Go.RowKit Go.Extern.Stop Go.Stop Go.Extern
theorem bldSize : (Tryz.prog.info? 285).map (·.size) = some 2 := by kernel_rfl
theorem bldLies : liesAt Tryz.prog Tryz.prog.depth 285 (2 / Tryz.prog.cellsOf 285) 0 285 1 = true := by kernel_rfl
set_option maxHeartbeats 1000000 in
set_option maxRecDepth 100000 in
theorem copyCheck_used (b : Nat) (w : World) (h0 : w.cell? ⟨b, 0, none⟩ = some (.pointer (some ⟨b, 0, none⟩))) :
    Calls Tryz.prog 263 #[.pointer (some ⟨b, 0, none⟩)] w fun e w' => e = .returned (.tuple #[]) ∧ w' = w := by
  obtain ⟨j, hj, _⟩ := Option.map_eq_some_iff.1 bldSize
  go_enter Tryz.func263, Tryz.ntmps263
  go_wp2
  rw [Lib.run_neq_ptr_same w _ Tryz.underlying282 hj]
  go_wp2
  go_end0
  exact ⟨rfl, rfl⟩
set_option maxHeartbeats 1000000 in
set_option maxRecDepth 100000 in
theorem copyCheck_fresh (b : Nat) (w : World) (h0 : w.cell? ⟨b, 0, none⟩ = some (.pointer none)) (hsh : w.shape? b = some (285, 2)) (hfz : w.frozen? ⟨b, 0, none⟩ = false) :
    Calls Tryz.prog 263 #[.pointer (some ⟨b, 0, none⟩)] w fun e w' => e = .returned (.tuple #[]) ∧ w' = w.setCell ⟨b, 0, none⟩ (.pointer (some ⟨b, 0, none⟩)) := by
  obtain ⟨j, hj, hjs⟩ := Option.map_eq_some_iff.1 bldSize
  go_enter Tryz.func263, Tryz.ntmps263
  go_wp2
  rw [Lib.run_to_unsafe w ⟨b, 0, none⟩ Tryz.underlying282 Tryz.underlying267 hj (by rw [hjs]; decide) hsh (Nat.zero_lt_succ 1)]
  simp only [Result.andThen]
  rw [Oper.upon_value]
  go_wp2
  rw [run_callFunc_extern Tryz.func323 (by kernel_rfl) (by kernel_rfl) (by kernel_rfl) (e := Extern.AbiNoEscape.same) (by kernel_rfl)]
  rw [Lib.run_noEscape]
  simp only [Result.andThen]
  rw [Oper.upon_value]
  go_wp2
  rw [Lib.run_from_unsafe w ⟨b, 0, none⟩ Tryz.underlying267 Tryz.underlying282 hj hsh bldLies]
  simp only [Result.andThen]
  rw [Oper.upon_value]
  go_wp2
  go_end0
  exact ⟨rfl, rfl⟩
end Go.Proofs.YtbhkfifmgbcknaaGreatDoor
namespace Go.Proofs.YtbhkfifmgbcknaaGreatDoor.Ex
open Go Go.RowKit
noncomputable def hCopy : Caller := fun _ args h => match args with
  | [.pointer (some ⟨b, o, _⟩)] => match Nat.beq o 0 with
    | true => match h.t.get b with
      | some (.cells e cs) => match Nat.beq e 285 with
        | true => match cs with
          | [.pointer none, x] => some (.tuple #[], ⟨h.t.set (.cells e [.pointer (some ⟨b, 0, none⟩), x]) b, h.n⟩)
          | [.pointer (some ⟨c, k, _⟩), _] => match Nat.beq c b with
            | true => match Nat.beq k 0 with
              | true => some (.tuple #[], h)
              | false => none
            | false => none
          | _ => none
        | false => none
      | _ => none
    | false => none
  | _ => none
theorem hCopy_mn {f : FuncId} {args : List Value} {h : H} {v : Value} {h' : H} (hc : hCopy f args h = some (v, h')) : h.n ≤ h'.n := by
  unfold hCopy at hc
  repeat' split at hc
  all_goals first
    | (cases hc; exact Nat.le_refl _)
    | cases hc
theorem hCopy_ok {args : List Value} {h : H} {v : Value} {h' : H} (hc : hCopy 263 args h = some (v, h')) {ng : Nat} {E : Env} {F : Full} {w : World} {args' : List Value} (s : St E F h w) (_ : Glob E ng) (ha : VsR E args args') :
    Calls Tryz.prog 263 args'.toArray w fun e w' => ∃ E' F' v', Go E F h w E' F' h' w' ∧ VR E' v v' ∧ e = .returned v' := by
  unfold hCopy at hc
  split at hc
  · rename_i b o sp
    split at hc
    · rename_i ho
      split at hc
      · rename_i e cs hb
        split at hc
        · rename_i he
          have ho' := Nat.eq_of_beq_eq_true ho
          have he' : e = 285 := Nat.eq_of_beq_eq_true he
          subst ho'
          subst he'
          cases ha with
          | cons hv hs =>
            cases hs
            obtain ⟨p, hp, -, rfl⟩ := hv.ptr_inv
            obtain ⟨e1, e2, cs', h3, h4⟩ := s.at_ hb hp
            rw [e1, Nat.zero_add]
            split at hc
            · rename_i x
              cases hc
              cases h4 with
              | cons hv1 hs1 =>
                cases hs1 with
                | @cons _ x' _ _ hv2 hs2 =>
                  cases hs2
                  have hv1' := hv1.ptr0_inv
                  subst hv1'
                  have hc0 : w.cell? ⟨p.b, 0, none⟩ = some (.pointer none) := by simp [World.cell?, h3]
                  have hsh : w.shape? p.b = some (285, 2) := by simp [World.shape?, h3]
                  have hfz : w.frozen? ⟨p.b, 0, none⟩ = false := by simp [World.frozen?, h3]
                  refine (copyCheck_fresh p.b w hc0 hsh hfz).mono ?_
                  rintro e w' ⟨rfl, rfl⟩
                  refine ⟨E, _, _, Go.put s hb hp ⟨e1, e2, [.pointer (some ⟨p.b, 0, none⟩), x'], ?_, ?_⟩ (fun k hk => Below.heap_setCell _ _ _ _ hk) (by simp) rfl rfl rfl, .tuple .nil, rfl⟩
                  · simp [World.setCell, Array.getElem?_modify, h3]
                  · have hq := VR.ptr (E := E) (o := 0) hp
                    rw [e1] at hq
                    exact .cons hq (.cons hv2 .nil)
            · rename_i c k sp2 x
              split at hc
              · rename_i h5
                split at hc
                · rename_i h6
                  cases hc
                  have h5' := Nat.eq_of_beq_eq_true h5
                  have h6' := Nat.eq_of_beq_eq_true h6
                  subst h5'
                  subst h6'
                  cases h4 with
                  | cons hv1 hs1 =>
                    obtain ⟨p', hp', -, rfl⟩ := hv1.ptr_inv
                    rw [hp] at hp'
                    cases hp'
                    have hc0 : w.cell? ⟨p.b, 0, none⟩ = some (.pointer (some ⟨p.b, 0, none⟩)) := by simp [World.cell?, h3, e1]
                    refine (copyCheck_used p.b w hc0).mono ?_
                    rintro e w' ⟨rfl, rfl⟩
                    exact ⟨E, F, _, Go.refl s, .tuple .nil, rfl⟩
                · cases hc
              · cases hc
            · cases hc
        · cases hc
      · cases hc
    · cases hc
  · cases hc
end Go.Proofs.YtbhkfifmgbcknaaGreatDoor.Ex
namespace Go.Proofs
open Go.Shelf
def Tryz.lays217_ren : Go.Shelf.Ren := ⟨fun | 217 => 307 | 266 => 344 | n => n, fun | 9 => 9 | 5 => 5 | 3 => 3 | n => n, fun | n => n⟩
theorem Tryz.lays217 : Go.Proofs.Lays.n217 Tryz.prog Tryz.lays217_ren := {
  mixed := by kernel_rfl
  f217 := Tryz.func307.trans (congrArg some (by kernel_rfl))
  f266 := Tryz.func344.trans (congrArg some (by kernel_rfl))
  t3 := Tryz.underlying3
  a3 := Tryz.isAgg3
  z3 := Tryz.sizeOf3
  v3 := Tryz.zeroValue3
  t5 := Tryz.underlying5
  a5 := Tryz.isAgg5
  z5 := Tryz.sizeOf5
  v5 := Tryz.zeroValue5
  t9 := Tryz.underlying9
  a9 := Tryz.isAgg9
  z9 := Tryz.sizeOf9
  v9 := Tryz.zeroValue9 }
open Go.RowKit Go.Lib in
theorem Tryz.stringslite_IndexByte (s : ByteArray) (c : Int) (w : World) :
    Calls Tryz.prog 307 #[.string s, .int .u8 c] w fun e w' => e = .returned (.int .i64 (Lib.indexByte s.data.toList c.toNat.toUInt8)) ∧ w' = w := Any.stringslite_IndexByte Tryz.lays217 s c w
def Tryz.lays189_ren : Go.Shelf.Ren := ⟨fun | 189 => 40 | 125 => 55 | 257 => 54 | 128 => 77 | 129 => 78 | 294 => 68 | 295 => 69 | 296 => 70 | 297 => 71 | 298 => 72 | 299 => 73 | 216 => 74 | 300 => 75 | 301 => 76 | 328 => 96 | 329 => 97 | 330 => 98 | 331 => 99 | 332 => 100 | 215 => 101 | 343 => 135 | n => n, fun | 28 => 27 | 3 => 3 | 46 => 92 | 0 => 0 | 51 => 119 | 53 => 41 | 4 => 4 | 183 => 111 | 182 => 110 | 131 => 116 | 5 => 5 | 9 => 9 | 218 => 142 | 222 => 146 | 228 => 194 | 229 => 195 | n => n, fun | n => n⟩
theorem Tryz.lays189 : Go.Proofs.Lays.n189 Tryz.prog Tryz.lays189_ren := {
  mixed := by kernel_rfl
  f125 := Tryz.func55.trans (congrArg some (by kernel_rfl))
  f128 := Tryz.func77.trans (congrArg some (by kernel_rfl))
  f129 := Tryz.func78.trans (congrArg some (by kernel_rfl))
  f189 := Tryz.func40.trans (congrArg some (by kernel_rfl))
  f215 := Tryz.func101.trans (congrArg some (by kernel_rfl))
  f216 := Tryz.func74.trans (congrArg some (by kernel_rfl))
  f257 := Tryz.func54.trans (congrArg some (by kernel_rfl))
  f294 := Tryz.func68.trans (congrArg some (by kernel_rfl))
  f295 := Tryz.func69.trans (congrArg some (by kernel_rfl))
  f296 := Tryz.func70.trans (congrArg some (by kernel_rfl))
  f297 := Tryz.func71.trans (congrArg some (by kernel_rfl))
  f298 := Tryz.func72.trans (congrArg some (by kernel_rfl))
  f299 := Tryz.func73.trans (congrArg some (by kernel_rfl))
  f300 := Tryz.func75.trans (congrArg some (by kernel_rfl))
  f301 := Tryz.func76.trans (congrArg some (by kernel_rfl))
  f328 := Tryz.func96.trans (congrArg some (by kernel_rfl))
  f329 := Tryz.func97.trans (congrArg some (by kernel_rfl))
  f330 := Tryz.func98.trans (congrArg some (by kernel_rfl))
  f331 := Tryz.func99.trans (congrArg some (by kernel_rfl))
  f332 := Tryz.func100.trans (congrArg some (by kernel_rfl))
  f343 := Tryz.func135.trans (congrArg some (by kernel_rfl))
  t0 := Tryz.underlying0
  a0 := Tryz.isAgg0
  z0 := Tryz.sizeOf0
  v0 := Tryz.zeroValue0
  t3 := Tryz.underlying3
  a3 := Tryz.isAgg3
  z3 := Tryz.sizeOf3
  v3 := Tryz.zeroValue3
  t4 := Tryz.underlying4
  a4 := Tryz.isAgg4
  z4 := Tryz.sizeOf4
  v4 := Tryz.zeroValue4
  t5 := Tryz.underlying5
  a5 := Tryz.isAgg5
  z5 := Tryz.sizeOf5
  v5 := Tryz.zeroValue5
  t9 := Tryz.underlying9
  a9 := Tryz.isAgg9
  z9 := Tryz.sizeOf9
  v9 := Tryz.zeroValue9
  t28 := Tryz.underlying27
  a28 := Tryz.isAgg27
  z28 := Tryz.sizeOf27
  v28 := Tryz.zeroValue27
  t46 := Tryz.underlying92
  a46 := Tryz.isAgg92
  z46 := Tryz.sizeOf92
  v46 := Tryz.zeroValue92
  t51 := Tryz.underlying119
  a51 := Tryz.isAgg119
  z51 := Tryz.sizeOf119
  v51 := Tryz.zeroValue119
  t53 := Tryz.underlying41
  a53 := Tryz.isAgg41
  z53 := Tryz.sizeOf41
  v53 := Tryz.zeroValue41
  t131 := Tryz.underlying116
  a131 := Tryz.isAgg116
  z131 := Tryz.sizeOf116
  v131 := Tryz.zeroValue116
  t182 := Tryz.underlying110
  a182 := Tryz.isAgg110
  z182 := Tryz.sizeOf110
  v182 := Tryz.zeroValue110
  t183 := Tryz.underlying111
  a183 := Tryz.isAgg111
  z183 := Tryz.sizeOf111
  v183 := Tryz.zeroValue111
  t218 := Tryz.underlying142
  a218 := Tryz.isAgg142
  z218 := Tryz.sizeOf142
  v218 := Tryz.zeroValue142
  t222 := Tryz.underlying146
  a222 := Tryz.isAgg146
  z222 := Tryz.sizeOf146
  v222 := Tryz.zeroValue146
  t228 := Tryz.underlying194
  a228 := Tryz.isAgg194
  z228 := Tryz.sizeOf194
  v228 := Tryz.zeroValue194
  t229 := Tryz.underlying195
  a229 := Tryz.isAgg195
  z229 := Tryz.sizeOf195
  v229 := Tryz.zeroValue195 }
open Go.Sort Go.RowKit in
theorem Tryz.slices_Sort_int (blk off cap : Nat) (zs : List Int) (w : World) (hH : Holds (Value.int .i64) w blk off zs.toArray) (hblk : blk < w.heap.size) (hsz : zs.length < 4611686018427387904) :
    Calls Tryz.prog 40 #[.slice (some ⟨blk, off, none⟩) zs.length cap] w fun e w' =>
      e = .returned (.tuple #[]) ∧ ∃ n os, w' = grow (putRow (Value.int .i64) (Sort.ahead w n) blk off (zs.mergeSort fun x y => decide (x ≤ y)).toArray) os := Any.slices_Sort_int Tryz.lays189 blk off cap zs w hH hblk hsz
def Tryz.lays190_ren : Go.Shelf.Ren := ⟨fun | 190 => 163 | 125 => 55 | 258 => 218 | 128 => 77 | 129 => 78 | 302 => 266 | 303 => 267 | 304 => 268 | 305 => 269 | 306 => 270 | 307 => 271 | 308 => 272 | 309 => 273 | 310 => 274 | 333 => 325 | 329 => 97 | 330 => 98 | 334 => 326 | 335 => 327 | 336 => 221 | 344 => 359 | n => n, fun | 31 => 36 | 9 => 9 | 3 => 3 | 46 => 92 | 0 => 0 | 51 => 119 | 53 => 41 | 4 => 4 | 183 => 111 | 182 => 110 | 131 => 116 | 5 => 5 | 218 => 142 | 222 => 146 | 228 => 194 | 229 => 195 | n => n, fun | n => n⟩
theorem Tryz.lays190 : Go.Proofs.Lays.n190 Tryz.prog Tryz.lays190_ren := {
  mixed := by kernel_rfl
  f125 := Tryz.func55.trans (congrArg some (by kernel_rfl))
  f128 := Tryz.func77.trans (congrArg some (by kernel_rfl))
  f129 := Tryz.func78.trans (congrArg some (by kernel_rfl))
  f190 := Tryz.func163.trans (congrArg some (by kernel_rfl))
  f258 := Tryz.func218.trans (congrArg some (by kernel_rfl))
  f302 := Tryz.func266.trans (congrArg some (by kernel_rfl))
  f303 := Tryz.func267.trans (congrArg some (by kernel_rfl))
  f304 := Tryz.func268.trans (congrArg some (by kernel_rfl))
  f305 := Tryz.func269.trans (congrArg some (by kernel_rfl))
  f306 := Tryz.func270.trans (congrArg some (by kernel_rfl))
  f307 := Tryz.func271.trans (congrArg some (by kernel_rfl))
  f308 := Tryz.func272.trans (congrArg some (by kernel_rfl))
  f309 := Tryz.func273.trans (congrArg some (by kernel_rfl))
  f310 := Tryz.func274.trans (congrArg some (by kernel_rfl))
  f329 := Tryz.func97.trans (congrArg some (by kernel_rfl))
  f330 := Tryz.func98.trans (congrArg some (by kernel_rfl))
  f333 := Tryz.func325.trans (congrArg some (by kernel_rfl))
  f334 := Tryz.func326.trans (congrArg some (by kernel_rfl))
  f335 := Tryz.func327.trans (congrArg some (by kernel_rfl))
  f336 := Tryz.func221.trans (congrArg some (by kernel_rfl))
  f344 := Tryz.func359.trans (congrArg some (by kernel_rfl))
  t0 := Tryz.underlying0
  a0 := Tryz.isAgg0
  z0 := Tryz.sizeOf0
  v0 := Tryz.zeroValue0
  t3 := Tryz.underlying3
  a3 := Tryz.isAgg3
  z3 := Tryz.sizeOf3
  v3 := Tryz.zeroValue3
  t4 := Tryz.underlying4
  a4 := Tryz.isAgg4
  z4 := Tryz.sizeOf4
  v4 := Tryz.zeroValue4
  t5 := Tryz.underlying5
  a5 := Tryz.isAgg5
  z5 := Tryz.sizeOf5
  v5 := Tryz.zeroValue5
  t9 := Tryz.underlying9
  a9 := Tryz.isAgg9
  z9 := Tryz.sizeOf9
  v9 := Tryz.zeroValue9
  t31 := Tryz.underlying36
  a31 := Tryz.isAgg36
  z31 := Tryz.sizeOf36
  v31 := Tryz.zeroValue36
  t46 := Tryz.underlying92
  a46 := Tryz.isAgg92
  z46 := Tryz.sizeOf92
  v46 := Tryz.zeroValue92
  t51 := Tryz.underlying119
  a51 := Tryz.isAgg119
  z51 := Tryz.sizeOf119
  v51 := Tryz.zeroValue119
  t53 := Tryz.underlying41
  a53 := Tryz.isAgg41
  z53 := Tryz.sizeOf41
  v53 := Tryz.zeroValue41
  t131 := Tryz.underlying116
  a131 := Tryz.isAgg116
  z131 := Tryz.sizeOf116
  v131 := Tryz.zeroValue116
  t182 := Tryz.underlying110
  a182 := Tryz.isAgg110
  z182 := Tryz.sizeOf110
  v182 := Tryz.zeroValue110
  t183 := Tryz.underlying111
  a183 := Tryz.isAgg111
  z183 := Tryz.sizeOf111
  v183 := Tryz.zeroValue111
  t218 := Tryz.underlying142
  a218 := Tryz.isAgg142
  z218 := Tryz.sizeOf142
  v218 := Tryz.zeroValue142
  t222 := Tryz.underlying146
  a222 := Tryz.isAgg146
  z222 := Tryz.sizeOf146
  v222 := Tryz.zeroValue146
  t228 := Tryz.underlying194
  a228 := Tryz.isAgg194
  z228 := Tryz.sizeOf194
  v228 := Tryz.zeroValue194
  t229 := Tryz.underlying195
  a229 := Tryz.isAgg195
  z229 := Tryz.sizeOf195
  v229 := Tryz.zeroValue195 }
open Go.Sort Go.RowKit in
theorem Tryz.slices_Sort_string (blk off cap : Nat) (ss : List (List UInt8)) (w : World) (hH : Holds encStr w blk off ss.toArray) (hblk : blk < w.heap.size) (hsz : ss.length < 4611686018427387904) :
    Calls Tryz.prog 163 #[.slice (some ⟨blk, off, none⟩) ss.length cap] w fun e w' =>
      e = .returned (.tuple #[]) ∧ ∃ n os, w' = grow (putRow encStr (Sort.ahead w n) blk off (ss.mergeSort fun x y => decide (x ≤ y)).toArray) os := Any.slices_Sort_string Tryz.lays190 blk off cap ss w hH hblk hsz
def Tryz.laysNm215_ren : Go.Shelf.Ren := ⟨fun | 15 => 243 | n => n, fun | 22 => 27 | 3 => 3 | 4 => 4 | n => n, fun | n => n⟩
theorem Tryz.laysNm215 : Go.Proofs.Lays2.n15 Tryz.prog Tryz.laysNm215_ren := {
  mixed := by kernel_rfl
  f15 := Tryz.func243.trans (congrArg some (by kernel_rfl))
  t3 := Tryz.underlying3
  a3 := Tryz.isAgg3
  z3 := Tryz.sizeOf3
  v3 := Tryz.zeroValue3
  t4 := Tryz.underlying4
  a4 := Tryz.isAgg4
  z4 := Tryz.sizeOf4
  v4 := Tryz.zeroValue4
  t22 := Tryz.underlying27
  a22 := Tryz.isAgg27
  z22 := Tryz.sizeOf27
  v22 := Tryz.zeroValue27
  i3 := by kernel_rfl }
open Go.RowKit Go.Lib in
theorem Tryz.slices_Clone_int (b off n c : Nat) (zs : List Int) (w : World) (hz : n ≤ zs.length) (hbig : n * 8 ≤ 140737488355328) (hc : ∀ j, j < zs.length → w.cell? ⟨b, off + j, none⟩ = some (.int .i64 (zs.getD j 0))) :
    Calls Tryz.prog 243 #[.slice (some ⟨b, off, none⟩) n c] w fun e w' => ∃ v', e = .returned v' ∧ w'.ownsRow w.heap.size 3 1 v' n ((zs.take n).map (Value.int .i64)) ∧ v' ≠ .slice none 0 0 ∧ Below w.heap.size w w' := Any.slices_Clone_int Tryz.laysNm215 b off n c zs w hz hbig hc
open Go.RowKit Go.Lib in
theorem Tryz.slices_Clone_int_nil (n c : Nat) (w : World) :
    Calls Tryz.prog 243 #[.slice none n c] w fun e w' => e = .returned (.slice none 0 0) ∧ w' = w := Any.slices_Clone_int_nil Tryz.laysNm215 n c w
def Tryz.laysNm216_ren : Go.Shelf.Ren := ⟨fun | 16 => 264 | n => n, fun | 24 => 36 | 9 => 9 | 4 => 4 | n => n, fun | n => n⟩
theorem Tryz.laysNm216 : Go.Proofs.Lays2.n16 Tryz.prog Tryz.laysNm216_ren := {
  mixed := by kernel_rfl
  f16 := Tryz.func264.trans (congrArg some (by kernel_rfl))
  t4 := Tryz.underlying4
  a4 := Tryz.isAgg4
  z4 := Tryz.sizeOf4
  v4 := Tryz.zeroValue4
  t9 := Tryz.underlying9
  a9 := Tryz.isAgg9
  z9 := Tryz.sizeOf9
  v9 := Tryz.zeroValue9
  t24 := Tryz.underlying36
  a24 := Tryz.isAgg36
  z24 := Tryz.sizeOf36
  v24 := Tryz.zeroValue36
  i9 := by kernel_rfl }
open Go.RowKit Go.Lib in
theorem Tryz.slices_Clone_string (b off n c : Nat) (zs : List ByteArray) (w : World) (hz : n ≤ zs.length) (hbig : n * 16 ≤ 140737488355328) (hc : ∀ j, j < zs.length → w.cell? ⟨b, off + j, none⟩ = some (.string (zs.getD j ByteArray.empty))) :
    Calls Tryz.prog 264 #[.slice (some ⟨b, off, none⟩) n c] w fun e w' => ∃ v', e = .returned v' ∧ w'.ownsRow w.heap.size 9 1 v' n ((zs.take n).map (Value.string)) ∧ v' ≠ .slice none 0 0 ∧ Below w.heap.size w w' := Any.slices_Clone_string Tryz.laysNm216 b off n c zs w hz hbig hc
open Go.RowKit Go.Lib in
theorem Tryz.slices_Clone_string_nil (n c : Nat) (w : World) :
    Calls Tryz.prog 264 #[.slice none n c] w fun e w' => e = .returned (.slice none 0 0) ∧ w' = w := Any.slices_Clone_string_nil Tryz.laysNm216 n c w
open Go.RowKit Go.Sort in
theorem Tryz.slices_Sort_string_none (p : Option Addr) (cap : Nat) (w : World) :
    Calls Tryz.prog 163 #[.slice p 0 cap] w fun e w' => e = .returned (.tuple #[]) ∧ w' = w := Any.slices_Sort_string_none Tryz.lays190 p cap w
open Go.RowKit Go.Sort in
theorem Tryz.slices_Sort_int_none (p : Option Addr) (cap : Nat) (w : World) :
    Calls Tryz.prog 40 #[.slice p 0 cap] w fun e w' => e = .returned (.tuple #[]) ∧ w' = w := Any.slices_Sort_int_none Tryz.lays189 p cap w
end Go.Proofs
