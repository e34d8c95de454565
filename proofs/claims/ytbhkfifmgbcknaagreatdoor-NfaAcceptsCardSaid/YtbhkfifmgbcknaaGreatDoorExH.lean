/-
  A part of the proof of the statement NfaAccepts.
-/
import Derived.Test.YtbhkfifmgbcknaaGreatDoorG11
set_option linter.unusedSimpArgs false
set_option linter.unusedVariables false
namespace Go.Proofs.YtbhkfifmgbcknaaGreatDoor.Ex
open Go Go.RowKit
noncomputable def xSlL (size : Nat) (x : Opd) (lo hi : Option Opd) : X := fun tm h => match ev tm x with
  | some (.slice none len c) => match natO tm hi len with
    | some e => match natO tm lo 0 with
      | some b => match Nat.ble b e with
        | true => match Nat.ble e c with
          | true => .val (.slice none (Nat.sub e b) (Nat.sub c b)) h
          | false => .fail
        | false => .fail
      | none => .fail
    | none => .fail
  | some (.slice (some ⟨i, o, _⟩) len c) => match natO tm hi len with
    | some e => match natO tm lo 0 with
      | some b => match Nat.ble b e with
        | true => match h.t.get i with
          | some (.cells _ _) => match Nat.ble e c with
            | true => match Nat.beq c b with
              | true => .val (.slice (some ⟨i, o, none⟩) (Nat.sub e b) (Nat.sub c b)) h
              | false => .val (.slice (some ⟨i, Nat.add o (Nat.mul b size), none⟩) (Nat.sub e b) (Nat.sub c b)) h
            | false => .fail
          | some (.row _ s cs) => match Nat.beq s size with
            | true => match Nat.ble (Nat.mul (Nat.add c len) size) (llen cs) with
              | true => match Nat.ble e len with
                | true => match Nat.beq b 0 with
                  | true => .val (.slice (some ⟨i, o, none⟩) e c) h
                  | false => match Nat.ble (Nat.succ b) e with
                    | true => .val (.slice (some ⟨i, Nat.add o (Nat.mul b size), none⟩) (Nat.sub e b) (Nat.add c b)) h
                    | false => .fail
                | false => .fail
              | false => .fail
            | false => .fail
          | _ => .fail
        | false => .fail
      | none => .fail
    | none => .fail
  | _ => .fail
theorem run_slL {P : Program} {t e : TypeId} (hd : P.underlying t = some (.slice e)) {i : TypeInfo} (hi : P.info? e = some i) {a : Option Addr} {len cap : Nat} {lo hi' : Option Value} {b q : Nat} {w : World}
    (hb : (Instr.sliceBounds true len cap lo hi' none).run P w = .ok (b, q, cap) w) :
    (Instr.sliceAt t (.slice a len cap) lo hi' none).run P w = .ok (.slice (if cap = b then a else a.map (·.add (b * i.size))) (q - b) (cap - b)) w := by
  unfold Instr.sliceAt
  rw [Sem.run_bind, run_underlying hd w, Result.andThen_ok]
  simp only
  unfold Instr.slice
  rw [Sem.run_bind, run_underlying hd w, Result.andThen_ok]
  simp only [Sem.run_bind, hb, Result.andThen_ok, run_size hi, Sem.run_pure]
theorem does_slL {P : Program} {ng nt : Nat} {o : Oper} {t e : TypeId} {x : Operand} {lo hi : Option Operand} (ho : o.op = .slice t x lo hi none) (hd : P.underlying t = some (.slice e)) {i : TypeInfo} (hi0 : P.info? e = some i) : Does P ng nt o (xSlL i.size (cOpd ng x) (lo.map (cOpd ng)) (hi.map (cOpd ng))) := by
  intro tm h E F w a df s hg ht
  have hfin : ∀ (v r : Value) (E0 : VR E v r), (Instr.sliceAt t (a.eval x) (lo.map a.eval) (hi.map a.eval) none).run P w = .ok r w → Told P o a E F h w (.val v h) := by
    intro v r E0 hr
    refine Told.same s E0 ?_
    simp only [execOp, ho, Option.map_none]
    rw [Sem.run_bind, hr]
    rfl
  unfold xSlL
  cases hx : ev tm (cOpd ng x) with
  | none => exact trivial
  | some v =>
    have hv := ev_ok hg ht hx
    cases v with
    | slice p len c =>
      cases p with
      | none =>
        dsimp only
        cases he : natO tm (hi.map (cOpd ng)) len with
        | none => exact trivial
        | some q =>
          dsimp only
          cases hb : natO tm (lo.map (cOpd ng)) 0 with
          | none => exact trivial
          | some b =>
            dsimp only
            cases h1 : Nat.ble b q with
            | false => exact trivial
            | true =>
              dsimp only
              cases h2 : Nat.ble q c with
              | false => exact trivial
              | true =>
                have hbd := run_bounds (P := P) hg ht (len := len) (cap := c) true he hb (Nat.le_of_ble_eq_true h1) (Nat.le_of_ble_eq_true h2) w
                refine hfin _ (.slice none (q - b) (c - b)) (.slice0 _ _) ?_
                rw [hv.slice0_inv, run_slL hd hi0 hbd]
                simp
      | some p =>
        obtain ⟨k, m, sp⟩ := p
        obtain ⟨pl, c', h1p, -, h3, hcap⟩ := hv.slice_inv
        dsimp only
        cases he : natO tm (hi.map (cOpd ng)) len with
        | none => exact trivial
        | some q =>
          dsimp only
          cases hb : natO tm (lo.map (cOpd ng)) 0 with
          | none => exact trivial
          | some b =>
            dsimp only
            cases h1 : Nat.ble b q with
            | false => exact trivial
            | true =>
              have h1' := Nat.le_of_ble_eq_true h1
              dsimp only
              cases hk : h.t.get k with
              | none => exact trivial
              | some ent =>
                have hat := s.at_ hk h1p
                cases ent with
                | map es => exact trivial
                | cells et cs =>
                  obtain ⟨-, hpc, -⟩ := hat
                  rcases hcap with ⟨-, rfl⟩ | ⟨mm, hmm, -⟩
                  · dsimp only
                    cases h2 : Nat.ble q c' with
                    | false => exact trivial
                    | true =>
                      have hbd := run_bounds (P := P) hg ht (len := len) (cap := c') true he hb h1' (Nat.le_of_ble_eq_true h2) w
                      dsimp only
                      cases h4 : Nat.beq c' b with
                      | true =>
                        have h4' := Nat.eq_of_beq_eq_true h4
                        refine hfin _ _ (VR.slice (q - b) (c' - b) h1p hpc) ?_
                        rw [h3, run_slL hd hi0 hbd, if_pos h4']
                      | false =>
                        have h4' : ¬ c' = b := fun h => by rw [h, Nat.beq_refl] at h4; cases h4
                        refine hfin _ _ (VR.slice (q - b) (c' - b) h1p hpc) ?_
                        rw [h3, run_slL hd hi0 hbd, if_neg h4']
                        simp [add_at, Nat.add_assoc]
                  · rw [hpc] at hmm; cases hmm
                | row et sz cs =>
                  obtain ⟨cc, arr, hpc, -, hs0, hle, -, -⟩ := hat
                  rcases hcap with ⟨hmm, -⟩ | ⟨mm, hmm, rfl⟩
                  · rw [hpc] at hmm; cases hmm
                  · rw [hpc] at hmm
                    injection hmm with hmm
                    subst hmm
                    dsimp only
                    cases h4 : Nat.beq sz i.size with
                    | false => exact trivial
                    | true =>
                      have h4' := Nat.eq_of_beq_eq_true h4
                      subst h4'
                      dsimp only
                      cases h5 : Nat.ble (Nat.mul (Nat.add c len) i.size) (llen cs) with
                      | false => exact trivial
                      | true =>
                        have h5' := Nat.le_of_ble_eq_true h5
                        rw [llen_eq] at h5'
                        have h6 : (c + len) * i.size ≤ cc * i.size := Nat.le_trans h5' hle
                        have h7 : c + len ≤ cc := Nat.le_of_mul_le_mul_right h6 hs0
                        dsimp only
                        cases h8 : Nat.ble q len with
                        | false => exact trivial
                        | true =>
                          have h8' := Nat.le_of_ble_eq_true h8
                          have hbd := run_bounds (P := P) hg ht (len := len) (cap := cc - c) true he hb h1' (by omega) w
                          dsimp only
                          cases h9 : Nat.beq b 0 with
                          | true =>
                            have h9' := Nat.eq_of_beq_eq_true h9
                            subst h9'
                            refine hfin _ _ (VR.grown q c cc h1p hpc) ?_
                            rw [h3, run_slL hd hi0 hbd]
                            simp [Addr.add]
                          | false =>
                            dsimp only
                            cases h10 : Nat.ble (Nat.succ b) q with
                            | false => exact trivial
                            | true =>
                              have h10' : b < q := Nat.le_of_ble_eq_true h10
                              refine hfin _ _ (VR.grown (q - b) (c + b) cc h1p hpc) ?_
                              rw [h3, run_slL hd hi0 hbd, if_neg (by omega)]
                              simp [add_at, Nat.add_assoc, Nat.sub_sub]
    | _ => exact trivial
noncomputable def resP (ng : Nat) (pl : Nat → Option (Nat × Nat)) : List (Nat × Operand) → Option (List ((Nat × Nat) × Opd))
  | [] => some []
  | (i, x) :: r => match pl i with
    | some q => match resP ng pl r with
      | some l => some ((q, cOpd ng x) :: l)
      | none => none
    | none => none
noncomputable def lfill (tm : Fr) (ps : List ((Nat × Nat) × Opd)) : List Value → Option (List Value) :=
  List.rec (motive := fun _ => List Value → Option (List Value)) (fun cs => some cs)
    (fun p _ ih cs => match ev tm p.2 with
      | some v => match Nat.beq (llen v.cells.toList) p.1.2 with
        | true => match lput p.1.1 v.cells.toList cs with
          | some cs2 => ih cs2
          | none => none
        | false => none
      | none => none) ps
theorem fold_put (off : Nat) : ∀ (vs : List Value) (k : Nat) (arr : Array Value), off + k + vs.length ≤ arr.size →
    ((vs.zipIdx k).foldl (fun cs (p : Value × Nat) => cs.setIfInBounds (off + p.2) p.1) arr).toList = arr.toList.take (off + k) ++ vs ++ arr.toList.drop (off + k + vs.length)
  | [], k, arr, h => by simp
  | v :: vs, k, arr, h => by
    have hi : off + k < arr.size := by simp at h; omega
    simp only [List.zipIdx_cons, List.foldl_cons]
    rw [fold_put off vs (k + 1) (arr.setIfInBounds (off + k) v) (by simp at h ⊢; omega)]
    have e := list_seg_step arr.toList (off + k) v vs (by simp at h ⊢; omega)
    simpa [Array.toList_setIfInBounds, Nat.add_assoc, Nat.add_comm 1] using e
theorem fill_ok {E : Env} {ng nt : Nat} {df : List Deferred} {tm : Fr} {a : Act} (hg : Glob E ng) (ht : TmR E nt df tm a) (pl : Nat → Option (Nat × Nat)) : ∀ (parts : List (Nat × Operand)) (ps : List ((Nat × Nat) × Opd)) (cs cs' r : List Value), resP ng pl parts = some ps → lfill tm ps cs = some r → VsR E cs cs' →
    ∃ r', Instr.fill pl cs'.toArray (parts.map fun p => (p.1, a.eval p.2)) = some r'.toArray ∧ VsR E r r'
  | [], ps, cs, cs', r, hp, hf, hv => by
    have hp' : some [] = some ps := hp
    injection hp' with hp'
    subst hp'
    have hf' : some cs = some r := hf
    injection hf' with hf'
    subst hf'
    exact ⟨cs', rfl, hv⟩
  | (i, x) :: parts, ps, cs, cs', r, hp, hf, hv => by
    unfold resP at hp
    cases hq : pl i with
    | none => rw [hq] at hp; cases hp
    | some q =>
      rw [hq] at hp
      dsimp only at hp
      cases hr : resP ng pl parts with
      | none => rw [hr] at hp; cases hp
      | some l =>
        rw [hr] at hp
        injection hp with hp
        subst hp
        have hf' : (match ev tm (cOpd ng x) with
          | some v => match Nat.beq (llen v.cells.toList) q.2 with
            | true => match lput q.1 v.cells.toList cs with
              | some cs2 => lfill tm l cs2
              | none => none
            | false => none
          | none => none) = some r := hf
        cases hx : ev tm (cOpd ng x) with
        | none => rw [hx] at hf'; cases hf'
        | some v =>
          have hvx := (ev_ok hg ht hx).cells
          rw [hx] at hf'
          dsimp only at hf'
          cases hn : Nat.beq (llen v.cells.toList) q.2 with
          | false => rw [hn] at hf'; cases hf'
          | true =>
            rw [hn] at hf'
            dsimp only at hf'
            cases hl : lput q.1 v.cells.toList cs with
            | none => rw [hl] at hf'; cases hf'
            | some cs2 =>
              rw [hl] at hf'
              dsimp only at hf'
              obtain ⟨hle, rfl⟩ := lput_eq _ _ _ _ hl
              have hv2 := hv.put hvx q.1
              obtain ⟨r', h1, h2⟩ := fill_ok hg ht pl parts l _ _ r hr hf' hv2
              refine ⟨r', ?_, h2⟩
              obtain ⟨off, size⟩ := q
              have hn' := Nat.eq_of_beq_eq_true hn
              rw [llen_eq] at hn'
              have e1 := hvx.length
              have e2 := hv.length
              simp only [List.map_cons, Instr.fill, hq]
              generalize (a.eval x).cells = C at *
              have hsz : C.size = size := by
                have : C.toList.length = size := by rw [← e1]; exact hn'
                simpa using this
              have hcs : off + C.size ≤ cs'.toArray.size := by
                have h3 : C.toList.length = C.size := by simp
                have h4 : cs'.toArray.size = cs'.length := by simp
                simp only at hle
                omega
              have hc : ¬ ((decide (C.size ≠ size) || decide (off + C.size > cs'.toArray.size)) = true) := by
                simp only [Bool.or_eq_true, decide_eq_true_eq]
                omega
              rw [if_neg hc]
              have hfold : C.zipIdx.foldl (fun cs (p : Value × Nat) => cs.setIfInBounds (off + p.2) p.1) cs'.toArray = (cs'.take off ++ C.toList ++ cs'.drop (off + C.toList.length)).toArray := by
                apply Array.ext'
                rw [← Array.foldl_toList, Array.toList_zipIdx, fold_put off C.toList 0 cs'.toArray (by simpa using hcs)]
                simp
              have hfe : C.zipIdx.foldl (fun cs (x : Value × Nat) => match x with | (c, j) => cs.setIfInBounds (off + j) c) cs'.toArray = (cs'.take off ++ C.toList ++ cs'.drop (off + C.toList.length)).toArray := hfold
              rw [hfe]
              exact h1
noncomputable def xBuild (z : List Value) (ps : List ((Nat × Nat) × Opd)) : X := fun tm h => match lfill tm ps z with
  | some l => .val (.agg l.toArray) h
  | none => .fail
noncomputable def placesOf (P : Program) (t : TypeId) : Option (Nat → Option (Nat × Nat)) := match P.underlying t with
  | some (.array _ e) => match P.info? e with
    | some i => some fun k => some (k * i.size, i.size)
    | none => none
  | some (.struct fs) => match fs.toList.mapM (fun f => (P.info? f.type).map fun i => (f.offset, i.size)) with
    | some l => some fun k => l.toArray[k]?
    | none => none
  | _ => none
theorem does_build {P : Program} {ng nt : Nat} {o : Oper} {t : TypeId} {parts : Array (Nat × Operand)} (ho : o.op = .build t parts) {i : TypeInfo} {z : Value} (hi : P.info? t = some i) (hz : i.zero = some z) (hgz : gr 6 z = true)
    {pl : Nat → Option (Nat × Nat)} (hpl : placesOf P t = some pl) {ps : List ((Nat × Nat) × Opd)} (hps : resP ng pl parts.toList = some ps) : Does P ng nt o (xBuild z.cells.toList ps) := by
  intro tm h E F w a df s hg ht
  unfold xBuild
  cases hl : lfill tm ps z.cells.toList with
  | none => exact trivial
  | some l =>
    obtain ⟨l', h1, h2⟩ := fill_ok hg ht pl parts.toList ps _ _ l hps hl (gr_ok (E := E) 6 z hgz).cells
    refine Told.same s (.agg h2) ?_
    rw [Array.toArray_toList] at h1
    have hb : P.built t (parts.map fun (p : Nat × Operand) => (p.1, a.eval p.2)).toList = some l'.toArray := by
      have e1 : (parts.map fun (p : Nat × Operand) => (p.1, a.eval p.2)).toList = parts.toList.map fun p => (p.1, a.eval p.2) := by simp
      rw [e1]
      unfold Program.built
      unfold placesOf at hpl
      cases hu : P.underlying t with
      | none => rw [hu] at hpl; cases hpl
      | some d =>
        rw [hu] at hpl
        cases d with
        | array n e =>
          dsimp only at hpl
          cases he : P.info? e with
          | none => rw [he] at hpl; cases hpl
          | some ie =>
            rw [he] at hpl
            injection hpl with hpl
            subst hpl
            simp [hi, hz, he, h1]
        | struct fs =>
          dsimp only at hpl
          cases hm : fs.toList.mapM (fun f => (P.info? f.type).map fun i => (f.offset, i.size)) with
          | none => rw [hm] at hpl; cases hpl
          | some q =>
            rw [hm] at hpl
            injection hpl with hpl
            subst hpl
            simp [hi, hz, hm]
            simpa using h1
        | _ => cases hpl
    have hr := run_build w t _ _ hb
    simp only [execOp, ho]
    rw [Sem.run_bind, hr]
    rfl
noncomputable def xBuildS (e : TypeId) (len : Nat) (z : List Value) (ps : List ((Nat × Nat) × Opd)) : X := fun tm h => match lfill tm ps z with
  | some l => .val (.slice (some ⟨h.n, 0, none⟩) len len) ⟨h.t.set (.cells e l) h.n, Nat.succ h.n⟩
  | none => .fail
theorem does_buildS {P : Program} {ng nt : Nat} {o : Oper} {t e : TypeId} {len : Nat} {parts : Array (Nat × Operand)} (ho : o.op = .buildSlice t len parts) (hu : P.underlying t = some (.slice e)) {i : TypeInfo} {z : Value} (hi : P.info? e = some i) (hz : i.zero = some z)
    (hsmall : ¬ len * i.size > 2 ^ 24) (hpos : ¬ len * i.size = 0) {zs : List Value} (hzs : zs = ((Array.range (len * i.size)).map (z.cells[· % z.cells.size]!)).toList) (hgz : zs.all (gr 6) = true)
    {ps : List ((Nat × Nat) × Opd)} (hps : resP ng (fun k => some (k * i.size, i.size)) parts.toList = some ps) : Does P ng nt o (xBuildS e len zs ps) := by
  intro tm h E F w a df s hg ht
  unfold xBuildS
  cases hl : lfill tm ps zs with
  | none => exact trivial
  | some l =>
    obtain ⟨l', h1, h2⟩ := fill_ok hg ht _ parts.toList ps _ _ l hps hl (vsr_of_all (E := E) (gr_ok 6) zs hgz)
    have e1 : (parts.map fun (p : Nat × Operand) => (p.1, a.eval p.2)).toList = parts.toList.map fun p => (p.1, a.eval p.2) := by simp
    rw [hzs, Array.toArray_toList, ← e1] at h1
    have hr := run_buildSlice w t e len _ _ i z hu hi hz hsmall hpos h1
    refine fun hf => ⟨_, _, _, _, Go.cells s (hf h.n (Nat.le_refl _) (Nat.lt_succ_self _)) e h2, .inl ⟨_, rfl, VR.slice (o := 0) len len (putE_at _ _ _) rfl⟩, ?_⟩
    simp only [execOp, ho]
    rw [Sem.run_bind, hr]
    rfl
noncomputable def xMk0 (e : TypeId) : X := fun _ h => .val (.slice (some ⟨h.n, 0, none⟩) 0 0) ⟨h.t.set (.cells e []) h.n, Nat.succ h.n⟩
noncomputable def xBS0 (e : TypeId) (len : Nat) (l : List (Nat × Operand)) : X := match len with
  | 0 => match l with
    | [] => xMk0 e
    | _ => xFail
  | _ => xFail
theorem does_buildS0 {P : Program} {ng nt : Nat} {o : Oper} {t e : TypeId} {len : Nat} {parts : Array (Nat × Operand)} (ho : o.op = .buildSlice t len parts) (hu : P.underlying t = some (.slice e)) {i : TypeInfo} (hi : P.info? e = some i) : Does P ng nt o (xBS0 e len parts.toList) := by
  unfold xBS0
  split
  · split
    · rename_i hp
      have hp' : parts = #[] := Array.ext' hp
      subst hp'
      intro tm h E F w a df s hg ht
      refine fun hf => ⟨_, _, _, _, Go.cells s (hf h.n (Nat.le_refl _) (Nat.lt_succ_self _)) e (.nil : VsR E [] []), .inl ⟨_, rfl, VR.slice (o := 0) 0 0 (putE_at _ _ _) rfl⟩, ?_⟩
      have hr : (Instr.buildSlice t 0 #[]).run P w = .ok (.slice (some ⟨w.heap.size, 0, none⟩) 0 0) (w.alloc (.cells #[] e (0, 0))) := by
        have hz : (Array.range 0).map (fun _ => (default : Value)) = #[] := by apply Array.ext'; simp
        simp [Instr.buildSlice, run_underlying hu, run_size hi, Instr.fill, newRow, hz]
      simp [execOp, ho, hr]
    · exact does_fail _ _ _ _
  · exact does_fail _ _ _ _
theorem map_arr {α β : Type} (f : α → β) (xs : Array α) : (xs.toList.map f).toArray = xs.map f := by
  apply Array.ext'
  rw [Array.toList_map]
noncomputable def evs (tm : Fr) (xs : List Opd) : Option (List Value) :=
  List.rec (motive := fun _ => Option (List Value)) (some []) (fun x _ ih => match ev tm x with
    | some v => match ih with
      | some vs => some (v :: vs)
      | none => none
    | none => none) xs
theorem evs_ok {E : Env} {ng nt : Nat} {df : List Deferred} {tm : Fr} {a : Act} (hg : Glob E ng) (ht : TmR E nt df tm a) : ∀ (xs : List Operand) (vs : List Value), evs tm (xs.map (cOpd ng)) = some vs → VsR E vs (xs.map a.eval)
  | [], vs, h => by
    have h' : some [] = some vs := h
    injection h' with h'
    subst h'
    exact .nil
  | x :: xs, vs, h => by
    have h' : (match ev tm (cOpd ng x) with
      | some v => match evs tm (xs.map (cOpd ng)) with
        | some vs => some (v :: vs)
        | none => none
      | none => none) = some vs := h
    cases hx : ev tm (cOpd ng x) with
    | none => rw [hx] at h'; cases h'
    | some v =>
      rw [hx] at h'
      dsimp only at h'
      cases hs : evs tm (xs.map (cOpd ng)) with
      | none => rw [hs] at h'; cases h'
      | some l =>
        rw [hs] at h'
        injection h' with h'
        subst h'
        exact .cons (ev_ok hg ht hx) (evs_ok hg ht xs l hs)
noncomputable def xFunc (f : FuncId) (first captured : List Opd) : X := fun tm h => match evs tm first with
  | some l => match evs tm captured with
    | some m => .val (.func (.func f) l.toArray m.toArray) h
    | none => .fail
  | none => .fail
theorem does_func {P : Program} {ng nt : Nat} {o : Oper} {f : FuncId} {first captured : Array Operand} (ho : o.op = .makeFunc (.func f) first captured) : Does P ng nt o (xFunc f (first.toList.map (cOpd ng)) (captured.toList.map (cOpd ng))) := by
  intro tm h E F w a df s hg ht
  unfold xFunc
  cases h1 : evs tm (first.toList.map (cOpd ng)) with
  | none => exact trivial
  | some l =>
    dsimp only
    cases h2 : evs tm (captured.toList.map (cOpd ng)) with
    | none => exact trivial
    | some m =>
      refine Told.same s (.func (evs_ok hg ht _ _ h1) (evs_ok hg ht _ _ h2)) ?_
      have e1 : (first.toList.map a.eval).toArray = first.map a.eval := map_arr _ _
      have e2 : (captured.toList.map a.eval).toArray = captured.map a.eval := map_arr _ _
      rw [e1, e2]
      simp [execOp, ho, Instr.makeFunc]
noncomputable def noNum (P : Program) : Bool := P.funcs.toList.all fun fn => fn.name != "runtime.NumGoroutine"
theorem run_enter {P : Program} (hN : noNum P = true) {f : FuncId} {fn : Func} (hf : P.funcs[f]? = some fn) (hb : fn.body.isSome = true) (args : Array Value) (w : World) : (callFunc f args).run P w = .ok (.enter f args) w := by
  have hn : (fn.name == "runtime.NumGoroutine") = false := by
    unfold noNum at hN
    rw [List.all_eq_true] at hN
    have := hN fn (by
      have := Array.mem_of_getElem? hf
      simpa using this)
    simpa using this
  unfold callFunc
  cases hq : fn.body with
  | none => rw [hq] at hb; cases hb
  | some c =>
    have hn2 : ¬ (fn.name = "runtime.NumGoroutine") := by simpa using hn
    simp [hf, hn2, hq]
noncomputable def xCall (f : FuncId) (args : List Opd) : X := fun tm h => match evs tm args with
  | some l => .enter f l h
  | none => .fail
theorem does_call {P : Program} (hN : noNum P = true) {ng nt : Nat} {o : Oper} {f : FuncId} {args : Array Operand} {ts : Array TypeId} (ho : o.op = .call { callee := .value (.func f), args := args, argTypes := ts }) {fn : Func} (hf : P.funcs[f]? = some fn) (hb : fn.body.isSome = true) : Does P ng nt o (xCall f (args.toList.map (cOpd ng))) := by
  intro tm h E F w a df s hg ht
  unfold xCall
  cases h1 : evs tm (args.toList.map (cOpd ng)) with
  | none => exact trivial
  | some l =>
    refine ⟨rfl, _, evs_ok hg ht _ _ h1, ?_⟩
    have e1 : (args.toList.map a.eval).toArray = args.map a.eval := map_arr _ _
    rw [e1]
    have ef : a.eval (.func f) = .func (.func f) #[] #[] := rfl
    simp only [execOp, ho, resolve, ef, Deferred.ofValue]
    rw [Sem.run_bind, Sem.run_pure, Result.andThen_ok]
    simp only [invoke]
    rw [run_enter hN hf hb]
    simp
noncomputable def isB (P : Program) (f : FuncId) : Bool := match P.funcs[f]? with
  | some fn => fn.body.isSome
  | none => false
noncomputable def xCallV (P : Program) (x : Opd) (args : List Opd) : X := fun tm h => match ev tm x with
  | some (.func (.func f) first captured) => match isB P f with
    | true => match evs tm args with
      | some l => .enter f (first.toList ++ (l ++ captured.toList)) h
      | none => .fail
    | false => .fail
  | _ => .fail
theorem does_callV {P : Program} (hN : noNum P = true) {ng nt : Nat} {o : Oper} {x : Operand} {args : Array Operand} {ts : Array TypeId} (ho : o.op = .call { callee := .value x, args := args, argTypes := ts }) : Does P ng nt o (xCallV P (cOpd ng x) (args.toList.map (cOpd ng))) := by
  intro tm h E F w a df s hg ht
  unfold xCallV
  cases hx : ev tm (cOpd ng x) with
  | none => exact trivial
  | some v =>
    have hv := ev_ok hg ht hx
    cases v with
    | func fn first captured =>
      cases fn with
      | func f =>
        dsimp only
        cases hb : isB P f with
        | false => exact trivial
        | true =>
          dsimp only
          cases h1 : evs tm (args.toList.map (cOpd ng)) with
          | none => exact trivial
          | some l =>
            unfold isB at hb
            cases hf : P.funcs[f]? with
            | none => rw [hf] at hb; cases hb
            | some fn =>
              rw [hf] at hb
              generalize hu : Value.func (.func f) first captured = u at hv
              generalize he : a.eval x = u' at hv
              cases hv <;> cases hu
              rename_i xs' ys' hx1 hx2
              refine ⟨rfl, _, hx1.append ((evs_ok hg ht _ _ h1).append hx2), ?_⟩
              have e1 : (args.toList.map a.eval).toArray = args.map a.eval := map_arr _ _
              simp only [execOp, ho, resolve, he, Deferred.ofValue]
              rw [Sem.run_bind, Sem.run_pure, Result.andThen_ok]
              simp only [invoke]
              rw [run_enter hN hf hb]
              simp [← e1, List.append_assoc]
      | _ => exact trivial
    | _ => exact trivial
end Go.Proofs.YtbhkfifmgbcknaaGreatDoor.Ex
