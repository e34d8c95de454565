/-
  A part of the proof of the statement NfaAccepts.
-/
import Derived.Test.YtbhkfifmgbcknaaGreatDoorG13
import Derived.MapKept
import Derived.Laws.StructEq
import Derived.Laws.MakeOwn
import Derived.Laws.Small
set_option linter.unusedSimpArgs false
set_option linter.unusedVariables false
namespace Go.Proofs.YtbhkfifmgbcknaaGreatDoor.Ex
open Go Go.RowKit Go.MapKept
noncomputable def xMkMap : X := fun _ h => .val (.map (some h.n)) ⟨h.t.set (.map []) h.n, Nat.succ h.n⟩
theorem does_mkMap {P : Program} {ng nt : Nat} {o : Oper} {t : TypeId} (ho : o.op = .makeMap t none) : Does P ng nt o xMkMap := by
  intro tm h E F w a df s _ _
  refine fun hf => ⟨_, _, _, _, Go.new s (hf h.n (Nat.le_refl _) (Nat.lt_succ_self _)) (.map #[] 0) (.map []) none (fun _ _ _ hb => ⟨rfl, rfl, _, _, hb, .nil, stamped_empty 0⟩), .inl ⟨_, rfl, VR.map (putE_at _ _ _)⟩, ?_⟩
  have hr : (Instr.makeMap t none).run P w = .ok (.map (some w.heap.size)) (w.alloc (.map #[] 0)) := rfl
  simp [execOp, ho, hr]
noncomputable def kOk (d : TypeDesc) (v : Value) : Bool := match d with
  | .int k => match v with
    | .int k' _ => Nat.beq (ikN k) (ikN k')
    | _ => false
  | .string => match v with
    | .string _ => true
    | _ => false
  | _ => false
theorem kOk_inv {E : Env} {d : TypeDesc} {v v' : Value} (h : kOk d v = true) (hv : VR E v v') : v' = v := by
  cases v with
  | int k n => exact hv.int_inv
  | string s => exact hv.string_inv
  | _ => cases d <;> cases h
noncomputable def kEq (a b : Value) : Option Bool := match a with
  | .int k x => match b with
    | .int k' y => match Nat.beq (ikN k) (ikN k') with
      | true => some (ieq x y)
      | false => none
    | _ => none
  | .string s => match b with
    | .string t => some (beqL s.data.toList t.data.toList)
    | _ => none
  | _ => none
theorem kEq_ok {E : Env} {d : TypeDesc} {k c c' : Value} {b : Bool} (hk : kOk d k = true) (hc : VR E c c') (h : kEq k c = some b) : Instr.sameNow d k c' = some b ∧ (b = true → c' = k) ∧ (b = false → c' ≠ k) := by
  unfold kEq at h
  cases k with
  | int q x =>
    cases c with
    | int q' y =>
      dsimp only at h
      cases hq : Nat.beq (ikN q) (ikN q') with
      | false => rw [hq] at h; cases h
      | true =>
        rw [hq] at h
        injection h with h
        have e := ikN_inj hq
        subst e
        rw [hc.int_inv]
        rw [ieq_eq] at h
        cases d with
        | int q2 =>
          refine ⟨?_, fun hb => ?_, fun hb he => ?_⟩
          · simp [Instr.sameNow, h]
          · subst hb
            have : x = y := by simpa using h
            rw [this]
          · subst hb
            cases he
            simp at h
        | _ => cases hk
    | _ => cases h
  | string s =>
    cases c with
    | string t =>
      dsimp only at h
      injection h with h
      rw [hc.string_inv]
      have hst : ∀ u v : ByteArray, (u == v) = (u.data.toList == v.data.toList) := fun u v => by
        apply Bool.eq_iff_iff.2
        rw [bytes_beq]
        constructor
        · intro e; rw [e]; exact beq_self_eq_true _
        · intro e
          have e' : u.data.toList = v.data.toList := by simpa using e
          cases u; cases v
          simp only [Array.toList_inj] at e'
          rw [e']
      rw [beqL_eq] at h
      cases d with
      | string =>
        refine ⟨?_, fun hb => ?_, fun hb he => ?_⟩
        · simp only [Instr.sameNow]
          rw [hst, h]
        · subst hb
          have : s = t := (bytes_beq s t).1 (by rw [hst]; exact h)
          rw [this]
        · subst hb
          cases he
          simp at h
      | _ => cases hk
    | _ => cases h
  | _ => cases h
noncomputable def mfind (k : Value) (es : List (Value × Value)) : Nat → Option (Option (Nat × Value)) :=
  List.rec (motive := fun _ => Nat → Option (Option (Nat × Value))) (fun _ => some none)
    (fun e _ ih i => match kEq k e.1 with
      | some true => some (some (i, e.2))
      | some false => ih (Nat.succ i)
      | none => none) es
theorem mfind_ok {E : Env} {d : TypeDesc} {k : Value} (hk : kOk d k = true) : ∀ {es : List (Value × Value)} {es' : List MapEntry}, MsR E es es' → ∀ (i : Nat) {r : Option (Nat × Value)}, mfind k es i = some r →
    (r = none ∧ Instr.findNow d k es' i = some none ∧ ∀ x ∈ es', x.key ≠ k) ∨ ∃ j v v' b, r = some (i + j, v) ∧ Instr.findNow d k es' i = some (some (i + j, v')) ∧ VR E v v' ∧ es'[j]? = some ⟨k, v', b⟩
  | _, _, .nil, i, r, h => by
    have h' : some none = some r := h
    injection h' with h'
    exact .inl ⟨h'.symm, rfl, fun _ h => nomatch h⟩
  | _, _, .cons (k := c) (v := v) (k' := c') (v' := v') (b := b) (es := es) (es' := es') hc hv hm, i, r, h => by
    have h' : (match kEq k c with
      | some true => some (some (i, v))
      | some false => mfind k es (Nat.succ i)
      | none => none) = some r := h
    cases he : kEq k c with
    | none => rw [he] at h'; cases h'
    | some q =>
      obtain ⟨h1, h2, h2'⟩ := kEq_ok hk hc he
      rw [he] at h'
      cases q with
      | true =>
        injection h' with h'
        have e := h2 rfl
        subst e
        exact .inr ⟨0, v, v', b, h'.symm, by simp [Instr.findNow, h1], hv, rfl⟩
      | false =>
        rcases mfind_ok hk hm (i + 1) h' with ⟨h3, h4, h7⟩ | ⟨j, u, u', b', h3, h4, h5, h6⟩
        · refine .inl ⟨h3, by simp [Instr.findNow, h1, h4], fun x hx => ?_⟩
          rcases List.mem_cons.1 hx with rfl | hx
          · exact h2' rfl
          · exact h7 x hx
        · exact .inr ⟨j + 1, u, u', b', by rw [h3]; congr 2; omega, by simp [Instr.findNow, h1, h4]; omega, h5, by simpa using h6⟩
theorem kOk_is {d : TypeDesc} {k : Value} (h : kOk d k = true) : IsKey d k := by
  cases d with
  | int q =>
    cases k with
    | int q' n =>
      have e := ikN_inj h
      subst e
      simp [IsKey]
    | _ => cases h
  | string =>
    cases k with
    | string s => simp [IsKey]
    | _ => cases h
  | _ => cases h
noncomputable def mset (k v : Value) (es : List (Value × Value)) : Nat → List (Value × Value) :=
  List.rec (motive := fun _ => Nat → List (Value × Value)) (fun _ => []) (fun e l ih n => Nat.rec (motive := fun _ => List (Value × Value)) ((k, v) :: l) (fun m _ => e :: ih m) n) es
theorem MsR.mset {E : Env} {k k' v v' : Value} (hk : VR E k k') (hv : VR E v v') : ∀ {es : List (Value × Value)} {es' : List MapEntry}, MsR E es es' → ∀ j, MsR E (mset k v es j) (es'.modify j fun e => { e with key := k', val := v' })
  | _, _, .nil, j => by cases j <;> exact .nil
  | _, _, .cons hc hu hm, 0 => by
    rw [List.modify_zero_cons]
    exact .cons hk hv hm
  | _, _, .cons hc hu hm, j + 1 => by
    rw [List.modify_succ_cons]
    exact .cons hc hu (MsR.mset hk hv hm j)
noncomputable def madd (k v : Value) (es : List (Value × Value)) : List (Value × Value) :=
  List.rec (motive := fun _ => List (Value × Value)) [(k, v)] (fun e _ ih => e :: ih) es
theorem MsR.madd {E : Env} {k k' v v' : Value} (b : Nat) (hk : VR E k k') (hv : VR E v v') : ∀ {es : List (Value × Value)} {es' : List MapEntry}, MsR E es es' → MsR E (madd k v es) (es' ++ [⟨k', v', b⟩])
  | _, _, .nil => .cons hk hv .nil
  | _, _, .cons hc hu hm => .cons hc hu (MsR.madd b hk hv hm)
noncomputable def lookOut (ok : Bool) (v : Value) (b : Bool) (h : H) : Out := match ok with
  | true => .val (.tuple #[v, .bool b]) h
  | false => .val v h
noncomputable def xLook (d : TypeDesc) (z : Value) (ok : Bool) (m k : Opd) : X := fun tm h => match ev tm m with
  | some (.map (some i)) => match ev tm k with
    | some kv => match kOk d kv with
      | true => match h.t.get i with
        | some (.map es) => match mfind kv es 0 with
          | some (some (_, v)) => lookOut ok v true h
          | some none => lookOut ok z false h
          | none => .fail
        | _ => .fail
      | false => .fail
    | none => .fail
  | some (.map none) => match ev tm k with
    | some kv => match kOk d kv with
      | true => lookOut ok z false h
      | false => .fail
    | none => .fail
  | _ => .fail
theorem VR.map0_inv {E : Env} {v : Value} (h : VR E (.map none) v) : v = .map none := by cases h; rfl
theorem told_look {P : Program} {o : Oper} {a : Act} {E : Env} {F : Full} {h : H} {w : World} (s : St E F h w) (ok b : Bool) {v v' : Value} (hv : VR E v v')
    (hr : (execOp a.eval o).run P w = .ok (.value (if ok then .tuple #[v', .bool b] else v')) w) : Told P o a E F h w (lookOut ok v b h) := by
  cases ok with
  | true => exact Told.same s (v' := .tuple #[v', .bool b]) (VR.tuple (xs := [v, .bool b]) (xs' := [v', .bool b]) (.cons hv (.cons (.bool b) .nil))) (by simpa using hr)
  | false => exact Told.same s hv (by simpa using hr)
theorem does_look {P : Program} {ng nt : Nat} {o : Oper} {t kt et : TypeId} {x y : Operand} {ok : Bool} (ho : o.op = .lookup t x y ok) {d : TypeDesc} {i : TypeInfo} {z : Value} (hm : P.underlying t = some (.map kt et)) (hd : P.underlying kt = some d) (hi : P.info? et = some i) (hz : i.zero = some z) (hgz : gr 6 z = true) :
    Does P ng nt o (xLook d z ok (cOpd ng x) (cOpd ng y)) := by
  intro tm h E F w a df s hg ht
  unfold xLook
  cases hx : ev tm (cOpd ng x) with
  | none => exact trivial
  | some v =>
    have hv := ev_ok hg ht hx
    cases v with
    | map q =>
      cases hy : ev tm (cOpd ng y) with
      | none => cases q <;> exact trivial
      | some kv =>
        have hkv := ev_ok hg ht hy
        cases hk : kOk d kv with
        | false => cases q <;> (dsimp only; rw [hk]; exact trivial)
        | true =>
          have ek := kOk_inv hk hkv
          have hck := fun e => run_checkKey (w := w) hd (kOk_is hk) e 9999
          cases q with
          | none =>
            have em := hv.map0_inv
            dsimp only
            rw [hk]
            refine told_look s ok false (gr_ok 6 z hgz) ?_
            have hfk := run_findKey (w := w) (k := kv) (l := []) (a := none) hd rfl
            cases ok <;> simp [execOp, ho, em, ek, Instr.lookup, run_underlying hm, hck, hfk, run_zero hi hz]
          | some b =>
            obtain ⟨p, h1, em⟩ := hv.map_inv
            dsimp only
            rw [hk]
            dsimp only
            cases hb : h.t.get b with
            | none => exact trivial
            | some e =>
              cases e with
              | map es =>
                dsimp only
                obtain ⟨-, -, arr, clk, h3, h4, -⟩ := s.at_ hb h1
                cases hf : mfind kv es 0 with
                | none => exact trivial
                | some r =>
                  rcases mfind_ok hk h4 0 hf with ⟨rfl, h5, -⟩ | ⟨j, u, u', bb, rfl, h5, h6, -⟩
                  · refine told_look s ok false (gr_ok 6 z hgz) ?_
                    have hfk := run_findKey (w := w) hd h5
                    cases ok <;> simp [execOp, ho, em, ek, Instr.lookup, run_underlying hm, MapKept.run_getObj_map h3, hck, hfk, run_zero hi hz]
                  · refine told_look s ok true h6 ?_
                    have hfk := run_findKey (w := w) hd h5
                    cases ok <;> simp [execOp, ho, em, ek, Instr.lookup, run_underlying hm, MapKept.run_getObj_map h3, hck, hfk]
              | _ => exact trivial
    | _ => exact trivial
noncomputable def xUpd (d : TypeDesc) (m k v : Opd) : X := fun tm h => match ev tm m with
  | some (.map (some i)) => match ev tm k with
    | some kv => match kOk d kv with
      | true => match ev tm v with
        | some vv => match h.t.get i with
          | some (.map es) => match mfind kv es 0 with
            | some (some (j, _)) => .val undef ⟨h.t.set (.map (mset kv vv es j)) i, h.n⟩
            | some none => .val undef ⟨h.t.set (.map (madd kv vv es)) i, h.n⟩
            | none => .fail
          | _ => .fail
        | none => .fail
      | false => .fail
    | none => .fail
  | _ => .fail
theorem does_upd {P : Program} {ng nt : Nat} {o : Oper} {t kt et : TypeId} {x y z : Operand} (ho : o.op = .mapUpdate t x y z ∨ o.op = .insert t x y z) {d : TypeDesc} (hm : P.underlying t = some (.map kt et)) (hd : P.underlying kt = some d) :
    Does P ng nt o (xUpd d (cOpd ng x) (cOpd ng y) (cOpd ng z)) := by
  intro tm h E F w a df s hg ht
  unfold xUpd
  cases hx : ev tm (cOpd ng x) with
  | none => exact trivial
  | some v =>
    have hv := ev_ok hg ht hx
    cases v with
    | map q =>
      cases q with
      | none => exact trivial
      | some b =>
        dsimp only
        obtain ⟨p, h1, em⟩ := hv.map_inv
        cases hy : ev tm (cOpd ng y) with
        | none => exact trivial
        | some kv =>
          have hkv := ev_ok hg ht hy
          dsimp only
          cases hk : kOk d kv with
          | false => exact trivial
          | true =>
            dsimp only
            have ek := kOk_inv hk hkv
            have hck := fun e => run_checkKey (w := w) hd (kOk_is hk) e 9999
            cases hz : ev tm (cOpd ng z) with
            | none => exact trivial
            | some vv =>
              have hvv := ev_ok hg ht hz
              dsimp only
              cases hb : h.t.get b with
              | none => exact trivial
              | some e =>
                cases e with
                | map es =>
                  dsimp only
                  obtain ⟨e1, e2, arr, clk, h3, h4, hst⟩ := s.at_ hb h1
                  have hput : ∀ (es2 : List (Value × Value)) (arr2 : Array MapEntry) (clk2 : Nat), MsR E es2 arr2.toList → Stamped arr2 clk2 →
                      Go E F h w E (putF F b (.map es2)) ⟨h.t.set (.map es2) b, h.n⟩ { w with heap := w.heap.setIfInBounds p.b (.map arr2 clk2) } := fun es2 arr2 clk2 hm2 hs2 =>
                    Go.put s hb h1 ⟨e1, e2, arr2, clk2, (MapKept.heap_set h3).1, hm2, hs2⟩ (fun k hk => (MapKept.heap_set h3).2 k hk) (by simp) rfl rfl rfl
                  cases hf : mfind kv es 0 with
                  | none => exact trivial
                  | some r =>
                    rcases mfind_ok hk h4 0 hf with ⟨rfl, h5, h8⟩ | ⟨j, u, u', bb, rfl, h5, h6, h7⟩
                    · have hfk := run_findKey (w := w) hd h5
                      refine fun _ => ⟨_, _, _, _, hput _ (arr.push ⟨kv, a.eval z, clk⟩) (clk + 1) ?_ (stamped_push hst h8), .inr ⟨rfl, rfl⟩, ?_⟩
                      · rw [Array.toList_push]
                        exact h4.madd clk (ek ▸ hkv) hvv
                      · rcases ho with ho | ho <;> simp [execOp, ho, em, ek, Instr.mapUpdate, run_underlying hm, MapKept.run_getObj_map h3, hck, hfk, run_setObj_map _ h3]
                    · have hfk := run_findKey (w := w) hd h5
                      have h7' : arr[j]? = some ⟨kv, u', bb⟩ := by simpa using h7
                      have hks := run_keyThatStays (P := P) (w := w) (kOk_is hk)
                      simp only [Nat.zero_add] at hfk ⊢
                      refine fun _ => ⟨_, _, _, _, hput _ (arr.modify j fun e => { e with key := kv, val := a.eval z }) clk ?_ (stamped_modify hst j _ (fun _ _ => rfl) (fun e _ he => by rw [h7'] at he; cases he; rfl)), .inr ⟨rfl, rfl⟩, ?_⟩
                      · rw [Array.toList_modify]
                        exact MsR.mset (ek ▸ hkv) hvv h4 j
                      · rcases ho with ho | ho <;> simp [execOp, ho, em, ek, Instr.mapUpdate, run_underlying hm, MapKept.run_getObj_map h3, hck, hfk, h7', hks, run_setObj_map _ h3]
                | _ => exact trivial
    | _ => exact trivial
end Go.Proofs.YtbhkfifmgbcknaaGreatDoor.Ex
namespace Go.Proofs.YtbhkfifmgbcknaaGreatDoor.Ex
open Go Go.RowKit
theorem run_part1 {P : Program} {elem : TypeId} {k : IntKind} (he : P.underlying elem = some (.int k)) {xs : Array Value} {o : Nat} {v : Value} (hv : xs[o]? = some v) (w : World) : (part elem xs o).run P w = .ok v w := by
  have ha : (isAgg elem).run P w = .ok false w := run_isAgg he w
  simp [part, ha, hv]
theorem run_eq_ints {P : Program} {t elem : TypeId} {len : Nat} {k k' : IntKind} {i : TypeInfo} (ht : P.underlying t = some (.array len elem)) (he : P.underlying elem = some (.int k)) (hi : P.info? elem = some i) (hs : i.size = 1) (d : Nat) (l1 l2 : List Int) (h1 : l1.length = len) (h2 : l2.length = len) (w : World) :
    (Op.equalIn (d + 2) t (.agg (l1.map (.int k')).toArray) (.agg (l2.map (.int k')).toArray)).run P w = .ok (decide (l1 = l2)) w := by
  rw [Op.equalIn]
  simp only [Sem.run_bind, run_underlying ht, Result.andThen_ok, run_size hi, hs]
  rw [Std.Legacy.Range.forIn_eq_forIn_range']
  have key : ∀ (m s : Nat), s + m = len → (Sem.run P
          (forIn (List.range' s m) ((none : Option Bool), ()) fun i __s => do
            let __do_lift ← part elem (List.map (Value.int k') l1).toArray (i * 1)
            let __do_lift_1 ← part elem (List.map (Value.int k') l2).toArray (i * 1)
            let __do_lift ← Op.equalIn (d + 1) elem __do_lift __do_lift_1
            if (!__do_lift) = true then pure (ForInStep.done (some false, ())) else pure (ForInStep.yield (none, ())))
          w) = .ok (if l1.drop s = l2.drop s then none else some false, ()) w := by
    intro m
    induction m with
    | zero =>
      intro s hsm
      have e1 : l1.drop s = [] := List.drop_eq_nil_of_le (by omega)
      have e2 : l2.drop s = [] := List.drop_eq_nil_of_le (by omega)
      rw [e1, e2]
      simp
    | succ m ih =>
      intro s hsm
      have hs1 : s < l1.length := by omega
      have hs2 : s < l2.length := by omega
      have p1 := run_part1 he (xs := (l1.map (Value.int k')).toArray) (o := s * 1) (v := .int k' l1[s]) (by simp [hs1]) w
      have p2 := run_part1 he (xs := (l2.map (Value.int k')).toArray) (o := s * 1) (v := .int k' l2[s]) (by simp [hs2]) w
      have q := run_equalIn_int w d elem k' k l1[s] l2[s] he
      have d1 := List.drop_eq_getElem_cons hs1
      have d2 := List.drop_eq_getElem_cons hs2
      have hiff : (l1.drop s = l2.drop s) ↔ (l1[s] = l2[s] ∧ l1.drop (s + 1) = l2.drop (s + 1)) := by rw [d1, d2, List.cons.injEq]
      clear d1 d2
      simp only [hiff]
      rw [List.range'_succ, List.forIn_cons]
      simp only [Sem.run_bind, p1, p2, q, Result.andThen_ok]
      by_cases hx : l1[s] = l2[s]
      · simp only [hx, beq_self_eq_true, Bool.not_true, Bool.false_eq_true, if_false, Sem.run_pure, Result.andThen_ok, true_and]
        exact ih (s + 1) (by omega)
      · have hb : (l1[s] == l2[s]) = false := by simpa using hx
        simp only [hb, hx, Bool.not_false, if_true, false_and, if_false, Sem.run_pure, Result.andThen_ok]
  simp only [Std.Legacy.Range.size, Nat.sub_zero, Nat.add_sub_cancel, Nat.div_one]
  rw [key len 0 (by omega)]
  simp only [List.drop_zero, Result.andThen_ok]
  by_cases hx : l1 = l2
  · simp [hx]
  · simp [hx]
noncomputable def intsOf (k : IntKind) (l : List Value) : Option (List Int) :=
  List.rec (motive := fun _ => Option (List Int)) (some []) (fun v _ ih => match v with
    | .int k' n => match Nat.beq (ikN k) (ikN k') with
      | true => match ih with
        | some r => some (n :: r)
        | none => none
      | false => none
    | _ => none) l
theorem intsOf_ok {E : Env} {k : IntKind} : ∀ {l l' : List Value} {r : List Int}, VsR E l l' → intsOf k l = some r → l' = r.map (.int k)
  | _, _, r, .nil, h => by
    have h' : some [] = some r := h
    cases h'
    rfl
  | _, _, r, .cons (v := v) (xs := xs) hv hs, h => by
    cases v with
    | int k' n =>
      have h' : (match Nat.beq (ikN k) (ikN k') with
        | true => match intsOf k xs with
          | some r => some (n :: r)
          | none => none
        | false => none) = some r := h
      cases hq : Nat.beq (ikN k) (ikN k') with
      | false => rw [hq] at h'; cases h'
      | true =>
        rw [hq] at h'
        have e := ikN_inj hq
        subst e
        cases hr : intsOf k xs with
        | none => rw [hr] at h'; cases h'
        | some q =>
          rw [hr] at h'
          cases h'
          rw [hv.int_inv, intsOf_ok hs hr]
          rfl
    | _ => cases h
noncomputable def ilEq (l : List Int) : List Int → Bool :=
  List.rec (motive := fun _ => List Int → Bool) (fun m => List.rec (motive := fun _ => Bool) true (fun _ _ _ => false) m)
    (fun a _ ih m => List.rec (motive := fun _ => Bool) false (fun b m _ => Bool.rec false (ih m) (ieq a b)) m) l
theorem ilEq_eq : ∀ (l m : List Int), ilEq l m = decide (l = m)
  | [], [] => rfl
  | [], _ :: _ => rfl
  | _ :: _, [] => rfl
  | a :: l, b :: m => by
    show Bool.rec (motive := fun _ => Bool) false (ilEq l m) (ieq a b) = _
    rw [ilEq_eq l m, ieq_eq]
    by_cases h : a = b
    · subst h
      simp
    · have hb : (a == b) = false := by simpa using h
      rw [hb]
      simp [h]
noncomputable def xEqA (k : IntKind) (len : Nat) (op : BinOp) (x y : Opd) : X := fun tm h => match ev tm x with
  | some (.agg xs) => match ev tm y with
    | some (.agg ys) => match intsOf k xs.toList with
      | some a => match intsOf k ys.toList with
        | some b => match Nat.beq (llen a) len with
          | true => match Nat.beq (llen b) len with
            | true => eqO op (ilEq a b) h
            | false => .fail
          | false => .fail
        | none => .fail
      | none => .fail
    | _ => .fail
  | _ => .fail
theorem does_eqA {P : Program} {ng nt : Nat} {o : Oper} {op : BinOp} {t t' elem : TypeId} {x y : Operand} {len : Nat} {k : IntKind} {i : TypeInfo} (ho : o.op = .binOp op t x y t') (ht : P.underlying t = some (.array len elem)) (he : P.underlying elem = some (.int k)) (hi : P.info? elem = some i) (hs : i.size = 1) (hm : P.eqGuardType P.depth t = false) :
    Does P ng nt o (xEqA k len op (cOpd ng x) (cOpd ng y)) := by
  intro tm h E F w a df s hg htm
  unfold xEqA
  cases hx : ev tm (cOpd ng x) with
  | none => exact trivial
  | some v =>
    have hv := ev_ok hg htm hx
    cases v with
    | agg xs =>
      cases hy : ev tm (cOpd ng y) with
      | none => exact trivial
      | some u =>
        have hu := ev_ok hg htm hy
        cases u with
        | agg ys =>
          dsimp only
          obtain ⟨xs', ex, hxs⟩ := hv.agg_inv
          obtain ⟨ys', ey, hys⟩ := hu.agg_inv
          cases ha : intsOf k xs.toList with
          | none => exact trivial
          | some p =>
            dsimp only
            cases hb : intsOf k ys.toList with
            | none => exact trivial
            | some q =>
              dsimp only
              cases hl1 : Nat.beq (llen p) len with
              | false => exact trivial
              | true =>
                dsimp only
                cases hl2 : Nat.beq (llen q) len with
                | false => exact trivial
                | true =>
                  dsimp only
                  have e1 : xs' = (p.map (Value.int k)).toArray := by apply Array.ext'; rw [intsOf_ok hxs ha]
                  have e2 : ys' = (q.map (Value.int k)).toArray := by apply Array.ext'; rw [intsOf_ok hys hb]
                  have h1 : p.length = len := by have := Nat.eq_of_beq_eq_true hl1; rwa [llen_eq] at this
                  have h2 : q.length = len := by have := Nat.eq_of_beq_eq_true hl2; rwa [llen_eq] at this
                  have hr := run_eq_ints ht he hi hs 9998 (k' := k) p q h1 h2 w
                  rw [ilEq_eq]
                  have hgd := fun op => run_eqGuard_agg (P := P) w op t x y xs' ys' hm
                  rw [e1, e2] at hgd
                  rw [e1] at ex
                  rw [e2] at ey
                  have h3 := run_eql_struct (P := P) w t (p.map (Value.int k)).toArray (q.map (Value.int k)).toArray
                  have h4 := run_neq_struct (P := P) w t (p.map (Value.int k)).toArray (q.map (Value.int k)).toArray
                  rw [show (10000 : Nat) = 9998 + 2 from rfl, hr] at h3 h4
                  cases op <;> first
                    | exact trivial
                    | (refine Told.same s (.bool _) ?_
                       simp only [execOp, ho, ex, ey]
                       simp [hgd, h3, Result.andThen]; done)
                    | (refine Told.same s (.bool _) ?_
                       rw [bnot_eq]
                       simp only [execOp, ho, ex, ey]
                       simp [hgd, h4, Result.andThen])
        | _ => exact trivial
    | _ => exact trivial
noncomputable def xNeg (x : Opd) : X := fun tm h => match ev tm x with
  | some (.int k n) => .val (.int k (wrapF k (Int.sub 0 n))) h
  | _ => .fail
theorem does_neg {P : Program} {ng nt : Nat} {o : Oper} {t : TypeId} {x : Operand} (ho : o.op = .unOp .neg t x) : Does P ng nt o (xNeg (cOpd ng x)) := by
  intro tm h E F w a df s hg ht
  unfold xNeg
  cases hx : ev tm (cOpd ng x) with
  | none => exact trivial
  | some v =>
    have hv := ev_ok hg ht hx
    cases v with
    | int k n =>
      dsimp only
      rw [wrapF_eq]
      refine Told.same s (.int k _) ?_
      have e : Int.sub 0 n = 0 - n := rfl
      simp [execOp, ho, hv.int_inv, Op.unary, Op.intArith, e]
    | _ => exact trivial
noncomputable def xMin (x y : Opd) : X := fun tm h => match ev tm x with
  | some (.int k a) => match ev tm y with
    | some (.int _ b) => match ilt b a with
      | true => .val (.int k b) h
      | false => .val (.int k a) h
    | _ => .fail
  | _ => .fail
noncomputable def xMax (x y : Opd) : X := fun tm h => match ev tm x with
  | some (.int k a) => match ev tm y with
    | some (.int _ b) => match ilt a b with
      | true => .val (.int k b) h
      | false => .val (.int k a) h
    | _ => .fail
  | _ => .fail
theorem run_bi {P : Program} {o : Oper} {b : Builtin} {args : Array Operand} {ts : Array TypeId} (ho : o.op = .call { callee := .builtin b, args := args, argTypes := ts }) (a : Act) (w : World) {r : Value} {w' : World}
    (hr : (invoke (.builtin b ts o.type (args.map fun | .const _ => true | _ => false)) (args.map a.eval)).run P w = .ok (.value r) w') : (execOp a.eval o).run P w = .ok (.value r) w' := by
  simp only [execOp, ho, resolve, Sem.run_bind, Sem.run_pure, Result.andThen_ok]
  exact hr
theorem does_min {P : Program} {ng nt : Nat} {o : Oper} {x y : Operand} {ts : Array TypeId} (ho : o.op = .call { callee := .builtin .min, args := #[x, y], argTypes := ts }) : Does P ng nt o (xMin (cOpd ng x) (cOpd ng y)) := by
  intro tm h E F w a df s hg ht
  unfold xMin
  cases hx : ev tm (cOpd ng x) with
  | none => exact trivial
  | some v =>
    have hv := ev_ok hg ht hx
    cases v with
    | int k p =>
      cases hy : ev tm (cOpd ng y) with
      | none => exact trivial
      | some u =>
        have hu := ev_ok hg ht hy
        cases u with
        | int k' q =>
          dsimp only
          have hr := run_min_int2 (P := P) w ts o.type k k' p q
          cases hl : ilt q p with
          | true =>
            rw [ilt_eq, decide_eq_true_eq] at hl
            rw [if_pos hl] at hr
            exact Told.same s (.int k q) (run_bi ho a w (by simp [hv.int_inv, hu.int_inv, invoke, builtin, hr]))
          | false =>
            rw [ilt_eq, decide_eq_false_iff_not] at hl
            rw [if_neg hl] at hr
            exact Told.same s (.int k p) (run_bi ho a w (by simp [hv.int_inv, hu.int_inv, invoke, builtin, hr]))
        | _ => exact trivial
    | _ => exact trivial
theorem does_max {P : Program} {ng nt : Nat} {o : Oper} {x y : Operand} {ts : Array TypeId} (ho : o.op = .call { callee := .builtin .max, args := #[x, y], argTypes := ts }) : Does P ng nt o (xMax (cOpd ng x) (cOpd ng y)) := by
  intro tm h E F w a df s hg ht
  unfold xMax
  cases hx : ev tm (cOpd ng x) with
  | none => exact trivial
  | some v =>
    have hv := ev_ok hg ht hx
    cases v with
    | int k p =>
      cases hy : ev tm (cOpd ng y) with
      | none => exact trivial
      | some u =>
        have hu := ev_ok hg ht hy
        cases u with
        | int k' q =>
          dsimp only
          have hr := run_max_int2 (P := P) w ts o.type k k' p q
          cases hl : ilt p q with
          | true =>
            rw [ilt_eq, decide_eq_true_eq] at hl
            rw [if_pos hl] at hr
            exact Told.same s (.int k q) (run_bi ho a w (by simp [hv.int_inv, hu.int_inv, invoke, builtin, hr]))
          | false =>
            rw [ilt_eq, decide_eq_false_iff_not] at hl
            rw [if_neg (by omega)] at hr
            exact Told.same s (.int k p) (run_bi ho a w (by simp [hv.int_inv, hu.int_inv, invoke, builtin, hr]))
        | _ => exact trivial
    | _ => exact trivial
noncomputable def rep (n : Nat) (v : List Value) : List Value := Nat.rec (motive := fun _ => List Value) [] (fun _ ih => List.rec (motive := fun _ => List Value) ih (fun x _ r => x :: r) v) n
theorem rep_eq (v : List Value) : ∀ n, rep n v = (List.replicate n v).flatten
  | 0 => rfl
  | n + 1 => by
    have h : ∀ l : List Value, List.rec (motive := fun _ => List Value) (rep n v) (fun x _ r => x :: r) l = l ++ rep n v := by
      intro l
      induction l with
      | nil => rfl
      | cons x l ih => show x :: _ = _; rw [ih]; rfl
    show List.rec (motive := fun _ => List Value) (rep n v) (fun x _ r => x :: r) v = _
    rw [h v, rep_eq v n]
    simp [List.replicate_succ]
theorem made_rep (z : Array Value) (c : Nat) (hz : 0 < z.size) : (Go.madeCells z (c * z.size)).toList = rep c z.toList := by
  rw [rep_eq]
  apply List.ext_getElem?
  intro j
  simp only [Go.madeCells]
  have hlen : ∀ n : Nat, (List.replicate n z.toList).flatten.length = n * z.size := fun n => by simp
  have hget : ∀ (n j : Nat), j < n * z.size → (List.replicate n z.toList).flatten[j]? = z[j % z.size]? := by
    intro n
    induction n with
    | zero => intro j hj; omega
    | succ n ih =>
      intro j hj
      rw [List.replicate_succ, List.flatten_cons]
      by_cases hj2 : j < z.size
      · rw [List.getElem?_append_left (by simpa using hj2), Nat.mod_eq_of_lt hj2]
        simp
      · rw [List.getElem?_append_right (by simpa using Nat.le_of_not_lt hj2)]
        have : j - z.toList.length < n * z.size := by simp; rw [Nat.succ_mul] at hj; omega
        rw [ih _ this]
        have e : (j - z.toList.length) % z.size = j % z.size := by
          simp
          rw [Nat.mod_eq_sub_mod (Nat.le_of_not_lt hj2)]
        rw [e]
  by_cases hj : j < c * z.size
  · rw [hget c j hj]
    have hm : j % z.size < z.size := Nat.mod_lt _ hz
    simp [hj, hm]
  · rw [List.getElem?_eq_none (by simp; omega), List.getElem?_eq_none (by rw [hlen]; omega)]
noncomputable def natV (v : Value) : Option Nat := match v with
  | .int _ n => match n with
    | .ofNat n => some n
    | .negSucc _ => none
  | _ => none
theorem natV_ok {v : Value} {n : Nat} (h : natV v = some n) : ∃ k, v = .int k (n : Int) := by
  cases v with
  | int k m =>
    cases m with
    | ofNat q =>
      have h' : some q = some n := h
      cases h'
      exact ⟨k, rfl⟩
    | negSucc q => cases h
  | _ => cases h
noncomputable def xMkSl (e : TypeId) (bytes : Nat) (z : List Value) (x y : Opd) : X := fun tm h => match ev tm x with
  | some vx => match natV vx with
    | some l => match ev tm y with
      | some vy => match natV vy with
        | some c => match Nat.ble l c with
          | true => match Nat.ble (Nat.mul bytes c) 281474976710656 with
            | true => match Nat.ble c 9223372036854775807 with
              | true => .val (.slice (some ⟨h.n, 0, none⟩) l c) ⟨h.t.set (.cells e (rep c z)) h.n, Nat.succ h.n⟩
              | false => .fail
            | false => .fail
          | false => .fail
        | none => .fail
      | none => .fail
    | none => .fail
  | none => .fail
theorem VsR.rep {E : Env} {z z' : List Value} (h : VsR E z z') : ∀ n, VsR E (rep n z) (rep n z')
  | 0 => .nil
  | n + 1 => by
    have ih := h.rep n
    rw [rep_eq] at ih ⊢
    rw [rep_eq] at ih ⊢
    rw [List.replicate_succ, List.replicate_succ, List.flatten_cons, List.flatten_cons]
    exact h.append ih
theorem does_mkSl {P : Program} {ng nt : Nat} {o : Oper} {t e : TypeId} {x y : Operand} {i : TypeInfo} {z : Value} (ho : o.op = .makeSlice t x y) (ht : P.underlying t = some (.slice e)) (hi : P.info? e = some i) (hz : i.zero = some z) (hgz : gr 6 z = true) (hsz : z.cells.size = i.size) (hpos : 0 < i.size) :
    Does P ng nt o (xMkSl e i.bytes z.cells.toList (cOpd ng x) (cOpd ng y)) := by
  intro tm h E F w a df s hg htm
  unfold xMkSl
  cases hx : ev tm (cOpd ng x) with
  | none => exact trivial
  | some vx =>
    have hvx := ev_ok hg htm hx
    dsimp only
    cases hl : natV vx with
    | none => exact trivial
    | some l =>
      dsimp only
      cases hy : ev tm (cOpd ng y) with
      | none => exact trivial
      | some vy =>
        have hvy := ev_ok hg htm hy
        dsimp only
        cases hc : natV vy with
        | none => exact trivial
        | some c =>
          dsimp only
          cases h1 : Nat.ble l c with
          | false => exact trivial
          | true =>
            dsimp only
            cases h2 : Nat.ble (Nat.mul i.bytes c) 281474976710656 with
            | false => exact trivial
            | true =>
              dsimp only
              cases h3 : Nat.ble c 9223372036854775807 with
              | false => exact trivial
              | true =>
                have h1' := Nat.le_of_ble_eq_true h1
                have h2' : i.bytes * c ≤ 281474976710656 := Nat.le_of_ble_eq_true h2
                have h3' := Nat.le_of_ble_eq_true h3
                obtain ⟨k1, rfl⟩ := natV_ok hl
                obtain ⟨k2, rfl⟩ := natV_ok hc
                have hb : (i.bytes : Int) * (c : Int) ≤ 281474976710656 := by
                  have : ((i.bytes * c : Nat) : Int) ≤ 281474976710656 := by omega
                  rwa [Int.natCast_mul] at this
                have hr := run_make (P := P) w t e i z ht hi hz k1 k2 l c (by omega) (by omega) hb (by omega)
                simp only [Int.toNat_natCast] at hr
                rw [← hsz] at hr
                have hm := made_rep z.cells c (by omega)
                have hcells : Go.madeCells z.cells (c * z.cells.size) = (rep c z.cells.toList).toArray := by
                  apply Array.ext'
                  rw [hm]
                rw [hcells] at hr
                refine fun hf => ⟨_, _, _, _, Go.cells s (hf h.n (Nat.le_refl _) (Nat.lt_succ_self _)) e (VsR.rep (gr_ok 6 z hgz).cells c), .inl ⟨_, rfl, VR.slice (o := 0) _ _ (putE_at _ _ _) rfl⟩, ?_⟩
                simp [execOp, ho, hvx.int_inv, hvy.int_inv, hr]
noncomputable def nmin (a b : Nat) : Nat := Bool.rec (motive := fun _ => Nat) b a (Nat.ble a b)
theorem nmin_eq (a b : Nat) : nmin a b = Nat.min a b := by
  unfold nmin
  cases h : Nat.ble a b with
  | true =>
    have := Nat.le_of_ble_eq_true h
    exact (Nat.min_eq_left this).symm
  | false =>
    have : ¬ a ≤ b := fun hh => by rw [Nat.ble_eq_true_of_le hh] at h; cases h
    exact (Nat.min_eq_right (Nat.le_of_lt (Nat.lt_of_not_le this))).symm
noncomputable def xCopy (size : Nat) (x y : Opd) : X := fun tm h => match ev tm x with
  | some (.slice (some ⟨i, k, _⟩) l _) => match ev tm y with
    | some (.slice (some ⟨b, o, _⟩) m _) => match cellsAt h b o (Nat.mul (nmin m l) size) with
      | some vs => match ones vs with
        | true => match h.t.get i with
          | some e => match e.cs with
            | some cs => match lput k vs cs with
              | some cs2 => .val (.int .i64 (Int.ofNat (nmin m l))) ⟨h.t.set (e.with cs2) i, h.n⟩
              | none => .fail
            | none => .fail
          | none => .fail
        | false => .fail
      | none => .fail
    | _ => .fail
  | _ => .fail
theorem does_copy {P : Program} {ng nt : Nat} {o : Oper} {t e tx : TypeId} {x y : Operand} {i : TypeInfo} (ho : o.op = .call { callee := .builtin .copy, args := #[x, y], argTypes := #[t, tx] }) (ht : P.underlying t = some (.slice e)) (hi : P.info? e = some i) :
    Does P ng nt o (xCopy i.size (cOpd ng x) (cOpd ng y)) := by
  intro tm h E F w a df s hg htm
  unfold xCopy
  cases hx : ev tm (cOpd ng x) with
  | none => exact trivial
  | some vx =>
    have hvx := ev_ok hg htm hx
    cases vx with
    | slice p l c =>
      cases p with
      | none => exact trivial
      | some p =>
        obtain ⟨ib, k, sp⟩ := p
        cases hy : ev tm (cOpd ng y) with
        | none => exact trivial
        | some vy =>
          have hvy := ev_ok hg htm hy
          cases vy with
          | slice q m c2 =>
            cases q with
            | none => exact trivial
            | some q =>
              obtain ⟨b, off, sp2⟩ := q
              dsimp only
              obtain ⟨p1, c1', h1, -, e1, -⟩ := hvx.slice_inv
              obtain ⟨p2, c2', h2, -, e2, -⟩ := hvy.slice_inv
              cases hc : cellsAt h b off (Nat.mul (nmin m l) i.size) with
              | none => exact trivial
              | some vs =>
                dsimp only
                cases ho1 : ones vs with
                | false => exact trivial
                | true =>
                  dsimp only
                  cases hb : h.t.get ib with
                  | none => exact trivial
                  | some en =>
                    dsimp only
                    cases hcs : en.cs with
                    | none => exact trivial
                    | some cs =>
                      dsimp only
                      cases hl : lput k vs cs with
                      | none => exact trivial
                      | some cs2 =>
                        obtain ⟨l', h4, h5, h6, -⟩ := cellsAt_ok (P := P) s hc h2
                        obtain ⟨w', hgo, hst⟩ := put_cells (P := P) s hb h1 hcs h4 ho1 hl
                        have hfc : (loadCells ⟨p2.b, p2.o + off, none⟩ (Nat.min m l * i.size)).run P w = .ok l'.toArray w := by
                          rw [← nmin_eq]
                          exact load_at (fun _ => rfl) (by rw [← h4.length]; exact h5) h6
                        refine fun _ => ⟨_, _, w', _, hgo, .inl ⟨_, rfl, .int .i64 _⟩, run_bi ho a w ?_⟩
                        simp [e1, e2, invoke, builtin, Builtin.copy_, run_underlying ht, run_size hi, Builtin.lenOf, Builtin.firstCells, hfc, hst, goInt, nmin_eq]
          | _ => exact trivial
    | _ => exact trivial
end Go.Proofs.YtbhkfifmgbcknaaGreatDoor.Ex
