/-
  A part of the proof of the statement NfaAccepts.
-/
import Derived.Test.YtbhkfifmgbcknaaGreatDoorG10
import Derived.Laws.Strings2
import Derived.Great.BuildSlice
set_option linter.unusedSimpArgs false
set_option linter.unusedVariables false
namespace Go.Proofs.YtbhkfifmgbcknaaGreatDoor.Ex
open Go Go.RowKit
theorem binI_vr {E : Env} {op : BinOp} {k : IntKind} {a b : Int} {r : Value} (h : binI op k a b = some r) : VR E r r := by
  cases op <;> simp only [binI] at h <;> first
    | (injection h with h; subst h; first | exact .int _ _ | exact .bool _)
    | (cases h; done)
    | (split at h <;> first | (injection h with h; subst h; exact .int _ _) | cases h)
theorem binS_vr {E : Env} {op : BinOp} {a b : ByteArray} {r : Value} (h : binS op a b = some r) : VR E r r := by
  cases op <;> simp only [binS] at h <;> first
    | (injection h with h; subst h; first | exact .string _ | exact .bool _)
    | (cases h; done)
    | (split at h <;> first | (injection h with h; subst h; exact .string _) | cases h)
theorem shiftI_vr {E : Env} {op : BinOp} {k : IntKind} {a b : Int} {r : Value} (h : shiftI op k a b = some r) : VR E r r := by
  unfold shiftI at h
  cases b with
  | negSucc n => cases h
  | ofNat n => cases op <;> first | (injection h with h; subst h; exact .int _ _) | cases h
noncomputable def outO (r : Option Value) (h : H) : Out := match r with
  | some v => .val v h
  | none => .fail
noncomputable def xBinI (op : BinOp) (x y : Opd) : X := fun tm h => match ev tm x with
  | some (.int k a) => match ev tm y with
    | some (.int k' b) => match Nat.beq (ikN k) (ikN k') with
      | true => outO (binI op k a b) h
      | false => .fail
    | _ => .fail
  | _ => .fail
theorem does_binI {P : Program} {ng nt : Nat} {o : Oper} {op : BinOp} {t t' : TypeId} {x y : Operand} (ho : o.op = .binOp op t x y t') : Does P ng nt o (xBinI op (cOpd ng x) (cOpd ng y)) := by
  intro tm h E F w a df s hg ht
  unfold xBinI
  cases hx : ev tm (cOpd ng x) with
  | none => exact trivial
  | some v =>
    have hv := ev_ok hg ht hx
    cases v with
    | int k m =>
      dsimp only
      cases hy : ev tm (cOpd ng y) with
      | none => exact trivial
      | some u =>
        have hu := ev_ok hg ht hy
        cases u with
        | int k' n =>
          dsimp only
          cases hk : Nat.beq (ikN k) (ikN k') with
          | false => exact trivial
          | true =>
            have := ikN_inj hk
            subst this
            dsimp only
            cases hr : binI op k m n with
            | none => exact trivial
            | some r =>
              refine Told.same s (binI_vr hr) ?_
              simp [execOp, ho, hv.int_inv, hu.int_inv, guard_int, run_binI hr]
        | _ => exact trivial
    | _ => exact trivial
noncomputable def xShift (op : BinOp) (x y : Opd) : X := fun tm h => match ev tm x with
  | some (.int k a) => match ev tm y with
    | some (.int _ b) => outO (shiftI op k a b) h
    | _ => .fail
  | _ => .fail
theorem does_shift {P : Program} {ng nt : Nat} {o : Oper} {op : BinOp} {t t' : TypeId} {x y : Operand} (ho : o.op = .binOp op t x y t') : Does P ng nt o (xShift op (cOpd ng x) (cOpd ng y)) := by
  intro tm h E F w a df s hg ht
  unfold xShift
  cases hx : ev tm (cOpd ng x) with
  | none => exact trivial
  | some v =>
    have hv := ev_ok hg ht hx
    cases v with
    | int k m =>
      dsimp only
      cases hy : ev tm (cOpd ng y) with
      | none => exact trivial
      | some u =>
        have hu := ev_ok hg ht hy
        cases u with
        | int k' n =>
          dsimp only
          cases hr : shiftI op k m n with
          | none => exact trivial
          | some r =>
            refine Told.same s (shiftI_vr hr) ?_
            simp [execOp, ho, hv.int_inv, hu.int_inv, guard_int, run_shiftI hr]
        | _ => exact trivial
    | _ => exact trivial
theorem guard_str {P : Program} (op : BinOp) (t : TypeId) (x y : Operand) (a b : ByteArray) (w : World) : (eqGuard op t x y (.string a) (.string b)).run P w = .ok () w := by
  cases op <;> rfl
noncomputable def xBinS (op : BinOp) (x y : Opd) : X := fun tm h => match ev tm x with
  | some (.string a) => match ev tm y with
    | some (.string b) => outO (binS op a b) h
    | _ => .fail
  | _ => .fail
theorem does_binS {P : Program} {ng nt : Nat} {o : Oper} {op : BinOp} {t t' : TypeId} {x y : Operand} (ho : o.op = .binOp op t x y t') : Does P ng nt o (xBinS op (cOpd ng x) (cOpd ng y)) := by
  intro tm h E F w a df s hg ht
  unfold xBinS
  cases hx : ev tm (cOpd ng x) with
  | none => exact trivial
  | some v =>
    have hv := ev_ok hg ht hx
    cases v with
    | string m =>
      dsimp only
      cases hy : ev tm (cOpd ng y) with
      | none => exact trivial
      | some u =>
        have hu := ev_ok hg ht hy
        cases u with
        | string n =>
          dsimp only
          cases hr : binS op m n with
          | none => exact trivial
          | some r =>
            refine Told.same s (binS_vr hr) ?_
            simp [execOp, ho, hv.string_inv, hu.string_inv, guard_str, run_binS hr]
        | _ => exact trivial
    | _ => exact trivial
noncomputable def eqO (op : BinOp) (b : Bool) (h : H) : Out := match op with
  | .eql => .val (.bool b) h
  | .neq => .val (.bool (bnot b)) h
  | _ => .fail
noncomputable def xNilEq (f : Value → Option Bool) (op : BinOp) (x : Opd) : X := fun tm h => match ev tm x with
  | some v => match f v with
    | some b => eqO op b h
    | none => .fail
  | none => .fail
noncomputable def nilI : Value → Option Bool | .nilIface => some true | .iface _ _ => some false | _ => none
noncomputable def nilP : Value → Option Bool | .pointer none => some true | .pointer (some _) => some false | _ => none
noncomputable def nilS : Value → Option Bool | .slice none _ _ => some true | .slice (some _) _ _ => some false | _ => none
noncomputable def nilF : Value → Option Bool | .nilFunc => some true | .func _ _ _ => some false | _ => none
theorem equalI {P : Program} {t : TypeId} {ms : Array (String × TypeId)} (hd : P.underlying t = some (.interface ms)) {E : Env} {v v' : Value} {b : Bool} (hv : VR E v v') (hb : nilI v = some b) (w : World) : (Op.equal t v' .nilIface).run P w = .ok b w := by
  cases hv <;> simp [nilI] at hb <;> subst hb <;> (unfold Op.equal Op.maxDepth Op.equalIn; rw [Sem.run_bind, run_underlying hd w]; rfl)
theorem equalP {P : Program} {t e : TypeId} (hd : P.underlying t = some (.pointer e)) {E : Env} {v v' : Value} {b : Bool} (hv : VR E v v') (hb : nilP v = some b) (w : World) : (Op.equal t v' (.pointer none)).run P w = .ok b w := by
  cases hv <;> simp [nilP] at hb <;> subst hb <;> (unfold Op.equal Op.maxDepth Op.equalIn; rw [Sem.run_bind, run_underlying hd w]; rfl)
theorem equalS {P : Program} {t e : TypeId} (hd : P.underlying t = some (.slice e)) {E : Env} {v v' : Value} {b : Bool} (hv : VR E v v') (hb : nilS v = some b) (l c : Nat) (w : World) : (Op.equal t v' (.slice none l c)).run P w = .ok b w := by
  cases hv <;> simp [nilS] at hb <;> subst hb <;> (unfold Op.equal Op.maxDepth Op.equalIn; rw [Sem.run_bind, run_underlying hd w]; rfl)
theorem equalF {P : Program} {t : TypeId} {xs ys : Array TypeId} {q : Bool} (hd : P.underlying t = some (.func xs ys q)) {E : Env} {v v' : Value} {b : Bool} (hv : VR E v v') (hb : nilF v = some b) (w : World) : (Op.equal t v' .nilFunc).run P w = .ok b w := by
  cases hv <;> simp [nilF] at hb <;> subst hb <;> (unfold Op.equal Op.maxDepth Op.equalIn; rw [Sem.run_bind, run_underlying hd w]; rfl)
theorem does_nilEq {P : Program} {ng nt : Nat} {o : Oper} {op : BinOp} {t t' : TypeId} {x : Operand} {c : Value} (f : Value → Option Bool) (ho : o.op = .binOp op t x (.const c) t')
    (hf : ∀ {E : Env} {v v' : Value} {b : Bool}, VR E v v' → f v = some b → ∀ w : World, (Op.equal t v' c).run P w = .ok b w ∧ (eqGuard op t x (.const c) v' c).run P w = .ok () w ∧ ∀ r, (op = .eql → r = .bool b) → (op = .neq → r = .bool (!b)) → (op = .eql ∨ op = .neq) → (binOp op t v' c).run P w = .ok r w) :
    Does P ng nt o (xNilEq f op (cOpd ng x)) := by
  intro tm h E F w a df s hg ht
  unfold xNilEq
  cases hx : ev tm (cOpd ng x) with
  | none => exact trivial
  | some v =>
    have hv := ev_ok hg ht hx
    dsimp only
    cases hb : f v with
    | none => exact trivial
    | some b =>
      obtain ⟨h1, h2, h3⟩ := hf hv hb w
      have ec : a.eval (.const c) = c := rfl
      dsimp only
      cases op <;> first
        | exact trivial
        | (refine Told.same s (.bool _) ?_
           rw [show (execOp a.eval o) = (execOp a.eval o) from rfl]
           simp only [execOp, ho]
           rw [ec]
           simp [h2, bnot_eq, h3 _ (fun _ => rfl) (fun h => by cases h) (.inl rfl)])
        | (refine Told.same s (.bool _) ?_
           simp only [execOp, ho]
           rw [ec]
           simp [h2, bnot_eq, h3 _ (fun h => by cases h) (fun _ => rfl) (.inr rfl)])
theorem nilEq_i {P : Program} {t : TypeId} {ms : Array (String × TypeId)} (hd : P.underlying t = some (.interface ms)) (op : BinOp) (x : Operand) {E : Env} {v v' : Value} {b : Bool} (hv : VR E v v') (hb : nilI v = some b) (w : World) :
    (Op.equal t v' .nilIface).run P w = .ok b w ∧ (eqGuard op t x (.const .nilIface) v' .nilIface).run P w = .ok () w ∧ ∀ r, (op = .eql → r = .bool b) → (op = .neq → r = .bool (!b)) → (op = .eql ∨ op = .neq) → (binOp op t v' .nilIface).run P w = .ok r w := by
  have he := equalI hd hv hb w
  refine ⟨he, ?_, ?_⟩
  · unfold eqGuard
    cases hv <;> simp [nilI] at hb <;> cases op <;> simp
  · intro r h1 h2 h3
    cases hv <;> simp [nilI] at hb <;> rcases h3 with rfl | rfl <;> first
      | (rw [h1 rfl]; simp only [binOp]; rw [Sem.run_bind, he]; rfl)
      | (rw [h2 rfl]; simp only [binOp]; rw [Sem.run_bind, he]; rfl)
theorem nilEq_p {P : Program} {t e : TypeId} (hd : P.underlying t = some (.pointer e)) (op : BinOp) (x : Operand) {E : Env} {v v' : Value} {b : Bool} (hv : VR E v v') (hb : nilP v = some b) (w : World) :
    (Op.equal t v' (.pointer none)).run P w = .ok b w ∧ (eqGuard op t x (.const (.pointer none)) v' (.pointer none)).run P w = .ok () w ∧ ∀ r, (op = .eql → r = .bool b) → (op = .neq → r = .bool (!b)) → (op = .eql ∨ op = .neq) → (binOp op t v' (.pointer none)).run P w = .ok r w := by
  have he := equalP hd hv hb w
  refine ⟨he, ?_, ?_⟩
  · unfold eqGuard
    cases hv <;> simp [nilP] at hb <;> cases op <;> simp
  · intro r h1 h2 h3
    cases hv <;> simp [nilP] at hb <;> rcases h3 with rfl | rfl <;> first
      | (rw [h1 rfl]; simp only [binOp]; rw [Sem.run_bind, he]; rfl)
      | (rw [h2 rfl]; simp only [binOp]; rw [Sem.run_bind, he]; rfl)
theorem nilEq_s {P : Program} {t e : TypeId} (hd : P.underlying t = some (.slice e)) (op : BinOp) (x : Operand) (l c : Nat) {E : Env} {v v' : Value} {b : Bool} (hv : VR E v v') (hb : nilS v = some b) (w : World) :
    (Op.equal t v' (.slice none l c)).run P w = .ok b w ∧ (eqGuard op t x (.const (.slice none l c)) v' (.slice none l c)).run P w = .ok () w ∧ ∀ r, (op = .eql → r = .bool b) → (op = .neq → r = .bool (!b)) → (op = .eql ∨ op = .neq) → (binOp op t v' (.slice none l c)).run P w = .ok r w := by
  have he := equalS hd hv hb l c w
  refine ⟨he, ?_, ?_⟩
  · unfold eqGuard
    cases hv <;> simp [nilS] at hb <;> cases op <;> simp
  · intro r h1 h2 h3
    cases hv <;> simp [nilS] at hb <;> rcases h3 with rfl | rfl <;> first
      | (rw [h1 rfl]; simp only [binOp]; rw [Sem.run_bind, he]; rfl)
      | (rw [h2 rfl]; simp only [binOp]; rw [Sem.run_bind, he]; rfl)
theorem nilEq_f {P : Program} {t : TypeId} {xs ys : Array TypeId} {q : Bool} (hd : P.underlying t = some (.func xs ys q)) (op : BinOp) (x : Operand) {E : Env} {v v' : Value} {b : Bool} (hv : VR E v v') (hb : nilF v = some b) (w : World) :
    (Op.equal t v' .nilFunc).run P w = .ok b w ∧ (eqGuard op t x (.const .nilFunc) v' .nilFunc).run P w = .ok () w ∧ ∀ r, (op = .eql → r = .bool b) → (op = .neq → r = .bool (!b)) → (op = .eql ∨ op = .neq) → (binOp op t v' .nilFunc).run P w = .ok r w := by
  have he := equalF hd hv hb w
  refine ⟨he, ?_, ?_⟩
  · unfold eqGuard
    cases hv <;> simp [nilF] at hb <;> cases op <;> simp
  · intro r h1 h2 h3
    cases hv <;> simp [nilF] at hb <;> rcases h3 with rfl | rfl <;> first
      | (rw [h1 rfl]; simp only [binOp]; rw [Sem.run_bind, he]; rfl)
      | (rw [h2 rfl]; simp only [binOp]; rw [Sem.run_bind, he]; rfl)
end Go.Proofs.YtbhkfifmgbcknaaGreatDoor.Ex
namespace Go.Proofs.YtbhkfifmgbcknaaGreatDoor.Ex
open Go Go.RowKit
theorem VR.slice_inv {E : Env} {i o l c : Nat} {sp : Option Nat} {v : Value} (h : VR E (.slice (some ⟨i, o, sp⟩) l c) v) : ∃ p c', E i = some p ∧ sp = none ∧ v = .slice (some ⟨p.b, p.o + o, none⟩) l c' ∧ ((p.c = none ∧ c' = c) ∨ ∃ m, p.c = some m ∧ c' = m - c) := by
  cases h
  · exact ⟨_, _, by assumption, rfl, rfl, .inl ⟨by assumption, rfl⟩⟩
  · exact ⟨_, _, by assumption, rfl, rfl, .inr ⟨_, by assumption, rfl⟩⟩
theorem VR.slice0_inv {E : Env} {l c : Nat} {v : Value} (h : VR E (.slice none l c) v) : v = .slice none l c := by cases h; rfl
theorem VR.map_inv {E : Env} {i : Nat} {v : Value} (h : VR E (.map (some i)) v) : ∃ p, E i = some p ∧ v = .map (some p.b) := by cases h; exact ⟨_, by assumption, rfl⟩
noncomputable def xConvI (k : IntKind) (x : Opd) : X := fun tm h => match ev tm x with
  | some (.int _ n) => .val (.int k (wrapF k n)) h
  | _ => .fail
theorem does_convI {P : Program} {ng nt : Nat} {o : Oper} {t u : TypeId} {x : Operand} (ho : o.op = .convert t u x) {d : TypeDesc} {k : IntKind} (hd : P.underlying t = some d) (hk : P.underlying u = some (.int k)) : Does P ng nt o (xConvI k (cOpd ng x)) := by
  intro tm h E F w a df s hg ht
  unfold xConvI
  cases hx : ev tm (cOpd ng x) with
  | none => exact trivial
  | some v =>
    have hv := ev_ok hg ht hx
    cases v with
    | int k' n =>
      refine Told.same s (.int k _) ?_
      have hr : (convert t u (.int k' n)).run P w = .ok (.int k (k.wrap n)) w := by
        unfold convert
        rw [Sem.run_bind, run_underlying hd w, Result.andThen_ok, Sem.run_bind, run_underlying hk w]
        cases d <;> rfl
      simp [execOp, ho, hv.int_inv, hr, wrapF_eq]
    | _ => exact trivial
noncomputable def xConvS (x : Opd) : X := fun tm h => match ev tm x with
  | some (.string b) => .val (.string b) h
  | some (.int _ (.ofNat n)) => match Nat.ble (Nat.succ n) 128 with
    | true => .val (.string ⟨#[UInt8.ofNat n]⟩) h
    | false => .fail
  | _ => .fail
theorem does_convS {P : Program} {ng nt : Nat} {o : Oper} {t u : TypeId} {x : Operand} (ho : o.op = .convert t u x) {d : TypeDesc} (hd : P.underlying t = some d) (hns : ∀ e, d ≠ .slice e) (hk : P.underlying u = some .string) : Does P ng nt o (xConvS (cOpd ng x)) := by
  intro tm h E F w a df s hg ht
  unfold xConvS
  cases hx : ev tm (cOpd ng x) with
  | none => exact trivial
  | some v =>
    have hv := ev_ok hg ht hx
    cases v with
    | string b =>
      refine Told.same s (.string b) ?_
      have hr : (convert t u (.string b)).run P w = .ok (.string b) w := by
        unfold convert
        rw [Sem.run_bind, run_underlying hd w, Result.andThen_ok, Sem.run_bind, run_underlying hk w]
        cases d <;> first | rfl | exact absurd rfl (hns _)
      simp [execOp, ho, hv.string_inv, hr]
    | int k' n =>
      cases n with
      | negSucc n => exact trivial
      | ofNat n =>
        dsimp only
        cases hn : Nat.ble (Nat.succ n) 128 with
        | false => exact trivial
        | true =>
          have hn' : n < 128 := Nat.le_of_ble_eq_true hn
          refine Told.same s (.string _) ?_
          have he : Utf8.encode ((n : Nat) : Int) = ⟨#[UInt8.ofNat n]⟩ := by
            have hv : Utf8.valid ((n : Nat) : Int) = true := by
              unfold Utf8.valid
              simp only [Bool.or_eq_true, Bool.and_eq_true, decide_eq_true_eq]
              omega
            unfold Utf8.encode
            simp only [hv, if_true, Int.toNat_natCast]
            rw [if_pos hn']
          have hr : (convert t u (.int k' ((n : Nat) : Int))).run P w = .ok (.string ⟨#[UInt8.ofNat n]⟩) w := by
            unfold convert
            rw [Sem.run_bind, run_underlying hd w, Result.andThen_ok, Sem.run_bind, run_underlying hk w]
            cases d <;> first | exact absurd rfl (hns _) | (simp [Conv.intToString, he]; done)
          have e2 : a.eval x = .int k' ((n : Nat) : Int) := hv.int_inv
          simp only [execOp, ho, e2]
          rw [Sem.run_bind, hr]
          rfl
    | _ => exact trivial
noncomputable def xField (off : Nat) (x : Opd) : X := fun tm h => match ev tm x with
  | some (.pointer (some ⟨b, o, _⟩)) => .val (.pointer (some ⟨b, Nat.add o off, none⟩)) h
  | _ => .fail
theorem does_field {P : Program} {ng nt : Nat} {o : Oper} {t : TypeId} {x : Operand} {k : Nat} (ho : o.op = .fieldAddr t x k) {fs : Array Field} {f : Field} {i : TypeInfo} (hd : P.underlying t = some (.struct fs)) (hf : fs[k]? = some f) (hi : P.info? f.type = some i) (hz : i.size ≠ 0) : Does P ng nt o (xField f.offset (cOpd ng x)) := by
  intro tm h E F w a df s hg ht
  unfold xField
  cases hx : ev tm (cOpd ng x) with
  | none => exact trivial
  | some v =>
    have hv := ev_ok hg ht hx
    cases v with
    | pointer p =>
      cases p with
      | none => exact trivial
      | some p =>
        obtain ⟨b, m, sp⟩ := p
        obtain ⟨q, h1, -, h3⟩ := hv.ptr_inv
        refine Told.same s (VR.ptr h1) ?_
        have hr : (Instr.fieldAt t (.pointer (some ⟨q.b, q.o + m, none⟩)) k).run P w = .ok (.pointer (some ⟨q.b, q.o + (m + f.offset), none⟩)) w := by
          unfold Instr.fieldAt
          rw [Sem.run_bind, run_underlying hd w, Result.andThen_ok]
          simp [hf, Instr.sureAddr, fieldPlace, run_size hi, hz, add_at, Nat.add_assoc]
        simp only [execOp, ho, h3]
        rw [Sem.run_bind, hr]
        rfl
    | _ => exact trivial
noncomputable def xIdxA (size : Nat) (x i : Opd) : X := fun tm h => match ev tm x with
  | some (.slice (some ⟨b, o, _⟩) len _) => match ev tm i with
    | some (.int _ (.ofNat i)) => match Nat.ble (Nat.succ i) len with
      | true => .val (.pointer (some ⟨b, Nat.add o (Nat.mul i size), none⟩)) h
      | false => .fail
    | _ => .fail
  | _ => .fail
theorem does_idxA {P : Program} {ng nt : Nat} {o : Oper} {t e : TypeId} {x y : Operand} (ho : o.op = .indexAddr t x y) {i : TypeInfo} (hd : P.underlying t = some (.slice e)) (hi : P.info? e = some i) : Does P ng nt o (xIdxA i.size (cOpd ng x) (cOpd ng y)) := by
  intro tm h E F w a df s hg ht
  unfold xIdxA
  cases hx : ev tm (cOpd ng x) with
  | none => exact trivial
  | some v =>
    have hv := ev_ok hg ht hx
    cases v with
    | slice p len cap =>
      cases p with
      | none => exact trivial
      | some p =>
        obtain ⟨b, m, sp⟩ := p
        obtain ⟨q, c', h1, -, h3, -⟩ := hv.slice_inv
        dsimp only
        cases hy : ev tm (cOpd ng y) with
        | none => exact trivial
        | some u =>
          have hu := ev_ok hg ht hy
          cases u with
          | int k n =>
            cases n with
            | negSucc n => exact trivial
            | ofNat n =>
              dsimp only
              cases hn : Nat.ble (Nat.succ n) len with
              | false => exact trivial
              | true =>
                have hn' : n < len := Nat.le_of_ble_eq_true hn
                refine Told.same s (VR.ptr h1) ?_
                have hr : (Instr.indexAt t (.slice (some ⟨q.b, q.o + m, none⟩) len c') (.int k (Int.ofNat n))).run P w = .ok (.pointer (some ⟨q.b, q.o + (m + n * i.size), none⟩)) w := by
                  unfold Instr.indexAt
                  have hc : (0 : Int) ≤ Int.ofNat n ∧ Int.ofNat n < (len : Int) := by
                    simp only [Int.ofNat_eq_natCast]; omega
                  simp only [asIntOf, Sem.run_bind, Sem.run_pure, Result.andThen_ok, run_underlying hd]
                  rw [if_pos hc]
                  simp only [Sem.run_bind, Sem.run_pure, Result.andThen_ok, run_size hi, add_at, Int.ofNat_eq_natCast, Int.toNat_natCast, Nat.add_assoc]
                simp only [execOp, ho, h3, hu.int_inv]
                rw [Sem.run_bind, hr]
                rfl
          | _ => exact trivial
    | _ => exact trivial
theorem bytes_at (s : ByteArray) (n : Nat) : s[n]? = s.data.toList[n]? := by
  by_cases h : n < s.size
  · rw [ByteArray.getElem?_lt' s n h]
    have h2 : n < s.data.toList.length := by simpa using h
    rw [List.getElem?_eq_getElem h2]
    rfl
  · rw [ByteArray.getElem?_ge' s n h]
    symm
    apply List.getElem?_eq_none
    simpa using h
noncomputable def xIdxS (x i : Opd) : X := fun tm h => match ev tm x with
  | some (.string s) => match ev tm i with
    | some (.int _ (.ofNat i)) => match lget s.data.toList i with
      | some b => .val (.int .u8 (Int.ofNat b.toNat)) h
      | none => .fail
    | _ => .fail
  | _ => .fail
theorem does_idxS {P : Program} {ng nt : Nat} {o : Oper} {t : TypeId} {x y : Operand} (ho : o.op = .index t x y) (hd : P.underlying t = some .string) : Does P ng nt o (xIdxS (cOpd ng x) (cOpd ng y)) := by
  intro tm h E F w a df s hg ht
  unfold xIdxS
  cases hx : ev tm (cOpd ng x) with
  | none => exact trivial
  | some v =>
    have hv := ev_ok hg ht hx
    cases v with
    | string b =>
      dsimp only
      cases hy : ev tm (cOpd ng y) with
      | none => exact trivial
      | some u =>
        have hu := ev_ok hg ht hy
        cases u with
        | int k n =>
          cases n with
          | negSucc n => exact trivial
          | ofNat n =>
            dsimp only
            cases hl : lget b.data.toList n with
            | none => exact trivial
            | some q =>
              rw [lget_eq, ← bytes_at] at hl
              refine Told.same s (.int _ _) ?_
              have hr : (Instr.index t (.string b) (.int k (Int.ofNat n))).run P w = .ok (.int .u8 (Int.ofNat q.toNat)) w := by
                unfold Instr.index
                simp only [asIntOf, Sem.run_bind, Sem.run_pure, Result.andThen_ok, run_underlying hd]
                rw [if_pos (by simp only [Int.ofNat_eq_natCast]; omega)]
                simp only [Int.ofNat_eq_natCast, Int.toNat_natCast, hl]
                rfl
              simp only [execOp, ho, hv.string_inv, hu.int_inv]
              rw [Sem.run_bind, hr]
              rfl
        | _ => exact trivial
    | _ => exact trivial
theorem run_len {P : Program} {o : Oper} {t : TypeId} {x : Operand} {ts : Array TypeId} (ho : o.op = .call { callee := .builtin .len, args := #[x], argTypes := ts }) (a : Act) (w : World) {r : Value} (hr : (Builtin.len_ ts o.type #[a.eval x]).run P w = .ok r w) : (execOp a.eval o).run P w = .ok (.value r) w := by
  simp [execOp, ho, resolve, invoke, builtin, hr]
noncomputable def xLenS (x : Opd) : X := fun tm h => match ev tm x with
  | some (.string s) => .val (.int .i64 (Int.ofNat (llen s.data.toList))) h
  | _ => .fail
theorem does_lenS {P : Program} {ng nt : Nat} {o : Oper} {t : TypeId} {x : Operand} {ts : Array TypeId} (ho : o.op = .call { callee := .builtin .len, args := #[x], argTypes := ts }) (hts : ts[0]? = some t) (hd : P.underlying t = some .string) : Does P ng nt o (xLenS (cOpd ng x)) := by
  intro tm h E F w a df s hg ht
  unfold xLenS
  cases hx : ev tm (cOpd ng x) with
  | none => exact trivial
  | some v =>
    have hv := ev_ok hg ht hx
    cases v with
    | string b =>
      refine Told.same s (.int _ _) (run_len (t := t) ho a w ?_)
      rw [hv.string_inv, llen_eq]
      simp [Builtin.len_, hts, run_underlying hd, goInt]
    | _ => exact trivial
noncomputable def xLenL (x : Opd) : X := fun tm h => match ev tm x with
  | some (.slice _ n _) => .val (.int .i64 (Int.ofNat n)) h
  | _ => .fail
theorem does_lenL {P : Program} {ng nt : Nat} {o : Oper} {t e : TypeId} {x : Operand} {ts : Array TypeId} (ho : o.op = .call { callee := .builtin .len, args := #[x], argTypes := ts }) (hts : ts[0]? = some t) (hd : P.underlying t = some (.slice e)) : Does P ng nt o (xLenL (cOpd ng x)) := by
  intro tm h E F w a df s hg ht
  unfold xLenL
  cases hx : ev tm (cOpd ng x) with
  | none => exact trivial
  | some v =>
    have hv := ev_ok hg ht hx
    cases v with
    | slice p n c =>
      refine Told.same s (.int _ _) (run_len (t := t) ho a w ?_)
      have e2 : ∃ p' c', a.eval x = .slice p' n c' := by
        cases p with
        | none => exact ⟨_, _, hv.slice0_inv⟩
        | some p =>
          obtain ⟨b, m, sp⟩ := p
          obtain ⟨q, c', -, -, h3, -⟩ := hv.slice_inv
          exact ⟨_, _, h3⟩
      obtain ⟨p', c', e2⟩ := e2
      rw [e2]
      simp [Builtin.len_, hts, run_underlying hd, goInt]
    | _ => exact trivial
theorem bytes_cut (s : ByteArray) (b e : Nat) : s.extract b e = ⟨((s.data.toList.drop b).take (e - b)).toArray⟩ := by
  have := ByteArray.extract_mk s.data.toList b e
  rw [Array.toArray_toList] at this
  exact this
noncomputable def natO (tm : Fr) (x : Option Opd) (d : Nat) : Option Nat := match x with
  | none => some d
  | some x => match ev tm x with
    | some (.int _ (.ofNat n)) => some n
    | _ => none
theorem natO_ok {E : Env} {ng nt : Nat} {df : List Deferred} {tm : Fr} {a : Act} (hg : Glob E ng) (ht : TmR E nt df tm a) {x : Option Operand} {d n : Nat} (h : natO tm (x.map (cOpd ng)) d = some n) : (x = none ∧ n = d) ∨ ∃ y k, x = some y ∧ a.eval y = .int k ((n : Nat) : Int) := by
  cases x with
  | none =>
    have h' : some d = some n := h
    injection h' with h'
    exact .inl ⟨rfl, h'.symm⟩
  | some y =>
    refine .inr ⟨y, ?_⟩
    have h' : (match ev tm (cOpd ng y) with | some (.int _ (.ofNat n)) => some n | _ => none) = some n := h
    cases hy : ev tm (cOpd ng y) with
    | none => rw [hy] at h'; cases h'
    | some v =>
      have hv := ev_ok hg ht hy
      rw [hy] at h'
      cases v with
      | int k m =>
        cases m with
        | negSucc m => cases h'
        | ofNat m =>
          injection h' with h'
          subst h'
          exact ⟨k, rfl, hv.int_inv⟩
      | _ => cases h'
theorem run_bounds {P : Program} {E : Env} {ng nt : Nat} {df : List Deferred} {tm : Fr} {a : Act} (hg : Glob E ng) (ht : TmR E nt df tm a) {lo hi : Option Operand} {len cap b e : Nat} (isS : Bool)
    (hh : natO tm (hi.map (cOpd ng)) len = some e) (hl : natO tm (lo.map (cOpd ng)) 0 = some b) (hbe : b ≤ e) (hec : e ≤ cap) (w : World) :
    (Instr.sliceBounds isS len cap (lo.map a.eval) (hi.map a.eval) none).run P w = .ok (b, e, cap) w := by
  have bnd : ∀ (k : IntKind) (n y : Nat) (c : BoundsCode), n ≤ y → (Instr.sliceBound (.int k ((n : Nat) : Int)) y c).run P w = .ok n w := by
    intro k n y c hn
    unfold Instr.sliceBound
    simp only [asIntOf, Sem.run_bind, Sem.run_pure, Result.andThen_ok]
    rw [if_pos (by omega)]
    simp
  rcases natO_ok hg ht hh with ⟨rfl, rfl⟩ | ⟨y, k, rfl, ey⟩ <;> rcases natO_ok hg ht hl with ⟨rfl, rfl⟩ | ⟨z, k', rfl, ez⟩
  · simp [Instr.sliceBounds]
  · simp [Instr.sliceBounds, ez, bnd k' b _ _ hbe]
  · simp [Instr.sliceBounds, ey, bnd k e _ _ hec]
  · simp [Instr.sliceBounds, ey, ez, bnd k e _ _ hec, bnd k' b _ _ hbe]
noncomputable def xSlS (x : Opd) (lo hi : Option Opd) : X := fun tm h => match ev tm x with
  | some (.string s) => match natO tm hi (llen s.data.toList) with
    | some e => match natO tm lo 0 with
      | some b => match Nat.ble b e with
        | true => match Nat.ble e (llen s.data.toList) with
          | true => .val (.string ⟨(ltake (Nat.sub e b) (ldrop b s.data.toList)).toArray⟩) h
          | false => .fail
        | false => .fail
      | none => .fail
    | none => .fail
  | _ => .fail
theorem does_slS {P : Program} {ng nt : Nat} {o : Oper} {t : TypeId} {x : Operand} {lo hi : Option Operand} (ho : o.op = .slice t x lo hi none) (hd : P.underlying t = some .string) : Does P ng nt o (xSlS (cOpd ng x) (lo.map (cOpd ng)) (hi.map (cOpd ng))) := by
  intro tm h E F w a df s hg ht
  unfold xSlS
  cases hx : ev tm (cOpd ng x) with
  | none => exact trivial
  | some v =>
    have hv := ev_ok hg ht hx
    cases v with
    | string str =>
      dsimp only
      cases he : natO tm (hi.map (cOpd ng)) (llen str.data.toList) with
      | none => exact trivial
      | some e =>
        dsimp only
        cases hb : natO tm (lo.map (cOpd ng)) 0 with
        | none => exact trivial
        | some b =>
          dsimp only
          cases h1 : Nat.ble b e with
          | false => exact trivial
          | true =>
            dsimp only
            cases h2 : Nat.ble e (llen str.data.toList) with
            | false => exact trivial
            | true =>
              have h1' := Nat.le_of_ble_eq_true h1
              have h2' := Nat.le_of_ble_eq_true h2
              have es : llen str.data.toList = str.size := by rw [llen_eq]; simp
              rw [es] at he h2'
              refine Told.same s (.string _) ?_
              have hbd := run_bounds (P := P) hg ht (len := str.size) (cap := str.size) false he hb h1' h2' w
              have hr : (Instr.sliceAt t (.string str) (lo.map a.eval) (hi.map a.eval) none).run P w = .ok (.string (str.extract b e)) w := by
                unfold Instr.sliceAt
                rw [Sem.run_bind, run_underlying hd w, Result.andThen_ok]
                simp only
                unfold Instr.slice
                rw [Sem.run_bind, run_underlying hd w, Result.andThen_ok]
                simp [hbd]
              rw [ltake_eq, ldrop_eq]
              have e3 : (⟨((str.data.toList.drop b).take (Nat.sub e b)).toArray⟩ : ByteArray) = str.extract b e := (bytes_cut str b e).symm
              rw [e3]
              simp only [execOp, ho, hv.string_inv, Option.map_none]
              rw [Sem.run_bind, hr]
              rfl
    | _ => exact trivial
end Go.Proofs.YtbhkfifmgbcknaaGreatDoor.Ex
