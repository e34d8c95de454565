/-
  A part of the proof of the statement NfaAccepts.
-/
import Derived.Test.YtbhkfifmgbcknaaGreatDoorG15
set_option linter.unusedSimpArgs false
set_option linter.unusedVariables false
namespace Go.Proofs.YtbhkfifmgbcknaaGreatDoor.Ex
open Go Go.RowKit
noncomputable def cBin (P : Program) (ng : Nat) (op : BinOp) (t : TypeId) (x y : Operand) : X := match P.underlying t with
  | some (.int _) => match op with
    | .shl => xShift op (cOpd ng x) (cOpd ng y)
    | .shr => xShift op (cOpd ng x) (cOpd ng y)
    | _ => xBinI op (cOpd ng x) (cOpd ng y)
  | some .string => xBinS op (cOpd ng x) (cOpd ng y)
  | some (.interface _) => match y with | .const .nilIface => xNilEq nilI op (cOpd ng x) | _ => xFail
  | some (.pointer _) => match y with | .const (.pointer none) => xNilEq nilP op (cOpd ng x) | _ => xFail
  | some (.slice _) => match y with | .const (.slice none _ _) => xNilEq nilS op (cOpd ng x) | _ => xFail
  | some (.func _ _ _) => match y with | .const .nilFunc => xNilEq nilF op (cOpd ng x) | _ => xFail
  | _ => cBin2 P ng op t x y
theorem does_cBin {P : Program} {ng nt : Nat} {o : Oper} {op : BinOp} {t t' : TypeId} {x y : Operand} (ho : o.op = .binOp op t x y t') : Does P ng nt o (cBin P ng op t x y) := by
  unfold cBin
  split
  · split
    · exact does_shift ho
    · exact does_shift ho
    · exact does_binI ho
  · exact does_binS ho
  · rename_i hd
    split
    · exact does_nilEq nilI ho (fun hv hb w => nilEq_i hd op x hv hb w)
    · exact does_fail _ _ _ _
  · rename_i hd
    split
    · exact does_nilEq nilP ho (fun hv hb w => nilEq_p hd op x hv hb w)
    · exact does_fail _ _ _ _
  · rename_i hd
    split
    · exact does_nilEq nilS ho (fun hv hb w => nilEq_s hd op x _ _ hv hb w)
    · exact does_fail _ _ _ _
  · rename_i hd
    split
    · exact does_nilEq nilF ho (fun hv hb w => nilEq_f hd op x hv hb w)
    · exact does_fail _ _ _ _
  · exact does_cBin2 ho
noncomputable def notSlice : TypeDesc → Bool
  | .slice _ => false
  | _ => true
noncomputable def notIface : TypeDesc → Bool
  | .interface _ => false
  | _ => true
noncomputable def cConv (P : Program) (ng : Nat) (t u : TypeId) (x : Operand) : X := match P.underlying t with
  | some d => match P.underlying u with
    | some (.int k) => xConvI k (cOpd ng x)
    | some .string => match notSlice d with
      | true => xConvS (cOpd ng x)
      | false => xFail
    | _ => xFail
  | none => xFail
noncomputable def rowOrText : TypeDesc → Bool
  | .slice _ => true
  | .string => true
  | _ => false
theorem rowOrText_ok {d : TypeDesc} (h : rowOrText d = true) : (∃ e, d = .slice e) ∨ d = .string := by
  cases d with
  | slice e => exact .inl ⟨e, rfl⟩
  | string => exact .inr rfl
  | _ => cases h
noncomputable def cApp (P : Program) (ng : Nat) (t tx : TypeId) (x y : Operand) : X := match P.underlying t with
  | some (.slice e) => match P.underlying tx with
    | some d => match rowOrText d with
      | true => match P.info? e with
        | some i => match i.zero with
          | some z => match Nat.beq i.bytes 0 with
            | false => match Nat.beq i.size 0 with
              | false => match Nat.beq z.cells.size i.size with
                | true => xApp e i.size i.bytes (cOpd ng x) (cOpd ng y)
                | false => xFail
              | true => xFail
            | true => xFail
          | none => xFail
        | none => xFail
      | false => xFail
    | none => xFail
  | _ => xFail
noncomputable def cCall (P : Program) (ng : Nat) (c : Call) : X := match c.callee with
  | .value (.func f) => match isB P f with
    | true => xCall f (c.args.toList.map (cOpd ng))
    | false => xFail
  | .value x => xCallV P (cOpd ng x) (c.args.toList.map (cOpd ng))
  | .builtin .len => match c.args.toList with
    | [x] => match c.argTypes[0]? with
      | some t => match P.underlying t with
        | some .string => xLenS (cOpd ng x)
        | some (.slice _) => xLenL (cOpd ng x)
        | _ => xFail
      | none => xFail
    | _ => xFail
  | .builtin .append => match c.args.toList with
    | [x, y] => match c.argTypes.toList with
      | [t, tx] => cApp P ng t tx x y
      | _ => xFail
    | _ => xFail
  | _ => cCall2 P ng c
noncomputable def zerosOf (len : Nat) (i : TypeInfo) (z : Value) : List Value := ((Array.range (len * i.size)).map (z.cells[· % z.cells.size]!)).toList
noncomputable def cX (P : Program) (ng : Nat) (o : Oper) : X := match o.op with
  | .move x => xMov (cOpd ng x)
  | .assign x => xMov (cOpd ng x)
  | .pick c x y => xPick (cOpd ng c) (cOpd ng x) (cOpd ng y)
  | .alloc e => match P.info? e with
    | some i => match i.zero with
      | some z => match gr 6 z with
        | true => xAlloc e z.cells.toList
        | false => xFail
      | none => xFail
    | none => xFail
  | .box e x => xBox e (cOpd ng x)
  | .load t x => match P.underlying t with
    | some d => match aggD d with
      | false => xLoad1 (cOpd ng x)
      | true => match P.info? t with
        | some i => xLoadN i.size (cOpd ng x)
        | none => xFail
    | none => xFail
  | .store t x y => match P.info? t with
    | some i => xStore i.size (cOpd ng x) (cOpd ng y)
    | none => xFail
  | .binOp op t x y _ => cBin P ng op t x y
  | .unOp .not _ x => xNot (cOpd ng x)
  | .convert t u x => cConv P ng t u x
  | .nilCheck x => xNil (cOpd ng x)
  | .extract x i => xExt (cOpd ng x) i
  | .makeInterface t x => match P.underlying t with
    | some d => match notIface d with
      | true => xIface t (cOpd ng x)
      | false => xFail
    | none => xFail
  | .makeFunc (.func f) first captured => xFunc f (first.toList.map (cOpd ng)) (captured.toList.map (cOpd ng))
  | .fieldAddr t x k => match P.underlying t with
    | some (.struct fs) => match fs[k]? with
      | some f => match P.info? f.type with
        | some i => match Nat.beq i.size 0 with
          | false => xField f.offset (cOpd ng x)
          | true => xFail
        | none => xFail
      | none => xFail
    | _ => xFail
  | .indexAddr t x y => match P.underlying t with
    | some (.slice e) => match P.info? e with
      | some i => xIdxA i.size (cOpd ng x) (cOpd ng y)
      | none => xFail
    | some (.array len e) => match P.info? e with
      | some i => xIdxP i.size len (cOpd ng x) (cOpd ng y)
      | none => xFail
    | _ => xFail
  | .index t x y => match P.underlying t with
    | some .string => xIdxS (cOpd ng x) (cOpd ng y)
    | some (.array len e) => match P.info? e with
      | some i => match P.underlying e with
        | some d => match aggD d with
          | false => xIdxV i.size len (cOpd ng x) (cOpd ng y)
          | true => xFail
        | none => xFail
      | none => xFail
    | _ => xFail
  | .slice t x lo hi none => match P.underlying t with
    | some .string => xSlS (cOpd ng x) (lo.map (cOpd ng)) (hi.map (cOpd ng))
    | some (.slice e) => match P.info? e with
      | some i => xSlL i.size (cOpd ng x) (lo.map (cOpd ng)) (hi.map (cOpd ng))
      | none => xFail
    | _ => xFail
  | .build t parts => match P.info? t with
    | some i => match i.zero with
      | some z => match gr 6 z with
        | true => match placesOf P t with
          | some pl => match resP ng pl parts.toList with
            | some ps => xBuild z.cells.toList ps
            | none => xFail
          | none => xFail
        | false => xFail
      | none => xFail
    | none => xFail
  | .buildSlice t len parts => match P.underlying t with
    | some (.slice e) => match P.info? e with
      | some i => match i.zero with
        | some z => match Nat.ble (len * i.size) 1000000 with
          | true => match Nat.beq (len * i.size) 0 with
            | false => match (zerosOf len i z).all (gr 6) with
              | true => match resP ng (fun k => some (k * i.size, i.size)) parts.toList with
                | some ps => xBuildS e len (zerosOf len i z) ps
                | none => xFail
              | false => xFail
            | true => xBS0 e len parts.toList
          | false => xFail
        | none => xFail
      | none => xFail
    | _ => xFail
  | .call c => cCall P ng c
  | _ => cX2 P ng o
theorem does_cApp {P : Program} {ng nt : Nat} {o : Oper} {t tx : TypeId} {x y : Operand} (ho : o.op = .call { callee := .builtin .append, args := #[x, y], argTypes := #[t, tx] }) : Does P ng nt o (cApp P ng t tx x y) := by
  unfold cApp
  split
  · rename_i ht
    split
    · rename_i hx
      split
      · rename_i hd
        split
        · rename_i hi
          split
          · rename_i hz
            split
            · rename_i hb
              split
              · rename_i hs
                split
                · rename_i hzs
                  refine does_app ho ht ?_ hi hz (fun h => by rw [h] at hb; cases hb) (Nat.pos_of_ne_zero fun h => by rw [h] at hs; cases hs) (Nat.eq_of_beq_eq_true hzs)
                  rcases rowOrText_ok hd with ⟨e', he⟩ | he
                  · exact .inl ⟨e', he ▸ hx⟩
                  · exact .inr (he ▸ hx)
                · exact does_fail _ _ _ _
              · exact does_fail _ _ _ _
            · exact does_fail _ _ _ _
          · exact does_fail _ _ _ _
        · exact does_fail _ _ _ _
      · exact does_fail _ _ _ _
    · exact does_fail _ _ _ _
  · exact does_fail _ _ _ _
theorem does_cCall {P : Program} (hN : noNum P = true) {ng nt : Nat} {o : Oper} {c : Call} (ho : o.op = .call c) : Does P ng nt o (cCall P ng c) := by
  obtain ⟨callee, args, ts⟩ := c
  unfold cCall
  dsimp only
  split
  · rename_i f
    cases hb : isB P f with
    | false => exact does_fail _ _ _ _
    | true =>
      unfold isB at hb
      cases hf : P.funcs[f]? with
      | none => rw [hf] at hb; cases hb
      | some fn =>
        rw [hf] at hb
        exact does_call hN ho hf hb
  · exact does_callV hN ho
  · split
    · rename_i x hx
      have ha : args = #[x] := by
        apply Array.ext'
        exact hx
      subst ha
      split
      · rename_i t hts
        split
        · rename_i hd
          exact does_lenS ho hts hd
        · rename_i hd
          exact does_lenL ho hts hd
        · exact does_fail _ _ _ _
      · exact does_fail _ _ _ _
    · exact does_fail _ _ _ _
  · split
    · rename_i hx
      split
      · rename_i hts
        have ha : args = #[_, _] := Array.ext' hx
        have hb : ts = #[_, _] := Array.ext' hts
        subst ha
        subst hb
        exact does_cApp ho
      · exact does_fail _ _ _ _
    · exact does_fail _ _ _ _
  · exact does_cCall2 ho
theorem does_cX {P : Program} (hN : noNum P = true) (ng nt : Nat) (o : Oper) : Does P ng nt o (cX P ng o) := by
  unfold cX
  split
  · rename_i ho; exact does_mov (.inl ho)
  · rename_i ho; exact does_mov (.inr ho)
  · rename_i ho; exact does_pick ho
  · rename_i ho
    split
    · rename_i hi
      split
      · rename_i hz
        split
        · rename_i hg; exact does_alloc ho hi hz hg
        · exact does_fail _ _ _ _
      · exact does_fail _ _ _ _
    · exact does_fail _ _ _ _
  · rename_i ho; exact does_box ho
  · rename_i ho
    split
    · rename_i hd
      split
      · rename_i ha; exact does_load1 ho hd ha
      · rename_i ha
        split
        · rename_i hi; exact does_loadN ho hd ha hi
        · exact does_fail _ _ _ _
    · exact does_fail _ _ _ _
  · rename_i ho
    split
    · rename_i hi; exact does_store ho hi
    · exact does_fail _ _ _ _
  · rename_i ho; exact does_cBin ho
  · rename_i ho; exact does_not ho
  · rename_i t u x ho
    unfold cConv
    split
    · rename_i d hd
      split
      · rename_i hk; exact does_convI ho hd hk
      · rename_i hk
        split
        · rename_i hs
          exact does_convS ho hd (fun e he => by rw [he] at hs; cases hs) hk
        · exact does_fail _ _ _ _
      · exact does_fail _ _ _ _
    · exact does_fail _ _ _ _
  · rename_i ho; exact does_nil ho
  · rename_i ho; exact does_ext ho
  · rename_i ho
    split
    · rename_i hd
      split
      · rename_i hs
        exact does_iface ho hd (fun ms he => by rw [he] at hs; cases hs)
      · exact does_fail _ _ _ _
    · exact does_fail _ _ _ _
  · rename_i ho; exact does_func ho
  · rename_i ho
    split
    · rename_i hd
      split
      · rename_i hf
        split
        · rename_i hi
          split
          · rename_i hz
            exact does_field ho hd hf hi (fun h => by rw [h] at hz; cases hz)
          · exact does_fail _ _ _ _
        · exact does_fail _ _ _ _
      · exact does_fail _ _ _ _
    · exact does_fail _ _ _ _
  · rename_i ho
    split
    · rename_i hd
      split
      · rename_i hi; exact does_idxA ho hd hi
      · exact does_fail _ _ _ _
    · rename_i hd
      split
      · rename_i hi; exact does_idxP ho hd hi
      · exact does_fail _ _ _ _
    · exact does_fail _ _ _ _
  · rename_i ho
    split
    · rename_i hd; exact does_idxS ho hd
    · rename_i hd
      split
      · rename_i hi
        split
        · rename_i he
          split
          · rename_i ha; exact does_idxV ho hd hi he ha
          · exact does_fail _ _ _ _
        · exact does_fail _ _ _ _
      · exact does_fail _ _ _ _
    · exact does_fail _ _ _ _
  · rename_i ho
    split
    · rename_i hd; exact does_slS ho hd
    · rename_i hd
      split
      · rename_i hi; exact does_slL ho hd hi
      · exact does_fail _ _ _ _
    · exact does_fail _ _ _ _
  · rename_i ho
    split
    · rename_i hi
      split
      · rename_i hz
        split
        · rename_i hg
          split
          · rename_i hpl
            split
            · rename_i hps; exact does_build ho hi hz hg hpl hps
            · exact does_fail _ _ _ _
          · exact does_fail _ _ _ _
        · exact does_fail _ _ _ _
      · exact does_fail _ _ _ _
    · exact does_fail _ _ _ _
  · rename_i ho
    split
    · rename_i hd
      split
      · rename_i hi
        split
        · rename_i hz
          split
          · rename_i h1
            split
            · rename_i h2
              split
              · rename_i h3
                split
                · rename_i hps
                  have h1' := Nat.le_of_ble_eq_true h1
                  exact does_buildS ho hd hi hz (by omega) (fun h => by rw [h] at h2; cases h2) rfl h3 hps
                · exact does_fail _ _ _ _
              · exact does_fail _ _ _ _
            · exact does_buildS0 ho hd hi
          · exact does_fail _ _ _ _
        · exact does_fail _ _ _ _
      · exact does_fail _ _ _ _
    · exact does_fail _ _ _ _
  · rename_i ho; exact does_cCall hN ho
  · exact does_cX2
def Mn (x : X) : Prop := ∀ tm h v h', x tm h = .val v h' → h.n ≤ h'.n
theorem mn_xFail  : Mn (xFail) := by
  intro tm h v h' e
  simp only [xFail, xMov, outO, eqO, newB] at e
  repeat' split at e
  all_goals first
    | (cases e; first | exact Nat.le_refl _ | exact Nat.le_succ _)
    | cases e
theorem mn_xMov (x : Opd) : Mn (xMov x) := by
  intro tm h v h' e
  simp only [xMov, xMov, outO, eqO, newB] at e
  repeat' split at e
  all_goals first
    | (cases e; first | exact Nat.le_refl _ | exact Nat.le_succ _)
    | cases e
theorem mn_xPick (c x y : Opd) : Mn (xPick c x y) := by
  intro tm h v h' e
  simp only [xPick, xMov, outO, eqO, newB] at e
  repeat' split at e
  all_goals first
    | (cases e; first | exact Nat.le_refl _ | exact Nat.le_succ _)
    | cases e
theorem mn_xNot (x : Opd) : Mn (xNot x) := by
  intro tm h v h' e
  simp only [xNot, xMov, outO, eqO, newB] at e
  repeat' split at e
  all_goals first
    | (cases e; first | exact Nat.le_refl _ | exact Nat.le_succ _)
    | cases e
theorem mn_xExt (x : Opd) (i : Nat) : Mn (xExt x i) := by
  intro tm h v h' e
  simp only [xExt, xMov, outO, eqO, newB] at e
  repeat' split at e
  all_goals first
    | (cases e; first | exact Nat.le_refl _ | exact Nat.le_succ _)
    | cases e
theorem mn_xIface (t : TypeId) (x : Opd) : Mn (xIface t x) := by
  intro tm h v h' e
  simp only [xIface, xMov, outO, eqO, newB] at e
  repeat' split at e
  all_goals first
    | (cases e; first | exact Nat.le_refl _ | exact Nat.le_succ _)
    | cases e
theorem mn_xNil (x : Opd) : Mn (xNil x) := by
  intro tm h v h' e
  simp only [xNil, xMov, outO, eqO, newB] at e
  repeat' split at e
  all_goals first
    | (cases e; first | exact Nat.le_refl _ | exact Nat.le_succ _)
    | cases e
theorem mn_xAlloc (e : TypeId) (z : List Value) : Mn (xAlloc e z) := by
  intro tm h v h' e
  simp only [xAlloc, xMov, outO, eqO, newB] at e
  repeat' split at e
  all_goals first
    | (cases e; first | exact Nat.le_refl _ | exact Nat.le_succ _)
    | cases e
theorem mn_xBox (e : TypeId) (x : Opd) : Mn (xBox e x) := by
  intro tm h v h' e
  simp only [xBox, xMov, outO, eqO, newB] at e
  repeat' split at e
  all_goals first
    | (cases e; first | exact Nat.le_refl _ | exact Nat.le_succ _)
    | cases e
theorem mn_xLoad1 (x : Opd) : Mn (xLoad1 x) := by
  intro tm h v h' e
  simp only [xLoad1, xMov, outO, eqO, newB] at e
  repeat' split at e
  all_goals first
    | (cases e; first | exact Nat.le_refl _ | exact Nat.le_succ _)
    | cases e
theorem mn_xLoadN (n : Nat) (x : Opd) : Mn (xLoadN n x) := by
  intro tm h v h' e
  simp only [xLoadN, xMov, outO, eqO, newB] at e
  repeat' split at e
  all_goals first
    | (cases e; first | exact Nat.le_refl _ | exact Nat.le_succ _)
    | cases e
theorem mn_xStore (n : Nat) (x y : Opd) : Mn (xStore n x y) := by
  intro tm h v h' e
  simp only [xStore, xMov, outO, eqO, newB] at e
  repeat' split at e
  all_goals first
    | (cases e; first | exact Nat.le_refl _ | exact Nat.le_succ _)
    | cases e
theorem mn_xBinI (op : BinOp) (x y : Opd) : Mn (xBinI op x y) := by
  intro tm h v h' e
  simp only [xBinI, xMov, outO, eqO, newB] at e
  repeat' split at e
  all_goals first
    | (cases e; first | exact Nat.le_refl _ | exact Nat.le_succ _)
    | cases e
theorem mn_xShift (op : BinOp) (x y : Opd) : Mn (xShift op x y) := by
  intro tm h v h' e
  simp only [xShift, xMov, outO, eqO, newB] at e
  repeat' split at e
  all_goals first
    | (cases e; first | exact Nat.le_refl _ | exact Nat.le_succ _)
    | cases e
theorem mn_xBinS (op : BinOp) (x y : Opd) : Mn (xBinS op x y) := by
  intro tm h v h' e
  simp only [xBinS, xMov, outO, eqO, newB] at e
  repeat' split at e
  all_goals first
    | (cases e; first | exact Nat.le_refl _ | exact Nat.le_succ _)
    | cases e
theorem mn_xNilEq (f : Value → Option Bool) (op : BinOp) (x : Opd) : Mn (xNilEq f op x) := by
  intro tm h v h' e
  simp only [xNilEq, xMov, outO, eqO, newB] at e
  repeat' split at e
  all_goals first
    | (cases e; first | exact Nat.le_refl _ | exact Nat.le_succ _)
    | cases e
theorem mn_xConvI (k : IntKind) (x : Opd) : Mn (xConvI k x) := by
  intro tm h v h' e
  simp only [xConvI, xMov, outO, eqO, newB] at e
  repeat' split at e
  all_goals first
    | (cases e; first | exact Nat.le_refl _ | exact Nat.le_succ _)
    | cases e
theorem mn_xConvS (x : Opd) : Mn (xConvS x) := by
  intro tm h v h' e
  simp only [xConvS, xMov, outO, eqO, newB] at e
  repeat' split at e
  all_goals first
    | (cases e; first | exact Nat.le_refl _ | exact Nat.le_succ _)
    | cases e
theorem mn_xField (k : Nat) (x : Opd) : Mn (xField k x) := by
  intro tm h v h' e
  simp only [xField, xMov, outO, eqO, newB] at e
  repeat' split at e
  all_goals first
    | (cases e; first | exact Nat.le_refl _ | exact Nat.le_succ _)
    | cases e
theorem mn_xIdxA (k : Nat) (x y : Opd) : Mn (xIdxA k x y) := by
  intro tm h v h' e
  simp only [xIdxA, xMov, outO, eqO, newB] at e
  repeat' split at e
  all_goals first
    | (cases e; first | exact Nat.le_refl _ | exact Nat.le_succ _)
    | cases e
theorem mn_xIdxS (x y : Opd) : Mn (xIdxS x y) := by
  intro tm h v h' e
  simp only [xIdxS, xMov, outO, eqO, newB] at e
  repeat' split at e
  all_goals first
    | (cases e; first | exact Nat.le_refl _ | exact Nat.le_succ _)
    | cases e
theorem mn_xLenS (x : Opd) : Mn (xLenS x) := by
  intro tm h v h' e
  simp only [xLenS, xMov, outO, eqO, newB] at e
  repeat' split at e
  all_goals first
    | (cases e; first | exact Nat.le_refl _ | exact Nat.le_succ _)
    | cases e
theorem mn_xLenL (x : Opd) : Mn (xLenL x) := by
  intro tm h v h' e
  simp only [xLenL, xMov, outO, eqO, newB] at e
  repeat' split at e
  all_goals first
    | (cases e; first | exact Nat.le_refl _ | exact Nat.le_succ _)
    | cases e
theorem mn_xSlS (x : Opd) (lo hi : Option Opd) : Mn (xSlS x lo hi) := by
  intro tm h v h' e
  simp only [xSlS, xMov, outO, eqO, newB] at e
  repeat' split at e
  all_goals first
    | (cases e; first | exact Nat.le_refl _ | exact Nat.le_succ _)
    | cases e
theorem mn_xSlL (k : Nat) (x : Opd) (lo hi : Option Opd) : Mn (xSlL k x lo hi) := by
  intro tm h v h' e
  simp only [xSlL, xMov, outO, eqO, newB] at e
  repeat' split at e
  all_goals first
    | (cases e; first | exact Nat.le_refl _ | exact Nat.le_succ _)
    | cases e
theorem mn_xBuild (z : List Value) (ps : List ((Nat × Nat) × Opd)) : Mn (xBuild z ps) := by
  intro tm h v h' e
  simp only [xBuild, xMov, outO, eqO, newB] at e
  repeat' split at e
  all_goals first
    | (cases e; first | exact Nat.le_refl _ | exact Nat.le_succ _)
    | cases e
theorem mn_xBuildS (e : TypeId) (k : Nat) (z : List Value) (ps : List ((Nat × Nat) × Opd)) : Mn (xBuildS e k z ps) := by
  intro tm h v h' e
  simp only [xBuildS, xMov, outO, eqO, newB] at e
  repeat' split at e
  all_goals first
    | (cases e; first | exact Nat.le_refl _ | exact Nat.le_succ _)
    | cases e
theorem mn_xFunc (f : FuncId) (l m : List Opd) : Mn (xFunc f l m) := by
  intro tm h v h' e
  simp only [xFunc, xMov, outO, eqO, newB] at e
  repeat' split at e
  all_goals first
    | (cases e; first | exact Nat.le_refl _ | exact Nat.le_succ _)
    | cases e
theorem mn_xCall (f : FuncId) (l : List Opd) : Mn (xCall f l) := by
  intro tm h v h' e
  simp only [xCall, xMov, outO, eqO, newB] at e
  repeat' split at e
  all_goals first
    | (cases e; first | exact Nat.le_refl _ | exact Nat.le_succ _)
    | cases e
theorem mn_xCallV (P : Program) (x : Opd) (l : List Opd) : Mn (xCallV P x l) := by
  intro tm h v h' e
  simp only [xCallV, xMov, outO, eqO, newB] at e
  repeat' split at e
  all_goals first
    | (cases e; first | exact Nat.le_refl _ | exact Nat.le_succ _)
    | cases e
theorem mn_xApp (e : TypeId) (size bytes : Nat) (x y : Opd) : Mn (xApp e size bytes x y) := by
  intro tm h v h' e
  simp only [xApp, newR] at e
  repeat' split at e
  all_goals first
    | (cases e; first | exact Nat.le_refl _ | exact Nat.le_succ _)
    | cases e
theorem mn_xIdxP (size len : Nat) (x y : Opd) : Mn (xIdxP size len x y) := by
  intro tm h v h' e
  simp only [xIdxP] at e
  repeat' split at e
  all_goals first
    | (cases e; first | exact Nat.le_refl _ | exact Nat.le_succ _)
    | cases e
theorem mn_xIdxV (size len : Nat) (x y : Opd) : Mn (xIdxV size len x y) := by
  intro tm h v h' e
  simp only [xIdxV] at e
  repeat' split at e
  all_goals first
    | (cases e; first | exact Nat.le_refl _ | exact Nat.le_succ _)
    | cases e
theorem mn_cX (P : Program) (ng : Nat) (o : Oper) : Mn (cX P ng o) := by
  unfold cX cBin cConv cCall cApp
  repeat' split
  all_goals first
    | exact mn_xFail
    | exact (tame_cBin2 _ _ _ _ _ _).mn
    | exact (tame_cCall2 _ _ _).mn
    | exact (tame_cX2 _ _ _).mn
    | exact (tame_xBS0 _ _ _).mn
    | exact mn_xIdxV _ _ _ _
    | exact mn_xIdxP _ _ _ _
    | exact mn_xApp _ _ _ _ _
    | exact mn_xMov _
    | exact mn_xPick _ _ _
    | exact mn_xNot _
    | exact mn_xExt _ _
    | exact mn_xIface _ _
    | exact mn_xNil _
    | exact mn_xAlloc _ _
    | exact mn_xBox _ _
    | exact mn_xLoad1 _
    | exact mn_xLoadN _ _
    | exact mn_xStore _ _ _
    | exact mn_xBinI _ _ _
    | exact mn_xShift _ _ _
    | exact mn_xBinS _ _ _
    | exact mn_xNilEq _ _ _
    | exact mn_xConvI _ _
    | exact mn_xConvS _
    | exact mn_xField _ _
    | exact mn_xIdxA _ _ _
    | exact mn_xIdxS _ _
    | exact mn_xLenS _
    | exact mn_xLenL _
    | exact mn_xSlS _ _ _
    | exact mn_xSlL _ _ _ _
    | exact mn_xBuild _ _
    | exact mn_xBuildS _ _ _ _
    | exact mn_xFunc _ _ _
    | exact mn_xCall _ _
    | exact mn_xCallV _ _ _
def En (x : X) : Prop := ∀ tm h f l h', x tm h = .enter f l h' → h' = h
theorem en_xFail  : En (xFail) := by
  intro tm h f l h' e
  simp only [xFail, xMov, outO, eqO, newB] at e
  repeat' split at e
  all_goals first
    | (injection e with _ _ e; exact e.symm)
    | cases e
theorem en_xMov (x : Opd) : En (xMov x) := by
  intro tm h f l h' e
  simp only [xMov, xMov, outO, eqO, newB] at e
  repeat' split at e
  all_goals first
    | (injection e with _ _ e; exact e.symm)
    | cases e
theorem en_xPick (c x y : Opd) : En (xPick c x y) := by
  intro tm h f l h' e
  simp only [xPick, xMov, outO, eqO, newB] at e
  repeat' split at e
  all_goals first
    | (injection e with _ _ e; exact e.symm)
    | cases e
theorem en_xNot (x : Opd) : En (xNot x) := by
  intro tm h f l h' e
  simp only [xNot, xMov, outO, eqO, newB] at e
  repeat' split at e
  all_goals first
    | (injection e with _ _ e; exact e.symm)
    | cases e
theorem en_xExt (x : Opd) (i : Nat) : En (xExt x i) := by
  intro tm h f l h' e
  simp only [xExt, xMov, outO, eqO, newB] at e
  repeat' split at e
  all_goals first
    | (injection e with _ _ e; exact e.symm)
    | cases e
theorem en_xIface (t : TypeId) (x : Opd) : En (xIface t x) := by
  intro tm h f l h' e
  simp only [xIface, xMov, outO, eqO, newB] at e
  repeat' split at e
  all_goals first
    | (injection e with _ _ e; exact e.symm)
    | cases e
theorem en_xNil (x : Opd) : En (xNil x) := by
  intro tm h f l h' e
  simp only [xNil, xMov, outO, eqO, newB] at e
  repeat' split at e
  all_goals first
    | (injection e with _ _ e; exact e.symm)
    | cases e
theorem en_xAlloc (e : TypeId) (z : List Value) : En (xAlloc e z) := by
  intro tm h f l h' e
  simp only [xAlloc, xMov, outO, eqO, newB] at e
  repeat' split at e
  all_goals first
    | (injection e with _ _ e; exact e.symm)
    | cases e
theorem en_xBox (e : TypeId) (x : Opd) : En (xBox e x) := by
  intro tm h f l h' e
  simp only [xBox, xMov, outO, eqO, newB] at e
  repeat' split at e
  all_goals first
    | (injection e with _ _ e; exact e.symm)
    | cases e
theorem en_xLoad1 (x : Opd) : En (xLoad1 x) := by
  intro tm h f l h' e
  simp only [xLoad1, xMov, outO, eqO, newB] at e
  repeat' split at e
  all_goals first
    | (injection e with _ _ e; exact e.symm)
    | cases e
theorem en_xLoadN (n : Nat) (x : Opd) : En (xLoadN n x) := by
  intro tm h f l h' e
  simp only [xLoadN, xMov, outO, eqO, newB] at e
  repeat' split at e
  all_goals first
    | (injection e with _ _ e; exact e.symm)
    | cases e
theorem en_xStore (n : Nat) (x y : Opd) : En (xStore n x y) := by
  intro tm h f l h' e
  simp only [xStore, xMov, outO, eqO, newB] at e
  repeat' split at e
  all_goals first
    | (injection e with _ _ e; exact e.symm)
    | cases e
theorem en_xBinI (op : BinOp) (x y : Opd) : En (xBinI op x y) := by
  intro tm h f l h' e
  simp only [xBinI, xMov, outO, eqO, newB] at e
  repeat' split at e
  all_goals first
    | (injection e with _ _ e; exact e.symm)
    | cases e
theorem en_xShift (op : BinOp) (x y : Opd) : En (xShift op x y) := by
  intro tm h f l h' e
  simp only [xShift, xMov, outO, eqO, newB] at e
  repeat' split at e
  all_goals first
    | (injection e with _ _ e; exact e.symm)
    | cases e
theorem en_xBinS (op : BinOp) (x y : Opd) : En (xBinS op x y) := by
  intro tm h f l h' e
  simp only [xBinS, xMov, outO, eqO, newB] at e
  repeat' split at e
  all_goals first
    | (injection e with _ _ e; exact e.symm)
    | cases e
theorem en_xNilEq (f : Value → Option Bool) (op : BinOp) (x : Opd) : En (xNilEq f op x) := by
  intro tm h f l h' e
  simp only [xNilEq, xMov, outO, eqO, newB] at e
  repeat' split at e
  all_goals first
    | (injection e with _ _ e; exact e.symm)
    | cases e
theorem en_xConvI (k : IntKind) (x : Opd) : En (xConvI k x) := by
  intro tm h f l h' e
  simp only [xConvI, xMov, outO, eqO, newB] at e
  repeat' split at e
  all_goals first
    | (injection e with _ _ e; exact e.symm)
    | cases e
theorem en_xConvS (x : Opd) : En (xConvS x) := by
  intro tm h f l h' e
  simp only [xConvS, xMov, outO, eqO, newB] at e
  repeat' split at e
  all_goals first
    | (injection e with _ _ e; exact e.symm)
    | cases e
theorem en_xField (k : Nat) (x : Opd) : En (xField k x) := by
  intro tm h f l h' e
  simp only [xField, xMov, outO, eqO, newB] at e
  repeat' split at e
  all_goals first
    | (injection e with _ _ e; exact e.symm)
    | cases e
theorem en_xIdxA (k : Nat) (x y : Opd) : En (xIdxA k x y) := by
  intro tm h f l h' e
  simp only [xIdxA, xMov, outO, eqO, newB] at e
  repeat' split at e
  all_goals first
    | (injection e with _ _ e; exact e.symm)
    | cases e
theorem en_xIdxS (x y : Opd) : En (xIdxS x y) := by
  intro tm h f l h' e
  simp only [xIdxS, xMov, outO, eqO, newB] at e
  repeat' split at e
  all_goals first
    | (injection e with _ _ e; exact e.symm)
    | cases e
theorem en_xLenS (x : Opd) : En (xLenS x) := by
  intro tm h f l h' e
  simp only [xLenS, xMov, outO, eqO, newB] at e
  repeat' split at e
  all_goals first
    | (injection e with _ _ e; exact e.symm)
    | cases e
theorem en_xLenL (x : Opd) : En (xLenL x) := by
  intro tm h f l h' e
  simp only [xLenL, xMov, outO, eqO, newB] at e
  repeat' split at e
  all_goals first
    | (injection e with _ _ e; exact e.symm)
    | cases e
theorem en_xSlS (x : Opd) (lo hi : Option Opd) : En (xSlS x lo hi) := by
  intro tm h f l h' e
  simp only [xSlS, xMov, outO, eqO, newB] at e
  repeat' split at e
  all_goals first
    | (injection e with _ _ e; exact e.symm)
    | cases e
theorem en_xSlL (k : Nat) (x : Opd) (lo hi : Option Opd) : En (xSlL k x lo hi) := by
  intro tm h f l h' e
  simp only [xSlL, xMov, outO, eqO, newB] at e
  repeat' split at e
  all_goals first
    | (injection e with _ _ e; exact e.symm)
    | cases e
theorem en_xBuild (z : List Value) (ps : List ((Nat × Nat) × Opd)) : En (xBuild z ps) := by
  intro tm h f l h' e
  simp only [xBuild, xMov, outO, eqO, newB] at e
  repeat' split at e
  all_goals first
    | (injection e with _ _ e; exact e.symm)
    | cases e
theorem en_xBuildS (e : TypeId) (k : Nat) (z : List Value) (ps : List ((Nat × Nat) × Opd)) : En (xBuildS e k z ps) := by
  intro tm h f l h' e
  simp only [xBuildS, xMov, outO, eqO, newB] at e
  repeat' split at e
  all_goals first
    | (injection e with _ _ e; exact e.symm)
    | cases e
theorem en_xFunc (f : FuncId) (l m : List Opd) : En (xFunc f l m) := by
  intro tm h f l h' e
  simp only [xFunc, xMov, outO, eqO, newB] at e
  repeat' split at e
  all_goals first
    | (injection e with _ _ e; exact e.symm)
    | cases e
theorem en_xCall (f : FuncId) (l : List Opd) : En (xCall f l) := by
  intro tm h f l h' e
  simp only [xCall, xMov, outO, eqO, newB] at e
  repeat' split at e
  all_goals first
    | (injection e with _ _ e; exact e.symm)
    | cases e
theorem en_xCallV (P : Program) (x : Opd) (l : List Opd) : En (xCallV P x l) := by
  intro tm h f l h' e
  simp only [xCallV, xMov, outO, eqO, newB] at e
  repeat' split at e
  all_goals first
    | (injection e with _ _ e; exact e.symm)
    | cases e
theorem en_xApp (e : TypeId) (size bytes : Nat) (x y : Opd) : En (xApp e size bytes x y) := by
  intro tm h f l h' e
  simp only [xApp, newR] at e
  repeat' split at e
  all_goals first
    | (injection e with _ _ e; exact e.symm)
    | cases e
theorem en_xIdxP (size len : Nat) (x y : Opd) : En (xIdxP size len x y) := by
  intro tm h f l h' e
  simp only [xIdxP] at e
  repeat' split at e
  all_goals first
    | (injection e with _ _ e; exact e.symm)
    | cases e
theorem en_xIdxV (size len : Nat) (x y : Opd) : En (xIdxV size len x y) := by
  intro tm h f l h' e
  simp only [xIdxV] at e
  repeat' split at e
  all_goals first
    | (injection e with _ _ e; exact e.symm)
    | cases e
theorem en_cX (P : Program) (ng : Nat) (o : Oper) : En (cX P ng o) := by
  unfold cX cBin cConv cCall cApp
  repeat' split
  all_goals first
    | exact en_xFail
    | exact (tame_cBin2 _ _ _ _ _ _).en
    | exact (tame_cCall2 _ _ _).en
    | exact (tame_cX2 _ _ _).en
    | exact (tame_xBS0 _ _ _).en
    | exact en_xIdxV _ _ _ _
    | exact en_xIdxP _ _ _ _
    | exact en_xApp _ _ _ _ _
    | exact en_xMov _
    | exact en_xPick _ _ _
    | exact en_xNot _
    | exact en_xExt _ _
    | exact en_xIface _ _
    | exact en_xNil _
    | exact en_xAlloc _ _
    | exact en_xBox _ _
    | exact en_xLoad1 _
    | exact en_xLoadN _ _
    | exact en_xStore _ _ _
    | exact en_xBinI _ _ _
    | exact en_xShift _ _ _
    | exact en_xBinS _ _ _
    | exact en_xNilEq _ _ _
    | exact en_xConvI _ _
    | exact en_xConvS _
    | exact en_xField _ _
    | exact en_xIdxA _ _ _
    | exact en_xIdxS _ _
    | exact en_xLenS _
    | exact en_xLenL _
    | exact en_xSlS _ _ _
    | exact en_xSlL _ _ _ _
    | exact en_xBuild _ _
    | exact en_xBuildS _ _ _ _
    | exact en_xFunc _ _ _
    | exact en_xCall _ _
    | exact en_xCallV _ _ _
end Go.Proofs.YtbhkfifmgbcknaaGreatDoor.Ex
