/-
  A part of the proof of the statement NfaAccepts.
-/
import Derived.Test.YtbhkfifmgbcknaaGreatDoorProg
import Derived.WalkKit
import Derived.WalkLawsBesides
import Derived.Deep.LoopGhost
import Derived.Lib.Hide
import Derived.Outline
import Derived.Shelf.Bits.Mul64
import Derived.LaidEql
import Derived.Stop.Asserts
import Derived.RowKitTokens
set_option linter.unusedSimpArgs false
set_option linter.unusedVariables false
namespace Go.Proofs.YtbhkfifmgbcknaaGreatDoor
open Go.RowKit Go.Extern
def most : Int := 9223372036854775807
def capI (a : Int) : Int := if a > most then most else a
def addI (a b : Int) : Int := capI (capI a + capI b)
theorem capI_eq (a : Int) : capI a = min a most := by unfold capI; omega
theorem capI_le (a : Int) : capI a ≤ most := by unfold capI; split <;> omega
theorem capI_nonneg {a : Int} (h : 0 ≤ a) : 0 ≤ capI a := by unfold capI most; split <;> omega
theorem capI_of_le {a : Int} (h : a ≤ most) : capI a = a := by unfold capI; rw [if_neg (by omega)]
theorem capI_bd (a : Int) (h : 0 ≤ a) : 0 ≤ capI a ∧ capI a ≤ 9223372036854775807 := ⟨capI_nonneg h, capI_le a⟩
theorem addI_bd (a b : Int) (ha : 0 ≤ a) (hb : 0 ≤ b) : 0 ≤ addI a b ∧ addI a b ≤ 9223372036854775807 :=
  capI_bd _ (by have := capI_nonneg ha; have := capI_nonneg hb; omega)
theorem addI_comm (a b : Int) : addI a b = addI b a := by unfold addI; rw [Int.add_comm]
theorem addI_ge (a b : Int) (hb : 0 ≤ b) : capI a ≤ addI a b := by
  have h1 := capI_nonneg hb
  have h2 := capI_le a
  unfold addI
  generalize capI a = x at *
  rw [capI_eq]
  omega
theorem ret_u {k : IntKind} {a b : Int} (h : a = b) : Ending.returned (.int k a) = .returned (.int k b) := by rw [h]
set_option maxHeartbeats 400000 in
theorem cap_any (a : Int) (w : World) :
    Calls Tryz.prog 261 #[.int .u64 a] w fun e w' => e = .returned (.int .u64 (capI a)) ∧ w' = w := by
  go_enter Tryz.func261, Tryz.ntmps261
  go_wp2
  all_goals
    go_ret
    exact ⟨ret_u (by unfold capI most; split <;> omega), rfl⟩
set_option maxHeartbeats 400000 in
theorem add_any (a b : Int) (ha : 0 ≤ a) (hb : 0 ≤ b) (w : World) :
    Calls Tryz.prog 206 #[.int .u64 a, .int .u64 b] w fun e w' => e = .returned (.int .u64 (addI a b)) ∧ w' = w := by
  obtain ⟨a0, a1⟩ := capI_bd a ha
  obtain ⟨b0, b1⟩ := capI_bd b hb
  go_enter Tryz.func206, Tryz.ntmps206
  go_wp2_with (go_at_call 261; refine (cap_any _ _).mono ?_; rintro e w' ⟨rfl, rfl⟩)
  go_ret
  exact ⟨ret_u rfl, rfl⟩
def NumsAt (w : World) (v : Value) (zs : List Int) : Prop :=
  (∃ a cap, v = .slice a 0 cap ∧ zs = []) ∨ ∃ b off cap, v = .slice (some ⟨b, off, none⟩) zs.length cap ∧ ∀ i, i < zs.length → w.cell? ⟨b, off + i, none⟩ = some (.int .u64 (zs.getD i 0))
theorem NumsAt.keep {w w' : World} {v : Value} {zs : List Int} (h : NumsAt w v zs) (hb : Below w.heap.size w w') : NumsAt w' v zs := by
  rcases h with h | ⟨b, off, cap, e, hc⟩
  · exact .inl h
  · exact .inr ⟨b, off, cap, e, fun i hi => (hb.cell (p := ⟨b, off + i, none⟩) (World.block_lt_of_cell? w _ (hc i hi))).trans (hc i hi)⟩
theorem NumsAt.form {w : World} {v : Value} {zs : List Int} (h : NumsAt w v zs) : ∃ a cap, v = .slice a zs.length cap := by
  rcases h with ⟨a, cap, rfl, rfl⟩ | ⟨b, off, cap, rfl, -⟩
  · exact ⟨a, cap, rfl⟩
  · exact ⟨_, cap, rfl⟩
end Go.Proofs.YtbhkfifmgbcknaaGreatDoor
namespace Go.Proofs.YtbhkfifmgbcknaaGreatDoor
open Go.RowKit Go.Extern.Stop Go.Stop Go.Extern
theorem rlm (z : Sem Value) (f : TypeId → Addr → Nat → Nat → Sem Value) (v : Value) :
    ReflectliteValue.method z f #[v] = (do match ← ReflectliteValue.parts v with | none => z | some (t, a, fl) => f t a fl (fl % 32)) := rfl
theorem rls (v x : Value) : ReflectliteValue.set #[v, x] = (do
    let (some (dst, a, fl), some (src, b, _)) := (← ReflectliteValue.parts v, ← ReflectliteValue.parts x)
      | unsupported (.noEntry "extern/(internal/reflectlite.Value).Set.zeroValue")
    if fl / ReflectliteValue.flagAddr % 2 == 0 then unsupported (.noEntry "extern/(internal/reflectlite.Value).Set.unaddressable")
    let val ← loadVar src b
    if ← Rtype.directlyAssignable dst src then storeVar dst a val
    else if ← Rtype.implements dst src then
      if (← Rtype.kind src) == 20 then
        match val with
        | .nilIface => unsupported (.noEntry "extern/reflectlite: a nil value of one interface type handed on as a value of another")
        | _ => storeVar dst a val
      else storeVar dst a (.iface src val)
    else panicString ("reflectlite.Set: value of type " ++ (← Rtype.spelt src) ++ " is not assignable to type " ++ (← Rtype.spelt dst))
    pure (.tuple #[])) := rfl
theorem methodKind (h : Value) (w : World) : (Go.method 580 322 (.agg #[h]) "Kind").run Tryz.prog w = .ok (425, h) w := by kernel_rfl
theorem methodElem (h : Value) (w : World) : (Go.method 580 322 (.agg #[h]) "Elem").run Tryz.prog w = .ok (440, .agg #[h]) w := by kernel_rfl
theorem methodImplements (h : Value) (w : World) : (Go.method 580 322 (.agg #[h]) "Implements").run Tryz.prog w = .ok (441, .agg #[h]) w := by kernel_rfl
theorem methodAssignableTo (h : Value) (w : World) : (Go.method 580 322 (.agg #[h]) "AssignableTo").run Tryz.prog w = .ok (438, .agg #[h]) w := by kernel_rfl
theorem methodComparable (h : Value) (w : World) : (Go.method 580 322 (.agg #[h]) "Comparable").run Tryz.prog w = .ok (439, .agg #[h]) w := by kernel_rfl
theorem typeOfErrno (v : Value) (w : World) : (ReflectliteType.typeOf #[.iface 128 v]).run Tryz.prog w = .ok (.iface 322 (.agg #[.pointer (some ⟨5, 128, none⟩)])) w := by kernel_rfl
theorem noAsErrno (v : Value) (xT : TypeId) (w : World) : (Instr.typeAssert (.iface 128 v) xT 327 true).run Tryz.prog w = .ok (.tuple #[.nilIface, .bool false]) w := run_typeAssert_lacksB Tryz.underlying327 (by kernel_rfl) (by kernel_rfl) v xT w
theorem noIsErrno (v : Value) (xT : TypeId) (w : World) : (Instr.typeAssert (.iface 128 v) xT 423 true).run Tryz.prog w = .ok (.tuple #[.nilIface, .bool false]) w := run_typeAssert_lacksB Tryz.underlying423 (by kernel_rfl) (by kernel_rfl) v xT w
theorem noUnwsErrno (v : Value) (xT : TypeId) (w : World) : (Instr.typeAssert (.iface 128 v) xT 331 true).run Tryz.prog w = .ok (.tuple #[.nilIface, .bool false]) w := run_typeAssert_lacksB Tryz.underlying331 (by kernel_rfl) (by kernel_rfl) v xT w
theorem typeOfPFault (v : Value) (w : World) : (ReflectliteType.typeOf #[.iface 154 v]).run Tryz.prog w = .ok (.iface 322 (.agg #[.pointer (some ⟨5, 154, none⟩)])) w := by kernel_rfl
theorem noAsPFault (v : Value) (xT : TypeId) (w : World) : (Instr.typeAssert (.iface 154 v) xT 327 true).run Tryz.prog w = .ok (.tuple #[.nilIface, .bool false]) w := run_typeAssert_lacksB Tryz.underlying327 (by kernel_rfl) (by kernel_rfl) v xT w
theorem noIsPFault (v : Value) (xT : TypeId) (w : World) : (Instr.typeAssert (.iface 154 v) xT 423 true).run Tryz.prog w = .ok (.tuple #[.nilIface, .bool false]) w := run_typeAssert_lacksB Tryz.underlying423 (by kernel_rfl) (by kernel_rfl) v xT w
theorem typeOfPPlace (v : Value) (w : World) : (ReflectliteType.typeOf #[.iface 167 v]).run Tryz.prog w = .ok (.iface 322 (.agg #[.pointer (some ⟨5, 167, none⟩)])) w := by kernel_rfl
theorem noAsPPlace (v : Value) (xT : TypeId) (w : World) : (Instr.typeAssert (.iface 167 v) xT 327 true).run Tryz.prog w = .ok (.tuple #[.nilIface, .bool false]) w := run_typeAssert_lacksB Tryz.underlying327 (by kernel_rfl) (by kernel_rfl) v xT w
theorem noIsPPlace (v : Value) (xT : TypeId) (w : World) : (Instr.typeAssert (.iface 167 v) xT 423 true).run Tryz.prog w = .ok (.tuple #[.nilIface, .bool false]) w := run_typeAssert_lacksB Tryz.underlying423 (by kernel_rfl) (by kernel_rfl) v xT w
theorem noUnwErrno (v : Value) (xT : TypeId) (w : World) : (Instr.typeAssert (.iface 128 v) xT 330 true).run Tryz.prog w = .ok (.tuple #[.nilIface, .bool false]) w := run_typeAssert_lacksB Tryz.underlying330 (by kernel_rfl) (by kernel_rfl) v xT w
theorem hasUnwPFault (v : Value) (xT : TypeId) (w : World) : (Instr.typeAssert (.iface 154 v) xT 330 true).run Tryz.prog w = .ok (.tuple #[.iface 154 v, .bool true]) w := run_typeAssert_hasB Tryz.underlying330 (by kernel_rfl) v xT w
theorem methodUnwPFault (v : Value) (w : World) : (Go.method 580 154 v "Unwrap").run Tryz.prog w = .ok (430, v) w := by kernel_rfl
theorem hasUnwPPlace (v : Value) (xT : TypeId) (w : World) : (Instr.typeAssert (.iface 167 v) xT 330 true).run Tryz.prog w = .ok (.tuple #[.iface 167 v, .bool true]) w := run_typeAssert_hasB Tryz.underlying330 (by kernel_rfl) v xT w
theorem methodUnwPPlace (v : Value) (w : World) : (Go.method 580 167 v "Unwrap").run Tryz.prog w = .ok (432, v) w := by kernel_rfl
theorem valueOfPErrno (t : Addr) (w : World) : (ReflectliteValue.unpack (.iface 203 (.pointer (some t)))).run Tryz.prog w
    = .ok (.agg #[.pointer (some ⟨5, 203, none⟩), .pointer (some ⟨w.heap.size, 0, none⟩), .int .u64 150]) (w.alloc (.cells #[.pointer (some t)] 203)) := by kernel_rfl
theorem typePErrno (a : Addr) (w : World) : (ReflectliteValue.methodAny (ReflectliteValue.valueError "reflectlite.Value.Type" 0) (fun t _ _ _ => ReflectliteType.toType t) #[.agg #[.pointer (some ⟨5, 203, none⟩), .pointer (some a), .int .u64 150]]).run Tryz.prog w
    = .ok (.iface 322 (.agg #[.pointer (some ⟨5, 203, none⟩)])) w := by kernel_rfl
theorem kindPErrno (w : World) : ((ReflectliteType.abiMethod fun t => (fun a : Nat => Value.int IntKind.u8 (a : Int)) <$> Rtype.kind t) #[.pointer (some ⟨5, 203, none⟩)]).run Tryz.prog w = .ok (.int .u8 22) w := by kernel_rfl
theorem kindErrno (w : World) : ((ReflectliteType.abiMethod fun t => (fun a : Nat => Value.int IntKind.u8 (a : Int)) <$> Rtype.kind t) #[.pointer (some ⟨5, 128, none⟩)]).run Tryz.prog w = .ok (.int .u8 2) w := by kernel_rfl
theorem partsPErrno (a : Addr) (w : World) : (ReflectliteValue.parts (.agg #[.pointer (some ⟨5, 203, none⟩), .pointer (some a), .int .u64 150])).run Tryz.prog w = .ok (some (203, a, 150)) w := by kernel_rfl
theorem isNilPErrno (a p : Addr) (W : World) (ha : W.cell? a = some (.pointer (some p))) :
    (ReflectliteValue.method (ReflectliteValue.valueError "reflectlite.Value.IsNil" 0) ReflectliteValue.isNil #[.agg #[.pointer (some ⟨5, 203, none⟩), .pointer (some a), .int .u64 150]]).run Tryz.prog W = .ok (.bool false) W := by
  rw [rlm]
  simp only [Sem.run_bind, partsPErrno, Result.andThen]
  simp [ReflectliteValue.isNil, loadVar, isAgg, underlying, Tryz.underlying203, ha, Result.andThen]
theorem elemPErrno (w : World) : (ReflectliteType.method ReflectliteType.elem #[.agg #[.pointer (some ⟨5, 203, none⟩)]]).run Tryz.prog w = .ok (.iface 322 (.agg #[.pointer (some ⟨5, 128, none⟩)])) w := by kernel_rfl
theorem implementsErrno (w : World) : (ReflectliteType.relation "Implements" ReflectliteType.implements_ #[.agg #[.pointer (some ⟨5, 128, none⟩)], .iface 322 (.agg #[.pointer (some ⟨5, 94, none⟩)])]).run Tryz.prog w = .ok (.bool true) w := by kernel_rfl
theorem elemOfPErrno (w : World) : (Rtype.elem? 203).run Tryz.prog w = .ok (some 128) w := by kernel_rfl
theorem mkErrno (p : Addr) (w : World) : (ReflectliteValue.mk 128 p ReflectliteValue.flagAddr).run Tryz.prog w = .ok (.agg #[.pointer (some ⟨5, 128, none⟩), .pointer (some p), .int .u64 386]) w := by kernel_rfl
theorem elemVPErrno (a p : Addr) (W : World) (ha : W.cell? a = some (.pointer (some p))) :
    (ReflectliteValue.method (ReflectliteValue.valueError "reflectlite.Value.Elem" 0) ReflectliteValue.elem #[.agg #[.pointer (some ⟨5, 203, none⟩), .pointer (some a), .int .u64 150]]).run Tryz.prog W
      = .ok (.agg #[.pointer (some ⟨5, 128, none⟩), .pointer (some p), .int .u64 386]) W := by
  rw [rlm]
  simp only [Sem.run_bind, partsPErrno, Result.andThen]
  simp [ReflectliteValue.elem, loadVar, isAgg, underlying, Tryz.underlying203, ha, Result.andThen, elemOfPErrno, mkErrno]
theorem partsMErrno (a : Addr) (w : World) : (ReflectliteValue.parts (.agg #[.pointer (some ⟨5, 128, none⟩), .pointer (some a), .int .u64 386])).run Tryz.prog w = .ok (some (128, a, 386)) w := by kernel_rfl
theorem partsVErrno (a : Addr) (w : World) : (ReflectliteValue.parts (.agg #[.pointer (some ⟨5, 128, none⟩), .pointer (some a), .int .u64 130])).run Tryz.prog w = .ok (some (128, a, 130)) w := by kernel_rfl
theorem directErrno (w : World) : (Rtype.directlyAssignable 128 128).run Tryz.prog w = .ok true w := by kernel_rfl
theorem assignableErrno (w : World) : (ReflectliteType.relation "AssignableTo" ReflectliteType.assignableTo #[.agg #[.pointer (some ⟨5, 128, none⟩)], .iface 322 (.agg #[.pointer (some ⟨5, 128, none⟩)])]).run Tryz.prog w = .ok (.bool true) w := by kernel_rfl
theorem valueOfPPFault (t : Addr) (w : World) : (ReflectliteValue.unpack (.iface 204 (.pointer (some t)))).run Tryz.prog w
    = .ok (.agg #[.pointer (some ⟨5, 204, none⟩), .pointer (some ⟨w.heap.size, 0, none⟩), .int .u64 150]) (w.alloc (.cells #[.pointer (some t)] 204)) := by kernel_rfl
theorem typePPFault (a : Addr) (w : World) : (ReflectliteValue.methodAny (ReflectliteValue.valueError "reflectlite.Value.Type" 0) (fun t _ _ _ => ReflectliteType.toType t) #[.agg #[.pointer (some ⟨5, 204, none⟩), .pointer (some a), .int .u64 150]]).run Tryz.prog w
    = .ok (.iface 322 (.agg #[.pointer (some ⟨5, 204, none⟩)])) w := by kernel_rfl
theorem kindPPFault (w : World) : ((ReflectliteType.abiMethod fun t => (fun a : Nat => Value.int IntKind.u8 (a : Int)) <$> Rtype.kind t) #[.pointer (some ⟨5, 204, none⟩)]).run Tryz.prog w = .ok (.int .u8 22) w := by kernel_rfl
theorem kindPFault (w : World) : ((ReflectliteType.abiMethod fun t => (fun a : Nat => Value.int IntKind.u8 (a : Int)) <$> Rtype.kind t) #[.pointer (some ⟨5, 154, none⟩)]).run Tryz.prog w = .ok (.int .u8 22) w := by kernel_rfl
theorem partsPPFault (a : Addr) (w : World) : (ReflectliteValue.parts (.agg #[.pointer (some ⟨5, 204, none⟩), .pointer (some a), .int .u64 150])).run Tryz.prog w = .ok (some (204, a, 150)) w := by kernel_rfl
theorem isNilPPFault (a p : Addr) (W : World) (ha : W.cell? a = some (.pointer (some p))) :
    (ReflectliteValue.method (ReflectliteValue.valueError "reflectlite.Value.IsNil" 0) ReflectliteValue.isNil #[.agg #[.pointer (some ⟨5, 204, none⟩), .pointer (some a), .int .u64 150]]).run Tryz.prog W = .ok (.bool false) W := by
  rw [rlm]
  simp only [Sem.run_bind, partsPPFault, Result.andThen]
  simp [ReflectliteValue.isNil, loadVar, isAgg, underlying, Tryz.underlying204, ha, Result.andThen]
theorem elemPPFault (w : World) : (ReflectliteType.method ReflectliteType.elem #[.agg #[.pointer (some ⟨5, 204, none⟩)]]).run Tryz.prog w = .ok (.iface 322 (.agg #[.pointer (some ⟨5, 154, none⟩)])) w := by kernel_rfl
theorem implementsPFault (w : World) : (ReflectliteType.relation "Implements" ReflectliteType.implements_ #[.agg #[.pointer (some ⟨5, 154, none⟩)], .iface 322 (.agg #[.pointer (some ⟨5, 94, none⟩)])]).run Tryz.prog w = .ok (.bool true) w := by kernel_rfl
theorem elemOfPPFault (w : World) : (Rtype.elem? 204).run Tryz.prog w = .ok (some 154) w := by kernel_rfl
theorem mkPFault (p : Addr) (w : World) : (ReflectliteValue.mk 154 p ReflectliteValue.flagAddr).run Tryz.prog w = .ok (.agg #[.pointer (some ⟨5, 154, none⟩), .pointer (some p), .int .u64 406]) w := by kernel_rfl
theorem elemVPPFault (a p : Addr) (W : World) (ha : W.cell? a = some (.pointer (some p))) :
    (ReflectliteValue.method (ReflectliteValue.valueError "reflectlite.Value.Elem" 0) ReflectliteValue.elem #[.agg #[.pointer (some ⟨5, 204, none⟩), .pointer (some a), .int .u64 150]]).run Tryz.prog W
      = .ok (.agg #[.pointer (some ⟨5, 154, none⟩), .pointer (some p), .int .u64 406]) W := by
  rw [rlm]
  simp only [Sem.run_bind, partsPPFault, Result.andThen]
  simp [ReflectliteValue.elem, loadVar, isAgg, underlying, Tryz.underlying204, ha, Result.andThen, elemOfPPFault, mkPFault]
theorem partsMPFault (a : Addr) (w : World) : (ReflectliteValue.parts (.agg #[.pointer (some ⟨5, 154, none⟩), .pointer (some a), .int .u64 406])).run Tryz.prog w = .ok (some (154, a, 406)) w := by kernel_rfl
theorem partsVPFault (a : Addr) (w : World) : (ReflectliteValue.parts (.agg #[.pointer (some ⟨5, 154, none⟩), .pointer (some a), .int .u64 150])).run Tryz.prog w = .ok (some (154, a, 150)) w := by kernel_rfl
theorem directPFault (w : World) : (Rtype.directlyAssignable 154 154).run Tryz.prog w = .ok true w := by kernel_rfl
theorem assignablePFault (w : World) : (ReflectliteType.relation "AssignableTo" ReflectliteType.assignableTo #[.agg #[.pointer (some ⟨5, 154, none⟩)], .iface 322 (.agg #[.pointer (some ⟨5, 154, none⟩)])]).run Tryz.prog w = .ok (.bool true) w := by kernel_rfl
theorem valueOfPPPlace (t : Addr) (w : World) : (ReflectliteValue.unpack (.iface 202 (.pointer (some t)))).run Tryz.prog w
    = .ok (.agg #[.pointer (some ⟨5, 202, none⟩), .pointer (some ⟨w.heap.size, 0, none⟩), .int .u64 150]) (w.alloc (.cells #[.pointer (some t)] 202)) := by kernel_rfl
theorem typePPPlace (a : Addr) (w : World) : (ReflectliteValue.methodAny (ReflectliteValue.valueError "reflectlite.Value.Type" 0) (fun t _ _ _ => ReflectliteType.toType t) #[.agg #[.pointer (some ⟨5, 202, none⟩), .pointer (some a), .int .u64 150]]).run Tryz.prog w
    = .ok (.iface 322 (.agg #[.pointer (some ⟨5, 202, none⟩)])) w := by kernel_rfl
theorem kindPPPlace (w : World) : ((ReflectliteType.abiMethod fun t => (fun a : Nat => Value.int IntKind.u8 (a : Int)) <$> Rtype.kind t) #[.pointer (some ⟨5, 202, none⟩)]).run Tryz.prog w = .ok (.int .u8 22) w := by kernel_rfl
theorem kindPPlace (w : World) : ((ReflectliteType.abiMethod fun t => (fun a : Nat => Value.int IntKind.u8 (a : Int)) <$> Rtype.kind t) #[.pointer (some ⟨5, 167, none⟩)]).run Tryz.prog w = .ok (.int .u8 22) w := by kernel_rfl
theorem partsPPPlace (a : Addr) (w : World) : (ReflectliteValue.parts (.agg #[.pointer (some ⟨5, 202, none⟩), .pointer (some a), .int .u64 150])).run Tryz.prog w = .ok (some (202, a, 150)) w := by kernel_rfl
theorem isNilPPPlace (a p : Addr) (W : World) (ha : W.cell? a = some (.pointer (some p))) :
    (ReflectliteValue.method (ReflectliteValue.valueError "reflectlite.Value.IsNil" 0) ReflectliteValue.isNil #[.agg #[.pointer (some ⟨5, 202, none⟩), .pointer (some a), .int .u64 150]]).run Tryz.prog W = .ok (.bool false) W := by
  rw [rlm]
  simp only [Sem.run_bind, partsPPPlace, Result.andThen]
  simp [ReflectliteValue.isNil, loadVar, isAgg, underlying, Tryz.underlying202, ha, Result.andThen]
theorem elemPPPlace (w : World) : (ReflectliteType.method ReflectliteType.elem #[.agg #[.pointer (some ⟨5, 202, none⟩)]]).run Tryz.prog w = .ok (.iface 322 (.agg #[.pointer (some ⟨5, 167, none⟩)])) w := by kernel_rfl
theorem implementsPPlace (w : World) : (ReflectliteType.relation "Implements" ReflectliteType.implements_ #[.agg #[.pointer (some ⟨5, 167, none⟩)], .iface 322 (.agg #[.pointer (some ⟨5, 94, none⟩)])]).run Tryz.prog w = .ok (.bool true) w := by kernel_rfl
theorem elemOfPPPlace (w : World) : (Rtype.elem? 202).run Tryz.prog w = .ok (some 167) w := by kernel_rfl
theorem mkPPlace (p : Addr) (w : World) : (ReflectliteValue.mk 167 p ReflectliteValue.flagAddr).run Tryz.prog w = .ok (.agg #[.pointer (some ⟨5, 167, none⟩), .pointer (some p), .int .u64 406]) w := by kernel_rfl
theorem elemVPPPlace (a p : Addr) (W : World) (ha : W.cell? a = some (.pointer (some p))) :
    (ReflectliteValue.method (ReflectliteValue.valueError "reflectlite.Value.Elem" 0) ReflectliteValue.elem #[.agg #[.pointer (some ⟨5, 202, none⟩), .pointer (some a), .int .u64 150]]).run Tryz.prog W
      = .ok (.agg #[.pointer (some ⟨5, 167, none⟩), .pointer (some p), .int .u64 406]) W := by
  rw [rlm]
  simp only [Sem.run_bind, partsPPPlace, Result.andThen]
  simp [ReflectliteValue.elem, loadVar, isAgg, underlying, Tryz.underlying202, ha, Result.andThen, elemOfPPPlace, mkPPlace]
theorem partsMPPlace (a : Addr) (w : World) : (ReflectliteValue.parts (.agg #[.pointer (some ⟨5, 167, none⟩), .pointer (some a), .int .u64 406])).run Tryz.prog w = .ok (some (167, a, 406)) w := by kernel_rfl
theorem partsVPPlace (a : Addr) (w : World) : (ReflectliteValue.parts (.agg #[.pointer (some ⟨5, 167, none⟩), .pointer (some a), .int .u64 150])).run Tryz.prog w = .ok (some (167, a, 150)) w := by kernel_rfl
theorem directPPlace (w : World) : (Rtype.directlyAssignable 167 167).run Tryz.prog w = .ok true w := by kernel_rfl
theorem assignablePPlace (w : World) : (ReflectliteType.relation "AssignableTo" ReflectliteType.assignableTo #[.agg #[.pointer (some ⟨5, 167, none⟩)], .iface 322 (.agg #[.pointer (some ⟨5, 167, none⟩)])]).run Tryz.prog w = .ok (.bool true) w := by kernel_rfl
theorem unassignableErrnoPFault (w : World) : (ReflectliteType.relation "AssignableTo" ReflectliteType.assignableTo #[.agg #[.pointer (some ⟨5, 128, none⟩)], .iface 322 (.agg #[.pointer (some ⟨5, 154, none⟩)])]).run Tryz.prog w = .ok (.bool false) w := by kernel_rfl
theorem unassignableErrnoPPlace (w : World) : (ReflectliteType.relation "AssignableTo" ReflectliteType.assignableTo #[.agg #[.pointer (some ⟨5, 128, none⟩)], .iface 322 (.agg #[.pointer (some ⟨5, 167, none⟩)])]).run Tryz.prog w = .ok (.bool false) w := by kernel_rfl
theorem unassignablePFaultErrno (w : World) : (ReflectliteType.relation "AssignableTo" ReflectliteType.assignableTo #[.agg #[.pointer (some ⟨5, 154, none⟩)], .iface 322 (.agg #[.pointer (some ⟨5, 128, none⟩)])]).run Tryz.prog w = .ok (.bool false) w := by kernel_rfl
theorem unassignablePFaultPPlace (w : World) : (ReflectliteType.relation "AssignableTo" ReflectliteType.assignableTo #[.agg #[.pointer (some ⟨5, 154, none⟩)], .iface 322 (.agg #[.pointer (some ⟨5, 167, none⟩)])]).run Tryz.prog w = .ok (.bool false) w := by kernel_rfl
theorem unassignablePPlaceErrno (w : World) : (ReflectliteType.relation "AssignableTo" ReflectliteType.assignableTo #[.agg #[.pointer (some ⟨5, 167, none⟩)], .iface 322 (.agg #[.pointer (some ⟨5, 128, none⟩)])]).run Tryz.prog w = .ok (.bool false) w := by kernel_rfl
theorem unassignablePPlacePFault (w : World) : (ReflectliteType.relation "AssignableTo" ReflectliteType.assignableTo #[.agg #[.pointer (some ⟨5, 167, none⟩)], .iface 322 (.agg #[.pointer (some ⟨5, 154, none⟩)])]).run Tryz.prog w = .ok (.bool false) w := by kernel_rfl
theorem valueOfErrno (c : Int) (w : World) : (ReflectliteValue.unpack (.iface 128 (.int .i64 c))).run Tryz.prog w
    = .ok (.agg #[.pointer (some ⟨5, 128, none⟩), .pointer (some ⟨w.heap.size, 0, none⟩), .int .u64 130]) (w.alloc (.cells #[.int .i64 c] 128)) := by kernel_rfl
theorem setErrno (ta b : Addr) (c : Int) (old : Value) (W : World) (hb : W.cell? b = some (.int .i64 c)) (ht : W.cell? ta = some old) (hf : W.frozen? ta = false) :
    (ReflectliteValue.set #[.agg #[.pointer (some ⟨5, 128, none⟩), .pointer (some ta), .int .u64 386], .agg #[.pointer (some ⟨5, 128, none⟩), .pointer (some b), .int .u64 130]]).run Tryz.prog W
      = .ok (.tuple #[]) (W.setCell ta (.int .i64 c)) := by
  rw [rls]
  simp only [Sem.run_bind, partsMErrno, partsVErrno, Result.andThen]
  simp [ReflectliteValue.flagAddr, loadVar, isAgg, underlying, Tryz.underlying128, hb, Result.andThen, directErrno, storeVar, Value.cells, storeCells, Addr.add]
  rw [run_store Tryz.prog W ta _ _ (by rfl)]
  simp [ht, hf]
theorem valueOfPFault (e : Addr) (w : World) : (ReflectliteValue.unpack (.iface 154 (.pointer (some e)))).run Tryz.prog w
    = .ok (.agg #[.pointer (some ⟨5, 154, none⟩), .pointer (some ⟨w.heap.size, 0, none⟩), .int .u64 150]) (w.alloc (.cells #[.pointer (some e)] 154)) := by kernel_rfl
theorem setPFault (ta b e : Addr) (old : Value) (W : World) (hb : W.cell? b = some (.pointer (some e))) (ht : W.cell? ta = some old) (hf : W.frozen? ta = false) :
    (ReflectliteValue.set #[.agg #[.pointer (some ⟨5, 154, none⟩), .pointer (some ta), .int .u64 406], .agg #[.pointer (some ⟨5, 154, none⟩), .pointer (some b), .int .u64 150]]).run Tryz.prog W
      = .ok (.tuple #[]) (W.setCell ta (.pointer (some e))) := by
  rw [rls]
  simp only [Sem.run_bind, partsMPFault, partsVPFault, Result.andThen]
  simp [ReflectliteValue.flagAddr, loadVar, isAgg, underlying, Tryz.underlying154, hb, Result.andThen, directPFault, storeVar, Value.cells, storeCells, Addr.add]
  rw [run_store Tryz.prog W ta _ _ (by rfl)]
  simp [ht, hf]
theorem valueOfPPlace (e : Addr) (w : World) : (ReflectliteValue.unpack (.iface 167 (.pointer (some e)))).run Tryz.prog w
    = .ok (.agg #[.pointer (some ⟨5, 167, none⟩), .pointer (some ⟨w.heap.size, 0, none⟩), .int .u64 150]) (w.alloc (.cells #[.pointer (some e)] 167)) := by kernel_rfl
theorem setPPlace (ta b e : Addr) (old : Value) (W : World) (hb : W.cell? b = some (.pointer (some e))) (ht : W.cell? ta = some old) (hf : W.frozen? ta = false) :
    (ReflectliteValue.set #[.agg #[.pointer (some ⟨5, 167, none⟩), .pointer (some ta), .int .u64 406], .agg #[.pointer (some ⟨5, 167, none⟩), .pointer (some b), .int .u64 150]]).run Tryz.prog W
      = .ok (.tuple #[]) (W.setCell ta (.pointer (some e))) := by
  rw [rls]
  simp only [Sem.run_bind, partsMPPlace, partsVPPlace, Result.andThen]
  simp [ReflectliteValue.flagAddr, loadVar, isAgg, underlying, Tryz.underlying167, hb, Result.andThen, directPPlace, storeVar, Value.cells, storeCells, Addr.add]
  rw [run_store Tryz.prog W ta _ _ (by rfl)]
  simp [ht, hf]
end Go.Proofs.YtbhkfifmgbcknaaGreatDoor
