/-
  errors.As at the three targets of package oops (an api.Errno, a *oops.Fault, a *oops.Place) and errors.Is, over any chain of oops's errors, by contracts: which of them is found, what the target then holds, and that nothing else of the old memory turns. After the kit's worked example of errors.As.
  Chains of oops's errors as they lie in memory (any words, then a number, a fault, or an error of errors.New's make), and errors.As over them at package oops's three targets: what is found, what the target then holds; nothing else of the old memory turns.
-/
import Derived.Test.YtlcpbfklnjlgnaaGreatDoorProg
import Derived.WalkKit
import Derived.LaidEql
import Derived.Stop.Asserts
import Derived.RowKitTokens
import Derived.Deep.LoopGhost
import Derived.Lib.Hide
import Derived.Outline
namespace Go.Proofs.YtlcpbfklnjlgnaaGreatDoor
open Go.RowKit Go.Extern.Stop Go.Stop Go.Extern

/-! ### Closed facts on the entries for internal/reflectlite -/
theorem rlm (z : Sem Value) (f : TypeId → Addr → Nat → Nat → Sem Value) (v : Value) :
    ReflectliteValue.method z f #[v] = (do match ← ReflectliteValue.parts v with | none => z | some (t, a, fl) => f t a fl (fl % 32)) := rfl
theorem rls (v x : Value) : ReflectliteValue.set #[v, x] = (do
    let (some (dst, a, fl), some (src, b, _)) := (← ReflectliteValue.parts v, ← ReflectliteValue.parts x)
      | unsupported (.noEntry "extern/(internal/reflectlite.Value).Set.zeroValue")
    if fl / ReflectliteValue.flagAddr % 2 == 0 then unsupported (.noEntry "extern/(internal/reflectlite.Value).Set.unaddressable")
    let val ← loadVar src b
    if ← Rtype.directlyAssignable dst src then storeVar dst a val
    else if ← Rtype.implements dst src then
      if (← Rtype.kind src) == 20 then
        match val with
        | .nilIface => unsupported (.noEntry "extern/reflectlite: a nil value of one interface type handed on as a value of another")
        | _ => storeVar dst a val
      else storeVar dst a (.iface src val)
    else panicString ("reflectlite.Set: value of type " ++ (← Rtype.spelt src) ++ " is not assignable to type " ++ (← Rtype.spelt dst))
    pure (.tuple #[])) := rfl
theorem methodKind (h : Value) (w : World) : (Go.method 364 168 (.agg #[h]) "Kind").run Tryz.prog w = .ok (187, h) w := by kernel_rfl
theorem methodElem (h : Value) (w : World) : (Go.method 364 168 (.agg #[h]) "Elem").run Tryz.prog w = .ok (203, .agg #[h]) w := by kernel_rfl
theorem methodImplements (h : Value) (w : World) : (Go.method 364 168 (.agg #[h]) "Implements").run Tryz.prog w = .ok (204, .agg #[h]) w := by kernel_rfl
theorem methodAssignableTo (h : Value) (w : World) : (Go.method 364 168 (.agg #[h]) "AssignableTo").run Tryz.prog w = .ok (201, .agg #[h]) w := by kernel_rfl
theorem methodComparable (h : Value) (w : World) : (Go.method 364 168 (.agg #[h]) "Comparable").run Tryz.prog w = .ok (202, .agg #[h]) w := by kernel_rfl

theorem typeOfErrno (v : Value) (w : World) : (ReflectliteType.typeOf #[.iface 75 v]).run Tryz.prog w = .ok (.iface 168 (.agg #[.pointer (some ⟨4, 75, none⟩)])) w := by kernel_rfl
theorem noAsErrno (v : Value) (xT : TypeId) (w : World) : (Instr.typeAssert (.iface 75 v) xT 173 true).run Tryz.prog w = .ok (.tuple #[.nilIface, .bool false]) w := run_typeAssert_lacksB Tryz.underlying173 (by kernel_rfl) (by kernel_rfl) v xT w
theorem noUnwsErrno (v : Value) (xT : TypeId) (w : World) : (Instr.typeAssert (.iface 75 v) xT 177 true).run Tryz.prog w = .ok (.tuple #[.nilIface, .bool false]) w := run_typeAssert_lacksB Tryz.underlying177 (by kernel_rfl) (by kernel_rfl) v xT w
theorem comparableErrno (w : World) : ((ReflectliteType.method fun t => (fun a => Value.bool a.comparable) <$> typeInfo t) #[.agg #[.pointer (some ⟨4, 75, none⟩)]]).run Tryz.prog w = .ok (.bool true) w := by kernel_rfl
theorem typeOfPFault (v : Value) (w : World) : (ReflectliteType.typeOf #[.iface 99 v]).run Tryz.prog w = .ok (.iface 168 (.agg #[.pointer (some ⟨4, 99, none⟩)])) w := by kernel_rfl
theorem noAsPFault (v : Value) (xT : TypeId) (w : World) : (Instr.typeAssert (.iface 99 v) xT 173 true).run Tryz.prog w = .ok (.tuple #[.nilIface, .bool false]) w := run_typeAssert_lacksB Tryz.underlying173 (by kernel_rfl) (by kernel_rfl) v xT w
theorem noUnwsPFault (v : Value) (xT : TypeId) (w : World) : (Instr.typeAssert (.iface 99 v) xT 177 true).run Tryz.prog w = .ok (.tuple #[.nilIface, .bool false]) w := run_typeAssert_lacksB Tryz.underlying177 (by kernel_rfl) (by kernel_rfl) v xT w
theorem comparablePFault (w : World) : ((ReflectliteType.method fun t => (fun a => Value.bool a.comparable) <$> typeInfo t) #[.agg #[.pointer (some ⟨4, 99, none⟩)]]).run Tryz.prog w = .ok (.bool true) w := by kernel_rfl
theorem typeOfPPlace (v : Value) (w : World) : (ReflectliteType.typeOf #[.iface 103 v]).run Tryz.prog w = .ok (.iface 168 (.agg #[.pointer (some ⟨4, 103, none⟩)])) w := by kernel_rfl
theorem noAsPPlace (v : Value) (xT : TypeId) (w : World) : (Instr.typeAssert (.iface 103 v) xT 173 true).run Tryz.prog w = .ok (.tuple #[.nilIface, .bool false]) w := run_typeAssert_lacksB Tryz.underlying173 (by kernel_rfl) (by kernel_rfl) v xT w
theorem noUnwsPPlace (v : Value) (xT : TypeId) (w : World) : (Instr.typeAssert (.iface 103 v) xT 177 true).run Tryz.prog w = .ok (.tuple #[.nilIface, .bool false]) w := run_typeAssert_lacksB Tryz.underlying177 (by kernel_rfl) (by kernel_rfl) v xT w
theorem comparablePPlace (w : World) : ((ReflectliteType.method fun t => (fun a => Value.bool a.comparable) <$> typeInfo t) #[.agg #[.pointer (some ⟨4, 103, none⟩)]]).run Tryz.prog w = .ok (.bool true) w := by kernel_rfl
theorem noUnwErrno (v : Value) (xT : TypeId) (w : World) : (Instr.typeAssert (.iface 75 v) xT 176 true).run Tryz.prog w = .ok (.tuple #[.nilIface, .bool false]) w := run_typeAssert_lacksB Tryz.underlying176 (by kernel_rfl) (by kernel_rfl) v xT w
theorem hasUnwPFault (v : Value) (xT : TypeId) (w : World) : (Instr.typeAssert (.iface 99 v) xT 176 true).run Tryz.prog w = .ok (.tuple #[.iface 99 v, .bool true]) w := run_typeAssert_hasB Tryz.underlying176 (by kernel_rfl) v xT w
theorem methodUnwPFault (v : Value) (w : World) : (Go.method 364 99 v "Unwrap").run Tryz.prog w = .ok (194, v) w := by kernel_rfl
theorem hasUnwPPlace (v : Value) (xT : TypeId) (w : World) : (Instr.typeAssert (.iface 103 v) xT 176 true).run Tryz.prog w = .ok (.tuple #[.iface 103 v, .bool true]) w := run_typeAssert_hasB Tryz.underlying176 (by kernel_rfl) v xT w
theorem methodUnwPPlace (v : Value) (w : World) : (Go.method 364 103 v "Unwrap").run Tryz.prog w = .ok (196, v) w := by kernel_rfl

theorem valueOfPErrno (t : Addr) (w : World) : (ReflectliteValue.unpack (.iface 98 (.pointer (some t)))).run Tryz.prog w
    = .ok (.agg #[.pointer (some ⟨4, 98, none⟩), .pointer (some ⟨w.heap.size, 0, none⟩), .int .u64 150]) (w.alloc (.cells #[.pointer (some t)] 98)) := by kernel_rfl
theorem typePErrno (a : Addr) (w : World) : (ReflectliteValue.methodAny (ReflectliteValue.valueError "reflectlite.Value.Type" 0) (fun t _ _ _ => ReflectliteType.toType t) #[.agg #[.pointer (some ⟨4, 98, none⟩), .pointer (some a), .int .u64 150]]).run Tryz.prog w
    = .ok (.iface 168 (.agg #[.pointer (some ⟨4, 98, none⟩)])) w := by kernel_rfl
theorem kindPErrno (w : World) : ((ReflectliteType.abiMethod fun t => (fun a : Nat => Value.int IntKind.u8 (a : Int)) <$> Rtype.kind t) #[.pointer (some ⟨4, 98, none⟩)]).run Tryz.prog w = .ok (.int .u8 22) w := by kernel_rfl
theorem kindErrno (w : World) : ((ReflectliteType.abiMethod fun t => (fun a : Nat => Value.int IntKind.u8 (a : Int)) <$> Rtype.kind t) #[.pointer (some ⟨4, 75, none⟩)]).run Tryz.prog w = .ok (.int .u8 2) w := by kernel_rfl
theorem partsPErrno (a : Addr) (w : World) : (ReflectliteValue.parts (.agg #[.pointer (some ⟨4, 98, none⟩), .pointer (some a), .int .u64 150])).run Tryz.prog w = .ok (some (98, a, 150)) w := by kernel_rfl
theorem isNilPErrno (a p : Addr) (W : World) (ha : W.cell? a = some (.pointer (some p))) :
    (ReflectliteValue.method (ReflectliteValue.valueError "reflectlite.Value.IsNil" 0) ReflectliteValue.isNil #[.agg #[.pointer (some ⟨4, 98, none⟩), .pointer (some a), .int .u64 150]]).run Tryz.prog W = .ok (.bool false) W := by
  rw [rlm]
  simp only [Sem.run_bind, partsPErrno, Result.andThen]
  simp [ReflectliteValue.isNil, loadVar, isAgg, underlying, Tryz.underlying98, ha, Result.andThen]
theorem elemPErrno (w : World) : (ReflectliteType.method ReflectliteType.elem #[.agg #[.pointer (some ⟨4, 98, none⟩)]]).run Tryz.prog w = .ok (.iface 168 (.agg #[.pointer (some ⟨4, 75, none⟩)])) w := by kernel_rfl
theorem implementsErrno (w : World) : (ReflectliteType.relation "Implements" ReflectliteType.implements_ #[.agg #[.pointer (some ⟨4, 75, none⟩)], .iface 168 (.agg #[.pointer (some ⟨4, 43, none⟩)])]).run Tryz.prog w = .ok (.bool true) w := by kernel_rfl
theorem elemOfPErrno (w : World) : (Rtype.elem? 98).run Tryz.prog w = .ok (some 75) w := by kernel_rfl
theorem mkErrno (p : Addr) (w : World) : (ReflectliteValue.mk 75 p ReflectliteValue.flagAddr).run Tryz.prog w = .ok (.agg #[.pointer (some ⟨4, 75, none⟩), .pointer (some p), .int .u64 386]) w := by kernel_rfl
theorem elemVPErrno (a p : Addr) (W : World) (ha : W.cell? a = some (.pointer (some p))) :
    (ReflectliteValue.method (ReflectliteValue.valueError "reflectlite.Value.Elem" 0) ReflectliteValue.elem #[.agg #[.pointer (some ⟨4, 98, none⟩), .pointer (some a), .int .u64 150]]).run Tryz.prog W
      = .ok (.agg #[.pointer (some ⟨4, 75, none⟩), .pointer (some p), .int .u64 386]) W := by
  rw [rlm]
  simp only [Sem.run_bind, partsPErrno, Result.andThen]
  simp [ReflectliteValue.elem, loadVar, isAgg, underlying, Tryz.underlying98, ha, Result.andThen, elemOfPErrno, mkErrno]
theorem partsMErrno (a : Addr) (w : World) : (ReflectliteValue.parts (.agg #[.pointer (some ⟨4, 75, none⟩), .pointer (some a), .int .u64 386])).run Tryz.prog w = .ok (some (75, a, 386)) w := by kernel_rfl
theorem partsVErrno (a : Addr) (w : World) : (ReflectliteValue.parts (.agg #[.pointer (some ⟨4, 75, none⟩), .pointer (some a), .int .u64 130])).run Tryz.prog w = .ok (some (75, a, 130)) w := by kernel_rfl
theorem directErrno (w : World) : (Rtype.directlyAssignable 75 75).run Tryz.prog w = .ok true w := by kernel_rfl
theorem assignableErrno (w : World) : (ReflectliteType.relation "AssignableTo" ReflectliteType.assignableTo #[.agg #[.pointer (some ⟨4, 75, none⟩)], .iface 168 (.agg #[.pointer (some ⟨4, 75, none⟩)])]).run Tryz.prog w = .ok (.bool true) w := by kernel_rfl
theorem valueOfPPFault (t : Addr) (w : World) : (ReflectliteValue.unpack (.iface 100 (.pointer (some t)))).run Tryz.prog w
    = .ok (.agg #[.pointer (some ⟨4, 100, none⟩), .pointer (some ⟨w.heap.size, 0, none⟩), .int .u64 150]) (w.alloc (.cells #[.pointer (some t)] 100)) := by kernel_rfl
theorem typePPFault (a : Addr) (w : World) : (ReflectliteValue.methodAny (ReflectliteValue.valueError "reflectlite.Value.Type" 0) (fun t _ _ _ => ReflectliteType.toType t) #[.agg #[.pointer (some ⟨4, 100, none⟩), .pointer (some a), .int .u64 150]]).run Tryz.prog w
    = .ok (.iface 168 (.agg #[.pointer (some ⟨4, 100, none⟩)])) w := by kernel_rfl
theorem kindPPFault (w : World) : ((ReflectliteType.abiMethod fun t => (fun a : Nat => Value.int IntKind.u8 (a : Int)) <$> Rtype.kind t) #[.pointer (some ⟨4, 100, none⟩)]).run Tryz.prog w = .ok (.int .u8 22) w := by kernel_rfl
theorem kindPFault (w : World) : ((ReflectliteType.abiMethod fun t => (fun a : Nat => Value.int IntKind.u8 (a : Int)) <$> Rtype.kind t) #[.pointer (some ⟨4, 99, none⟩)]).run Tryz.prog w = .ok (.int .u8 22) w := by kernel_rfl
theorem partsPPFault (a : Addr) (w : World) : (ReflectliteValue.parts (.agg #[.pointer (some ⟨4, 100, none⟩), .pointer (some a), .int .u64 150])).run Tryz.prog w = .ok (some (100, a, 150)) w := by kernel_rfl
theorem isNilPPFault (a p : Addr) (W : World) (ha : W.cell? a = some (.pointer (some p))) :
    (ReflectliteValue.method (ReflectliteValue.valueError "reflectlite.Value.IsNil" 0) ReflectliteValue.isNil #[.agg #[.pointer (some ⟨4, 100, none⟩), .pointer (some a), .int .u64 150]]).run Tryz.prog W = .ok (.bool false) W := by
  rw [rlm]
  simp only [Sem.run_bind, partsPPFault, Result.andThen]
  simp [ReflectliteValue.isNil, loadVar, isAgg, underlying, Tryz.underlying100, ha, Result.andThen]
theorem elemPPFault (w : World) : (ReflectliteType.method ReflectliteType.elem #[.agg #[.pointer (some ⟨4, 100, none⟩)]]).run Tryz.prog w = .ok (.iface 168 (.agg #[.pointer (some ⟨4, 99, none⟩)])) w := by kernel_rfl
theorem implementsPFault (w : World) : (ReflectliteType.relation "Implements" ReflectliteType.implements_ #[.agg #[.pointer (some ⟨4, 99, none⟩)], .iface 168 (.agg #[.pointer (some ⟨4, 43, none⟩)])]).run Tryz.prog w = .ok (.bool true) w := by kernel_rfl
theorem elemOfPPFault (w : World) : (Rtype.elem? 100).run Tryz.prog w = .ok (some 99) w := by kernel_rfl
theorem mkPFault (p : Addr) (w : World) : (ReflectliteValue.mk 99 p ReflectliteValue.flagAddr).run Tryz.prog w = .ok (.agg #[.pointer (some ⟨4, 99, none⟩), .pointer (some p), .int .u64 406]) w := by kernel_rfl
theorem elemVPPFault (a p : Addr) (W : World) (ha : W.cell? a = some (.pointer (some p))) :
    (ReflectliteValue.method (ReflectliteValue.valueError "reflectlite.Value.Elem" 0) ReflectliteValue.elem #[.agg #[.pointer (some ⟨4, 100, none⟩), .pointer (some a), .int .u64 150]]).run Tryz.prog W
      = .ok (.agg #[.pointer (some ⟨4, 99, none⟩), .pointer (some p), .int .u64 406]) W := by
  rw [rlm]
  simp only [Sem.run_bind, partsPPFault, Result.andThen]
  simp [ReflectliteValue.elem, loadVar, isAgg, underlying, Tryz.underlying100, ha, Result.andThen, elemOfPPFault, mkPFault]
theorem partsMPFault (a : Addr) (w : World) : (ReflectliteValue.parts (.agg #[.pointer (some ⟨4, 99, none⟩), .pointer (some a), .int .u64 406])).run Tryz.prog w = .ok (some (99, a, 406)) w := by kernel_rfl
theorem partsVPFault (a : Addr) (w : World) : (ReflectliteValue.parts (.agg #[.pointer (some ⟨4, 99, none⟩), .pointer (some a), .int .u64 150])).run Tryz.prog w = .ok (some (99, a, 150)) w := by kernel_rfl
theorem directPFault (w : World) : (Rtype.directlyAssignable 99 99).run Tryz.prog w = .ok true w := by kernel_rfl
theorem assignablePFault (w : World) : (ReflectliteType.relation "AssignableTo" ReflectliteType.assignableTo #[.agg #[.pointer (some ⟨4, 99, none⟩)], .iface 168 (.agg #[.pointer (some ⟨4, 99, none⟩)])]).run Tryz.prog w = .ok (.bool true) w := by kernel_rfl
theorem valueOfPPPlace (t : Addr) (w : World) : (ReflectliteValue.unpack (.iface 104 (.pointer (some t)))).run Tryz.prog w
    = .ok (.agg #[.pointer (some ⟨4, 104, none⟩), .pointer (some ⟨w.heap.size, 0, none⟩), .int .u64 150]) (w.alloc (.cells #[.pointer (some t)] 104)) := by kernel_rfl
theorem typePPPlace (a : Addr) (w : World) : (ReflectliteValue.methodAny (ReflectliteValue.valueError "reflectlite.Value.Type" 0) (fun t _ _ _ => ReflectliteType.toType t) #[.agg #[.pointer (some ⟨4, 104, none⟩), .pointer (some a), .int .u64 150]]).run Tryz.prog w
    = .ok (.iface 168 (.agg #[.pointer (some ⟨4, 104, none⟩)])) w := by kernel_rfl
theorem kindPPPlace (w : World) : ((ReflectliteType.abiMethod fun t => (fun a : Nat => Value.int IntKind.u8 (a : Int)) <$> Rtype.kind t) #[.pointer (some ⟨4, 104, none⟩)]).run Tryz.prog w = .ok (.int .u8 22) w := by kernel_rfl
theorem kindPPlace (w : World) : ((ReflectliteType.abiMethod fun t => (fun a : Nat => Value.int IntKind.u8 (a : Int)) <$> Rtype.kind t) #[.pointer (some ⟨4, 103, none⟩)]).run Tryz.prog w = .ok (.int .u8 22) w := by kernel_rfl
theorem partsPPPlace (a : Addr) (w : World) : (ReflectliteValue.parts (.agg #[.pointer (some ⟨4, 104, none⟩), .pointer (some a), .int .u64 150])).run Tryz.prog w = .ok (some (104, a, 150)) w := by kernel_rfl
theorem isNilPPPlace (a p : Addr) (W : World) (ha : W.cell? a = some (.pointer (some p))) :
    (ReflectliteValue.method (ReflectliteValue.valueError "reflectlite.Value.IsNil" 0) ReflectliteValue.isNil #[.agg #[.pointer (some ⟨4, 104, none⟩), .pointer (some a), .int .u64 150]]).run Tryz.prog W = .ok (.bool false) W := by
  rw [rlm]
  simp only [Sem.run_bind, partsPPPlace, Result.andThen]
  simp [ReflectliteValue.isNil, loadVar, isAgg, underlying, Tryz.underlying104, ha, Result.andThen]
theorem elemPPPlace (w : World) : (ReflectliteType.method ReflectliteType.elem #[.agg #[.pointer (some ⟨4, 104, none⟩)]]).run Tryz.prog w = .ok (.iface 168 (.agg #[.pointer (some ⟨4, 103, none⟩)])) w := by kernel_rfl
theorem implementsPPlace (w : World) : (ReflectliteType.relation "Implements" ReflectliteType.implements_ #[.agg #[.pointer (some ⟨4, 103, none⟩)], .iface 168 (.agg #[.pointer (some ⟨4, 43, none⟩)])]).run Tryz.prog w = .ok (.bool true) w := by kernel_rfl
theorem elemOfPPPlace (w : World) : (Rtype.elem? 104).run Tryz.prog w = .ok (some 103) w := by kernel_rfl
theorem mkPPlace (p : Addr) (w : World) : (ReflectliteValue.mk 103 p ReflectliteValue.flagAddr).run Tryz.prog w = .ok (.agg #[.pointer (some ⟨4, 103, none⟩), .pointer (some p), .int .u64 406]) w := by kernel_rfl
theorem elemVPPPlace (a p : Addr) (W : World) (ha : W.cell? a = some (.pointer (some p))) :
    (ReflectliteValue.method (ReflectliteValue.valueError "reflectlite.Value.Elem" 0) ReflectliteValue.elem #[.agg #[.pointer (some ⟨4, 104, none⟩), .pointer (some a), .int .u64 150]]).run Tryz.prog W
      = .ok (.agg #[.pointer (some ⟨4, 103, none⟩), .pointer (some p), .int .u64 406]) W := by
  rw [rlm]
  simp only [Sem.run_bind, partsPPPlace, Result.andThen]
  simp [ReflectliteValue.elem, loadVar, isAgg, underlying, Tryz.underlying104, ha, Result.andThen, elemOfPPPlace, mkPPlace]
theorem partsMPPlace (a : Addr) (w : World) : (ReflectliteValue.parts (.agg #[.pointer (some ⟨4, 103, none⟩), .pointer (some a), .int .u64 406])).run Tryz.prog w = .ok (some (103, a, 406)) w := by kernel_rfl
theorem partsVPPlace (a : Addr) (w : World) : (ReflectliteValue.parts (.agg #[.pointer (some ⟨4, 103, none⟩), .pointer (some a), .int .u64 150])).run Tryz.prog w = .ok (some (103, a, 150)) w := by kernel_rfl
theorem directPPlace (w : World) : (Rtype.directlyAssignable 103 103).run Tryz.prog w = .ok true w := by kernel_rfl
theorem assignablePPlace (w : World) : (ReflectliteType.relation "AssignableTo" ReflectliteType.assignableTo #[.agg #[.pointer (some ⟨4, 103, none⟩)], .iface 168 (.agg #[.pointer (some ⟨4, 103, none⟩)])]).run Tryz.prog w = .ok (.bool true) w := by kernel_rfl
theorem unassignableErrnoPFault (w : World) : (ReflectliteType.relation "AssignableTo" ReflectliteType.assignableTo #[.agg #[.pointer (some ⟨4, 75, none⟩)], .iface 168 (.agg #[.pointer (some ⟨4, 99, none⟩)])]).run Tryz.prog w = .ok (.bool false) w := by kernel_rfl
theorem unassignableErrnoPPlace (w : World) : (ReflectliteType.relation "AssignableTo" ReflectliteType.assignableTo #[.agg #[.pointer (some ⟨4, 75, none⟩)], .iface 168 (.agg #[.pointer (some ⟨4, 103, none⟩)])]).run Tryz.prog w = .ok (.bool false) w := by kernel_rfl
theorem unassignablePFaultErrno (w : World) : (ReflectliteType.relation "AssignableTo" ReflectliteType.assignableTo #[.agg #[.pointer (some ⟨4, 99, none⟩)], .iface 168 (.agg #[.pointer (some ⟨4, 75, none⟩)])]).run Tryz.prog w = .ok (.bool false) w := by kernel_rfl
theorem unassignablePFaultPPlace (w : World) : (ReflectliteType.relation "AssignableTo" ReflectliteType.assignableTo #[.agg #[.pointer (some ⟨4, 99, none⟩)], .iface 168 (.agg #[.pointer (some ⟨4, 103, none⟩)])]).run Tryz.prog w = .ok (.bool false) w := by kernel_rfl
theorem unassignablePPlaceErrno (w : World) : (ReflectliteType.relation "AssignableTo" ReflectliteType.assignableTo #[.agg #[.pointer (some ⟨4, 103, none⟩)], .iface 168 (.agg #[.pointer (some ⟨4, 75, none⟩)])]).run Tryz.prog w = .ok (.bool false) w := by kernel_rfl
theorem unassignablePPlacePFault (w : World) : (ReflectliteType.relation "AssignableTo" ReflectliteType.assignableTo #[.agg #[.pointer (some ⟨4, 103, none⟩)], .iface 168 (.agg #[.pointer (some ⟨4, 99, none⟩)])]).run Tryz.prog w = .ok (.bool false) w := by kernel_rfl

theorem valueOfErrno (c : Int) (w : World) : (ReflectliteValue.unpack (.iface 75 (.int .i64 c))).run Tryz.prog w
    = .ok (.agg #[.pointer (some ⟨4, 75, none⟩), .pointer (some ⟨w.heap.size, 0, none⟩), .int .u64 130]) (w.alloc (.cells #[.int .i64 c] 75)) := by kernel_rfl
theorem setErrno (ta b : Addr) (c : Int) (old : Value) (W : World) (hb : W.cell? b = some (.int .i64 c)) (ht : W.cell? ta = some old) (hf : W.frozen? ta = false) :
    (ReflectliteValue.set #[.agg #[.pointer (some ⟨4, 75, none⟩), .pointer (some ta), .int .u64 386], .agg #[.pointer (some ⟨4, 75, none⟩), .pointer (some b), .int .u64 130]]).run Tryz.prog W
      = .ok (.tuple #[]) (W.setCell ta (.int .i64 c)) := by
  rw [rls]
  simp only [Sem.run_bind, partsMErrno, partsVErrno, Result.andThen]
  simp [ReflectliteValue.flagAddr, loadVar, isAgg, underlying, Tryz.underlying75, hb, Result.andThen, directErrno, storeVar, Value.cells, storeCells, Addr.add]
  rw [run_store Tryz.prog W ta _ _ (by rfl)]
  simp [ht, hf]
theorem valueOfPFault (e : Addr) (w : World) : (ReflectliteValue.unpack (.iface 99 (.pointer (some e)))).run Tryz.prog w
    = .ok (.agg #[.pointer (some ⟨4, 99, none⟩), .pointer (some ⟨w.heap.size, 0, none⟩), .int .u64 150]) (w.alloc (.cells #[.pointer (some e)] 99)) := by kernel_rfl
theorem setPFault (ta b e : Addr) (old : Value) (W : World) (hb : W.cell? b = some (.pointer (some e))) (ht : W.cell? ta = some old) (hf : W.frozen? ta = false) :
    (ReflectliteValue.set #[.agg #[.pointer (some ⟨4, 99, none⟩), .pointer (some ta), .int .u64 406], .agg #[.pointer (some ⟨4, 99, none⟩), .pointer (some b), .int .u64 150]]).run Tryz.prog W
      = .ok (.tuple #[]) (W.setCell ta (.pointer (some e))) := by
  rw [rls]
  simp only [Sem.run_bind, partsMPFault, partsVPFault, Result.andThen]
  simp [ReflectliteValue.flagAddr, loadVar, isAgg, underlying, Tryz.underlying99, hb, Result.andThen, directPFault, storeVar, Value.cells, storeCells, Addr.add]
  rw [run_store Tryz.prog W ta _ _ (by rfl)]
  simp [ht, hf]
theorem valueOfPPlace (e : Addr) (w : World) : (ReflectliteValue.unpack (.iface 103 (.pointer (some e)))).run Tryz.prog w
    = .ok (.agg #[.pointer (some ⟨4, 103, none⟩), .pointer (some ⟨w.heap.size, 0, none⟩), .int .u64 150]) (w.alloc (.cells #[.pointer (some e)] 103)) := by kernel_rfl
theorem setPPlace (ta b e : Addr) (old : Value) (W : World) (hb : W.cell? b = some (.pointer (some e))) (ht : W.cell? ta = some old) (hf : W.frozen? ta = false) :
    (ReflectliteValue.set #[.agg #[.pointer (some ⟨4, 103, none⟩), .pointer (some ta), .int .u64 406], .agg #[.pointer (some ⟨4, 103, none⟩), .pointer (some b), .int .u64 150]]).run Tryz.prog W
      = .ok (.tuple #[]) (W.setCell ta (.pointer (some e))) := by
  rw [rls]
  simp only [Sem.run_bind, partsMPPlace, partsVPPlace, Result.andThen]
  simp [ReflectliteValue.flagAddr, loadVar, isAgg, underlying, Tryz.underlying103, hb, Result.andThen, directPPlace, storeVar, Value.cells, storeCells, Addr.add]
  rw [run_store Tryz.prog W ta _ _ (by rfl)]
  simp [ht, hf]
end Go.Proofs.YtlcpbfklnjlgnaaGreatDoor

namespace Go.Proofs.YtlcpbfklnjlgnaaGreatDoor
open Go.RowKit Go.Extern.Stop Go.Stop Go.Extern

inductive Base where
  | errno (c : Int)
  | fault (b : Nat) (c at_ : Int)
  | other (b : Nat)

/-- The error that no Place is around. -/
def Root (B : Nat) (w : World) : Base → Value → Prop
  | .errno c, v => v = .iface 75 (.int .i64 c)
  | .fault b c a, v => v = .iface 99 (.pointer (some ⟨b, 0, none⟩)) ∧ b < B ∧ w.cell? ⟨b, 0, none⟩ = some (.int .i64 c) ∧ w.cell? ⟨b, 1, none⟩ = some (.int .i64 a)
  | .other _, _ => False

/-- An error within words, the outermost first; all of it lies below block B. -/
def Chain (B : Nat) (w : World) (r : Base) : List ByteArray → Value → Prop
  | [], v => Root B w r v
  | s :: l, v => ∃ b u, v = .iface 103 (.pointer (some ⟨b, 0, none⟩)) ∧ b < B ∧ w.cell? ⟨b, 0, none⟩ = some (.string s) ∧ w.cell? ⟨b, 1, none⟩ = some u ∧ Chain B w r l u

theorem Root.keep {B : Nat} {w w' : World} {r : Base} {v : Value} (h : Root B w r v) (hb : Below B w w') : Root B w' r v := by
  cases r with
  | errno c => exact h
  | fault b c a => exact ⟨h.1, h.2.1, (hb.cell (p := ⟨b, 0, none⟩) h.2.1).trans h.2.2.1, (hb.cell (p := ⟨b, 1, none⟩) h.2.1).trans h.2.2.2⟩
  | other b => exact h

theorem Chain.keep {B : Nat} {w w' : World} {r : Base} (hb : Below B w w') : ∀ {l : List ByteArray} {v : Value}, Chain B w r l v → Chain B w' r l v
  | [], _, h => Root.keep h hb
  | _ :: _, _, ⟨b, u, e, hlt, h0, h1, hr⟩ => ⟨b, u, e, hlt, (hb.cell (p := ⟨b, 0, none⟩) hlt).trans h0, (hb.cell (p := ⟨b, 1, none⟩) hlt).trans h1, Chain.keep hb hr⟩

theorem Root.up {B B' : Nat} {w : World} {r : Base} {v : Value} (hB : B ≤ B') (h : Root B w r v) : Root B' w r v := by
  cases r with
  | errno c => exact h
  | fault b c a => exact ⟨h.1, Nat.lt_of_lt_of_le h.2.1 hB, h.2.2⟩
  | other b => exact h

theorem Chain.up {B B' : Nat} {w : World} {r : Base} (hB : B ≤ B') : ∀ {l : List ByteArray} {v : Value}, Chain B w r l v → Chain B' w r l v
  | [], _, h => Root.up hB h
  | _ :: _, _, ⟨b, u, e, hlt, h0, h1, hr⟩ => ⟨b, u, e, Nat.lt_of_lt_of_le hlt hB, h0, h1, Chain.up hB hr⟩

theorem Chain.iface {B : Nat} {w : World} {r : Base} {ws : List ByteArray} {v : Value} (h : Chain B w r ws v) : ∃ T V, v = .iface T V := by
  cases ws with
  | nil => cases r with
    | errno c => exact ⟨_, _, h⟩
    | fault b c a => exact ⟨_, _, h.1⟩
    | other b => exact h.elim
  | cons s l => obtain ⟨b, u, e, _⟩ := h; exact ⟨_, _, e⟩

/-- The number that errors.As finds. -/
def Base.code : Base → Option Int
  | .errno c => some c
  | .fault _ c _ => some c
  | .other _ => none

/-- The world behind a call that sets one old cell, and makes blocks of its own. -/
def Sets (w : World) (t : Addr) (x : Value) (w' : World) : Prop := ∃ w1, Below w.heap.size w w1 ∧ w' = w1.setCell t x

theorem as_nil (t : Value) (w : World) :
    Calls Tryz.prog 43 #[.nilIface, t] w fun e w' => e = .returned (.bool false) ∧ w' = w := by
  go_enter Tryz.func43, Tryz.ntmps43
  go_wp2
  go_ret
  exact ⟨rfl, rfl⟩


/-- The world when the loop of errors.as begins. -/
def LoopW (w : World) (t : Addr) (P : TypeId) : World := ((w.alloc (.cells #[.pointer (some t)] P)).alloc (.cells #[.pointer (some ⟨4, P, none⟩), .pointer (some ⟨w.heap.size, 0, none⟩), .int .u64 150] 131)).alloc (.cells #[.pointer (some ⟨4, P, none⟩), .pointer (some ⟨w.heap.size, 0, none⟩), .int .u64 150] 131)

theorem LoopW.below (w : World) (t : Addr) (P : TypeId) : Below w.heap.size w (LoopW w t P) :=
  (((Below.refl _ _).alloc (Nat.le_refl _) _).alloc (by simp) _).alloc (by simp; omega) _

/-- What stands before a round of errors.as at an api.Errno that is there: an error of the chain, or its number. -/
def NumRel (B : Nat) (w1 : World) (r : Base) (c : Int) (k : Nat) (v : Value) : Prop :=
  (∃ ws, k = ws.length + 1 ∧ Chain B w1 r ws v) ∨ (k = 0 ∧ v = .iface 75 (.int .i64 c))

set_option maxRecDepth 100000 in
set_option maxHeartbeats 4000000 in
theorem as_code (B : Nat) (r : Base) (c : Int) (hr : r.code = some c) (ws : List ByteArray) (v : Value) (t : Addr) (old : Value) (w : World) (hB : B ≤ w.heap.size) (hch : Chain B w r ws v)
    (hg : w.cell? ⟨0, 0, none⟩ = some (.iface 168 (.agg #[.pointer (some ⟨4, 43, none⟩)]))) (ht0 : w.cell? t = some old) (hf0 : w.frozen? t = false) :
    Calls Tryz.prog 43 #[v, .iface 98 (.pointer (some t))] w fun ev w' => ev = .returned (.bool true) ∧ Sets w t (.int .i64 c) w' := by
  obtain ⟨T, V, rfl⟩ := hch.iface
  have h6 := @run_callFunc_extern Tryz.prog 73 _ (fun args => ReflectliteValue.unpack (args.getD 0 (.tuple #[]))) Tryz.func73 (by kernel_rfl) (by kernel_rfl) (by kernel_rfl) (by kernel_rfl)
  have h7 := @run_callFunc_extern Tryz.prog 74 _ (ReflectliteValue.methodAny (ReflectliteValue.valueError "reflectlite.Value.Type" 0) (fun t _ _ _ => ReflectliteType.toType t)) Tryz.func74 (by kernel_rfl) (by kernel_rfl) (by kernel_rfl) (by kernel_rfl)
  have h8 := @run_callFunc_extern Tryz.prog 75 _ (ReflectliteValue.method (ReflectliteValue.valueError "reflectlite.Value.IsNil" 0) ReflectliteValue.isNil) Tryz.func75 (by kernel_rfl) (by kernel_rfl) (by kernel_rfl) (by kernel_rfl)
  have h27 := @run_callFunc_extern Tryz.prog 187 _ (ReflectliteType.abiMethod fun t => do pure (.int .u8 (← Rtype.kind t))) Tryz.func187 (by kernel_rfl) (by kernel_rfl) (by kernel_rfl) (by kernel_rfl)
  have h37 := @run_callFunc_extern Tryz.prog 203 _ (ReflectliteType.method ReflectliteType.elem) Tryz.func203 (by kernel_rfl) (by kernel_rfl) (by kernel_rfl) (by kernel_rfl)
  have h38 := @run_callFunc_extern Tryz.prog 204 _ (ReflectliteType.relation "Implements" ReflectliteType.implements_) Tryz.func204 (by kernel_rfl) (by kernel_rfl) (by kernel_rfl) (by kernel_rfl)
  have h10 := @run_callFunc_extern Tryz.prog 113 _ ReflectliteType.typeOf Tryz.func113 (by kernel_rfl) (by kernel_rfl) (by kernel_rfl) (by kernel_rfl)
  have h35 := @run_callFunc_extern Tryz.prog 201 _ (ReflectliteType.relation "AssignableTo" ReflectliteType.assignableTo) Tryz.func201 (by kernel_rfl) (by kernel_rfl) (by kernel_rfl) (by kernel_rfl)
  have h11 := @run_callFunc_extern Tryz.prog 114 _ (ReflectliteValue.method (ReflectliteValue.valueError "reflectlite.Value.Elem" 0) ReflectliteValue.elem) Tryz.func114 (by kernel_rfl) (by kernel_rfl) (by kernel_rfl) (by kernel_rfl)
  have h12 := @run_callFunc_extern Tryz.prog 115 _ ReflectliteValue.set Tryz.func115 (by kernel_rfl) (by kernel_rfl) (by kernel_rfl) (by kernel_rfl)
  have f6 := valueOfPErrno
  have f7 := typePErrno
  have mK := methodKind
  have mE := methodElem
  have mI := methodImplements
  have mA := methodAssignableTo
  have kP := kindPErrno
  have kE := kindErrno
  have eP := elemPErrno
  have iE := implementsErrno
  have n8 := isNilPErrno ⟨w.heap.size, 0, none⟩ t ((w.alloc (.cells #[.pointer (some t)] 98)).alloc (.cells #[.pointer (some ⟨4, 98, none⟩), .pointer (some ⟨w.heap.size, 0, none⟩), .int .u64 150] 131)) (by simp)
  have hlt : 0 < w.heap.size := World.block_lt_of_cell? w ⟨0, 0, none⟩ hg
  have hg2 : ((w.alloc (.cells #[.pointer (some t)] 98)).alloc (.cells #[.pointer (some ⟨4, 98, none⟩), .pointer (some ⟨w.heap.size, 0, none⟩), .int .u64 150] 131)).cell? ⟨0, 0, none⟩ = some (.iface 168 (.agg #[.pointer (some ⟨4, 43, none⟩)])) := by
    rw [World.cell?_alloc_lt _ _ ⟨0, 0, none⟩ (by rw [World.size_alloc]; exact Nat.lt_succ_of_lt hlt), World.cell?_alloc_lt _ _ ⟨0, 0, none⟩ hlt]; exact hg
  have tOErrno := typeOfErrno
  have tOPFault := typeOfPFault
  have tOPPlace := typeOfPPlace
  have nAErrno := noAsErrno
  have nAPFault := noAsPFault
  have nAPPlace := noAsPPlace
  have nSErrno := noUnwsErrno
  have nUErrno := noUnwErrno
  have hUPFault := hasUnwPFault
  have hUPPlace := hasUnwPPlace
  have mUPFault := methodUnwPFault
  have mUPPlace := methodUnwPPlace
  have uaPFault := unassignablePFaultErrno
  have uaPPlace := unassignablePPlaceErrno
  have asE := assignableErrno
  have vE := valueOfErrno
  have htl : t.block < w.heap.size := by
    rcases Nat.lt_or_ge t.block w.heap.size with h | h
    · exact h
    · simp [World.cell?, Array.getElem?_eq_none h] at ht0
  have el := elemVPErrno ⟨w.heap.size, 0, none⟩ t (((w.alloc (.cells #[.pointer (some t)] 98)).alloc (.cells #[.pointer (some ⟨4, 98, none⟩), .pointer (some ⟨w.heap.size, 0, none⟩), .int .u64 150] 131)).alloc (.cells #[.pointer (some ⟨4, 98, none⟩), .pointer (some ⟨w.heap.size, 0, none⟩), .int .u64 150] 131)) (by rw [World.cell?_alloc_lt _ _ ⟨w.heap.size, 0, none⟩ (by simp; omega)]; simp)
  have st := setErrno t ⟨w.heap.size + 1 + 1 + 1, 0, none⟩ (c) old ((((w.alloc (.cells #[.pointer (some t)] 98)).alloc (.cells #[.pointer (some ⟨4, 98, none⟩), .pointer (some ⟨w.heap.size, 0, none⟩), .int .u64 150] 131)).alloc (.cells #[.pointer (some ⟨4, 98, none⟩), .pointer (some ⟨w.heap.size, 0, none⟩), .int .u64 150] 131)).alloc (.cells #[.int .i64 c] 75))
    (by rw [World.cell?_alloc_at _ _ _ _ (by simp)]; rfl)
    (by rw [World.cell?_alloc_lt _ _ t (by simp; omega), World.cell?_alloc_lt _ _ t (by simp; omega), World.cell?_alloc_lt _ _ t (by simp; omega), World.cell?_alloc_lt _ _ t htl]; exact ht0)
    (by rw [World.frozen?_alloc_old _ _ t (by simp; omega), World.frozen?_alloc_old _ _ t (by simp; omega), World.frozen?_alloc_old _ _ t (by simp; omega), World.frozen?_alloc_old _ _ t (Nat.ne_of_lt htl)]; exact hf0)
  have hchl : Chain B (LoopW w t 98) r ws (.iface T V) := Chain.keep ((LoopW.below w t 98).mono hB) hch
  have HR := Lib.hid hr
  clear hr
  have HC := Lib.hid hchl
  clear hchl hch
  go_enter Tryz.func43, Tryz.ntmps43
  go_wp2
  go_loopg [0] (ws.length + 1) (fun k v' wr => wr = LoopW w t 98 ∧ NumRel B wr r c k v')
  case atStart => exact ⟨rfl, Or.inl ⟨ws, rfl, HC.out⟩⟩
  case round =>
    obtain ⟨hwr, hrel⟩ := hrel
    unfold LoopW at hwr
    subst hwr
    rcases hrel with ⟨l, hk, hl⟩ | ⟨hk, rfl⟩
    · have HK := Lib.hid hk
      clear hk
      cases l with
      | nil =>
        cases r with
        | errno c' =>
          obtain rfl : c = c' := (Option.some.inj HR.out).symm
          obtain rfl := hl
          go_wp2
          go_ret
          exact ⟨rfl, _, (LoopW.below w t 98).alloc (by simp [LoopW]; omega) _, rfl⟩
        | fault b c' a =>
          obtain rfl : c = c' := (Option.some.inj HR.out).symm
          obtain ⟨rfl, hb, h0, h1⟩ := hl
          go_wp2
          go_roundg 0
          case measure => have := HK.out; omega
          case rel => exact ⟨rfl, Or.inr ⟨rfl, rfl⟩⟩
        | other b => exact absurd HR.out (by intro h; cases h)
      | cons s l =>
        obtain ⟨b, u, rfl, hb, h0, h1, hr⟩ := hl
        obtain ⟨Tu, Vu, rfl⟩ := hr.iface
        have HT := Lib.hid hr
        clear hr
        go_wp2
        go_roundg (l.length + 1)
        case measure => have := HK.out; simp at this; omega
        case rel => exact ⟨rfl, Or.inl ⟨l, rfl, HT.out⟩⟩
    · go_wp2
      go_ret
      exact ⟨rfl, _, (LoopW.below w t 98).alloc (by simp [LoopW]; omega) _, rfl⟩

set_option maxRecDepth 100000 in
set_option maxHeartbeats 4000000 in
theorem as_fault (B : Nat) (fb : Nat) (fc fa : Int) (ws : List ByteArray) (v : Value) (t : Addr) (old : Value) (w : World) (hB : B ≤ w.heap.size) (hch : Chain B w (.fault fb fc fa) ws v)
    (hg : w.cell? ⟨0, 0, none⟩ = some (.iface 168 (.agg #[.pointer (some ⟨4, 43, none⟩)]))) (ht0 : w.cell? t = some old) (hf0 : w.frozen? t = false) :
    Calls Tryz.prog 43 #[v, .iface 100 (.pointer (some t))] w fun ev w' => ev = .returned (.bool true) ∧ Sets w t (.pointer (some ⟨fb, 0, none⟩)) w' := by
  obtain ⟨T, V, rfl⟩ := hch.iface
  have h6 := @run_callFunc_extern Tryz.prog 73 _ (fun args => ReflectliteValue.unpack (args.getD 0 (.tuple #[]))) Tryz.func73 (by kernel_rfl) (by kernel_rfl) (by kernel_rfl) (by kernel_rfl)
  have h7 := @run_callFunc_extern Tryz.prog 74 _ (ReflectliteValue.methodAny (ReflectliteValue.valueError "reflectlite.Value.Type" 0) (fun t _ _ _ => ReflectliteType.toType t)) Tryz.func74 (by kernel_rfl) (by kernel_rfl) (by kernel_rfl) (by kernel_rfl)
  have h8 := @run_callFunc_extern Tryz.prog 75 _ (ReflectliteValue.method (ReflectliteValue.valueError "reflectlite.Value.IsNil" 0) ReflectliteValue.isNil) Tryz.func75 (by kernel_rfl) (by kernel_rfl) (by kernel_rfl) (by kernel_rfl)
  have h27 := @run_callFunc_extern Tryz.prog 187 _ (ReflectliteType.abiMethod fun t => do pure (.int .u8 (← Rtype.kind t))) Tryz.func187 (by kernel_rfl) (by kernel_rfl) (by kernel_rfl) (by kernel_rfl)
  have h37 := @run_callFunc_extern Tryz.prog 203 _ (ReflectliteType.method ReflectliteType.elem) Tryz.func203 (by kernel_rfl) (by kernel_rfl) (by kernel_rfl) (by kernel_rfl)
  have h38 := @run_callFunc_extern Tryz.prog 204 _ (ReflectliteType.relation "Implements" ReflectliteType.implements_) Tryz.func204 (by kernel_rfl) (by kernel_rfl) (by kernel_rfl) (by kernel_rfl)
  have h10 := @run_callFunc_extern Tryz.prog 113 _ ReflectliteType.typeOf Tryz.func113 (by kernel_rfl) (by kernel_rfl) (by kernel_rfl) (by kernel_rfl)
  have h35 := @run_callFunc_extern Tryz.prog 201 _ (ReflectliteType.relation "AssignableTo" ReflectliteType.assignableTo) Tryz.func201 (by kernel_rfl) (by kernel_rfl) (by kernel_rfl) (by kernel_rfl)
  have h11 := @run_callFunc_extern Tryz.prog 114 _ (ReflectliteValue.method (ReflectliteValue.valueError "reflectlite.Value.Elem" 0) ReflectliteValue.elem) Tryz.func114 (by kernel_rfl) (by kernel_rfl) (by kernel_rfl) (by kernel_rfl)
  have h12 := @run_callFunc_extern Tryz.prog 115 _ ReflectliteValue.set Tryz.func115 (by kernel_rfl) (by kernel_rfl) (by kernel_rfl) (by kernel_rfl)
  have f6 := valueOfPPFault
  have f7 := typePPFault
  have mK := methodKind
  have mE := methodElem
  have mI := methodImplements
  have mA := methodAssignableTo
  have kP := kindPPFault
  have kE := kindPFault
  have eP := elemPPFault
  have iE := implementsPFault
  have n8 := isNilPPFault ⟨w.heap.size, 0, none⟩ t ((w.alloc (.cells #[.pointer (some t)] 100)).alloc (.cells #[.pointer (some ⟨4, 100, none⟩), .pointer (some ⟨w.heap.size, 0, none⟩), .int .u64 150] 131)) (by simp)
  have hlt : 0 < w.heap.size := World.block_lt_of_cell? w ⟨0, 0, none⟩ hg
  have hg2 : ((w.alloc (.cells #[.pointer (some t)] 100)).alloc (.cells #[.pointer (some ⟨4, 100, none⟩), .pointer (some ⟨w.heap.size, 0, none⟩), .int .u64 150] 131)).cell? ⟨0, 0, none⟩ = some (.iface 168 (.agg #[.pointer (some ⟨4, 43, none⟩)])) := by
    rw [World.cell?_alloc_lt _ _ ⟨0, 0, none⟩ (by rw [World.size_alloc]; exact Nat.lt_succ_of_lt hlt), World.cell?_alloc_lt _ _ ⟨0, 0, none⟩ hlt]; exact hg
  have tOErrno := typeOfErrno
  have tOPFault := typeOfPFault
  have tOPPlace := typeOfPPlace
  have nAErrno := noAsErrno
  have nAPFault := noAsPFault
  have nAPPlace := noAsPPlace
  have nSErrno := noUnwsErrno
  have nUErrno := noUnwErrno
  have hUPFault := hasUnwPFault
  have hUPPlace := hasUnwPPlace
  have mUPFault := methodUnwPFault
  have mUPPlace := methodUnwPPlace
  have uaPPlace := unassignablePPlacePFault
  have asE := assignablePFault
  have vE := valueOfPFault
  have htl : t.block < w.heap.size := by
    rcases Nat.lt_or_ge t.block w.heap.size with h | h
    · exact h
    · simp [World.cell?, Array.getElem?_eq_none h] at ht0
  have el := elemVPPFault ⟨w.heap.size, 0, none⟩ t (((w.alloc (.cells #[.pointer (some t)] 100)).alloc (.cells #[.pointer (some ⟨4, 100, none⟩), .pointer (some ⟨w.heap.size, 0, none⟩), .int .u64 150] 131)).alloc (.cells #[.pointer (some ⟨4, 100, none⟩), .pointer (some ⟨w.heap.size, 0, none⟩), .int .u64 150] 131)) (by rw [World.cell?_alloc_lt _ _ ⟨w.heap.size, 0, none⟩ (by simp; omega)]; simp)
  have st := setPFault t ⟨w.heap.size + 1 + 1 + 1, 0, none⟩ (⟨fb, 0, none⟩) old ((((w.alloc (.cells #[.pointer (some t)] 100)).alloc (.cells #[.pointer (some ⟨4, 100, none⟩), .pointer (some ⟨w.heap.size, 0, none⟩), .int .u64 150] 131)).alloc (.cells #[.pointer (some ⟨4, 100, none⟩), .pointer (some ⟨w.heap.size, 0, none⟩), .int .u64 150] 131)).alloc (.cells #[.pointer (some ⟨fb, 0, none⟩)] 99))
    (by rw [World.cell?_alloc_at _ _ _ _ (by simp)]; rfl)
    (by rw [World.cell?_alloc_lt _ _ t (by simp; omega), World.cell?_alloc_lt _ _ t (by simp; omega), World.cell?_alloc_lt _ _ t (by simp; omega), World.cell?_alloc_lt _ _ t htl]; exact ht0)
    (by rw [World.frozen?_alloc_old _ _ t (by simp; omega), World.frozen?_alloc_old _ _ t (by simp; omega), World.frozen?_alloc_old _ _ t (by simp; omega), World.frozen?_alloc_old _ _ t (Nat.ne_of_lt htl)]; exact hf0)
  obtain ⟨r, hr⟩ : ∃ r, r = Base.fault fb fc fa := ⟨_, rfl⟩
  rw [← hr] at hch
  have HR := Lib.hid hr
  clear hr
  have hchl : Chain B (LoopW w t 100) r ws (.iface T V) := Chain.keep ((LoopW.below w t 100).mono hB) hch
  have HC := Lib.hid hchl
  clear hchl hch
  go_enter Tryz.func43, Tryz.ntmps43
  go_wp2
  go_loopg [0] (ws.length) (fun k v' wr => wr = LoopW w t 100 ∧ ∃ l, k = l.length ∧ Chain B wr r l v')
  case atStart => exact ⟨rfl, ws, rfl, HC.out⟩
  case round =>
    obtain ⟨hwr, l, hk, hl⟩ := hrel
    unfold LoopW at hwr
    subst hwr
    have HK := Lib.hid hk
    clear hk
    cases l with
    | cons s l =>
      obtain ⟨b, u, rfl, hb, h0, h1, hr⟩ := hl
      obtain ⟨Tu, Vu, rfl⟩ := hr.iface
      have HT := Lib.hid hr
      clear hr
      go_wp2
      go_roundg (l.length)
      case measure => have := HK.out; simp at this; omega
      case rel => exact ⟨rfl, l, rfl, HT.out⟩
    | nil =>
      rw [HR.out] at hl
      obtain ⟨rfl, hb, h0, h1⟩ := hl
      go_wp2
      go_ret
      exact ⟨rfl, _, (LoopW.below w t 100).alloc (by simp [LoopW]; omega) _, rfl⟩

set_option maxRecDepth 100000 in
set_option maxHeartbeats 4000000 in
theorem as_fault_no (B : Nat) (r : Base) (hr : ∀ b c a, r ≠ .fault b c a) (ws : List ByteArray) (v : Value) (t : Addr) (w : World) (hB : B ≤ w.heap.size) (hch : Chain B w r ws v)
    (hg : w.cell? ⟨0, 0, none⟩ = some (.iface 168 (.agg #[.pointer (some ⟨4, 43, none⟩)]))) :
    Calls Tryz.prog 43 #[v, .iface 100 (.pointer (some t))] w fun ev w' => ev = .returned (.bool false) ∧ Below w.heap.size w w' := by
  obtain ⟨T, V, rfl⟩ := hch.iface
  have h6 := @run_callFunc_extern Tryz.prog 73 _ (fun args => ReflectliteValue.unpack (args.getD 0 (.tuple #[]))) Tryz.func73 (by kernel_rfl) (by kernel_rfl) (by kernel_rfl) (by kernel_rfl)
  have h7 := @run_callFunc_extern Tryz.prog 74 _ (ReflectliteValue.methodAny (ReflectliteValue.valueError "reflectlite.Value.Type" 0) (fun t _ _ _ => ReflectliteType.toType t)) Tryz.func74 (by kernel_rfl) (by kernel_rfl) (by kernel_rfl) (by kernel_rfl)
  have h8 := @run_callFunc_extern Tryz.prog 75 _ (ReflectliteValue.method (ReflectliteValue.valueError "reflectlite.Value.IsNil" 0) ReflectliteValue.isNil) Tryz.func75 (by kernel_rfl) (by kernel_rfl) (by kernel_rfl) (by kernel_rfl)
  have h27 := @run_callFunc_extern Tryz.prog 187 _ (ReflectliteType.abiMethod fun t => do pure (.int .u8 (← Rtype.kind t))) Tryz.func187 (by kernel_rfl) (by kernel_rfl) (by kernel_rfl) (by kernel_rfl)
  have h37 := @run_callFunc_extern Tryz.prog 203 _ (ReflectliteType.method ReflectliteType.elem) Tryz.func203 (by kernel_rfl) (by kernel_rfl) (by kernel_rfl) (by kernel_rfl)
  have h38 := @run_callFunc_extern Tryz.prog 204 _ (ReflectliteType.relation "Implements" ReflectliteType.implements_) Tryz.func204 (by kernel_rfl) (by kernel_rfl) (by kernel_rfl) (by kernel_rfl)
  have h10 := @run_callFunc_extern Tryz.prog 113 _ ReflectliteType.typeOf Tryz.func113 (by kernel_rfl) (by kernel_rfl) (by kernel_rfl) (by kernel_rfl)
  have h35 := @run_callFunc_extern Tryz.prog 201 _ (ReflectliteType.relation "AssignableTo" ReflectliteType.assignableTo) Tryz.func201 (by kernel_rfl) (by kernel_rfl) (by kernel_rfl) (by kernel_rfl)
  have h11 := @run_callFunc_extern Tryz.prog 114 _ (ReflectliteValue.method (ReflectliteValue.valueError "reflectlite.Value.Elem" 0) ReflectliteValue.elem) Tryz.func114 (by kernel_rfl) (by kernel_rfl) (by kernel_rfl) (by kernel_rfl)
  have h12 := @run_callFunc_extern Tryz.prog 115 _ ReflectliteValue.set Tryz.func115 (by kernel_rfl) (by kernel_rfl) (by kernel_rfl) (by kernel_rfl)
  have f6 := valueOfPPFault
  have f7 := typePPFault
  have mK := methodKind
  have mE := methodElem
  have mI := methodImplements
  have mA := methodAssignableTo
  have kP := kindPPFault
  have kE := kindPFault
  have eP := elemPPFault
  have iE := implementsPFault
  have n8 := isNilPPFault ⟨w.heap.size, 0, none⟩ t ((w.alloc (.cells #[.pointer (some t)] 100)).alloc (.cells #[.pointer (some ⟨4, 100, none⟩), .pointer (some ⟨w.heap.size, 0, none⟩), .int .u64 150] 131)) (by simp)
  have hlt : 0 < w.heap.size := World.block_lt_of_cell? w ⟨0, 0, none⟩ hg
  have hg2 : ((w.alloc (.cells #[.pointer (some t)] 100)).alloc (.cells #[.pointer (some ⟨4, 100, none⟩), .pointer (some ⟨w.heap.size, 0, none⟩), .int .u64 150] 131)).cell? ⟨0, 0, none⟩ = some (.iface 168 (.agg #[.pointer (some ⟨4, 43, none⟩)])) := by
    rw [World.cell?_alloc_lt _ _ ⟨0, 0, none⟩ (by rw [World.size_alloc]; exact Nat.lt_succ_of_lt hlt), World.cell?_alloc_lt _ _ ⟨0, 0, none⟩ hlt]; exact hg
  have tOErrno := typeOfErrno
  have tOPFault := typeOfPFault
  have tOPPlace := typeOfPPlace
  have nAErrno := noAsErrno
  have nAPFault := noAsPFault
  have nAPPlace := noAsPPlace
  have nSErrno := noUnwsErrno
  have nUErrno := noUnwErrno
  have hUPFault := hasUnwPFault
  have hUPPlace := hasUnwPPlace
  have mUPFault := methodUnwPFault
  have mUPPlace := methodUnwPPlace
  have uaErrno := unassignableErrnoPFault
  have uaPPlace := unassignablePPlacePFault
  have HR := Lib.hid hr
  clear hr
  have hchl : Chain B (LoopW w t 100) r ws (.iface T V) := Chain.keep ((LoopW.below w t 100).mono hB) hch
  have HC := Lib.hid hchl
  clear hchl hch
  go_enter Tryz.func43, Tryz.ntmps43
  go_wp2
  go_loopg [0] (ws.length) (fun k v' wr => wr = LoopW w t 100 ∧ ∃ l, k = l.length ∧ Chain B wr r l v')
  case atStart => exact ⟨rfl, ws, rfl, HC.out⟩
  case round =>
    obtain ⟨hwr, l, hk, hl⟩ := hrel
    unfold LoopW at hwr
    subst hwr
    have HK := Lib.hid hk
    clear hk
    cases l with
    | cons s l =>
      obtain ⟨b, u, rfl, hb, h0, h1, hr⟩ := hl
      obtain ⟨Tu, Vu, rfl⟩ := hr.iface
      have HT := Lib.hid hr
      clear hr
      go_wp2
      go_roundg (l.length)
      case measure => have := HK.out; simp at this; omega
      case rel => exact ⟨rfl, l, rfl, HT.out⟩
    | nil =>
      cases r with
      | errno c =>
        obtain rfl := hl
        go_wp2
        go_ret
        exact ⟨rfl, LoopW.below w t 100⟩
      | fault b c a => exact absurd rfl (HR.out b c a)
      | other b => exact hl.elim

set_option maxRecDepth 100000 in
set_option maxHeartbeats 4000000 in
theorem as_place (b : Nat) (t : Addr) (old : Value) (w : World)
    (hg : w.cell? ⟨0, 0, none⟩ = some (.iface 168 (.agg #[.pointer (some ⟨4, 43, none⟩)]))) (ht0 : w.cell? t = some old) (hf0 : w.frozen? t = false) :
    Calls Tryz.prog 43 #[.iface 103 (.pointer (some ⟨b, 0, none⟩)), .iface 104 (.pointer (some t))] w fun ev w' => ev = .returned (.bool true) ∧ Sets w t (.pointer (some ⟨b, 0, none⟩)) w' := by
  have h6 := @run_callFunc_extern Tryz.prog 73 _ (fun args => ReflectliteValue.unpack (args.getD 0 (.tuple #[]))) Tryz.func73 (by kernel_rfl) (by kernel_rfl) (by kernel_rfl) (by kernel_rfl)
  have h7 := @run_callFunc_extern Tryz.prog 74 _ (ReflectliteValue.methodAny (ReflectliteValue.valueError "reflectlite.Value.Type" 0) (fun t _ _ _ => ReflectliteType.toType t)) Tryz.func74 (by kernel_rfl) (by kernel_rfl) (by kernel_rfl) (by kernel_rfl)
  have h8 := @run_callFunc_extern Tryz.prog 75 _ (ReflectliteValue.method (ReflectliteValue.valueError "reflectlite.Value.IsNil" 0) ReflectliteValue.isNil) Tryz.func75 (by kernel_rfl) (by kernel_rfl) (by kernel_rfl) (by kernel_rfl)
  have h27 := @run_callFunc_extern Tryz.prog 187 _ (ReflectliteType.abiMethod fun t => do pure (.int .u8 (← Rtype.kind t))) Tryz.func187 (by kernel_rfl) (by kernel_rfl) (by kernel_rfl) (by kernel_rfl)
  have h37 := @run_callFunc_extern Tryz.prog 203 _ (ReflectliteType.method ReflectliteType.elem) Tryz.func203 (by kernel_rfl) (by kernel_rfl) (by kernel_rfl) (by kernel_rfl)
  have h38 := @run_callFunc_extern Tryz.prog 204 _ (ReflectliteType.relation "Implements" ReflectliteType.implements_) Tryz.func204 (by kernel_rfl) (by kernel_rfl) (by kernel_rfl) (by kernel_rfl)
  have h10 := @run_callFunc_extern Tryz.prog 113 _ ReflectliteType.typeOf Tryz.func113 (by kernel_rfl) (by kernel_rfl) (by kernel_rfl) (by kernel_rfl)
  have h35 := @run_callFunc_extern Tryz.prog 201 _ (ReflectliteType.relation "AssignableTo" ReflectliteType.assignableTo) Tryz.func201 (by kernel_rfl) (by kernel_rfl) (by kernel_rfl) (by kernel_rfl)
  have h11 := @run_callFunc_extern Tryz.prog 114 _ (ReflectliteValue.method (ReflectliteValue.valueError "reflectlite.Value.Elem" 0) ReflectliteValue.elem) Tryz.func114 (by kernel_rfl) (by kernel_rfl) (by kernel_rfl) (by kernel_rfl)
  have h12 := @run_callFunc_extern Tryz.prog 115 _ ReflectliteValue.set Tryz.func115 (by kernel_rfl) (by kernel_rfl) (by kernel_rfl) (by kernel_rfl)
  have f6 := valueOfPPPlace
  have f7 := typePPPlace
  have mK := methodKind
  have mE := methodElem
  have mI := methodImplements
  have mA := methodAssignableTo
  have kP := kindPPPlace
  have kE := kindPPlace
  have eP := elemPPPlace
  have iE := implementsPPlace
  have n8 := isNilPPPlace ⟨w.heap.size, 0, none⟩ t ((w.alloc (.cells #[.pointer (some t)] 104)).alloc (.cells #[.pointer (some ⟨4, 104, none⟩), .pointer (some ⟨w.heap.size, 0, none⟩), .int .u64 150] 131)) (by simp)
  have hlt : 0 < w.heap.size := World.block_lt_of_cell? w ⟨0, 0, none⟩ hg
  have hg2 : ((w.alloc (.cells #[.pointer (some t)] 104)).alloc (.cells #[.pointer (some ⟨4, 104, none⟩), .pointer (some ⟨w.heap.size, 0, none⟩), .int .u64 150] 131)).cell? ⟨0, 0, none⟩ = some (.iface 168 (.agg #[.pointer (some ⟨4, 43, none⟩)])) := by
    rw [World.cell?_alloc_lt _ _ ⟨0, 0, none⟩ (by rw [World.size_alloc]; exact Nat.lt_succ_of_lt hlt), World.cell?_alloc_lt _ _ ⟨0, 0, none⟩ hlt]; exact hg
  have tOErrno := typeOfErrno
  have tOPFault := typeOfPFault
  have tOPPlace := typeOfPPlace
  have nAErrno := noAsErrno
  have nAPFault := noAsPFault
  have nAPPlace := noAsPPlace
  have nSErrno := noUnwsErrno
  have nUErrno := noUnwErrno
  have hUPFault := hasUnwPFault
  have hUPPlace := hasUnwPPlace
  have mUPFault := methodUnwPFault
  have mUPPlace := methodUnwPPlace
  have asE := assignablePPlace
  have vE := valueOfPPlace
  have htl : t.block < w.heap.size := by
    rcases Nat.lt_or_ge t.block w.heap.size with h | h
    · exact h
    · simp [World.cell?, Array.getElem?_eq_none h] at ht0
  have el := elemVPPPlace ⟨w.heap.size, 0, none⟩ t (((w.alloc (.cells #[.pointer (some t)] 104)).alloc (.cells #[.pointer (some ⟨4, 104, none⟩), .pointer (some ⟨w.heap.size, 0, none⟩), .int .u64 150] 131)).alloc (.cells #[.pointer (some ⟨4, 104, none⟩), .pointer (some ⟨w.heap.size, 0, none⟩), .int .u64 150] 131)) (by rw [World.cell?_alloc_lt _ _ ⟨w.heap.size, 0, none⟩ (by simp; omega)]; simp)
  have st := setPPlace t ⟨w.heap.size + 1 + 1 + 1, 0, none⟩ (⟨b, 0, none⟩) old ((((w.alloc (.cells #[.pointer (some t)] 104)).alloc (.cells #[.pointer (some ⟨4, 104, none⟩), .pointer (some ⟨w.heap.size, 0, none⟩), .int .u64 150] 131)).alloc (.cells #[.pointer (some ⟨4, 104, none⟩), .pointer (some ⟨w.heap.size, 0, none⟩), .int .u64 150] 131)).alloc (.cells #[.pointer (some ⟨b, 0, none⟩)] 103))
    (by rw [World.cell?_alloc_at _ _ _ _ (by simp)]; rfl)
    (by rw [World.cell?_alloc_lt _ _ t (by simp; omega), World.cell?_alloc_lt _ _ t (by simp; omega), World.cell?_alloc_lt _ _ t (by simp; omega), World.cell?_alloc_lt _ _ t htl]; exact ht0)
    (by rw [World.frozen?_alloc_old _ _ t (by simp; omega), World.frozen?_alloc_old _ _ t (by simp; omega), World.frozen?_alloc_old _ _ t (by simp; omega), World.frozen?_alloc_old _ _ t (Nat.ne_of_lt htl)]; exact hf0)
  go_enter Tryz.func43, Tryz.ntmps43
  go_wp2
  refine wp_loop_rounds 1 ?_
  rw [rounds_succ]
  go_wp2
  go_ret
  exact ⟨rfl, _, (LoopW.below w t 104).alloc (by simp [LoopW]; omega) _, rfl⟩

set_option maxRecDepth 100000 in
set_option maxHeartbeats 4000000 in
theorem as_place_no (B : Nat) (r : Base) (v : Value) (t : Addr) (w : World) (hB : B ≤ w.heap.size) (hch : Root B w r v)
    (hg : w.cell? ⟨0, 0, none⟩ = some (.iface 168 (.agg #[.pointer (some ⟨4, 43, none⟩)]))) :
    Calls Tryz.prog 43 #[v, .iface 104 (.pointer (some t))] w fun ev w' => ev = .returned (.bool false) ∧ Below w.heap.size w w' := by
  have h6 := @run_callFunc_extern Tryz.prog 73 _ (fun args => ReflectliteValue.unpack (args.getD 0 (.tuple #[]))) Tryz.func73 (by kernel_rfl) (by kernel_rfl) (by kernel_rfl) (by kernel_rfl)
  have h7 := @run_callFunc_extern Tryz.prog 74 _ (ReflectliteValue.methodAny (ReflectliteValue.valueError "reflectlite.Value.Type" 0) (fun t _ _ _ => ReflectliteType.toType t)) Tryz.func74 (by kernel_rfl) (by kernel_rfl) (by kernel_rfl) (by kernel_rfl)
  have h8 := @run_callFunc_extern Tryz.prog 75 _ (ReflectliteValue.method (ReflectliteValue.valueError "reflectlite.Value.IsNil" 0) ReflectliteValue.isNil) Tryz.func75 (by kernel_rfl) (by kernel_rfl) (by kernel_rfl) (by kernel_rfl)
  have h27 := @run_callFunc_extern Tryz.prog 187 _ (ReflectliteType.abiMethod fun t => do pure (.int .u8 (← Rtype.kind t))) Tryz.func187 (by kernel_rfl) (by kernel_rfl) (by kernel_rfl) (by kernel_rfl)
  have h37 := @run_callFunc_extern Tryz.prog 203 _ (ReflectliteType.method ReflectliteType.elem) Tryz.func203 (by kernel_rfl) (by kernel_rfl) (by kernel_rfl) (by kernel_rfl)
  have h38 := @run_callFunc_extern Tryz.prog 204 _ (ReflectliteType.relation "Implements" ReflectliteType.implements_) Tryz.func204 (by kernel_rfl) (by kernel_rfl) (by kernel_rfl) (by kernel_rfl)
  have h10 := @run_callFunc_extern Tryz.prog 113 _ ReflectliteType.typeOf Tryz.func113 (by kernel_rfl) (by kernel_rfl) (by kernel_rfl) (by kernel_rfl)
  have h35 := @run_callFunc_extern Tryz.prog 201 _ (ReflectliteType.relation "AssignableTo" ReflectliteType.assignableTo) Tryz.func201 (by kernel_rfl) (by kernel_rfl) (by kernel_rfl) (by kernel_rfl)
  have h11 := @run_callFunc_extern Tryz.prog 114 _ (ReflectliteValue.method (ReflectliteValue.valueError "reflectlite.Value.Elem" 0) ReflectliteValue.elem) Tryz.func114 (by kernel_rfl) (by kernel_rfl) (by kernel_rfl) (by kernel_rfl)
  have h12 := @run_callFunc_extern Tryz.prog 115 _ ReflectliteValue.set Tryz.func115 (by kernel_rfl) (by kernel_rfl) (by kernel_rfl) (by kernel_rfl)
  have f6 := valueOfPPPlace
  have f7 := typePPPlace
  have mK := methodKind
  have mE := methodElem
  have mI := methodImplements
  have mA := methodAssignableTo
  have kP := kindPPPlace
  have kE := kindPPlace
  have eP := elemPPPlace
  have iE := implementsPPlace
  have n8 := isNilPPPlace ⟨w.heap.size, 0, none⟩ t ((w.alloc (.cells #[.pointer (some t)] 104)).alloc (.cells #[.pointer (some ⟨4, 104, none⟩), .pointer (some ⟨w.heap.size, 0, none⟩), .int .u64 150] 131)) (by simp)
  have hlt : 0 < w.heap.size := World.block_lt_of_cell? w ⟨0, 0, none⟩ hg
  have hg2 : ((w.alloc (.cells #[.pointer (some t)] 104)).alloc (.cells #[.pointer (some ⟨4, 104, none⟩), .pointer (some ⟨w.heap.size, 0, none⟩), .int .u64 150] 131)).cell? ⟨0, 0, none⟩ = some (.iface 168 (.agg #[.pointer (some ⟨4, 43, none⟩)])) := by
    rw [World.cell?_alloc_lt _ _ ⟨0, 0, none⟩ (by rw [World.size_alloc]; exact Nat.lt_succ_of_lt hlt), World.cell?_alloc_lt _ _ ⟨0, 0, none⟩ hlt]; exact hg
  have tOErrno := typeOfErrno
  have tOPFault := typeOfPFault
  have tOPPlace := typeOfPPlace
  have nAErrno := noAsErrno
  have nAPFault := noAsPFault
  have nAPPlace := noAsPPlace
  have nSErrno := noUnwsErrno
  have nUErrno := noUnwErrno
  have hUPFault := hasUnwPFault
  have hUPPlace := hasUnwPPlace
  have mUPFault := methodUnwPFault
  have mUPPlace := methodUnwPPlace
  have uaErrno := unassignableErrnoPPlace
  have uaPFault := unassignablePFaultPPlace
  cases r with
  | errno c =>
    obtain rfl := hch
    go_enter Tryz.func43, Tryz.ntmps43
    go_wp2
    refine wp_loop_rounds 1 ?_
    rw [rounds_succ]
    go_wp2
    go_ret
    exact ⟨rfl, LoopW.below w t 104⟩
  | fault b c a =>
    obtain ⟨rfl, hb, h0, h1⟩ := hch
    have h0' := ((LoopW.below w t 104).cell (p := ⟨b, 0, none⟩) (Nat.lt_of_lt_of_le hb hB)).trans h0
    unfold LoopW at h0'
    go_enter Tryz.func43, Tryz.ntmps43
    go_wp2
    refine wp_loop_rounds 2 ?_
    rw [rounds_succ]
    go_wp2
    rw [rounds_succ]
    go_wp2
    go_ret
    exact ⟨rfl, LoopW.below w t 104⟩
  | other b => exact hch.elim
end Go.Proofs.YtlcpbfklnjlgnaaGreatDoor
