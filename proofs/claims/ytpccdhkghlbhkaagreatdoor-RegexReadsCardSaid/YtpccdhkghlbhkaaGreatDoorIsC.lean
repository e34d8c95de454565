/-
  errors.Is over any chain of oops's errors: it answers true just if the target is the chain's number (or the very error of errors.New's make that lies innermost); the world stays as it was.
-/
import Derived.Test.YtpccdhkghlbhkaaGreatDoorChain
namespace Go
section
variable {P : Program} (w : World)
theorem run_equalIn_iface_int (d : Nat) {ti tn : TypeId} {ms : Array (String × TypeId)} {i : TypeInfo} {k : IntKind} (a b : Int)
    (hi : P.underlying ti = some (.interface ms)) (hn : P.underlying tn = some (.int k)) (hinfo : P.info? tn = some i) (hcomp : i.comparable = true) :
    (Op.equalIn (d + 2) ti (.iface tn (.int k a)) (.iface tn (.int k b))).run P w = .ok (a == b) w := by
  simp [Op.equalIn, run_underlying hi, run_underlying hn, typeInfo, hinfo, hcomp]
/-- Two interface values of one integer type are equal just as the numbers are. -/
theorem run_eql_iface_int {ti tn : TypeId} {ms : Array (String × TypeId)} {i : TypeInfo} {k : IntKind} (a b : Int)
    (hi : P.underlying ti = some (.interface ms)) (hn : P.underlying tn = some (.int k)) (hinfo : P.info? tn = some i) (hcomp : i.comparable = true) :
    (binOp .eql ti (.iface tn (.int k a)) (.iface tn (.int k b))).run P w = .ok (.bool (a == b)) w := by
  simp only [binOp]
  simp [Op.equal, Op.maxDepth, run_equalIn_iface_int w 9998 a b hi hn hinfo hcomp]
end
end Go
namespace Go.Proofs.YtpccdhkghlbhkaaGreatDoor
open Go.RowKit Go.Extern.Stop Go.Stop Go.Extern

theorem isCompErrno : (Tryz.prog.info? 56).map (·.comparable) = some true := by kernel_rfl
theorem eql_errno (a b : Int) (w : World) : (binOp .eql 28 (.iface 56 (.int .i64 a)) (.iface 56 (.int .i64 b))).run Tryz.prog w = .ok (.bool (a == b)) w := by
  obtain ⟨i, hi, hc⟩ := Option.map_eq_some_iff.1 isCompErrno
  exact run_eql_iface_int w a b Tryz.underlying28 Tryz.underlying56 hi hc
theorem eql_types (a b : TypeId) (u v : Value) (h : a ≠ b) (w : World) : (binOp .eql 28 (.iface a u) (.iface b v)).run Tryz.prog w = .ok (.bool false) w :=
  run_eql_iface_types a b u v Tryz.underlying28 h w

theorem compErrno (w : World) : (callFunc 162 #[.agg #[.pointer (some ⟨2, 56, none⟩)]]).run Tryz.prog w = .ok (.value (.bool true)) w := by
  have h := @run_callFunc_extern Tryz.prog 162 _ (ReflectliteType.method fun t => do Rtype.noPackHeld "Comparable" t; pure (.bool (← typeInfo t).comparable)) Tryz.func162 (by kernel_rfl) (by kernel_rfl) (by kernel_rfl) (by kernel_rfl)
  have k : ∀ w, ((ReflectliteType.method fun t => do Rtype.noPackHeld "Comparable" t; pure (.bool (← typeInfo t).comparable)) #[.agg #[.pointer (some ⟨2, 56, none⟩)]]).run Tryz.prog w = .ok (.bool true) w := fun w => by kernel_rfl
  rw [h, k]
  rfl

theorem is_nil (t : TypeId) (v : Value) (w : World) :
    Calls Tryz.prog 94 #[.nilIface, .iface t v] w fun e w' => e = .returned (.bool false) ∧ w' = w := by
  have hn := run_eql_iface_nil_left (P := Tryz.prog) w t v Tryz.underlying28
  go_enter Tryz.func94, Tryz.ntmps94
  go_wp2
  go_ret
  exact ⟨rfl, rfl⟩

set_option maxRecDepth 100000 in
set_option maxHeartbeats 4000000 in
theorem is_yes (B : Nat) (r : Base) (c : Int) (hr : r.code = some c) (ws : List ByteArray) (v : Value) (w : World) (hch : Chain B w r ws v) :
    Calls Tryz.prog 94 #[v, .iface 56 (.int .i64 c)] w fun e w' => e = .returned (.bool true) ∧ w' = w := by
  obtain ⟨T, V, rfl⟩ := hch.iface
  have h8 := @run_callFunc_extern Tryz.prog 73 _ ReflectliteType.typeOf Tryz.func73 (by kernel_rfl) (by kernel_rfl) (by kernel_rfl) (by kernel_rfl)
  have h32 := compErrno
  have tT := typeOfErrno
  have mR := methodComparable
  have nIErrno := noIsErrno
  have nIPFault := noIsPFault
  have nIPPlace := noIsPPlace
  have nSErrno := noUnwsErrno
  have nUErrno := noUnwErrno
  have hUPFault := hasUnwPFault
  have hUPPlace := hasUnwPPlace
  have mUPFault := methodUnwPFault
  have mUPPlace := methodUnwPPlace
  have eP := fun u v => eql_types 80 56 u v (by decide)
  have eF := fun u v => eql_types 74 56 u v (by decide)
  have eE : ∀ w, (binOp .eql 28 (.iface 56 (.int .i64 c)) (.iface 56 (.int .i64 c))).run Tryz.prog w = .ok (.bool true) w := fun w => by rw [eql_errno]; simp
  have HR := Lib.hid hr
  clear hr
  have HC := Lib.hid hch
  clear hch
  go_enter Tryz.func94, Tryz.ntmps94
  go_wp2
  go_loopg [0] (ws.length + 1) (fun k v' wr => wr = w ∧ NumRel B w r c k v')
  case atStart => exact ⟨rfl, Or.inl ⟨ws, rfl, HC.out⟩⟩
  case round =>
    obtain ⟨hwr, hrel⟩ := hrel
    subst hwr
    rcases hrel with ⟨l, hk, hl⟩ | ⟨hk, rfl⟩
    · have HK := Lib.hid hk
      clear hk
      cases l with
      | nil =>
        cases r with
        | errno c' =>
          obtain rfl : c = c' := (Option.some.inj HR.out).symm
          obtain rfl := hl
          go_wp2
          go_ret
          exact ⟨rfl, rfl⟩
        | fault b c' a =>
          obtain rfl : c = c' := (Option.some.inj HR.out).symm
          obtain ⟨rfl, hb, h0, h1⟩ := hl
          go_wp2
          go_roundg 0
          case measure => have := HK.out; omega
          case rel => exact ⟨rfl, Or.inr ⟨rfl, rfl⟩⟩
        | other b => exact absurd HR.out (by intro h; cases h)
      | cons s l =>
        obtain ⟨b, u, rfl, hb, h0, h1, hr⟩ := hl
        obtain ⟨Tu, Vu, rfl⟩ := hr.iface
        have HT := Lib.hid hr
        clear hr
        go_wp2
        go_roundg (l.length + 1)
        case measure => have := HK.out; simp at this; omega
        case rel => exact ⟨rfl, Or.inl ⟨l, rfl, HT.out⟩⟩
    · go_wp2
      go_ret
      exact ⟨rfl, rfl⟩

def NotRel (B : Nat) (w1 : World) (r : Base) (c' : Int) (k : Nat) (v : Value) : Prop :=
  (∃ ws, k = ws.length + 1 ∧ Chain B w1 r ws v) ∨ (k = 0 ∧ ∃ c, c ≠ c' ∧ v = .iface 56 (.int .i64 c))

set_option maxRecDepth 100000 in
set_option maxHeartbeats 4000000 in
theorem is_no (B : Nat) (r : Base) (c' : Int) (hr : r.code ≠ some c') (ws : List ByteArray) (v : Value) (w : World) (hch : Chain B w r ws v) :
    Calls Tryz.prog 94 #[v, .iface 56 (.int .i64 c')] w fun e w' => e = .returned (.bool false) ∧ w' = w := by
  obtain ⟨T, V, rfl⟩ := hch.iface
  have h8 := @run_callFunc_extern Tryz.prog 73 _ ReflectliteType.typeOf Tryz.func73 (by kernel_rfl) (by kernel_rfl) (by kernel_rfl) (by kernel_rfl)
  have h32 := compErrno
  have tT := typeOfErrno
  have mR := methodComparable
  have nIErrno := noIsErrno
  have nIPFault := noIsPFault
  have nIPPlace := noIsPPlace
  have nSErrno := noUnwsErrno
  have nUErrno := noUnwErrno
  have hUPFault := hasUnwPFault
  have hUPPlace := hasUnwPPlace
  have mUPFault := methodUnwPFault
  have mUPPlace := methodUnwPPlace
  have eP := fun u v => eql_types 80 56 u v (by decide)
  have eF := fun u v => eql_types 74 56 u v (by decide)
  have HR := Lib.hid hr
  clear hr
  have HC := Lib.hid hch
  clear hch
  go_enter Tryz.func94, Tryz.ntmps94
  go_wp2
  go_loopg [0] (ws.length + 1) (fun k v' wr => wr = w ∧ NotRel B w r c' k v')
  case atStart => exact ⟨rfl, Or.inl ⟨ws, rfl, HC.out⟩⟩
  case round =>
    obtain ⟨hwr, hrel⟩ := hrel
    subst hwr
    rcases hrel with ⟨l, hk, hl⟩ | ⟨hk, c, hc, rfl⟩
    · have HK := Lib.hid hk
      clear hk
      cases l with
      | nil =>
        cases r with
        | errno c =>
          obtain rfl := hl
          have eE : ∀ w, (binOp .eql 28 (.iface 56 (.int .i64 c)) (.iface 56 (.int .i64 c'))).run Tryz.prog w = .ok (.bool false) w := fun w => by
            rw [eql_errno, beq_eq_false_iff_ne.2 (fun h => HR.out (by rw [h]; rfl))]
          go_wp2
          go_ret
          exact ⟨rfl, rfl⟩
        | fault b c a =>
          obtain ⟨rfl, hb, h0, h1⟩ := hl
          go_wp2
          go_roundg 0
          case measure => have := HK.out; omega
          case rel => exact ⟨rfl, Or.inr ⟨rfl, c, fun h => HR.out (by rw [h]; rfl), rfl⟩⟩
        | other b => exact hl.elim
      | cons s l =>
        obtain ⟨b, u, rfl, hb, h0, h1, hr⟩ := hl
        obtain ⟨Tu, Vu, rfl⟩ := hr.iface
        have HT := Lib.hid hr
        clear hr
        go_wp2
        go_roundg (l.length + 1)
        case measure => have := HK.out; simp at this; omega
        case rel => exact ⟨rfl, Or.inl ⟨l, rfl, HT.out⟩⟩
    · have eE : ∀ w, (binOp .eql 28 (.iface 56 (.int .i64 c)) (.iface 56 (.int .i64 c'))).run Tryz.prog w = .ok (.bool false) w := fun w => by
        rw [eql_errno, beq_eq_false_iff_ne.2 hc]
      have HE := Lib.hid hc
      clear hc
      go_wp2
      go_ret
      exact ⟨rfl, rfl⟩

end Go.Proofs.YtpccdhkghlbhkaaGreatDoor
