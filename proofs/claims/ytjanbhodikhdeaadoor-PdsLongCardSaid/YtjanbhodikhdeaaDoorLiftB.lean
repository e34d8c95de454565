/-
  The bounds of small integers among a law's arguments.
-/
import Derived.Test.YtjanbhodikhdeaaDoorLift
namespace Go.Proofs.YtjanbhodikhdeaaDoor
open Go.ChangeShapes Go.WideShapes Go.ChangeAt Go.RowKit

theorem u8_bd {n : Int} (h : (Lit.int .u8 n).wf = true) : 0 ≤ n ∧ n ≤ 255 := by
  simp [Lit.wf] at h
  have e : IntKind.u8.min = 0 := rfl
  have e' : IntKind.u8.max = 255 := rfl
  omega
theorem i32_bd {n : Int} (h : (Lit.int .i32 n).wf = true) : -2147483648 ≤ n ∧ n ≤ 2147483647 := by
  simp [Lit.wf] at h
  have e : IntKind.i32.min = -2147483648 := rfl
  have e' : IntKind.i32.max = 2147483647 := rfl
  omega
end Go.Proofs.YtjanbhodikhdeaaDoor
