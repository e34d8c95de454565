/-
  From a law's walk to its row, for the laws whose row lists the library's table of lowest bits and the handle of 'error': what the condition gives a walk.
-/
import Derived.Test.YtjlbdjagbbpoaaaDoorLiftD
import Derived.Test.YtjlbdjagbbpoaaaDoorAwake
import Derived.LaidHandle
namespace Go.Proofs.YtjlbdjagbbpoaaaDoor
open Go.ChangeShapes Go.WideShapes Go.ChangeAt Go.RowKit

theorem Tryd.et : Tryd.prog.globalNamed "errors.errorType" = some 0 := by kernel_rfl
theorem Tryd.rt : (Tryd.prog.cutTypes.find? (·.1 == "internal/reflectlite.rtype")).map (·.2) = some 111 := by kernel_rfl
theorem Tryd.oneRow : ((List.range 154).filter fun t => Tryd.prog.rowNamed t [101, 114, 114, 111, 114]) = [55] := by kernel_rfl
theorem Tryd.size : Tryd.prog.types.size = 154 := by kernel_rfl
/-- The two listed variables. -/
def loneH : List (String × DataW Unit) := [("math/bits.deBruijn64tab", Rows.laid_math_bits_deBruijn64tab), ("errors.errorType", Rows.laid_errors_errorType)]
theorem handle_of_met {W : World} {l : List (String × DataW Unit)} (hm : ("errors.errorType", (Rows.laid_errors_errorType : DataW Unit)) ∈ l) (h : handlesMet Tryd.prog l W) : Handle W := by
  obtain ⟨name, u, ty, e1, e2, e3, e4, e5⟩ := h _ hm
  have en : name = [101, 114, 114, 111, 114] := (Option.some.inj e1).symm
  subst en
  obtain rfl := Option.some.inj (Tryd.rt.symm.trans e2)
  have hmem : ty ∈ (List.range 154).filter fun t => Tryd.prog.rowNamed t [101, 114, 114, 111, 114] := List.mem_filter.2 ⟨List.mem_range.2 (by rw [← Tryd.size]; exact e3), e4⟩
  rw [Tryd.oneRow] at hmem
  obtain rfl := List.mem_singleton.1 hmem
  have hh : typeHandle Tryd.prog 55 = .pointer (some ⟨2, 55, none⟩) := by kernel_rfl
  rw [hh] at e5
  have := World.var?_cell Tryd.et e5 0
  simpa [Handle] using this
theorem handle_of_laidH {W : World} (h : laidMetH Tryd.prog loneH W) : Handle W := by
  have h' : laidMet Tryd.prog (loneH.take 1) W ∧ handlesMet Tryd.prog [("errors.errorType", Rows.laid_errors_errorType)] W := h
  exact handle_of_met (List.mem_singleton.2 rfl) h'.2
theorem tab_of_laidH {W : World} (h : laidMetH Tryd.prog loneH W) : TabB W := by
  have h' : laidMet Tryd.prog (loneH.take 1) W ∧ handlesMet Tryd.prog [("errors.errorType", Rows.laid_errors_errorType)] W := h
  exact tab_of_laid h'.1
theorem laidWorldT_metH (os : Os) (args : Array Value) : laidMetH Tryd.prog loneH ((laidWorldT os).forCall (fun _ _ => 0) ⟨#[], args, []⟩).memory :=
  laidMetH_of_parts3 (fuel := 8) (laidMet_of_run' 8 (by kernel_rfl) (by kernel_rfl)) (by kernel_rfl) (by kernel_rfl)
end Go.Proofs.YtjlbdjagbbpoaaaDoor
