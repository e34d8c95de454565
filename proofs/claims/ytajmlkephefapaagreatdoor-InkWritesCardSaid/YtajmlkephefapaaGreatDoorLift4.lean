/-
  From a law's walk to its row, for the laws whose row lists the library's three tables beside the handle of 'error': what the condition gives a walk, and a world that meets it.
-/
import Derived.Test.YtajmlkephefapaaGreatDoorLift
import Derived.Test.YtajmlkephefapaaGreatDoorFmtB
import Derived.LaidMore
import Derived.Lib.LaidTab
namespace Go.Proofs.YtajmlkephefapaaGreatDoor
open Go.ChangeShapes Go.WideShapes Go.ChangeAt Go.RowKit

/-- The four listed variables. -/
def lone4 : List (String × DataW Unit) := [("math/bits.deBruijn32tab", Rows.laid_math_bits_deBruijn32tab), ("math/bits.deBruijn64tab", Rows.laid_math_bits_deBruijn64tab), ("internal/strconv.uint64pow10", Rows.laid_internal_strconv_uint64pow10), ("errors.errorType", Rows.laid_errors_errorType)]

theorem pow10_data : (Rows.laid_internal_strconv_uint64pow10 : DataW Unit) = Lib.tabData .u64 Lib.pow10Tab := by kernel_rfl
theorem powType : (Tryz.prog.globals[1]?).map (·.type) = some 186 := by kernel_rfl
theorem powCells : Tryz.prog.cellsOf 186 = 20 := by kernel_rfl
theorem powCell : Tryz.prog.cellsOf 23 = 1 := by kernel_rfl

theorem handle_of_laid4 {W : World} (h : laidMetH Tryz.prog lone4 W) : Handle W := by
  have h' : laidMet Tryz.prog (lone4.take 3) W ∧ handlesMet Tryz.prog [("errors.errorType", Rows.laid_errors_errorType)] W := h
  exact handle_of_met (List.mem_singleton.2 rfl) h'.2
theorem tab_of_laid4 {W : World} (h : laidMetH Tryz.prog lone4 W) : Tab W := by
  have h' : laidMet Tryz.prog (lone4.take 3) W ∧ handlesMet Tryz.prog [("errors.errorType", Rows.laid_errors_errorType)] W := h
  obtain ⟨ps, ⟨_, _, _, _, _, _, _, _, _, _, ⟨_, _, _, _, _, _, _, _, _, _, ⟨g, t, cs, fuel, p, q, hg, ht, hvar, hd, _, _⟩, _⟩, _⟩, _⟩ := h'.1
  obtain rfl := Option.some.inj (powGlobal.symm.trans hg)
  obtain rfl := Option.some.inj (powType.symm.trans ht)
  rw [pow10_data] at hd
  unfold Tab Lib.TabIs
  rw [hvar, ← Lib.cells_of_tab Tryz.underlying186 Tryz.underlying23 powCell powCells hd]

theorem i64_bd {n : Int} (h : (Lit.int .i64 n).wf = true) : -9223372036854775808 ≤ n ∧ n ≤ 9223372036854775807 := by
  simp [Lit.wf] at h
  have e : IntKind.i64.min = -9223372036854775808 := rfl
  have e' : IntKind.i64.max = 9223372036854775807 := rfl
  omega

noncomputable def laidWorld4 (os : Os) : World := World.doorLaid Tryz.prog 400 os
/-- The door's own heap meets the condition. -/
theorem laidWorld4_met (os : Os) (args : Array Value) : laidMetH Tryz.prog lone4 ((laidWorld4 os).forCall (fun _ _ => 0) ⟨#[], args, []⟩).memory :=
  laidMetH_of_parts3 (fuel := 8) (laidMet_of_run' 8 (by kernel_rfl) (by kernel_rfl)) (by kernel_rfl) (by kernel_rfl)
end Go.Proofs.YtajmlkephefapaaGreatDoor
