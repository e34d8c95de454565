/-
  A part of the proof of the statement NfaAccepts.
-/
import Derived.Test.YtbhkfifmgbcknaaGreatDoorRows
import Derived.Test.YtbhkfifmgbcknaaGreatDoorCards
import Derived.SevenTiedAt
import Derived.KernelRfl
set_option linter.unusedSimpArgs false
set_option linter.unusedVariables false
namespace Go.Proofs.YtbhkfifmgbcknaaGreatDoor
open Go
set_option maxRecDepth 100000
theorem nfaAccepts_main : Tryz.pinned.checked.prog.mainIs = some (Rows.nfaAcceptsCard.stood.harness.1, Rows.nfaAcceptsCard.stood.harness.2.toList) := by kernel_rfl
theorem nfaAccepts_goes : false = Rows.nfaAcceptsRow.goesBy Tryz.pinned.checked.prog := by kernel_rfl
theorem nfaAccepts_looks : true = Tryz.pinned.checked.prog.looks [] := by kernel_rfl
theorem nfaAccepts_fn : Tryz.pinned.checked.prog.funcNamed Rows.nfaAcceptsRow.func = some 3 := by kernel_rfl
end Go.Proofs.YtbhkfifmgbcknaaGreatDoor
