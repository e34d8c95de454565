/-
  A part of the proof of the statement NfaAccepts.
-/
import Derived.Test.YtbhkfifmgbcknaaGreatDoorRows
import Derived.JoinedOf
import Derived.KernelRfl
set_option linter.unusedSimpArgs false
set_option linter.unusedVariables false
namespace Go.Proofs.YtbhkfifmgbcknaaGreatDoor
open Go
set_option maxRecDepth 100000
theorem and_t {a b : Bool} (ha : a = true) (hb : b = true) : (a && b) = true := by rw [ha, hb]; rfl
theorem nfaAccepts_k0 : (Rows.nfaAcceptsRow.wf (OpenSpec.ofChange Rows.nfaAcceptsSpec)) = true := by kernel_rfl
theorem nfaAccepts_k1 : (laidOutB Tryz.pinned.checked.prog) = true := by kernel_rfl
theorem nfaAccepts_k2 : (mapsRowed Tryz.pinned.checked.prog) = true := by kernel_rfl
theorem nfaAccepts_k3 : (Tryz.f3.params.all (Tryz.pinned.checked.prog.readableRec ·)) = true := by kernel_rfl
theorem nfaAccepts_k4 : (namedTie Tryz.pinned.checked.prog Rows.nfaAcceptsRow.named Rows.nfaAcceptsSpec.vars) = true := by kernel_rfl
theorem nfaAccepts_k5 : ((Rows.nfaAcceptsRow.stops == [])) = true := by kernel_rfl
theorem nfaAccepts_k6 : ((Tryz.pinned.checked.prog.stops == [])) = true := by kernel_rfl
theorem nfaAccepts_k7 : ((Rows.nfaAcceptsRow.knobs == [])) = true := by kernel_rfl
theorem nfaAccepts_k8 : ((Tryz.pinned.checked.prog.stopKnobs == [])) = true := by kernel_rfl
theorem nfaAccepts_k9 : ((Rows.nfaAcceptsRow.inPlace == Tryz.pinned.checked.prog.inPlace 3)) = true := by kernel_rfl
theorem nfaAccepts_k10 : ((Rows.nfaAcceptsRow.unfollowed == Tryz.pinned.checked.prog.unfollowed 3)) = true := by kernel_rfl
theorem nfaAccepts_k11 : ((Rows.nfaAcceptsRow.recurses == Tryz.pinned.checked.prog.recurses 3)) = true := by kernel_rfl
theorem nfaAccepts_k12 : ((Rows.nfaAcceptsRow.named == Tryz.pinned.checked.prog.varsNamed 3)) = true := by kernel_rfl
theorem nfaAccepts_k13 : ((Rows.nfaAcceptsRow.maps == (Tryz.f3.params.toList ++ Rows.nfaAcceptsSpec.plain.varTypes Tryz.pinned.checked.prog).any (Tryz.pinned.checked.prog.mapsRec ·))) = true := by kernel_rfl
theorem nfaAccepts_k14 : ((Rows.nfaAcceptsRow.ifaces == (Tryz.f3.params.toList ++ Rows.nfaAcceptsSpec.plain.varTypes Tryz.pinned.checked.prog).any (Tryz.pinned.checked.prog.ifacesRec ·))) = true := by kernel_rfl
theorem nfaAccepts_k15 : ((Rows.nfaAcceptsRow.mapsOut == Tryz.pinned.checked.prog.mapsAmong Tryz.f3.resultTypes.toList)) = true := by kernel_rfl
theorem nfaAccepts_k16 : ((Rows.nfaAcceptsRow.loops == (Tryz.f3.params.toList ++ Rows.nfaAcceptsSpec.plain.varTypes Tryz.pinned.checked.prog).any (Tryz.pinned.checked.prog.loopsFrom ·))) = true := by kernel_rfl
theorem nfaAccepts_k17 : ((Rows.nfaAcceptsRow.wideKeys == (Tryz.f3.params.toList ++ Rows.nfaAcceptsSpec.plain.varTypes Tryz.pinned.checked.prog ++ Tryz.f3.resultTypes.toList).any (Tryz.pinned.checked.prog.wideKeysFrom ·))) = true := by kernel_rfl
theorem nfaAccepts_k18 : (Rows.nfaAcceptsSpec.vars.all (Tryz.pinned.checked.prog.varReadable ·)) = true := by kernel_rfl
theorem nfaAccepts_k19 : (Tryz.f3.resultTypes.all (fun t => Tryz.pinned.checked.prog.readableRec t && decide (t < Tryz.pinned.checked.prog.types.size))) = true := by kernel_rfl
theorem nfaAccepts_k20 : ((Rows.nfaAcceptsRow.ifacesOut == Tryz.f3.resultTypes.toList.any (Tryz.pinned.checked.prog.ifacesRec ·))) = true := by kernel_rfl
theorem nfaAccepts_k21 : ((Rows.nfaAcceptsRow.loopsOut == Tryz.f3.resultTypes.toList.any (Tryz.pinned.checked.prog.loopsFrom ·))) = true := by kernel_rfl
theorem nfaAccepts_k22 : ((Rows.nfaAcceptsRow.plainKeys == Tryz.pinned.checked.prog.plainKeys)) = true := by kernel_rfl
theorem nfaAccepts_k23 : (Rows.nfaAcceptsRow.shortTexts.isNone) = true := by kernel_rfl
theorem nfaAccepts_k24 : (Tryz.pinned.checked.prog.stopsHeard) = true := by kernel_rfl
theorem nfaAccepts_k25 : (Tryz.pinned.checked.prog.mayEnter) = true := by kernel_rfl
theorem nfaAccepts_k26 : ((Rows.nfaAcceptsRow.lifted == Tryz.pinned.checked.prog.liftsFinal)) = true := by kernel_rfl
theorem nfaAccepts_k27 : ((Tryz.pinned.checked.prog.make == some Rows.nfaAcceptsRow.make)) = true := by kernel_rfl
theorem nfaAccepts_k28 : ((Rows.nfaAcceptsRow.kinds == (if Rows.nfaAcceptsRow.domain.isEmpty then [] else Tryz.f3.params.toList.map fun t => match Tryz.pinned.checked.prog.underlying t with | some (.int k) => some k | _ => none))) = true := by kernel_rfl
theorem nfaAccepts_k29 : ((Rows.nfaAcceptsRow.pinned == Rows.nfaAcceptsRow.pinnedBy)) = true := by kernel_rfl
theorem nfaAccepts_k30 : ((Rows.nfaAcceptsRow.veiled == (Tryz.f3.params.toList ++ Rows.nfaAcceptsSpec.plain.varTypes Tryz.pinned.checked.prog ++ Tryz.f3.resultTypes.toList).any (Tryz.pinned.checked.prog.veiledRec ·))) = true := by kernel_rfl
theorem nfaAccepts_k31 : (Rows.nfaAcceptsRow.veiledFits Tryz.pinned.checked.prog Tryz.f3.params.toList (Tryz.f3.params.toList ++ Rows.nfaAcceptsSpec.plain.varTypes Tryz.pinned.checked.prog ++ Tryz.f3.resultTypes.toList)) = true := by kernel_rfl
theorem nfaAccepts_closed : joinedFacts Tryz.pinned.checked.prog 3 Tryz.f3 Rows.nfaAcceptsSpec Rows.nfaAcceptsRow = true := and_t (and_t (and_t (and_t (and_t (and_t (and_t (and_t (and_t (and_t (and_t (and_t (and_t (and_t (and_t (and_t (and_t (and_t (and_t (and_t (and_t (and_t (and_t (and_t (and_t (and_t (and_t (and_t (and_t (and_t (and_t (nfaAccepts_k0) nfaAccepts_k1) nfaAccepts_k2) nfaAccepts_k3) nfaAccepts_k4) nfaAccepts_k5) nfaAccepts_k6) nfaAccepts_k7) nfaAccepts_k8) nfaAccepts_k9) nfaAccepts_k10) nfaAccepts_k11) nfaAccepts_k12) nfaAccepts_k13) nfaAccepts_k14) nfaAccepts_k15) nfaAccepts_k16) nfaAccepts_k17) nfaAccepts_k18) nfaAccepts_k19) nfaAccepts_k20) nfaAccepts_k21) nfaAccepts_k22) nfaAccepts_k23) nfaAccepts_k24) nfaAccepts_k25) nfaAccepts_k26) nfaAccepts_k27) nfaAccepts_k28) nfaAccepts_k29) nfaAccepts_k30) nfaAccepts_k31
end Go.Proofs.YtbhkfifmgbcknaaGreatDoor
