/-
  DERIVED. GIVEN WITH THE SEED: THE CARDS: each row of YtogbocgjijhmgaaGreatDoorRows.lean that lists a variable, with what it lists TIED to the program's text (the seventh form; the later family's looks); each row that meets fmt, with fmt's text TOLD by the authors' own Lean function (tested against real Go, not proved from fmt's source: count such statements apart). THE CARD IS WHAT COUNTS. Prove the row's statement (the work); the ties are given (YtogbocgjijhmgaaGreatDoorTie.lean); close each card by the builder's one call (the guide's Derived/Test/ToyasCard.lean, 'card_holds'). Laid BY PROGRAM, IN A SANDBOX (cutbox-door.mjs). By AI agents, Wed Nov 11 2026. No macro, syntax, notation, axiom, sorry.
-/
import Derived.Test.YtogbocgjijhmgaaGreatDoorRows
import GoSem.ClaimSeven
namespace Go.Proofs.YtogbocgjijhmgaaGreatDoor
namespace Rows

/-- THE TIED CARD OF 'fairleadlaw15.RegexParses'. -/
def regexParsesCard : Claim7 := { stood := { row := regexParsesRow, standIns := [], harness := (true, "bdebb72a809571439f528a0fdef7ba2430a4737d1e47b91df810be4f4a52cfd3"), looks := true }, kinds := [], alts := [], laidByText := true, laidKinds := [.handle], laidTests := true, laidLooks := .later }
def RegexParsesCardSaid : Prop := Claim7.holds Tryz.pinned (.plain (OpenSpec.ofChange regexParsesSpec)) regexParsesCard

/-- THE TIED CARD OF 'fairleadlaw15.RegexReads'. -/
def regexReadsCard : Claim7 := { stood := { row := regexReadsRow, standIns := [], harness := (true, "bdebb72a809571439f528a0fdef7ba2430a4737d1e47b91df810be4f4a52cfd3"), looks := true }, kinds := [], alts := [], laidByText := true, laidKinds := [.handle], laidTests := true, laidLooks := .later }
def RegexReadsCardSaid : Prop := Claim7.holds Tryz.pinned (.plain (OpenSpec.ofChange regexReadsSpec)) regexReadsCard

/-- THE TIED CARD OF 'fairleadlaw20.WeighPrints'. -/
def weighPrintsCard : Claim7 := { stood := { row := weighPrintsRow, standIns := [], harness := (true, "bdebb72a809571439f528a0fdef7ba2430a4737d1e47b91df810be4f4a52cfd3"), looks := true }, kinds := [], alts := [], laidByText := true, laidKinds := [.data, .data, .data, .handle, .data], laidTests := true, laidLooks := .later }
def WeighPrintsCardSaid : Prop := Claim7.holds Tryz.pinned (.plain (OpenSpec.ofChange weighPrintsSpec)) weighPrintsCard

/-- THE TIED CARD OF 'fairleadlaw20.WeighParses'. -/
def weighParsesCard : Claim7 := { stood := { row := weighParsesRow, standIns := [], harness := (true, "bdebb72a809571439f528a0fdef7ba2430a4737d1e47b91df810be4f4a52cfd3"), looks := true }, kinds := [], alts := [], laidByText := true, laidKinds := [.data, .data, .data, .handle, .data], laidTests := true, laidLooks := .later }
def WeighParsesCardSaid : Prop := Claim7.holds Tryz.pinned (.plain (OpenSpec.ofChange weighParsesSpec)) weighParsesCard

/-- THE TIED CARD OF 'fairleadlaw20.WeighBack'. -/
def weighBackCard : Claim7 := { stood := { row := weighBackRow, standIns := [], harness := (true, "bdebb72a809571439f528a0fdef7ba2430a4737d1e47b91df810be4f4a52cfd3"), looks := true }, kinds := [], alts := [], laidByText := true, laidKinds := [.data, .data, .data, .handle, .data], laidTests := true, laidLooks := .later }
def WeighBackCardSaid : Prop := Claim7.holds Tryz.pinned (.plain (OpenSpec.ofChange weighBackSpec)) weighBackCard

/-- THE TIED CARD OF 'fairleadlaw20.WeighCosts'. -/
def weighCostsCard : Claim7 := { stood := { row := weighCostsRow, standIns := [], harness := (true, "bdebb72a809571439f528a0fdef7ba2430a4737d1e47b91df810be4f4a52cfd3"), looks := true }, kinds := [], alts := [], laidByText := true, laidKinds := [.data, .data, .data, .handle, .data], laidTests := true, laidLooks := .later }
def WeighCostsCardSaid : Prop := Claim7.holds Tryz.pinned (.plain (OpenSpec.ofChange weighCostsSpec)) weighCostsCard

/-- THE SECOND FORM's CARD OF 'fairleadlaw15.RegexParses'. -/
def regexParsesUptoCard : Claim7 := { stood := { row := regexParsesUptoRow, standIns := [], harness := (true, "bdebb72a809571439f528a0fdef7ba2430a4737d1e47b91df810be4f4a52cfd3"), looks := true }, kinds := [], alts := [], laidByText := true, laidKinds := [.handle], laidTests := true, laidLooks := .later }
def RegexParsesUptoCardSaid : Prop := Claim7.holds Tryz.pinned (.plain (OpenSpec.upto regexParsesSpec)) regexParsesUptoCard

/-- THE SECOND FORM's CARD OF 'fairleadlaw15.RegexReads'. -/
def regexReadsUptoCard : Claim7 := { stood := { row := regexReadsUptoRow, standIns := [], harness := (true, "bdebb72a809571439f528a0fdef7ba2430a4737d1e47b91df810be4f4a52cfd3"), looks := true }, kinds := [], alts := [], laidByText := true, laidKinds := [.handle], laidTests := true, laidLooks := .later }
def RegexReadsUptoCardSaid : Prop := Claim7.holds Tryz.pinned (.plain (OpenSpec.upto regexReadsSpec)) regexReadsUptoCard

/-- THE SECOND FORM's CARD OF 'fairleadlaw20.WeighPrints'. -/
def weighPrintsUptoCard : Claim7 := { stood := { row := weighPrintsUptoRow, standIns := [], harness := (true, "bdebb72a809571439f528a0fdef7ba2430a4737d1e47b91df810be4f4a52cfd3"), looks := true }, kinds := [], alts := [], laidByText := true, laidKinds := [.data, .data, .data, .handle, .data], laidTests := true, laidLooks := .later }
def WeighPrintsUptoCardSaid : Prop := Claim7.holds Tryz.pinned (.plain (OpenSpec.upto weighPrintsSpec)) weighPrintsUptoCard

/-- THE SECOND FORM's CARD OF 'fairleadlaw20.WeighParses'. -/
def weighParsesUptoCard : Claim7 := { stood := { row := weighParsesUptoRow, standIns := [], harness := (true, "bdebb72a809571439f528a0fdef7ba2430a4737d1e47b91df810be4f4a52cfd3"), looks := true }, kinds := [], alts := [], laidByText := true, laidKinds := [.data, .data, .data, .handle, .data], laidTests := true, laidLooks := .later }
def WeighParsesUptoCardSaid : Prop := Claim7.holds Tryz.pinned (.plain (OpenSpec.upto weighParsesSpec)) weighParsesUptoCard

/-- THE SECOND FORM's CARD OF 'fairleadlaw20.WeighBack'. -/
def weighBackUptoCard : Claim7 := { stood := { row := weighBackUptoRow, standIns := [], harness := (true, "bdebb72a809571439f528a0fdef7ba2430a4737d1e47b91df810be4f4a52cfd3"), looks := true }, kinds := [], alts := [], laidByText := true, laidKinds := [.data, .data, .data, .handle, .data], laidTests := true, laidLooks := .later }
def WeighBackUptoCardSaid : Prop := Claim7.holds Tryz.pinned (.plain (OpenSpec.upto weighBackSpec)) weighBackUptoCard

/-- THE SECOND FORM's CARD OF 'fairleadlaw20.WeighCosts'. -/
def weighCostsUptoCard : Claim7 := { stood := { row := weighCostsUptoRow, standIns := [], harness := (true, "bdebb72a809571439f528a0fdef7ba2430a4737d1e47b91df810be4f4a52cfd3"), looks := true }, kinds := [], alts := [], laidByText := true, laidKinds := [.data, .data, .data, .handle, .data], laidTests := true, laidLooks := .later }
def WeighCostsUptoCardSaid : Prop := Claim7.holds Tryz.pinned (.plain (OpenSpec.upto weighCostsSpec)) weighCostsUptoCard
end Rows
end Go.Proofs.YtogbocgjijhmgaaGreatDoor
