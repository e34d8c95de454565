/-
  DERIVED. GIVEN WITH THE SEED: THE CARDS: each row of YtabcbeolhhdkpaaGreatDoorRows.lean that lists a variable, with what it lists TIED to the program's text (the seventh form; the later family's looks); each row that meets fmt, with fmt's text TOLD by the authors' own Lean function (tested against real Go, not proved from fmt's source: count such statements apart). THE CARD IS WHAT COUNTS. Prove the row's statement (the work); the ties are given (YtabcbeolhhdkpaaGreatDoorTie.lean); close each card by the builder's one call (the guide's Derived/Test/ToyasCard.lean, 'card_holds'). Laid BY PROGRAM, IN A SANDBOX (cutbox-door.mjs). By AI agents, Wed Nov 11 2026. No macro, syntax, notation, axiom, sorry.
-/
import Derived.Test.YtabcbeolhhdkpaaGreatDoorRows
import GoSem.ClaimSeven
namespace Go.Proofs.YtabcbeolhhdkpaaGreatDoor
namespace Rows

/-- THE TIED CARD OF 'fairleadlaw06.InkQuotes'. -/
def inkQuotesCard : Claim7 := { stood := { row := inkQuotesRow, standIns := [], harness := (true, "23b1d56cb6d2beffa1f0230b40b76e9fbca2d6ccbdbc6b03d4f4e4400378314b"), looks := true }, kinds := [], alts := [], laidByText := true, laidKinds := [.data, .data, .data, .handle], laidTests := true, laidLooks := .later }
def InkQuotesCardSaid : Prop := Claim7.holds Tryz.pinned (.plain (OpenSpec.ofChange inkQuotesSpec)) inkQuotesCard

/-- THE SECOND FORM's CARD OF 'fairleadlaw06.InkQuotes'. -/
def inkQuotesUptoCard : Claim7 := { stood := { row := inkQuotesUptoRow, standIns := [], harness := (true, "23b1d56cb6d2beffa1f0230b40b76e9fbca2d6ccbdbc6b03d4f4e4400378314b"), looks := true }, kinds := [], alts := [], laidByText := true, laidKinds := [.data, .data, .data, .handle], laidTests := true, laidLooks := .later }
def InkQuotesUptoCardSaid : Prop := Claim7.holds Tryz.pinned (.plain (OpenSpec.upto inkQuotesSpec)) inkQuotesUptoCard
end Rows
end Go.Proofs.YtabcbeolhhdkpaaGreatDoor
