/-
  DERIVED. GIVEN WITH THE SEED: THE CARDS: each row of YtjanbhodikhdeaaDoorRows.lean that lists a variable, with what it lists TIED to the program's text (the seventh form; the later family's looks); each row that meets fmt, with fmt's text TOLD by the authors' own Lean function (tested against real Go, not proved from fmt's source: count such statements apart). THE CARD IS WHAT COUNTS. Prove the row's statement (the work); the ties are given (YtjanbhodikhdeaaDoorTie.lean); close each card by the builder's one call (the guide's Derived/Test/ToyasCard.lean, 'card_holds'). Laid BY PROGRAM, IN A SANDBOX (cutbox-door.mjs). By AI agents, Wed Nov 11 2026. No macro, syntax, notation, axiom, sorry.
-/
import Derived.Test.YtjanbhodikhdeaaDoorRows
import GoSem.ClaimSeven
namespace Go.Proofs.YtjanbhodikhdeaaDoor
namespace Rows

/-- THE TIED CARD OF 'fairleadlaw21.PdsJoins'. -/
def pdsJoinsCard : Claim7 := { stood := { row := pdsJoinsRow, standIns := [], harness := (true, "47338f3d0486970b4cf129d7cecbe877c9ac9763ca4382ba0e037b5bfe523dc5"), looks := true }, kinds := [], alts := [], laidByText := true, laidKinds := [.handle], laidTests := true, laidLooks := .later }
def PdsJoinsCardSaid : Prop := Claim7.holds Tryd.pinned (.plain (OpenSpec.ofChange pdsJoinsSpec)) pdsJoinsCard

/-- THE TIED CARD OF 'fairleadlaw21.PdsLong'. -/
def pdsLongCard : Claim7 := { stood := { row := pdsLongRow, standIns := [], harness := (true, "47338f3d0486970b4cf129d7cecbe877c9ac9763ca4382ba0e037b5bfe523dc5"), looks := true }, kinds := [], alts := [], laidByText := true, laidKinds := [.handle], laidTests := true, laidLooks := .later }
def PdsLongCardSaid : Prop := Claim7.holds Tryd.pinned (.plain (OpenSpec.ofChange pdsLongSpec)) pdsLongCard

/-- THE SECOND FORM's CARD OF 'fairleadlaw21.PdsJoins'. -/
def pdsJoinsUptoCard : Claim7 := { stood := { row := pdsJoinsUptoRow, standIns := [], harness := (true, "47338f3d0486970b4cf129d7cecbe877c9ac9763ca4382ba0e037b5bfe523dc5"), looks := true }, kinds := [], alts := [], laidByText := true, laidKinds := [.handle], laidTests := true, laidLooks := .later }
def PdsJoinsUptoCardSaid : Prop := Claim7.holds Tryd.pinned (.plain (OpenSpec.upto pdsJoinsSpec)) pdsJoinsUptoCard

/-- THE SECOND FORM's CARD OF 'fairleadlaw21.PdsLong'. -/
def pdsLongUptoCard : Claim7 := { stood := { row := pdsLongUptoRow, standIns := [], harness := (true, "47338f3d0486970b4cf129d7cecbe877c9ac9763ca4382ba0e037b5bfe523dc5"), looks := true }, kinds := [], alts := [], laidByText := true, laidKinds := [.handle], laidTests := true, laidLooks := .later }
def PdsLongUptoCardSaid : Prop := Claim7.holds Tryd.pinned (.plain (OpenSpec.upto pdsLongSpec)) pdsLongUptoCard
end Rows
end Go.Proofs.YtjanbhodikhdeaaDoor
