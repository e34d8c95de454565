/-
  DERIVED. GIVEN WITH THE SEED: THE CARDS: each row of YtkijbiaenfeijaaGreatDoorRows.lean that lists a variable, with what it lists TIED to the program's text (the seventh form; the later family's looks); each row that meets fmt, with fmt's text TOLD by the authors' own Lean function (tested against real Go, not proved from fmt's source: count such statements apart). THE CARD IS WHAT COUNTS. Prove the row's statement (the work); the ties are given (YtkijbiaenfeijaaGreatDoorTie.lean); close each card by the builder's one call (the guide's Derived/Test/ToyasCard.lean, 'card_holds'). Laid BY PROGRAM, IN A SANDBOX (cutbox-door.mjs). By AI agents, Wed Nov 11 2026. No macro, syntax, notation, axiom, sorry.
-/
import Derived.Test.YtkijbiaenfeijaaGreatDoorRows
import GoSem.ClaimSeven
namespace Go.Proofs.YtkijbiaenfeijaaGreatDoor
namespace Rows

/-- THE TIED CARD OF 'fairleadlaw11.TopoFinds'. -/
def topoFindsCard : Claim7 := { stood := { row := topoFindsRow, standIns := [], harness := (true, "3b362fec2ba11ffdab4de61e96a37f0fb78298e478c4b80b38e5e17186633085"), looks := true }, kinds := [], alts := [], laidByText := true, laidKinds := [.data, .handle], laidTests := true, laidLooks := .later }
def TopoFindsCardSaid : Prop := Claim7.holds Tryz.pinned (.plain (OpenSpec.ofChange topoFindsSpec)) topoFindsCard

/-- THE TIED CARD OF 'fairleadlaw11.TopoWays'. -/
def topoWaysCard : Claim7 := { stood := { row := topoWaysRow, standIns := [], harness := (true, "3b362fec2ba11ffdab4de61e96a37f0fb78298e478c4b80b38e5e17186633085"), looks := true }, kinds := [], alts := [], laidByText := true, laidKinds := [.data, .handle], laidTests := true, laidLooks := .later }
def TopoWaysCardSaid : Prop := Claim7.holds Tryz.pinned (.plain (OpenSpec.ofChange topoWaysSpec)) topoWaysCard

/-- THE TIED CARD OF 'fairleadlaw11.TopoJoins'. -/
def topoJoinsCard : Claim7 := { stood := { row := topoJoinsRow, standIns := [], harness := (true, "3b362fec2ba11ffdab4de61e96a37f0fb78298e478c4b80b38e5e17186633085"), looks := true }, kinds := [], alts := [], laidByText := true, laidKinds := [.data, .handle], laidTests := true, laidLooks := .later }
def TopoJoinsCardSaid : Prop := Claim7.holds Tryz.pinned (.plain (OpenSpec.ofChange topoJoinsSpec)) topoJoinsCard

/-- THE TIED CARD OF 'fairleadlaw12.TableCheck'. -/
def tableCheckCard : Claim7 := { stood := { row := tableCheckRow, standIns := [], harness := (true, "3b362fec2ba11ffdab4de61e96a37f0fb78298e478c4b80b38e5e17186633085"), looks := true }, kinds := [], alts := [], laidByText := true, laidKinds := [.data, .data, .data, .handle], laidTests := true, laidLooks := .later }
def TableCheckCardSaid : Prop := Claim7.holds Tryz.pinned (.plain (OpenSpec.ofChange tableCheckSpec)) tableCheckCard

/-- THE TIED CARD OF 'fairleadlaw12.TableFails'. -/
def tableFailsCard : Claim7 := { stood := { row := tableFailsRow, standIns := [], harness := (true, "3b362fec2ba11ffdab4de61e96a37f0fb78298e478c4b80b38e5e17186633085"), looks := true }, kinds := [], alts := [], laidByText := true, laidKinds := [.data, .handle], laidTests := true, laidLooks := .later }
def TableFailsCardSaid : Prop := Claim7.holds Tryz.pinned (.plain (OpenSpec.ofChange tableFailsSpec)) tableFailsCard

/-- THE SECOND FORM's CARD OF 'fairleadlaw11.TopoFinds'. -/
def topoFindsUptoCard : Claim7 := { stood := { row := topoFindsUptoRow, standIns := [], harness := (true, "3b362fec2ba11ffdab4de61e96a37f0fb78298e478c4b80b38e5e17186633085"), looks := true }, kinds := [], alts := [], laidByText := true, laidKinds := [.data, .handle], laidTests := true, laidLooks := .later }
def TopoFindsUptoCardSaid : Prop := Claim7.holds Tryz.pinned (.plain (OpenSpec.upto topoFindsSpec)) topoFindsUptoCard

/-- THE SECOND FORM's CARD OF 'fairleadlaw11.TopoWays'. -/
def topoWaysUptoCard : Claim7 := { stood := { row := topoWaysUptoRow, standIns := [], harness := (true, "3b362fec2ba11ffdab4de61e96a37f0fb78298e478c4b80b38e5e17186633085"), looks := true }, kinds := [], alts := [], laidByText := true, laidKinds := [.data, .handle], laidTests := true, laidLooks := .later }
def TopoWaysUptoCardSaid : Prop := Claim7.holds Tryz.pinned (.plain (OpenSpec.upto topoWaysSpec)) topoWaysUptoCard

/-- THE SECOND FORM's CARD OF 'fairleadlaw11.TopoJoins'. -/
def topoJoinsUptoCard : Claim7 := { stood := { row := topoJoinsUptoRow, standIns := [], harness := (true, "3b362fec2ba11ffdab4de61e96a37f0fb78298e478c4b80b38e5e17186633085"), looks := true }, kinds := [], alts := [], laidByText := true, laidKinds := [.data, .handle], laidTests := true, laidLooks := .later }
def TopoJoinsUptoCardSaid : Prop := Claim7.holds Tryz.pinned (.plain (OpenSpec.upto topoJoinsSpec)) topoJoinsUptoCard

/-- THE SECOND FORM's CARD OF 'fairleadlaw12.TableCheck'. -/
def tableCheckUptoCard : Claim7 := { stood := { row := tableCheckUptoRow, standIns := [], harness := (true, "3b362fec2ba11ffdab4de61e96a37f0fb78298e478c4b80b38e5e17186633085"), looks := true }, kinds := [], alts := [], laidByText := true, laidKinds := [.data, .data, .data, .handle], laidTests := true, laidLooks := .later }
def TableCheckUptoCardSaid : Prop := Claim7.holds Tryz.pinned (.plain (OpenSpec.upto tableCheckSpec)) tableCheckUptoCard

/-- THE SECOND FORM's CARD OF 'fairleadlaw12.TableFails'. -/
def tableFailsUptoCard : Claim7 := { stood := { row := tableFailsUptoRow, standIns := [], harness := (true, "3b362fec2ba11ffdab4de61e96a37f0fb78298e478c4b80b38e5e17186633085"), looks := true }, kinds := [], alts := [], laidByText := true, laidKinds := [.data, .handle], laidTests := true, laidLooks := .later }
def TableFailsUptoCardSaid : Prop := Claim7.holds Tryz.pinned (.plain (OpenSpec.upto tableFailsSpec)) tableFailsUptoCard
end Rows
end Go.Proofs.YtkijbiaenfeijaaGreatDoor
