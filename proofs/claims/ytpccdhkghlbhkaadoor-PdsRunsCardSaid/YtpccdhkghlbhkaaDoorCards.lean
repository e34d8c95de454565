/-
  DERIVED. GIVEN WITH THE SEED: THE CARDS: each row of YtpccdhkghlbhkaaDoorRows.lean that lists a variable, with what it lists TIED to the program's text (the seventh form; the later family's looks); each row that meets fmt, with fmt's text TOLD by the authors' own Lean function (tested against real Go, not proved from fmt's source: count such statements apart). THE CARD IS WHAT COUNTS. Prove the row's statement (the work); the ties are given (YtpccdhkghlbhkaaDoorTie.lean); close each card by the builder's one call (the guide's Derived/Test/ToyasCard.lean, 'card_holds'). Laid BY PROGRAM, IN A SANDBOX (cutbox-door.mjs). By AI agents, Wed Nov 11 2026. No macro, syntax, notation, axiom, sorry.
-/
import Derived.Test.YtpccdhkghlbhkaaDoorRows
import GoSem.ClaimSeven
namespace Go.Proofs.YtpccdhkghlbhkaaDoor
namespace Rows

/-- THE TIED CARD OF 'fairleadlaw21.PdsCheck'. -/
def pdsCheckCard : Claim7 := { stood := { row := pdsCheckRow, standIns := [], harness := (true, "d51cdb02f0d4f3e3cd10e433998e6dd5aa2901d9dbc12f67cc95f46fe0a30968"), looks := true }, kinds := [], alts := [], laidByText := true, laidKinds := [.handle], laidTests := true, laidLooks := .later }
def PdsCheckCardSaid : Prop := Claim7.holds Tryd.pinned (.plain (OpenSpec.ofChange pdsCheckSpec)) pdsCheckCard

/-- THE TIED CARD OF 'fairleadlaw21.PdsRuns'. -/
def pdsRunsCard : Claim7 := { stood := { row := pdsRunsRow, standIns := [], harness := (true, "d51cdb02f0d4f3e3cd10e433998e6dd5aa2901d9dbc12f67cc95f46fe0a30968"), looks := true }, kinds := [], alts := [], laidByText := true, laidKinds := [.handle], laidTests := true, laidLooks := .later }
def PdsRunsCardSaid : Prop := Claim7.holds Tryd.pinned (.plain (OpenSpec.ofChange pdsRunsSpec)) pdsRunsCard

/-- THE TIED CARD OF 'fairleadlaw21.PdsJoins'. -/
def pdsJoinsCard : Claim7 := { stood := { row := pdsJoinsRow, standIns := [], harness := (true, "d51cdb02f0d4f3e3cd10e433998e6dd5aa2901d9dbc12f67cc95f46fe0a30968"), looks := true }, kinds := [], alts := [], laidByText := true, laidKinds := [.handle], laidTests := true, laidLooks := .later }
def PdsJoinsCardSaid : Prop := Claim7.holds Tryd.pinned (.plain (OpenSpec.ofChange pdsJoinsSpec)) pdsJoinsCard

/-- THE TIED CARD OF 'fairleadlaw21.PdsLong'. -/
def pdsLongCard : Claim7 := { stood := { row := pdsLongRow, standIns := [], harness := (true, "d51cdb02f0d4f3e3cd10e433998e6dd5aa2901d9dbc12f67cc95f46fe0a30968"), looks := true }, kinds := [], alts := [], laidByText := true, laidKinds := [.handle], laidTests := true, laidLooks := .later }
def PdsLongCardSaid : Prop := Claim7.holds Tryd.pinned (.plain (OpenSpec.ofChange pdsLongSpec)) pdsLongCard

/-- THE SECOND FORM's CARD OF 'fairleadlaw21.PdsCheck'. -/
def pdsCheckUptoCard : Claim7 := { stood := { row := pdsCheckUptoRow, standIns := [], harness := (true, "d51cdb02f0d4f3e3cd10e433998e6dd5aa2901d9dbc12f67cc95f46fe0a30968"), looks := true }, kinds := [], alts := [], laidByText := true, laidKinds := [.handle], laidTests := true, laidLooks := .later }
def PdsCheckUptoCardSaid : Prop := Claim7.holds Tryd.pinned (.plain (OpenSpec.upto pdsCheckSpec)) pdsCheckUptoCard

/-- THE SECOND FORM's CARD OF 'fairleadlaw21.PdsRuns'. -/
def pdsRunsUptoCard : Claim7 := { stood := { row := pdsRunsUptoRow, standIns := [], harness := (true, "d51cdb02f0d4f3e3cd10e433998e6dd5aa2901d9dbc12f67cc95f46fe0a30968"), looks := true }, kinds := [], alts := [], laidByText := true, laidKinds := [.handle], laidTests := true, laidLooks := .later }
def PdsRunsUptoCardSaid : Prop := Claim7.holds Tryd.pinned (.plain (OpenSpec.upto pdsRunsSpec)) pdsRunsUptoCard

/-- THE SECOND FORM's CARD OF 'fairleadlaw21.PdsJoins'. -/
def pdsJoinsUptoCard : Claim7 := { stood := { row := pdsJoinsUptoRow, standIns := [], harness := (true, "d51cdb02f0d4f3e3cd10e433998e6dd5aa2901d9dbc12f67cc95f46fe0a30968"), looks := true }, kinds := [], alts := [], laidByText := true, laidKinds := [.handle], laidTests := true, laidLooks := .later }
def PdsJoinsUptoCardSaid : Prop := Claim7.holds Tryd.pinned (.plain (OpenSpec.upto pdsJoinsSpec)) pdsJoinsUptoCard

/-- THE SECOND FORM's CARD OF 'fairleadlaw21.PdsLong'. -/
def pdsLongUptoCard : Claim7 := { stood := { row := pdsLongUptoRow, standIns := [], harness := (true, "d51cdb02f0d4f3e3cd10e433998e6dd5aa2901d9dbc12f67cc95f46fe0a30968"), looks := true }, kinds := [], alts := [], laidByText := true, laidKinds := [.handle], laidTests := true, laidLooks := .later }
def PdsLongUptoCardSaid : Prop := Claim7.holds Tryd.pinned (.plain (OpenSpec.upto pdsLongSpec)) pdsLongUptoCard
end Rows
end Go.Proofs.YtpccdhkghlbhkaaDoor
