/-
  DERIVED. GIVEN WITH THE SEED: THE CARDS: each row of YtajmlkephefapaaGreatDoorRows.lean that lists a variable, with what it lists TIED to the program's text (the seventh form; the later family's looks); each row that meets fmt, with fmt's text TOLD by the authors' own Lean function (tested against real Go, not proved from fmt's source: count such statements apart). THE CARD IS WHAT COUNTS. Prove the row's statement (the work); the ties are given (YtajmlkephefapaaGreatDoorTie.lean); close each card by the builder's one call (the guide's Derived/Test/ToyasCard.lean, 'card_holds'). Laid BY PROGRAM, IN A SANDBOX (cutbox-door.mjs). By AI agents, Wed Nov 11 2026. No macro, syntax, notation, axiom, sorry.
-/
import Derived.Test.YtajmlkephefapaaGreatDoorRows
import GoSem.ClaimSeven
namespace Go.Proofs.YtajmlkephefapaaGreatDoor
namespace Rows

/-- THE TIED CARD OF 'fairleadlaw05.TreeParses'. -/
def treeParsesCard : Claim7 := { stood := { row := treeParsesRow, standIns := [], harness := (true, "ea80647f4c0782d9a12e916b49ecbaa9a9b10bf8516f320c926f369608a82ff9"), looks := true }, kinds := [], alts := [], laidByText := true, laidKinds := [.handle], laidTests := true, laidLooks := .later }
def TreeParsesCardSaid : Prop := Claim7.holds Tryz.pinned (.plain (OpenSpec.ofChange treeParsesSpec)) treeParsesCard

/-- THE TIED CARD OF 'fairleadlaw06.InkWrites'. -/
def inkWritesCard : Claim7 := { stood := { row := inkWritesRow, standIns := [], harness := (true, "ea80647f4c0782d9a12e916b49ecbaa9a9b10bf8516f320c926f369608a82ff9"), looks := true }, kinds := [], alts := [], laidByText := true, laidKinds := [.data, .data, .data, .handle], laidTests := true, laidLooks := .later }
def InkWritesCardSaid : Prop := Claim7.holds Tryz.pinned (.plain (OpenSpec.ofChange inkWritesSpec)) inkWritesCard

/-- THE TIED CARD OF 'fairleadlaw06.InkBack'. -/
def inkBackCard : Claim7 := { stood := { row := inkBackRow, standIns := [], harness := (true, "ea80647f4c0782d9a12e916b49ecbaa9a9b10bf8516f320c926f369608a82ff9"), looks := true }, kinds := [], alts := [], laidByText := true, laidKinds := [.data, .data, .data, .handle], laidTests := true, laidLooks := .later }
def InkBackCardSaid : Prop := Claim7.holds Tryz.pinned (.plain (OpenSpec.ofChange inkBackSpec)) inkBackCard

/-- THE SECOND FORM's CARD OF 'fairleadlaw05.TreeParses'. -/
def treeParsesUptoCard : Claim7 := { stood := { row := treeParsesUptoRow, standIns := [], harness := (true, "ea80647f4c0782d9a12e916b49ecbaa9a9b10bf8516f320c926f369608a82ff9"), looks := true }, kinds := [], alts := [], laidByText := true, laidKinds := [.handle], laidTests := true, laidLooks := .later }
def TreeParsesUptoCardSaid : Prop := Claim7.holds Tryz.pinned (.plain (OpenSpec.upto treeParsesSpec)) treeParsesUptoCard

/-- THE SECOND FORM's CARD OF 'fairleadlaw06.InkWrites'. -/
def inkWritesUptoCard : Claim7 := { stood := { row := inkWritesUptoRow, standIns := [], harness := (true, "ea80647f4c0782d9a12e916b49ecbaa9a9b10bf8516f320c926f369608a82ff9"), looks := true }, kinds := [], alts := [], laidByText := true, laidKinds := [.data, .data, .data, .handle], laidTests := true, laidLooks := .later }
def InkWritesUptoCardSaid : Prop := Claim7.holds Tryz.pinned (.plain (OpenSpec.upto inkWritesSpec)) inkWritesUptoCard

/-- THE SECOND FORM's CARD OF 'fairleadlaw06.InkBack'. -/
def inkBackUptoCard : Claim7 := { stood := { row := inkBackUptoRow, standIns := [], harness := (true, "ea80647f4c0782d9a12e916b49ecbaa9a9b10bf8516f320c926f369608a82ff9"), looks := true }, kinds := [], alts := [], laidByText := true, laidKinds := [.data, .data, .data, .handle], laidTests := true, laidLooks := .later }
def InkBackUptoCardSaid : Prop := Claim7.holds Tryz.pinned (.plain (OpenSpec.upto inkBackSpec)) inkBackUptoCard
end Rows
end Go.Proofs.YtajmlkephefapaaGreatDoor
