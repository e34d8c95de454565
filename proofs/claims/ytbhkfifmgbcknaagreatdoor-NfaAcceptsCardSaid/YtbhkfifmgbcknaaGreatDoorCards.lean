/-
  DERIVED. GIVEN WITH THE SEED: THE CARDS: each row of YtbhkfifmgbcknaaGreatDoorRows.lean that lists a variable, with what it lists TIED to the program's text (the seventh form; the later family's looks); each row that meets fmt, with fmt's text TOLD by the authors' own Lean function (tested against real Go, not proved from fmt's source: count such statements apart). THE CARD IS WHAT COUNTS. Prove the row's statement (the work); the ties are given (YtbhkfifmgbcknaaGreatDoorTie.lean); close each card by the builder's one call (the guide's Derived/Test/ToyasCard.lean, 'card_holds'). Laid BY PROGRAM, IN A SANDBOX (cutbox-door.mjs). By AI agents, Wed Nov 11 2026. No macro, syntax, notation, axiom, sorry.
-/
import Derived.Test.YtbhkfifmgbcknaaGreatDoorRows
import GoSem.ClaimSeven
namespace Go.Proofs.YtbhkfifmgbcknaaGreatDoor
namespace Rows

/-- THE TIED CARD OF 'fairleadlaw17.NfaAccepts'. -/
def nfaAcceptsCard : Claim7 := { stood := { row := nfaAcceptsRow, standIns := [], harness := (true, "e839784576f3e5677fc6849476ca1834ae97f63f77de8e5f983798efd94c28b9"), looks := true }, kinds := [], alts := [], laidByText := true, laidKinds := [.data, .data, .data, .handle], laidTests := true, laidLooks := .later }
def NfaAcceptsCardSaid : Prop := Claim7.holds Tryz.pinned (.plain (OpenSpec.ofChange nfaAcceptsSpec)) nfaAcceptsCard

/-- THE TIED CARD OF 'fairleadlaw17.NfaSizes'. -/
def nfaSizesCard : Claim7 := { stood := { row := nfaSizesRow, standIns := [], harness := (true, "e839784576f3e5677fc6849476ca1834ae97f63f77de8e5f983798efd94c28b9"), looks := true }, kinds := [], alts := [], laidByText := true, laidKinds := [.data, .data, .data, .handle], laidTests := true, laidLooks := .later }
def NfaSizesCardSaid : Prop := Claim7.holds Tryz.pinned (.plain (OpenSpec.ofChange nfaSizesSpec)) nfaSizesCard

/-- THE SECOND FORM's CARD OF 'fairleadlaw17.NfaAccepts'. -/
def nfaAcceptsUptoCard : Claim7 := { stood := { row := nfaAcceptsUptoRow, standIns := [], harness := (true, "e839784576f3e5677fc6849476ca1834ae97f63f77de8e5f983798efd94c28b9"), looks := true }, kinds := [], alts := [], laidByText := true, laidKinds := [.data, .data, .data, .handle], laidTests := true, laidLooks := .later }
def NfaAcceptsUptoCardSaid : Prop := Claim7.holds Tryz.pinned (.plain (OpenSpec.upto nfaAcceptsSpec)) nfaAcceptsUptoCard

/-- THE SECOND FORM's CARD OF 'fairleadlaw17.NfaSizes'. -/
def nfaSizesUptoCard : Claim7 := { stood := { row := nfaSizesUptoRow, standIns := [], harness := (true, "e839784576f3e5677fc6849476ca1834ae97f63f77de8e5f983798efd94c28b9"), looks := true }, kinds := [], alts := [], laidByText := true, laidKinds := [.data, .data, .data, .handle], laidTests := true, laidLooks := .later }
def NfaSizesUptoCardSaid : Prop := Claim7.holds Tryz.pinned (.plain (OpenSpec.upto nfaSizesSpec)) nfaSizesUptoCard
end Rows
end Go.Proofs.YtbhkfifmgbcknaaGreatDoor
