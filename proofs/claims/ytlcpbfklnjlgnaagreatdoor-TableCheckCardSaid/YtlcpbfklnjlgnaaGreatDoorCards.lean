/-
  DERIVED. GIVEN WITH THE SEED: THE CARDS: each row of YtlcpbfklnjlgnaaGreatDoorRows.lean that lists a variable, with what it lists TIED to the program's text (the seventh form; the later family's looks); each row that meets fmt, with fmt's text TOLD by the authors' own Lean function (tested against real Go, not proved from fmt's source: count such statements apart). THE CARD IS WHAT COUNTS. Prove the row's statement (the work); the ties are given (YtlcpbfklnjlgnaaGreatDoorTie.lean); close each card by the builder's one call (the guide's Derived/Test/ToyasCard.lean, 'card_holds'). Laid BY PROGRAM, IN A SANDBOX (cutbox-door.mjs). By AI agents, Wed Nov 11 2026. No macro, syntax, notation, axiom, sorry.
-/
import Derived.Test.YtlcpbfklnjlgnaaGreatDoorRows
import GoSem.ClaimSeven
namespace Go.Proofs.YtlcpbfklnjlgnaaGreatDoor
namespace Rows

/-- THE TIED CARD OF 'fairleadlaw12.TableCheck'. -/
def tableCheckCard : Claim7 := { stood := { row := tableCheckRow, standIns := [], harness := (true, "c2ba604cadaad7a29795593c07a4d83df38e089ee8f195b4fcf3d264dec4bbd5"), looks := true }, kinds := [], alts := [], laidByText := true, laidKinds := [.data, .data, .data, .handle], laidTests := true, laidLooks := .later }
def TableCheckCardSaid : Prop := Claim7.holds Tryz.pinned (.plain (OpenSpec.ofChange tableCheckSpec)) tableCheckCard

/-- THE SECOND FORM's CARD OF 'fairleadlaw12.TableCheck'. -/
def tableCheckUptoCard : Claim7 := { stood := { row := tableCheckUptoRow, standIns := [], harness := (true, "c2ba604cadaad7a29795593c07a4d83df38e089ee8f195b4fcf3d264dec4bbd5"), looks := true }, kinds := [], alts := [], laidByText := true, laidKinds := [.data, .data, .data, .handle], laidTests := true, laidLooks := .later }
def TableCheckUptoCardSaid : Prop := Claim7.holds Tryz.pinned (.plain (OpenSpec.upto tableCheckSpec)) tableCheckUptoCard
end Rows
end Go.Proofs.YtlcpbfklnjlgnaaGreatDoor
