/-
  DERIVED. GIVEN WITH THE SEED: THE CARDS: each row of YtcnaffhdiodkhaaDoorRows.lean that lists a variable, with what it lists TIED to the program's text (the seventh form; the later family's looks); each row that meets fmt, with fmt's text TOLD by the authors' own Lean function (tested against real Go, not proved from fmt's source: count such statements apart). THE CARD IS WHAT COUNTS. Prove the row's statement (the work); the ties are given (YtcnaffhdiodkhaaDoorTie.lean); close each card by the builder's one call (the guide's Derived/Test/ToyasCard.lean, 'card_holds'). Laid BY PROGRAM, IN A SANDBOX (cutbox-door.mjs). By AI agents, Wed Nov 11 2026. No macro, syntax, notation, axiom, sorry.
-/
import Derived.Test.YtcnaffhdiodkhaaDoorRows
import GoSem.ClaimSeven
namespace Go.Proofs.YtcnaffhdiodkhaaDoor
namespace Rows

/-- THE TIED CARD OF 'fairleadlaw03.ScanWalks'. -/
def scanWalksCard : Claim7 := { stood := { row := scanWalksRow, standIns := [], harness := (true, "6195e1d423baf473a98c3dd1857b5db8fc8064f427fa5fee008709c8ac047237"), looks := true }, kinds := [], alts := [], laidByText := true, laidKinds := [.handle], laidTests := true, laidLooks := .later }
def ScanWalksCardSaid : Prop := Claim7.holds Tryd.pinned (.plain (OpenSpec.ofChange scanWalksSpec)) scanWalksCard

/-- THE TIED CARD OF 'fairleadlaw03.ScanNames'. -/
def scanNamesCard : Claim7 := { stood := { row := scanNamesRow, standIns := [], harness := (true, "6195e1d423baf473a98c3dd1857b5db8fc8064f427fa5fee008709c8ac047237"), looks := true }, kinds := [], alts := [], laidByText := true, laidKinds := [.handle], laidTests := true, laidLooks := .later }
def ScanNamesCardSaid : Prop := Claim7.holds Tryd.pinned (.plain (OpenSpec.ofChange scanNamesSpec)) scanNamesCard

/-- THE TIED CARD OF 'fairleadlaw03.ScanLong'. -/
def scanLongCard : Claim7 := { stood := { row := scanLongRow, standIns := [], harness := (true, "6195e1d423baf473a98c3dd1857b5db8fc8064f427fa5fee008709c8ac047237"), looks := true }, kinds := [], alts := [], laidByText := true, laidKinds := [.handle], laidTests := true, laidLooks := .later }
def ScanLongCardSaid : Prop := Claim7.holds Tryd.pinned (.plain (OpenSpec.ofChange scanLongSpec)) scanLongCard

/-- THE TIED CARD OF 'fairleadlaw03.ScanFront'. -/
def scanFrontCard : Claim7 := { stood := { row := scanFrontRow, standIns := [], harness := (true, "6195e1d423baf473a98c3dd1857b5db8fc8064f427fa5fee008709c8ac047237"), looks := true }, kinds := [], alts := [], laidByText := true, laidKinds := [.handle], laidTests := true, laidLooks := .later }
def ScanFrontCardSaid : Prop := Claim7.holds Tryd.pinned (.plain (OpenSpec.ofChange scanFrontSpec)) scanFrontCard

/-- THE TIED CARD OF 'fairleadlaw04.NamesGrow'. -/
def namesGrowCard : Claim7 := { stood := { row := namesGrowRow, standIns := [], harness := (true, "6195e1d423baf473a98c3dd1857b5db8fc8064f427fa5fee008709c8ac047237"), looks := true }, kinds := [], alts := [], laidByText := true, laidKinds := [.handle], laidTests := true, laidLooks := .later }
def NamesGrowCardSaid : Prop := Claim7.holds Tryd.pinned (.plain (OpenSpec.ofChange namesGrowSpec)) namesGrowCard

/-- THE TIED CARD OF 'fairleadlaw04.NamesOrder'. -/
def namesOrderCard : Claim7 := { stood := { row := namesOrderRow, standIns := [], harness := (true, "6195e1d423baf473a98c3dd1857b5db8fc8064f427fa5fee008709c8ac047237"), looks := true }, kinds := [], alts := [], laidByText := true, laidKinds := [.handle], laidTests := true, laidLooks := .later }
def NamesOrderCardSaid : Prop := Claim7.holds Tryd.pinned (.plain (OpenSpec.ofChange namesOrderSpec)) namesOrderCard

/-- THE SECOND FORM's CARD OF 'fairleadlaw03.ScanWalks'. -/
def scanWalksUptoCard : Claim7 := { stood := { row := scanWalksUptoRow, standIns := [], harness := (true, "6195e1d423baf473a98c3dd1857b5db8fc8064f427fa5fee008709c8ac047237"), looks := true }, kinds := [], alts := [], laidByText := true, laidKinds := [.handle], laidTests := true, laidLooks := .later }
def ScanWalksUptoCardSaid : Prop := Claim7.holds Tryd.pinned (.plain (OpenSpec.upto scanWalksSpec)) scanWalksUptoCard

/-- THE SECOND FORM's CARD OF 'fairleadlaw03.ScanNames'. -/
def scanNamesUptoCard : Claim7 := { stood := { row := scanNamesUptoRow, standIns := [], harness := (true, "6195e1d423baf473a98c3dd1857b5db8fc8064f427fa5fee008709c8ac047237"), looks := true }, kinds := [], alts := [], laidByText := true, laidKinds := [.handle], laidTests := true, laidLooks := .later }
def ScanNamesUptoCardSaid : Prop := Claim7.holds Tryd.pinned (.plain (OpenSpec.upto scanNamesSpec)) scanNamesUptoCard

/-- THE SECOND FORM's CARD OF 'fairleadlaw03.ScanLong'. -/
def scanLongUptoCard : Claim7 := { stood := { row := scanLongUptoRow, standIns := [], harness := (true, "6195e1d423baf473a98c3dd1857b5db8fc8064f427fa5fee008709c8ac047237"), looks := true }, kinds := [], alts := [], laidByText := true, laidKinds := [.handle], laidTests := true, laidLooks := .later }
def ScanLongUptoCardSaid : Prop := Claim7.holds Tryd.pinned (.plain (OpenSpec.upto scanLongSpec)) scanLongUptoCard

/-- THE SECOND FORM's CARD OF 'fairleadlaw03.ScanFront'. -/
def scanFrontUptoCard : Claim7 := { stood := { row := scanFrontUptoRow, standIns := [], harness := (true, "6195e1d423baf473a98c3dd1857b5db8fc8064f427fa5fee008709c8ac047237"), looks := true }, kinds := [], alts := [], laidByText := true, laidKinds := [.handle], laidTests := true, laidLooks := .later }
def ScanFrontUptoCardSaid : Prop := Claim7.holds Tryd.pinned (.plain (OpenSpec.upto scanFrontSpec)) scanFrontUptoCard

/-- THE SECOND FORM's CARD OF 'fairleadlaw04.NamesGrow'. -/
def namesGrowUptoCard : Claim7 := { stood := { row := namesGrowUptoRow, standIns := [], harness := (true, "6195e1d423baf473a98c3dd1857b5db8fc8064f427fa5fee008709c8ac047237"), looks := true }, kinds := [], alts := [], laidByText := true, laidKinds := [.handle], laidTests := true, laidLooks := .later }
def NamesGrowUptoCardSaid : Prop := Claim7.holds Tryd.pinned (.plain (OpenSpec.upto namesGrowSpec)) namesGrowUptoCard

/-- THE SECOND FORM's CARD OF 'fairleadlaw04.NamesOrder'. -/
def namesOrderUptoCard : Claim7 := { stood := { row := namesOrderUptoRow, standIns := [], harness := (true, "6195e1d423baf473a98c3dd1857b5db8fc8064f427fa5fee008709c8ac047237"), looks := true }, kinds := [], alts := [], laidByText := true, laidKinds := [.handle], laidTests := true, laidLooks := .later }
def NamesOrderUptoCardSaid : Prop := Claim7.holds Tryd.pinned (.plain (OpenSpec.upto namesOrderSpec)) namesOrderUptoCard
end Rows
end Go.Proofs.YtcnaffhdiodkhaaDoor
