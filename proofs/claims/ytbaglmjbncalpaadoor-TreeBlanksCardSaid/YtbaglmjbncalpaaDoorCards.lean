/-
  DERIVED. GIVEN WITH THE SEED: THE CARDS: each row of YtbaglmjbncalpaaDoorRows.lean that lists a variable, with what it lists TIED to the program's text (the seventh form; the later family's looks); each row that meets fmt, with fmt's text TOLD by the authors' own Lean function (tested against real Go, not proved from fmt's source: count such statements apart). THE CARD IS WHAT COUNTS. Prove the row's statement (the work); the ties are given (YtbaglmjbncalpaaDoorTie.lean); close each card by the builder's one call (the guide's Derived/Test/ToyasCard.lean, 'card_holds'). Laid BY PROGRAM, IN A SANDBOX (cutbox-door.mjs). By AI agents, Wed Nov 11 2026. No macro, syntax, notation, axiom, sorry.
-/
import Derived.Test.YtbaglmjbncalpaaDoorRows
import GoSem.ClaimSeven
namespace Go.Proofs.YtbaglmjbncalpaaDoor
namespace Rows

/-- THE TIED CARD OF 'fairleadlaw05.TreeDeep'. -/
def treeDeepCard : Claim7 := { stood := { row := treeDeepRow, standIns := [], harness := (true, "0a04b0b6313d2310a793dfb67897534c5bcb3d66c1bc6ecdfa0487461955d0f9"), looks := true }, kinds := [], alts := [], laidByText := true, laidKinds := [.handle], laidTests := true, laidLooks := .later }
def TreeDeepCardSaid : Prop := Claim7.holds Tryd.pinned (.plain (OpenSpec.ofChange treeDeepSpec)) treeDeepCard

/-- THE TIED CARD OF 'fairleadlaw05.TreeBlanks'. -/
def treeBlanksCard : Claim7 := { stood := { row := treeBlanksRow, standIns := [], harness := (true, "0a04b0b6313d2310a793dfb67897534c5bcb3d66c1bc6ecdfa0487461955d0f9"), looks := true }, kinds := [], alts := [], laidByText := true, laidKinds := [.handle], laidTests := true, laidLooks := .later }
def TreeBlanksCardSaid : Prop := Claim7.holds Tryd.pinned (.plain (OpenSpec.ofChange treeBlanksSpec)) treeBlanksCard

/-- THE TIED CARD OF 'fairleadlaw05.TreeShort'. -/
def treeShortCard : Claim7 := { stood := { row := treeShortRow, standIns := [], harness := (true, "0a04b0b6313d2310a793dfb67897534c5bcb3d66c1bc6ecdfa0487461955d0f9"), looks := true }, kinds := [], alts := [], laidByText := true, laidKinds := [.handle], laidTests := true, laidLooks := .later }
def TreeShortCardSaid : Prop := Claim7.holds Tryd.pinned (.plain (OpenSpec.ofChange treeShortSpec)) treeShortCard

/-- THE SECOND FORM's CARD OF 'fairleadlaw05.TreeDeep'. -/
def treeDeepUptoCard : Claim7 := { stood := { row := treeDeepUptoRow, standIns := [], harness := (true, "0a04b0b6313d2310a793dfb67897534c5bcb3d66c1bc6ecdfa0487461955d0f9"), looks := true }, kinds := [], alts := [], laidByText := true, laidKinds := [.handle], laidTests := true, laidLooks := .later }
def TreeDeepUptoCardSaid : Prop := Claim7.holds Tryd.pinned (.plain (OpenSpec.upto treeDeepSpec)) treeDeepUptoCard

/-- THE SECOND FORM's CARD OF 'fairleadlaw05.TreeBlanks'. -/
def treeBlanksUptoCard : Claim7 := { stood := { row := treeBlanksUptoRow, standIns := [], harness := (true, "0a04b0b6313d2310a793dfb67897534c5bcb3d66c1bc6ecdfa0487461955d0f9"), looks := true }, kinds := [], alts := [], laidByText := true, laidKinds := [.handle], laidTests := true, laidLooks := .later }
def TreeBlanksUptoCardSaid : Prop := Claim7.holds Tryd.pinned (.plain (OpenSpec.upto treeBlanksSpec)) treeBlanksUptoCard

/-- THE SECOND FORM's CARD OF 'fairleadlaw05.TreeShort'. -/
def treeShortUptoCard : Claim7 := { stood := { row := treeShortUptoRow, standIns := [], harness := (true, "0a04b0b6313d2310a793dfb67897534c5bcb3d66c1bc6ecdfa0487461955d0f9"), looks := true }, kinds := [], alts := [], laidByText := true, laidKinds := [.handle], laidTests := true, laidLooks := .later }
def TreeShortUptoCardSaid : Prop := Claim7.holds Tryd.pinned (.plain (OpenSpec.upto treeShortSpec)) treeShortUptoCard
end Rows
end Go.Proofs.YtbaglmjbncalpaaDoor
