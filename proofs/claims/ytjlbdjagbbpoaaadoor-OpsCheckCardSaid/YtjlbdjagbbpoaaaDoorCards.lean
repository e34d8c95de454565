/-
  DERIVED. GIVEN WITH THE SEED: THE CARDS: each row of YtjlbdjagbbpoaaaDoorRows.lean that lists a variable, with what it lists TIED to the program's text (the seventh form; the later family's looks); each row that meets fmt, with fmt's text TOLD by the authors' own Lean function (tested against real Go, not proved from fmt's source: count such statements apart). THE CARD IS WHAT COUNTS. Prove the row's statement (the work); the ties are given (YtjlbdjagbbpoaaaDoorTie.lean); close each card by the builder's one call (the guide's Derived/Test/ToyasCard.lean, 'card_holds'). Laid BY PROGRAM, IN A SANDBOX (cutbox-door.mjs). By AI agents, Wed Nov 11 2026. No macro, syntax, notation, axiom, sorry.
-/
import Derived.Test.YtjlbdjagbbpoaaaDoorRows
import GoSem.ClaimSeven
namespace Go.Proofs.YtjlbdjagbbpoaaaDoor
namespace Rows

/-- THE TIED CARD OF 'fairleadlaw09.HeaderValid'. -/
def headerValidCard : Claim7 := { stood := { row := headerValidRow, standIns := [], harness := (true, "fd6e47289e415e349be6d8666fcf8366b69bff862472940aac5932114c0d5491"), looks := true }, kinds := [], alts := [], laidByText := true, laidKinds := [.data], laidTests := true, laidLooks := .later }
def HeaderValidCardSaid : Prop := Claim7.holds Tryd.pinned (.plain (OpenSpec.ofChange headerValidSpec)) headerValidCard

/-- THE TIED CARD OF 'fairleadlaw09.HeaderKinds'. -/
def headerKindsCard : Claim7 := { stood := { row := headerKindsRow, standIns := [], harness := (true, "fd6e47289e415e349be6d8666fcf8366b69bff862472940aac5932114c0d5491"), looks := true }, kinds := [], alts := [], laidByText := true, laidKinds := [.data], laidTests := true, laidLooks := .later }
def HeaderKindsCardSaid : Prop := Claim7.holds Tryd.pinned (.plain (OpenSpec.ofChange headerKindsSpec)) headerKindsCard

/-- THE TIED CARD OF 'fairleadlaw09.HeaderEnds'. -/
def headerEndsCard : Claim7 := { stood := { row := headerEndsRow, standIns := [], harness := (true, "fd6e47289e415e349be6d8666fcf8366b69bff862472940aac5932114c0d5491"), looks := true }, kinds := [], alts := [], laidByText := true, laidKinds := [.data], laidTests := true, laidLooks := .later }
def HeaderEndsCardSaid : Prop := Claim7.holds Tryd.pinned (.plain (OpenSpec.ofChange headerEndsSpec)) headerEndsCard

/-- THE TIED CARD OF 'fairleadlaw09.HeaderLays'. -/
def headerLaysCard : Claim7 := { stood := { row := headerLaysRow, standIns := [], harness := (true, "fd6e47289e415e349be6d8666fcf8366b69bff862472940aac5932114c0d5491"), looks := true }, kinds := [], alts := [], laidByText := true, laidKinds := [.data], laidTests := true, laidLooks := .later }
def HeaderLaysCardSaid : Prop := Claim7.holds Tryd.pinned (.plain (OpenSpec.ofChange headerLaysSpec)) headerLaysCard

/-- THE TIED CARD OF 'fairleadlaw10.OpsDo'. -/
def opsDoCard : Claim7 := { stood := { row := opsDoRow, standIns := [], harness := (true, "fd6e47289e415e349be6d8666fcf8366b69bff862472940aac5932114c0d5491"), looks := true }, kinds := [], alts := [], laidByText := true, laidKinds := [.data, .handle], laidTests := true, laidLooks := .later }
def OpsDoCardSaid : Prop := Claim7.holds Tryd.pinned (.plain (OpenSpec.ofChange opsDoSpec)) opsDoCard

/-- THE TIED CARD OF 'fairleadlaw10.OpsCheck'. -/
def opsCheckCard : Claim7 := { stood := { row := opsCheckRow, standIns := [], harness := (true, "fd6e47289e415e349be6d8666fcf8366b69bff862472940aac5932114c0d5491"), looks := true }, kinds := [], alts := [], laidByText := true, laidKinds := [.data, .handle], laidTests := true, laidLooks := .later }
def OpsCheckCardSaid : Prop := Claim7.holds Tryd.pinned (.plain (OpenSpec.ofChange opsCheckSpec)) opsCheckCard

/-- THE TIED CARD OF 'fairleadlaw10.OpsKeep'. -/
def opsKeepCard : Claim7 := { stood := { row := opsKeepRow, standIns := [], harness := (true, "fd6e47289e415e349be6d8666fcf8366b69bff862472940aac5932114c0d5491"), looks := true }, kinds := [], alts := [], laidByText := true, laidKinds := [.data, .handle], laidTests := true, laidLooks := .later }
def OpsKeepCardSaid : Prop := Claim7.holds Tryd.pinned (.plain (OpenSpec.ofChange opsKeepSpec)) opsKeepCard

/-- THE TIED CARD OF 'fairleadlaw10.OpsParts'. -/
def opsPartsCard : Claim7 := { stood := { row := opsPartsRow, standIns := [], harness := (true, "fd6e47289e415e349be6d8666fcf8366b69bff862472940aac5932114c0d5491"), looks := true }, kinds := [], alts := [], laidByText := true, laidKinds := [.data, .handle], laidTests := true, laidLooks := .later }
def OpsPartsCardSaid : Prop := Claim7.holds Tryd.pinned (.plain (OpenSpec.ofChange opsPartsSpec)) opsPartsCard

/-- THE SECOND FORM's CARD OF 'fairleadlaw09.HeaderValid'. -/
def headerValidUptoCard : Claim7 := { stood := { row := headerValidUptoRow, standIns := [], harness := (true, "fd6e47289e415e349be6d8666fcf8366b69bff862472940aac5932114c0d5491"), looks := true }, kinds := [], alts := [], laidByText := true, laidKinds := [.data], laidTests := true, laidLooks := .later }
def HeaderValidUptoCardSaid : Prop := Claim7.holds Tryd.pinned (.plain (OpenSpec.upto headerValidSpec)) headerValidUptoCard

/-- THE SECOND FORM's CARD OF 'fairleadlaw09.HeaderKinds'. -/
def headerKindsUptoCard : Claim7 := { stood := { row := headerKindsUptoRow, standIns := [], harness := (true, "fd6e47289e415e349be6d8666fcf8366b69bff862472940aac5932114c0d5491"), looks := true }, kinds := [], alts := [], laidByText := true, laidKinds := [.data], laidTests := true, laidLooks := .later }
def HeaderKindsUptoCardSaid : Prop := Claim7.holds Tryd.pinned (.plain (OpenSpec.upto headerKindsSpec)) headerKindsUptoCard

/-- THE SECOND FORM's CARD OF 'fairleadlaw09.HeaderEnds'. -/
def headerEndsUptoCard : Claim7 := { stood := { row := headerEndsUptoRow, standIns := [], harness := (true, "fd6e47289e415e349be6d8666fcf8366b69bff862472940aac5932114c0d5491"), looks := true }, kinds := [], alts := [], laidByText := true, laidKinds := [.data], laidTests := true, laidLooks := .later }
def HeaderEndsUptoCardSaid : Prop := Claim7.holds Tryd.pinned (.plain (OpenSpec.upto headerEndsSpec)) headerEndsUptoCard

/-- THE SECOND FORM's CARD OF 'fairleadlaw09.HeaderLays'. -/
def headerLaysUptoCard : Claim7 := { stood := { row := headerLaysUptoRow, standIns := [], harness := (true, "fd6e47289e415e349be6d8666fcf8366b69bff862472940aac5932114c0d5491"), looks := true }, kinds := [], alts := [], laidByText := true, laidKinds := [.data], laidTests := true, laidLooks := .later }
def HeaderLaysUptoCardSaid : Prop := Claim7.holds Tryd.pinned (.plain (OpenSpec.upto headerLaysSpec)) headerLaysUptoCard

/-- THE SECOND FORM's CARD OF 'fairleadlaw10.OpsDo'. -/
def opsDoUptoCard : Claim7 := { stood := { row := opsDoUptoRow, standIns := [], harness := (true, "fd6e47289e415e349be6d8666fcf8366b69bff862472940aac5932114c0d5491"), looks := true }, kinds := [], alts := [], laidByText := true, laidKinds := [.data, .handle], laidTests := true, laidLooks := .later }
def OpsDoUptoCardSaid : Prop := Claim7.holds Tryd.pinned (.plain (OpenSpec.upto opsDoSpec)) opsDoUptoCard

/-- THE SECOND FORM's CARD OF 'fairleadlaw10.OpsCheck'. -/
def opsCheckUptoCard : Claim7 := { stood := { row := opsCheckUptoRow, standIns := [], harness := (true, "fd6e47289e415e349be6d8666fcf8366b69bff862472940aac5932114c0d5491"), looks := true }, kinds := [], alts := [], laidByText := true, laidKinds := [.data, .handle], laidTests := true, laidLooks := .later }
def OpsCheckUptoCardSaid : Prop := Claim7.holds Tryd.pinned (.plain (OpenSpec.upto opsCheckSpec)) opsCheckUptoCard

/-- THE SECOND FORM's CARD OF 'fairleadlaw10.OpsKeep'. -/
def opsKeepUptoCard : Claim7 := { stood := { row := opsKeepUptoRow, standIns := [], harness := (true, "fd6e47289e415e349be6d8666fcf8366b69bff862472940aac5932114c0d5491"), looks := true }, kinds := [], alts := [], laidByText := true, laidKinds := [.data, .handle], laidTests := true, laidLooks := .later }
def OpsKeepUptoCardSaid : Prop := Claim7.holds Tryd.pinned (.plain (OpenSpec.upto opsKeepSpec)) opsKeepUptoCard

/-- THE SECOND FORM's CARD OF 'fairleadlaw10.OpsParts'. -/
def opsPartsUptoCard : Claim7 := { stood := { row := opsPartsUptoRow, standIns := [], harness := (true, "fd6e47289e415e349be6d8666fcf8366b69bff862472940aac5932114c0d5491"), looks := true }, kinds := [], alts := [], laidByText := true, laidKinds := [.data, .handle], laidTests := true, laidLooks := .later }
def OpsPartsUptoCardSaid : Prop := Claim7.holds Tryd.pinned (.plain (OpenSpec.upto opsPartsSpec)) opsPartsUptoCard
end Rows
end Go.Proofs.YtjlbdjagbbpoaaaDoor
