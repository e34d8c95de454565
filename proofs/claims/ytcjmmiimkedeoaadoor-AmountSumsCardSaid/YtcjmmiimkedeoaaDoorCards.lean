/-
  DERIVED. GIVEN WITH THE SEED: THE CARDS: each row of YtcjmmiimkedeoaaDoorRows.lean that lists a variable, with what it lists TIED to the program's text (the seventh form; the later family's looks); each row that meets fmt, with fmt's text TOLD by the authors' own Lean function (tested against real Go, not proved from fmt's source: count such statements apart). THE CARD IS WHAT COUNTS. Prove the row's statement (the work); the ties are given (YtcjmmiimkedeoaaDoorTie.lean); close each card by the builder's one call (the guide's Derived/Test/ToyasCard.lean, 'card_holds'). Laid BY PROGRAM, IN A SANDBOX (cutbox-door.mjs). By AI agents, Wed Nov 11 2026. No macro, syntax, notation, axiom, sorry.
-/
import Derived.Test.YtcjmmiimkedeoaaDoorRows
import GoSem.ClaimSeven
namespace Go.Proofs.YtcjmmiimkedeoaaDoor
namespace Rows

/-- THE TIED CARD OF 'fairleadlaw01.OopsWraps'. -/
def oopsWrapsCard : Claim7 := { stood := { row := oopsWrapsRow, standIns := [], harness := (true, "3f8f38b82eab3454f4cc90964b5c4f59c2c13ada6a19069cd2462bd4a481ec9f"), looks := true }, kinds := [], alts := [], laidByText := true, laidKinds := [.handle], laidTests := true, laidLooks := .later }
def OopsWrapsCardSaid : Prop := Claim7.holds Tryd.pinned (.plain (OpenSpec.ofChange oopsWrapsSpec)) oopsWrapsCard

/-- THE TIED CARD OF 'fairleadlaw01.OopsIs'. -/
def oopsIsCard : Claim7 := { stood := { row := oopsIsRow, standIns := [], harness := (true, "3f8f38b82eab3454f4cc90964b5c4f59c2c13ada6a19069cd2462bd4a481ec9f"), looks := true }, kinds := [], alts := [], laidByText := true, laidKinds := [.handle], laidTests := true, laidLooks := .later }
def OopsIsCardSaid : Prop := Claim7.holds Tryd.pinned (.plain (OpenSpec.ofChange oopsIsSpec)) oopsIsCard

/-- THE TIED CARD OF 'fairleadlaw01.OopsUnwraps'. -/
def oopsUnwrapsCard : Claim7 := { stood := { row := oopsUnwrapsRow, standIns := [], harness := (true, "3f8f38b82eab3454f4cc90964b5c4f59c2c13ada6a19069cd2462bd4a481ec9f"), looks := true }, kinds := [], alts := [], laidByText := true, laidKinds := [.handle], laidTests := true, laidLooks := .later }
def OopsUnwrapsCardSaid : Prop := Claim7.holds Tryd.pinned (.plain (OpenSpec.ofChange oopsUnwrapsSpec)) oopsUnwrapsCard

/-- THE TIED CARD OF 'fairleadlaw01.OopsTexts'. -/
def oopsTextsCard : Claim7 := { stood := { row := oopsTextsRow, standIns := [], harness := (true, "3f8f38b82eab3454f4cc90964b5c4f59c2c13ada6a19069cd2462bd4a481ec9f"), looks := true }, kinds := [], alts := [], laidByText := true, laidKinds := [.data, .data, .data, .handle], laidTests := true, laidLooks := .later }
def OopsTextsCardSaid : Prop := Claim7.holds Tryd.pinned (.plain (OpenSpec.ofChange oopsTextsSpec)) oopsTextsCard

/-- THE TIED CARD OF 'fairleadlaw01.OopsSame'. -/
def oopsSameCard : Claim7 := { stood := { row := oopsSameRow, standIns := [], harness := (true, "3f8f38b82eab3454f4cc90964b5c4f59c2c13ada6a19069cd2462bd4a481ec9f"), looks := true }, kinds := [], alts := [], laidByText := true, laidKinds := [.handle], laidTests := true, laidLooks := .later }
def OopsSameCardSaid : Prop := Claim7.holds Tryd.pinned (.plain (OpenSpec.ofChange oopsSameSpec)) oopsSameCard

/-- THE TIED CARD OF 'fairleadlaw01.OopsOthers'. -/
def oopsOthersCard : Claim7 := { stood := { row := oopsOthersRow, standIns := [], harness := (true, "3f8f38b82eab3454f4cc90964b5c4f59c2c13ada6a19069cd2462bd4a481ec9f"), looks := true }, kinds := [], alts := [], laidByText := true, laidKinds := [.handle], laidTests := true, laidLooks := .later }
def OopsOthersCardSaid : Prop := Claim7.holds Tryd.pinned (.plain (OpenSpec.ofChange oopsOthersSpec)) oopsOthersCard

/-- THE TIED CARD OF 'fairleadlaw02.AmountReckons'. -/
def amountReckonsCard : Claim7 := { stood := { row := amountReckonsRow, standIns := [], harness := (true, "3f8f38b82eab3454f4cc90964b5c4f59c2c13ada6a19069cd2462bd4a481ec9f"), looks := true }, kinds := [], alts := [], laidByText := true, laidKinds := [.handle], laidTests := true, laidLooks := .later }
def AmountReckonsCardSaid : Prop := Claim7.holds Tryd.pinned (.plain (OpenSpec.ofChange amountReckonsSpec)) amountReckonsCard

/-- THE TIED CARD OF 'fairleadlaw02.AmountTexts'. -/
def amountTextsCard : Claim7 := { stood := { row := amountTextsRow, standIns := [], harness := (true, "3f8f38b82eab3454f4cc90964b5c4f59c2c13ada6a19069cd2462bd4a481ec9f"), looks := true }, kinds := [], alts := [], laidByText := true, laidKinds := [.data, .data, .data, .handle], laidTests := true, laidLooks := .later }
def AmountTextsCardSaid : Prop := Claim7.holds Tryd.pinned (.plain (OpenSpec.ofChange amountTextsSpec)) amountTextsCard

/-- THE TIED CARD OF 'fairleadlaw02.AmountLaws'. -/
def amountLawsCard : Claim7 := { stood := { row := amountLawsRow, standIns := [], harness := (true, "3f8f38b82eab3454f4cc90964b5c4f59c2c13ada6a19069cd2462bd4a481ec9f"), looks := true }, kinds := [], alts := [], laidByText := true, laidKinds := [.handle], laidTests := true, laidLooks := .later }
def AmountLawsCardSaid : Prop := Claim7.holds Tryd.pinned (.plain (OpenSpec.ofChange amountLawsSpec)) amountLawsCard

/-- THE TIED CARD OF 'fairleadlaw02.AmountSums'. -/
def amountSumsCard : Claim7 := { stood := { row := amountSumsRow, standIns := [], harness := (true, "3f8f38b82eab3454f4cc90964b5c4f59c2c13ada6a19069cd2462bd4a481ec9f"), looks := true }, kinds := [], alts := [], laidByText := true, laidKinds := [.handle], laidTests := true, laidLooks := .later }
def AmountSumsCardSaid : Prop := Claim7.holds Tryd.pinned (.plain (OpenSpec.ofChange amountSumsSpec)) amountSumsCard

/-- THE SECOND FORM's CARD OF 'fairleadlaw01.OopsWraps'. -/
def oopsWrapsUptoCard : Claim7 := { stood := { row := oopsWrapsUptoRow, standIns := [], harness := (true, "3f8f38b82eab3454f4cc90964b5c4f59c2c13ada6a19069cd2462bd4a481ec9f"), looks := true }, kinds := [], alts := [], laidByText := true, laidKinds := [.handle], laidTests := true, laidLooks := .later }
def OopsWrapsUptoCardSaid : Prop := Claim7.holds Tryd.pinned (.plain (OpenSpec.upto oopsWrapsSpec)) oopsWrapsUptoCard

/-- THE SECOND FORM's CARD OF 'fairleadlaw01.OopsIs'. -/
def oopsIsUptoCard : Claim7 := { stood := { row := oopsIsUptoRow, standIns := [], harness := (true, "3f8f38b82eab3454f4cc90964b5c4f59c2c13ada6a19069cd2462bd4a481ec9f"), looks := true }, kinds := [], alts := [], laidByText := true, laidKinds := [.handle], laidTests := true, laidLooks := .later }
def OopsIsUptoCardSaid : Prop := Claim7.holds Tryd.pinned (.plain (OpenSpec.upto oopsIsSpec)) oopsIsUptoCard

/-- THE SECOND FORM's CARD OF 'fairleadlaw01.OopsUnwraps'. -/
def oopsUnwrapsUptoCard : Claim7 := { stood := { row := oopsUnwrapsUptoRow, standIns := [], harness := (true, "3f8f38b82eab3454f4cc90964b5c4f59c2c13ada6a19069cd2462bd4a481ec9f"), looks := true }, kinds := [], alts := [], laidByText := true, laidKinds := [.handle], laidTests := true, laidLooks := .later }
def OopsUnwrapsUptoCardSaid : Prop := Claim7.holds Tryd.pinned (.plain (OpenSpec.upto oopsUnwrapsSpec)) oopsUnwrapsUptoCard

/-- THE SECOND FORM's CARD OF 'fairleadlaw01.OopsTexts'. -/
def oopsTextsUptoCard : Claim7 := { stood := { row := oopsTextsUptoRow, standIns := [], harness := (true, "3f8f38b82eab3454f4cc90964b5c4f59c2c13ada6a19069cd2462bd4a481ec9f"), looks := true }, kinds := [], alts := [], laidByText := true, laidKinds := [.data, .data, .data, .handle], laidTests := true, laidLooks := .later }
def OopsTextsUptoCardSaid : Prop := Claim7.holds Tryd.pinned (.plain (OpenSpec.upto oopsTextsSpec)) oopsTextsUptoCard

/-- THE SECOND FORM's CARD OF 'fairleadlaw01.OopsSame'. -/
def oopsSameUptoCard : Claim7 := { stood := { row := oopsSameUptoRow, standIns := [], harness := (true, "3f8f38b82eab3454f4cc90964b5c4f59c2c13ada6a19069cd2462bd4a481ec9f"), looks := true }, kinds := [], alts := [], laidByText := true, laidKinds := [.handle], laidTests := true, laidLooks := .later }
def OopsSameUptoCardSaid : Prop := Claim7.holds Tryd.pinned (.plain (OpenSpec.upto oopsSameSpec)) oopsSameUptoCard

/-- THE SECOND FORM's CARD OF 'fairleadlaw01.OopsOthers'. -/
def oopsOthersUptoCard : Claim7 := { stood := { row := oopsOthersUptoRow, standIns := [], harness := (true, "3f8f38b82eab3454f4cc90964b5c4f59c2c13ada6a19069cd2462bd4a481ec9f"), looks := true }, kinds := [], alts := [], laidByText := true, laidKinds := [.handle], laidTests := true, laidLooks := .later }
def OopsOthersUptoCardSaid : Prop := Claim7.holds Tryd.pinned (.plain (OpenSpec.upto oopsOthersSpec)) oopsOthersUptoCard

/-- THE SECOND FORM's CARD OF 'fairleadlaw02.AmountReckons'. -/
def amountReckonsUptoCard : Claim7 := { stood := { row := amountReckonsUptoRow, standIns := [], harness := (true, "3f8f38b82eab3454f4cc90964b5c4f59c2c13ada6a19069cd2462bd4a481ec9f"), looks := true }, kinds := [], alts := [], laidByText := true, laidKinds := [.handle], laidTests := true, laidLooks := .later }
def AmountReckonsUptoCardSaid : Prop := Claim7.holds Tryd.pinned (.plain (OpenSpec.upto amountReckonsSpec)) amountReckonsUptoCard

/-- THE SECOND FORM's CARD OF 'fairleadlaw02.AmountTexts'. -/
def amountTextsUptoCard : Claim7 := { stood := { row := amountTextsUptoRow, standIns := [], harness := (true, "3f8f38b82eab3454f4cc90964b5c4f59c2c13ada6a19069cd2462bd4a481ec9f"), looks := true }, kinds := [], alts := [], laidByText := true, laidKinds := [.data, .data, .data, .handle], laidTests := true, laidLooks := .later }
def AmountTextsUptoCardSaid : Prop := Claim7.holds Tryd.pinned (.plain (OpenSpec.upto amountTextsSpec)) amountTextsUptoCard

/-- THE SECOND FORM's CARD OF 'fairleadlaw02.AmountLaws'. -/
def amountLawsUptoCard : Claim7 := { stood := { row := amountLawsUptoRow, standIns := [], harness := (true, "3f8f38b82eab3454f4cc90964b5c4f59c2c13ada6a19069cd2462bd4a481ec9f"), looks := true }, kinds := [], alts := [], laidByText := true, laidKinds := [.handle], laidTests := true, laidLooks := .later }
def AmountLawsUptoCardSaid : Prop := Claim7.holds Tryd.pinned (.plain (OpenSpec.upto amountLawsSpec)) amountLawsUptoCard

/-- THE SECOND FORM's CARD OF 'fairleadlaw02.AmountSums'. -/
def amountSumsUptoCard : Claim7 := { stood := { row := amountSumsUptoRow, standIns := [], harness := (true, "3f8f38b82eab3454f4cc90964b5c4f59c2c13ada6a19069cd2462bd4a481ec9f"), looks := true }, kinds := [], alts := [], laidByText := true, laidKinds := [.handle], laidTests := true, laidLooks := .later }
def AmountSumsUptoCardSaid : Prop := Claim7.holds Tryd.pinned (.plain (OpenSpec.upto amountSumsSpec)) amountSumsUptoCard
end Rows
end Go.Proofs.YtcjmmiimkedeoaaDoor
