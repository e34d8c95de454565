/-
  NARROWER THAN 'FOR EVERY INPUT', by the rows' own cells (each row's printed sentence says how): OopsWraps: laid · OopsIs: laid · OopsUnwraps: laid · OopsTexts: laid · OopsSame: laid · OopsOthers: laid · AmountReckons: laid · AmountTexts: laid · AmountLaws: laid · AmountSums: laid.
  DERIVED. THE GIVEN ROWS OF THIS SEAT. 10 by the template 'for every input the law returns true; each argument reads behind the call as it read before'; 0 by the template 'total and deterministic' (their statements: YtcjmmiimkedeoaaDoorTotals.lean).
  GIVEN WITH THE SEED: the statements are not yours to turn. If you find one false, say at which input.
  Laid BY PROGRAM, IN A SANDBOX (cutbox-rows.mjs): the forced cells as the released guide's own fill.sh prints them over the translation 3b0676f1a405d3d9… (all of the seat's roots in one cut). By AI agents, Wed Nov 11 2026. No macro, syntax, notation, axiom, sorry.
-/
import Derived.Test.YtcjmmiimkedeoaaDoorChecked
import GoSem.Claim
import GoSem.ClaimJoined
import GoSem.ClaimMapViews
import Derived.JoinedTies
import Derived.KernelRfl
namespace Go.Proofs.YtcjmmiimkedeoaaDoor
/- THE CELL 'sum', in the pinned program and in every row, IS THE sha256 OF THE DUMP (.gsa) THAT YtcjmmiimkedeoaaDoorProg.lean LOADS. Nothing in Lean hashes anything: it is a label: what it is worth is what the hold of that sum in a sandbox is worth. -/
noncomputable def Tryd.pinned : Pinned := { name := "ytcjmmiimkedeoaadoor", sum := "3b0676f1a405d3d92858e96a5bef73d4dca544530e38036287c58c0ad3a5b84d", checked := Tryd.checked }
namespace Rows
def none {H : Type} : Left H := { results := [], args := [] }

/- WHAT THE LISTED PACKAGE-LEVEL VARIABLES READ AS WHEN THE CALL BEGINS. Each datum BY PROGRAM (the guide's laid-datum.mjs) off the statement by which the dump's own 'gosem.cut.vars' lays the variable. In a bare row this is a premise. The card (YtcjmmiimkedeoaaDoorCards.lean) ties it to the program's text. -/
def laid_errors_errorType {H : Type} : DataW H := .iface "internal/reflectlite.rtype" (.agg [.ptr (.lit (.string [101, 114, 114, 111, 114]))])
def laid_math_bits_deBruijn32tab {H : Type} : DataW H := .agg [.lit (.int .u8 0), .lit (.int .u8 1), .lit (.int .u8 28), .lit (.int .u8 2), .lit (.int .u8 29), .lit (.int .u8 14), .lit (.int .u8 24), .lit (.int .u8 3), .lit (.int .u8 30), .lit (.int .u8 22), .lit (.int .u8 20), .lit (.int .u8 15), .lit (.int .u8 25), .lit (.int .u8 17), .lit (.int .u8 4), .lit (.int .u8 8), .lit (.int .u8 31), .lit (.int .u8 27), .lit (.int .u8 13), .lit (.int .u8 23), .lit (.int .u8 21), .lit (.int .u8 19), .lit (.int .u8 16), .lit (.int .u8 7), .lit (.int .u8 26), .lit (.int .u8 12), .lit (.int .u8 18), .lit (.int .u8 6), .lit (.int .u8 11), .lit (.int .u8 5), .lit (.int .u8 10), .lit (.int .u8 9)]
def laid_math_bits_deBruijn64tab {H : Type} : DataW H := .agg [.lit (.int .u8 0), .lit (.int .u8 1), .lit (.int .u8 56), .lit (.int .u8 2), .lit (.int .u8 57), .lit (.int .u8 49), .lit (.int .u8 28), .lit (.int .u8 3), .lit (.int .u8 61), .lit (.int .u8 58), .lit (.int .u8 42), .lit (.int .u8 50), .lit (.int .u8 38), .lit (.int .u8 29), .lit (.int .u8 17), .lit (.int .u8 4), .lit (.int .u8 62), .lit (.int .u8 47), .lit (.int .u8 59), .lit (.int .u8 36), .lit (.int .u8 45), .lit (.int .u8 43), .lit (.int .u8 51), .lit (.int .u8 22), .lit (.int .u8 53), .lit (.int .u8 39), .lit (.int .u8 33), .lit (.int .u8 30), .lit (.int .u8 24), .lit (.int .u8 18), .lit (.int .u8 12), .lit (.int .u8 5), .lit (.int .u8 63), .lit (.int .u8 55), .lit (.int .u8 48), .lit (.int .u8 27), .lit (.int .u8 60), .lit (.int .u8 41), .lit (.int .u8 37), .lit (.int .u8 16), .lit (.int .u8 46), .lit (.int .u8 35), .lit (.int .u8 44), .lit (.int .u8 21), .lit (.int .u8 52), .lit (.int .u8 32), .lit (.int .u8 23), .lit (.int .u8 11), .lit (.int .u8 54), .lit (.int .u8 26), .lit (.int .u8 40), .lit (.int .u8 15), .lit (.int .u8 34), .lit (.int .u8 20), .lit (.int .u8 31), .lit (.int .u8 10), .lit (.int .u8 25), .lit (.int .u8 14), .lit (.int .u8 19), .lit (.int .u8 9), .lit (.int .u8 13), .lit (.int .u8 8), .lit (.int .u8 7), .lit (.int .u8 6)]
def laid_internal_strconv_uint64pow10 {H : Type} : DataW H := .agg [.lit (.int .u64 1), .lit (.int .u64 10), .lit (.int .u64 100), .lit (.int .u64 1000), .lit (.int .u64 10000), .lit (.int .u64 100000), .lit (.int .u64 1000000), .lit (.int .u64 10000000), .lit (.int .u64 100000000), .lit (.int .u64 1000000000), .lit (.int .u64 10000000000), .lit (.int .u64 100000000000), .lit (.int .u64 1000000000000), .lit (.int .u64 10000000000000), .lit (.int .u64 100000000000000), .lit (.int .u64 1000000000000000), .lit (.int .u64 10000000000000000), .lit (.int .u64 100000000000000000), .lit (.int .u64 1000000000000000000), .lit (.int .u64 10000000000000000000)]

/-- 'fairleadlaw01.OopsWraps': WHATEVER THE INPUT: true; the input reads as it did. -/
def oopsWrapsSpec : ChangeSpec := { name := "oopsWraps", fn := fun _ => fun
  | [d1, d2, d3] => { results := [.lit (.bool true)], args := [d1, d2, d3] }
  | _ => none }
def oopsWrapsRow : OpenClaim := { program := "ytcjmmiimkedeoaadoor", sum := "3b0676f1a405d3d92858e96a5bef73d4dca544530e38036287c58c0ad3a5b84d", func := "fairlead/fairleadlaw01.OopsWraps", spec := "oopsWraps", inPlace := ["internal/reflectlite.ValueOf", "(internal/reflectlite.Value).Type", "(internal/reflectlite.Value).IsNil", "internal/reflectlite.TypeOf", "(internal/reflectlite.Value).Elem", "(internal/reflectlite.Value).Set"], unfollowed := true, recurses := true, named := ["errors.errorType"], apart := false, laid := [("errors.errorType", laid_errors_errorType)] }
def OopsWrapsSaid : Prop := oopsWrapsRow.holds Tryd.pinned (OpenSpec.ofChange oopsWrapsSpec)

/-- ITS FALSE NEIGHBOUR: 'it returns false'. Refute it at one input. -/
def oopsWrapsWrong : ChangeSpec := { name := "oopsWraps", fn := fun _ => fun
  | [d1, d2, d3] => { results := [.lit (.bool false)], args := [d1, d2, d3] }
  | _ => none }
def OopsWrapsWrongFalsely : Prop := oopsWrapsRow.holds Tryd.pinned (OpenSpec.ofChange oopsWrapsWrong)

/-- 'fairleadlaw01.OopsIs': WHATEVER THE INPUT: true; the input reads as it did. -/
def oopsIsSpec : ChangeSpec := { name := "oopsIs", fn := fun _ => fun
  | [d1, d2, d3, d4] => { results := [.lit (.bool true)], args := [d1, d2, d3, d4] }
  | _ => none }
def oopsIsRow : OpenClaim := { program := "ytcjmmiimkedeoaadoor", sum := "3b0676f1a405d3d92858e96a5bef73d4dca544530e38036287c58c0ad3a5b84d", func := "fairlead/fairleadlaw01.OopsIs", spec := "oopsIs", inPlace := ["internal/reflectlite.ValueOf", "(internal/reflectlite.Value).Type", "(internal/reflectlite.Value).IsNil", "internal/reflectlite.TypeOf", "(internal/reflectlite.Value).Elem", "(internal/reflectlite.Value).Set"], unfollowed := true, recurses := true, named := ["errors.errorType"], apart := false, laid := [("errors.errorType", laid_errors_errorType)] }
def OopsIsSaid : Prop := oopsIsRow.holds Tryd.pinned (OpenSpec.ofChange oopsIsSpec)

/-- ITS FALSE NEIGHBOUR: 'it returns false'. Refute it at one input. -/
def oopsIsWrong : ChangeSpec := { name := "oopsIs", fn := fun _ => fun
  | [d1, d2, d3, d4] => { results := [.lit (.bool false)], args := [d1, d2, d3, d4] }
  | _ => none }
def OopsIsWrongFalsely : Prop := oopsIsRow.holds Tryd.pinned (OpenSpec.ofChange oopsIsWrong)

/-- 'fairleadlaw01.OopsUnwraps': WHATEVER THE INPUT: true; the input reads as it did. -/
def oopsUnwrapsSpec : ChangeSpec := { name := "oopsUnwraps", fn := fun _ => fun
  | [d1, d2, d3] => { results := [.lit (.bool true)], args := [d1, d2, d3] }
  | _ => none }
def oopsUnwrapsRow : OpenClaim := { program := "ytcjmmiimkedeoaadoor", sum := "3b0676f1a405d3d92858e96a5bef73d4dca544530e38036287c58c0ad3a5b84d", func := "fairlead/fairleadlaw01.OopsUnwraps", spec := "oopsUnwraps", inPlace := ["internal/reflectlite.ValueOf", "(internal/reflectlite.Value).Type", "(internal/reflectlite.Value).IsNil", "internal/reflectlite.TypeOf", "(internal/reflectlite.Value).Elem", "(internal/reflectlite.Value).Set"], unfollowed := true, recurses := true, named := ["errors.errorType"], apart := false, laid := [("errors.errorType", laid_errors_errorType)] }
def OopsUnwrapsSaid : Prop := oopsUnwrapsRow.holds Tryd.pinned (OpenSpec.ofChange oopsUnwrapsSpec)

/-- ITS FALSE NEIGHBOUR: 'it returns false'. Refute it at one input. -/
def oopsUnwrapsWrong : ChangeSpec := { name := "oopsUnwraps", fn := fun _ => fun
  | [d1, d2, d3] => { results := [.lit (.bool false)], args := [d1, d2, d3] }
  | _ => none }
def OopsUnwrapsWrongFalsely : Prop := oopsUnwrapsRow.holds Tryd.pinned (OpenSpec.ofChange oopsUnwrapsWrong)

/-- 'fairleadlaw01.OopsTexts': WHATEVER THE INPUT: true; the input reads as it did. -/
def oopsTextsSpec : ChangeSpec := { name := "oopsTexts", fn := fun _ => fun
  | [d1, d2] => { results := [.lit (.bool true)], args := [d1, d2] }
  | _ => none }
def oopsTextsRow : OpenClaim := { program := "ytcjmmiimkedeoaadoor", sum := "3b0676f1a405d3d92858e96a5bef73d4dca544530e38036287c58c0ad3a5b84d", func := "fairlead/fairleadlaw01.OopsTexts", spec := "oopsTexts", inPlace := ["internal/reflectlite.ValueOf", "(internal/reflectlite.Value).Type", "(internal/reflectlite.Value).IsNil", "internal/reflectlite.TypeOf", "(internal/reflectlite.Value).Elem", "(internal/reflectlite.Value).Set"], unfollowed := true, recurses := true, named := ["errors.errorType", "internal/strconv.uint64pow10", "math/bits.deBruijn32tab", "math/bits.deBruijn64tab"], apart := false, laid := [("math/bits.deBruijn32tab", laid_math_bits_deBruijn32tab), ("math/bits.deBruijn64tab", laid_math_bits_deBruijn64tab), ("internal/strconv.uint64pow10", laid_internal_strconv_uint64pow10), ("errors.errorType", laid_errors_errorType)] }
def OopsTextsSaid : Prop := oopsTextsRow.holds Tryd.pinned (OpenSpec.ofChange oopsTextsSpec)

/-- ITS FALSE NEIGHBOUR: 'it returns false'. Refute it at one input. -/
def oopsTextsWrong : ChangeSpec := { name := "oopsTexts", fn := fun _ => fun
  | [d1, d2] => { results := [.lit (.bool false)], args := [d1, d2] }
  | _ => none }
def OopsTextsWrongFalsely : Prop := oopsTextsRow.holds Tryd.pinned (OpenSpec.ofChange oopsTextsWrong)

/-- 'fairleadlaw01.OopsSame': WHATEVER THE INPUT: true; the input reads as it did. -/
def oopsSameSpec : ChangeSpec := { name := "oopsSame", fn := fun _ => fun
  | [d1, d2, d3, d4, d5, d6] => { results := [.lit (.bool true)], args := [d1, d2, d3, d4, d5, d6] }
  | _ => none }
def oopsSameRow : OpenClaim := { program := "ytcjmmiimkedeoaadoor", sum := "3b0676f1a405d3d92858e96a5bef73d4dca544530e38036287c58c0ad3a5b84d", func := "fairlead/fairleadlaw01.OopsSame", spec := "oopsSame", inPlace := ["internal/reflectlite.ValueOf", "(internal/reflectlite.Value).Type", "(internal/reflectlite.Value).IsNil", "internal/reflectlite.TypeOf", "(internal/reflectlite.Value).Elem", "(internal/reflectlite.Value).Set"], unfollowed := true, recurses := true, named := ["errors.errorType"], apart := false, laid := [("errors.errorType", laid_errors_errorType)] }
def OopsSameSaid : Prop := oopsSameRow.holds Tryd.pinned (OpenSpec.ofChange oopsSameSpec)

/-- ITS FALSE NEIGHBOUR: 'it returns false'. Refute it at one input. -/
def oopsSameWrong : ChangeSpec := { name := "oopsSame", fn := fun _ => fun
  | [d1, d2, d3, d4, d5, d6] => { results := [.lit (.bool false)], args := [d1, d2, d3, d4, d5, d6] }
  | _ => none }
def OopsSameWrongFalsely : Prop := oopsSameRow.holds Tryd.pinned (OpenSpec.ofChange oopsSameWrong)

/-- 'fairleadlaw01.OopsOthers': WHATEVER THE INPUT: true; the input reads as it did. -/
def oopsOthersSpec : ChangeSpec := { name := "oopsOthers", fn := fun _ => fun
  | [d1, d2] => { results := [.lit (.bool true)], args := [d1, d2] }
  | _ => none }
def oopsOthersRow : OpenClaim := { program := "ytcjmmiimkedeoaadoor", sum := "3b0676f1a405d3d92858e96a5bef73d4dca544530e38036287c58c0ad3a5b84d", func := "fairlead/fairleadlaw01.OopsOthers", spec := "oopsOthers", inPlace := ["internal/reflectlite.ValueOf", "(internal/reflectlite.Value).Type", "(internal/reflectlite.Value).IsNil", "internal/reflectlite.TypeOf", "(internal/reflectlite.Value).Elem", "(internal/reflectlite.Value).Set"], unfollowed := true, recurses := true, named := ["errors.errorType"], apart := false, laid := [("errors.errorType", laid_errors_errorType)] }
def OopsOthersSaid : Prop := oopsOthersRow.holds Tryd.pinned (OpenSpec.ofChange oopsOthersSpec)

/-- ITS FALSE NEIGHBOUR: 'it returns false'. Refute it at one input. -/
def oopsOthersWrong : ChangeSpec := { name := "oopsOthers", fn := fun _ => fun
  | [d1, d2] => { results := [.lit (.bool false)], args := [d1, d2] }
  | _ => none }
def OopsOthersWrongFalsely : Prop := oopsOthersRow.holds Tryd.pinned (OpenSpec.ofChange oopsOthersWrong)

/-- 'fairleadlaw02.AmountReckons': WHATEVER THE INPUT: true; the input reads as it did. -/
def amountReckonsSpec : ChangeSpec := { name := "amountReckons", fn := fun _ => fun
  | [d1, d2, d3] => { results := [.lit (.bool true)], args := [d1, d2, d3] }
  | _ => none }
def amountReckonsRow : OpenClaim := { program := "ytcjmmiimkedeoaadoor", sum := "3b0676f1a405d3d92858e96a5bef73d4dca544530e38036287c58c0ad3a5b84d", func := "fairlead/fairleadlaw02.AmountReckons", spec := "amountReckons", inPlace := ["internal/reflectlite.ValueOf", "(internal/reflectlite.Value).Type", "(internal/reflectlite.Value).IsNil", "internal/reflectlite.TypeOf", "(internal/reflectlite.Value).Elem", "(internal/reflectlite.Value).Set"], unfollowed := true, recurses := true, named := ["errors.errorType"], apart := false, laid := [("errors.errorType", laid_errors_errorType)] }
def AmountReckonsSaid : Prop := amountReckonsRow.holds Tryd.pinned (OpenSpec.ofChange amountReckonsSpec)

/-- ITS FALSE NEIGHBOUR: 'it returns false'. Refute it at one input. -/
def amountReckonsWrong : ChangeSpec := { name := "amountReckons", fn := fun _ => fun
  | [d1, d2, d3] => { results := [.lit (.bool false)], args := [d1, d2, d3] }
  | _ => none }
def AmountReckonsWrongFalsely : Prop := amountReckonsRow.holds Tryd.pinned (OpenSpec.ofChange amountReckonsWrong)

/-- 'fairleadlaw02.AmountTexts': WHATEVER THE INPUT: true; the input reads as it did. -/
def amountTextsSpec : ChangeSpec := { name := "amountTexts", fn := fun _ => fun
  | [d1, d2] => { results := [.lit (.bool true)], args := [d1, d2] }
  | _ => none }
def amountTextsRow : OpenClaim := { program := "ytcjmmiimkedeoaadoor", sum := "3b0676f1a405d3d92858e96a5bef73d4dca544530e38036287c58c0ad3a5b84d", func := "fairlead/fairleadlaw02.AmountTexts", spec := "amountTexts", inPlace := ["internal/reflectlite.ValueOf", "(internal/reflectlite.Value).Type", "(internal/reflectlite.Value).IsNil", "internal/reflectlite.TypeOf", "(internal/reflectlite.Value).Elem", "(internal/reflectlite.Value).Set"], unfollowed := true, recurses := true, named := ["errors.errorType", "internal/strconv.uint64pow10", "math/bits.deBruijn32tab", "math/bits.deBruijn64tab"], apart := false, laid := [("math/bits.deBruijn32tab", laid_math_bits_deBruijn32tab), ("math/bits.deBruijn64tab", laid_math_bits_deBruijn64tab), ("internal/strconv.uint64pow10", laid_internal_strconv_uint64pow10), ("errors.errorType", laid_errors_errorType)] }
def AmountTextsSaid : Prop := amountTextsRow.holds Tryd.pinned (OpenSpec.ofChange amountTextsSpec)

/-- ITS FALSE NEIGHBOUR: 'it returns false'. Refute it at one input. -/
def amountTextsWrong : ChangeSpec := { name := "amountTexts", fn := fun _ => fun
  | [d1, d2] => { results := [.lit (.bool false)], args := [d1, d2] }
  | _ => none }
def AmountTextsWrongFalsely : Prop := amountTextsRow.holds Tryd.pinned (OpenSpec.ofChange amountTextsWrong)

/-- 'fairleadlaw02.AmountLaws': WHATEVER THE INPUT: true; the input reads as it did. -/
def amountLawsSpec : ChangeSpec := { name := "amountLaws", fn := fun _ => fun
  | [d1, d2, d3] => { results := [.lit (.bool true)], args := [d1, d2, d3] }
  | _ => none }
def amountLawsRow : OpenClaim := { program := "ytcjmmiimkedeoaadoor", sum := "3b0676f1a405d3d92858e96a5bef73d4dca544530e38036287c58c0ad3a5b84d", func := "fairlead/fairleadlaw02.AmountLaws", spec := "amountLaws", inPlace := ["internal/reflectlite.ValueOf", "(internal/reflectlite.Value).Type", "(internal/reflectlite.Value).IsNil", "internal/reflectlite.TypeOf", "(internal/reflectlite.Value).Elem", "(internal/reflectlite.Value).Set"], unfollowed := true, recurses := true, named := ["errors.errorType"], apart := false, laid := [("errors.errorType", laid_errors_errorType)] }
def AmountLawsSaid : Prop := amountLawsRow.holds Tryd.pinned (OpenSpec.ofChange amountLawsSpec)

/-- ITS FALSE NEIGHBOUR: 'it returns false'. Refute it at one input. -/
def amountLawsWrong : ChangeSpec := { name := "amountLaws", fn := fun _ => fun
  | [d1, d2, d3] => { results := [.lit (.bool false)], args := [d1, d2, d3] }
  | _ => none }
def AmountLawsWrongFalsely : Prop := amountLawsRow.holds Tryd.pinned (OpenSpec.ofChange amountLawsWrong)

/-- 'fairleadlaw02.AmountSums': WHATEVER THE INPUT: true; the input reads as it did. -/
def amountSumsSpec : ChangeSpec := { name := "amountSums", fn := fun _ => fun
  | [d1, d2] => { results := [.lit (.bool true)], args := [d1, d2] }
  | _ => none }
def amountSumsRow : OpenClaim := { program := "ytcjmmiimkedeoaadoor", sum := "3b0676f1a405d3d92858e96a5bef73d4dca544530e38036287c58c0ad3a5b84d", func := "fairlead/fairleadlaw02.AmountSums", spec := "amountSums", inPlace := ["internal/reflectlite.ValueOf", "(internal/reflectlite.Value).Type", "(internal/reflectlite.Value).IsNil", "internal/reflectlite.TypeOf", "(internal/reflectlite.Value).Elem", "(internal/reflectlite.Value).Set"], unfollowed := true, recurses := true, named := ["errors.errorType"], apart := false, laid := [("errors.errorType", laid_errors_errorType)] }
def AmountSumsSaid : Prop := amountSumsRow.holds Tryd.pinned (OpenSpec.ofChange amountSumsSpec)

/-- ITS FALSE NEIGHBOUR: 'it returns false'. Refute it at one input. -/
def amountSumsWrong : ChangeSpec := { name := "amountSums", fn := fun _ => fun
  | [d1, d2] => { results := [.lit (.bool false)], args := [d1, d2] }
  | _ => none }
def AmountSumsWrongFalsely : Prop := amountSumsRow.holds Tryd.pinned (OpenSpec.ofChange amountSumsWrong)

/- THE SECOND FORM. 'bulk': how many values and letters a reading holds, each counted each time it is reached (what is shared counts as often as it is met; a slice's spare places count too). A statement '..UptoSaid' is the law's where the arguments, and the package variables that the reading takes, are together of bulk at most 1048576: NARROWER than '..Said'. Prove '..Said' where nothing that the law and all that it calls make is longer than what came in: it says more and counts as full. Else prove '..UptoSaid'. A law counts once. -/
mutual
def uptoBulk {H : Type} : DataW H → Nat
  | .lit (.string bytes) => bytes.length + 1
  | .lit _ => 1
  | .nil => 1
  | .ptr d => uptoBulk d + 1
  | .slice elems spare => uptoBulkAll elems + uptoBulkAll spare + 1
  | .agg parts => uptoBulkAll parts + 1
  | .iface _ d => uptoBulk d + 1
  | .map entries => uptoBulkEntries entries + 1
  | .held _ => 1
def uptoBulkAll {H : Type} : List (DataW H) → Nat
  | [] => 0
  | d :: r => uptoBulk d + uptoBulkAll r
def uptoBulkEntries {H : Type} : List (Lit × DataW H) → Nat
  | [] => 0
  | x :: r => uptoBulkEntry x + uptoBulkEntries r
def uptoBulkEntry {H : Type} : Lit × DataW H → Nat
  | (.string bytes, d) => bytes.length + uptoBulk d + 1
  | (_, d) => uptoBulk d + 1
 end
def uptoSmall : (H : Type) → List (DataW H) → Bool := fun _ ds => decide (uptoBulkAll ds ≤ 1048576)
def OpenSpec.upto (s : _root_.Go.ChangeSpec) : _root_.Go.OpenSpec := { _root_.Go.OpenSpec.ofChange s with cond := some uptoSmall }

/-- 'fairleadlaw01.OopsWraps', WHERE WHAT IT READS IS OF BULK AT MOST 1048576: true; the input reads as it did. -/
def oopsWrapsUptoRow : OpenClaim := { program := "ytcjmmiimkedeoaadoor", sum := "3b0676f1a405d3d92858e96a5bef73d4dca544530e38036287c58c0ad3a5b84d", func := "fairlead/fairleadlaw01.OopsWraps", spec := "oopsWraps", inPlace := ["internal/reflectlite.ValueOf", "(internal/reflectlite.Value).Type", "(internal/reflectlite.Value).IsNil", "internal/reflectlite.TypeOf", "(internal/reflectlite.Value).Elem", "(internal/reflectlite.Value).Set"], unfollowed := true, recurses := true, named := ["errors.errorType"], apart := false, laid := [("errors.errorType", laid_errors_errorType)], narrowed := true }
def OopsWrapsUptoSaid : Prop := oopsWrapsUptoRow.holds Tryd.pinned (OpenSpec.upto oopsWrapsSpec)

/-- 'fairleadlaw01.OopsIs', WHERE WHAT IT READS IS OF BULK AT MOST 1048576: true; the input reads as it did. -/
def oopsIsUptoRow : OpenClaim := { program := "ytcjmmiimkedeoaadoor", sum := "3b0676f1a405d3d92858e96a5bef73d4dca544530e38036287c58c0ad3a5b84d", func := "fairlead/fairleadlaw01.OopsIs", spec := "oopsIs", inPlace := ["internal/reflectlite.ValueOf", "(internal/reflectlite.Value).Type", "(internal/reflectlite.Value).IsNil", "internal/reflectlite.TypeOf", "(internal/reflectlite.Value).Elem", "(internal/reflectlite.Value).Set"], unfollowed := true, recurses := true, named := ["errors.errorType"], apart := false, laid := [("errors.errorType", laid_errors_errorType)], narrowed := true }
def OopsIsUptoSaid : Prop := oopsIsUptoRow.holds Tryd.pinned (OpenSpec.upto oopsIsSpec)

/-- 'fairleadlaw01.OopsUnwraps', WHERE WHAT IT READS IS OF BULK AT MOST 1048576: true; the input reads as it did. -/
def oopsUnwrapsUptoRow : OpenClaim := { program := "ytcjmmiimkedeoaadoor", sum := "3b0676f1a405d3d92858e96a5bef73d4dca544530e38036287c58c0ad3a5b84d", func := "fairlead/fairleadlaw01.OopsUnwraps", spec := "oopsUnwraps", inPlace := ["internal/reflectlite.ValueOf", "(internal/reflectlite.Value).Type", "(internal/reflectlite.Value).IsNil", "internal/reflectlite.TypeOf", "(internal/reflectlite.Value).Elem", "(internal/reflectlite.Value).Set"], unfollowed := true, recurses := true, named := ["errors.errorType"], apart := false, laid := [("errors.errorType", laid_errors_errorType)], narrowed := true }
def OopsUnwrapsUptoSaid : Prop := oopsUnwrapsUptoRow.holds Tryd.pinned (OpenSpec.upto oopsUnwrapsSpec)

/-- 'fairleadlaw01.OopsTexts', WHERE WHAT IT READS IS OF BULK AT MOST 1048576: true; the input reads as it did. -/
def oopsTextsUptoRow : OpenClaim := { program := "ytcjmmiimkedeoaadoor", sum := "3b0676f1a405d3d92858e96a5bef73d4dca544530e38036287c58c0ad3a5b84d", func := "fairlead/fairleadlaw01.OopsTexts", spec := "oopsTexts", inPlace := ["internal/reflectlite.ValueOf", "(internal/reflectlite.Value).Type", "(internal/reflectlite.Value).IsNil", "internal/reflectlite.TypeOf", "(internal/reflectlite.Value).Elem", "(internal/reflectlite.Value).Set"], unfollowed := true, recurses := true, named := ["errors.errorType", "internal/strconv.uint64pow10", "math/bits.deBruijn32tab", "math/bits.deBruijn64tab"], apart := false, laid := [("math/bits.deBruijn32tab", laid_math_bits_deBruijn32tab), ("math/bits.deBruijn64tab", laid_math_bits_deBruijn64tab), ("internal/strconv.uint64pow10", laid_internal_strconv_uint64pow10), ("errors.errorType", laid_errors_errorType)], narrowed := true }
def OopsTextsUptoSaid : Prop := oopsTextsUptoRow.holds Tryd.pinned (OpenSpec.upto oopsTextsSpec)

/-- 'fairleadlaw01.OopsSame', WHERE WHAT IT READS IS OF BULK AT MOST 1048576: true; the input reads as it did. -/
def oopsSameUptoRow : OpenClaim := { program := "ytcjmmiimkedeoaadoor", sum := "3b0676f1a405d3d92858e96a5bef73d4dca544530e38036287c58c0ad3a5b84d", func := "fairlead/fairleadlaw01.OopsSame", spec := "oopsSame", inPlace := ["internal/reflectlite.ValueOf", "(internal/reflectlite.Value).Type", "(internal/reflectlite.Value).IsNil", "internal/reflectlite.TypeOf", "(internal/reflectlite.Value).Elem", "(internal/reflectlite.Value).Set"], unfollowed := true, recurses := true, named := ["errors.errorType"], apart := false, laid := [("errors.errorType", laid_errors_errorType)], narrowed := true }
def OopsSameUptoSaid : Prop := oopsSameUptoRow.holds Tryd.pinned (OpenSpec.upto oopsSameSpec)

/-- 'fairleadlaw01.OopsOthers', WHERE WHAT IT READS IS OF BULK AT MOST 1048576: true; the input reads as it did. -/
def oopsOthersUptoRow : OpenClaim := { program := "ytcjmmiimkedeoaadoor", sum := "3b0676f1a405d3d92858e96a5bef73d4dca544530e38036287c58c0ad3a5b84d", func := "fairlead/fairleadlaw01.OopsOthers", spec := "oopsOthers", inPlace := ["internal/reflectlite.ValueOf", "(internal/reflectlite.Value).Type", "(internal/reflectlite.Value).IsNil", "internal/reflectlite.TypeOf", "(internal/reflectlite.Value).Elem", "(internal/reflectlite.Value).Set"], unfollowed := true, recurses := true, named := ["errors.errorType"], apart := false, laid := [("errors.errorType", laid_errors_errorType)], narrowed := true }
def OopsOthersUptoSaid : Prop := oopsOthersUptoRow.holds Tryd.pinned (OpenSpec.upto oopsOthersSpec)

/-- 'fairleadlaw02.AmountReckons', WHERE WHAT IT READS IS OF BULK AT MOST 1048576: true; the input reads as it did. -/
def amountReckonsUptoRow : OpenClaim := { program := "ytcjmmiimkedeoaadoor", sum := "3b0676f1a405d3d92858e96a5bef73d4dca544530e38036287c58c0ad3a5b84d", func := "fairlead/fairleadlaw02.AmountReckons", spec := "amountReckons", inPlace := ["internal/reflectlite.ValueOf", "(internal/reflectlite.Value).Type", "(internal/reflectlite.Value).IsNil", "internal/reflectlite.TypeOf", "(internal/reflectlite.Value).Elem", "(internal/reflectlite.Value).Set"], unfollowed := true, recurses := true, named := ["errors.errorType"], apart := false, laid := [("errors.errorType", laid_errors_errorType)], narrowed := true }
def AmountReckonsUptoSaid : Prop := amountReckonsUptoRow.holds Tryd.pinned (OpenSpec.upto amountReckonsSpec)

/-- 'fairleadlaw02.AmountTexts', WHERE WHAT IT READS IS OF BULK AT MOST 1048576: true; the input reads as it did. -/
def amountTextsUptoRow : OpenClaim := { program := "ytcjmmiimkedeoaadoor", sum := "3b0676f1a405d3d92858e96a5bef73d4dca544530e38036287c58c0ad3a5b84d", func := "fairlead/fairleadlaw02.AmountTexts", spec := "amountTexts", inPlace := ["internal/reflectlite.ValueOf", "(internal/reflectlite.Value).Type", "(internal/reflectlite.Value).IsNil", "internal/reflectlite.TypeOf", "(internal/reflectlite.Value).Elem", "(internal/reflectlite.Value).Set"], unfollowed := true, recurses := true, named := ["errors.errorType", "internal/strconv.uint64pow10", "math/bits.deBruijn32tab", "math/bits.deBruijn64tab"], apart := false, laid := [("math/bits.deBruijn32tab", laid_math_bits_deBruijn32tab), ("math/bits.deBruijn64tab", laid_math_bits_deBruijn64tab), ("internal/strconv.uint64pow10", laid_internal_strconv_uint64pow10), ("errors.errorType", laid_errors_errorType)], narrowed := true }
def AmountTextsUptoSaid : Prop := amountTextsUptoRow.holds Tryd.pinned (OpenSpec.upto amountTextsSpec)

/-- 'fairleadlaw02.AmountLaws', WHERE WHAT IT READS IS OF BULK AT MOST 1048576: true; the input reads as it did. -/
def amountLawsUptoRow : OpenClaim := { program := "ytcjmmiimkedeoaadoor", sum := "3b0676f1a405d3d92858e96a5bef73d4dca544530e38036287c58c0ad3a5b84d", func := "fairlead/fairleadlaw02.AmountLaws", spec := "amountLaws", inPlace := ["internal/reflectlite.ValueOf", "(internal/reflectlite.Value).Type", "(internal/reflectlite.Value).IsNil", "internal/reflectlite.TypeOf", "(internal/reflectlite.Value).Elem", "(internal/reflectlite.Value).Set"], unfollowed := true, recurses := true, named := ["errors.errorType"], apart := false, laid := [("errors.errorType", laid_errors_errorType)], narrowed := true }
def AmountLawsUptoSaid : Prop := amountLawsUptoRow.holds Tryd.pinned (OpenSpec.upto amountLawsSpec)

/-- 'fairleadlaw02.AmountSums', WHERE WHAT IT READS IS OF BULK AT MOST 1048576: true; the input reads as it did. -/
def amountSumsUptoRow : OpenClaim := { program := "ytcjmmiimkedeoaadoor", sum := "3b0676f1a405d3d92858e96a5bef73d4dca544530e38036287c58c0ad3a5b84d", func := "fairlead/fairleadlaw02.AmountSums", spec := "amountSums", inPlace := ["internal/reflectlite.ValueOf", "(internal/reflectlite.Value).Type", "(internal/reflectlite.Value).IsNil", "internal/reflectlite.TypeOf", "(internal/reflectlite.Value).Elem", "(internal/reflectlite.Value).Set"], unfollowed := true, recurses := true, named := ["errors.errorType"], apart := false, laid := [("errors.errorType", laid_errors_errorType)], narrowed := true }
def AmountSumsUptoSaid : Prop := amountSumsUptoRow.holds Tryd.pinned (OpenSpec.upto amountSumsSpec)

end Rows
end Go.Proofs.YtcjmmiimkedeoaaDoor
