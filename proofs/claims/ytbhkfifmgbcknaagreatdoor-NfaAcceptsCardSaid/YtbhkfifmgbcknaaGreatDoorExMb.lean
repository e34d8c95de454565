/-
  A part of the proof of the statement NfaAccepts.
-/
import Derived.Test.YtbhkfifmgbcknaaGreatDoorExMa
set_option linter.unusedSimpArgs false
set_option linter.unusedVariables false
namespace Go.Proofs.YtbhkfifmgbcknaaGreatDoor.Ex
open Go Go.RowKit
def mNet : Memo where
  f := 61
  args := [.string small13]
  pre := []
  n0 := 1000
  v := .tuple #[.agg #[.slice (some ⟨6077, 0, none⟩) 2 0, .slice (some ⟨6364, 0, none⟩) 2 0, .slice (some ⟨6155, 0, none⟩) 2 0, .slice (some ⟨6681, 0, none⟩) 1 0], .nilIface]
  post := [(6077, .row 9 1 [.string ⟨#[97]⟩, .string ⟨#[98]⟩]),
  (6364, .row 234 4 [.string ⟨#[108, 48]⟩, .int .i64 0, .int .i64 1, .int .u64 3, .string ⟨#[108, 49]⟩, .int .i64 1, .int .i64 0, .int .u64 5]),
  (6155, .row 229 2 [.string ⟨#[115]⟩, .int .i64 2, .string ⟨#[120]⟩, .int .i64 1]),
  (6621, .row 315 2 [.int .i64 3, .int .i64 0]),
  (6676, .row 257 2 [.int .i64 1, .slice (some ⟨6621, 0, none⟩) 1 0]),
  (6678, .row 253 1 [.slice (some ⟨6676, 0, none⟩) 1 0]),
  (6681, .row 241 3 [.int .i64 0, .int .i64 1, .slice (some ⟨6678, 0, none⟩) 1 0])]
  n1 := 7000
set_option maxRecDepth 1000000 in
theorem mNet_good : mNet.good Tryz.prog NG (hkOf hooks1) 20000 = true := by kernel_rfl
theorem mNet_ok : HOk Tryz.prog NG 61 (hMemo mNet) := Memo.ok noNum_prog mixed_prog (hkOf_ok hooks1_ok) (hkOf_mn hooks1_ok) mNet_good
noncomputable def hooks2 : List (FuncId × Caller) := (61, hMemo mNet) :: hooks1
theorem hooks2_ok : HsOk Tryz.prog NG hooks2 := ⟨mNet_ok, hooks1_ok⟩
end Go.Proofs.YtbhkfifmgbcknaaGreatDoor.Ex
