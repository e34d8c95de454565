/-
  A part of the proof of the statement NfaAccepts.
-/
import Derived.Test.YtbhkfifmgbcknaaGreatDoorG35
set_option linter.unusedSimpArgs false
set_option linter.unusedVariables false
namespace Go.Proofs.YtbhkfifmgbcknaaGreatDoor.Ex
open Go Go.RowKit
def mTree : Memo where
  f := 88
  args := [.string small13]
  pre := []
  n0 := 2000
  v := .tuple #[.agg #[.int .i64 6, .string ⟨#[]⟩, .int .u64 0, .slice (some ⟨5835, 0, none⟩) 4 0, .slice (some ⟨5833, 0, none⟩) 4 0, .int .i64 0], .nilIface]
  post := [(2379, .row 131 6 [.int .i64 4, .string ⟨#[97]⟩, .int .u64 0, .slice none 0 0, .slice none 0 0, .int .i64 12, .int .i64 4, .string ⟨#[98]⟩, .int .u64 0, .slice none 0 0, .slice none 0 0, .int .i64 16]),
  (2938, .row 131 6 [.int .i64 4, .string ⟨#[115, 109, 112, 108, 115]⟩, .int .u64 0, .slice none 0 0, .slice none 0 0, .int .i64 35, .int .i64 4, .string ⟨#[105, 112]⟩, .int .u64 0, .slice none 0 0, .slice none 0 0, .int .i64 47]),
  (2936, .row 9 1 [.string ⟨#[115]⟩, .string ⟨#[120]⟩]),
  (3744, .row 131 6 [.int .i64 4, .string ⟨#[97]⟩, .int .u64 0, .slice none 0 0, .slice none 0 0, .int .i64 75, .int .i64 4, .string ⟨#[98]⟩, .int .u64 0, .slice none 0 0, .slice none 0 0, .int .i64 84, .int .i64 3, .string ⟨#[]⟩, .int .u64 3, .slice none 0 0, .slice none 0 0, .int .i64 95]),
  (3742, .row 9 1 [.string ⟨#[102, 114, 111, 109]⟩, .string ⟨#[116, 111]⟩, .string ⟨#[100, 105, 115, 116]⟩]),
  (4375, .row 131 6 [.int .i64 4, .string ⟨#[98]⟩, .int .u64 0, .slice none 0 0, .slice none 0 0, .int .i64 111, .int .i64 4, .string ⟨#[97]⟩, .int .u64 0, .slice none 0 0, .slice none 0 0, .int .i64 120, .int .i64 3, .string ⟨#[]⟩, .int .u64 5, .slice none 0 0, .slice none 0 0, .int .i64 131]),
  (4373, .row 9 1 [.string ⟨#[102, 114, 111, 109]⟩, .string ⟨#[116, 111]⟩, .string ⟨#[100, 105, 115, 116]⟩]),
  (4397, .row 131 6 [.int .i64 6, .string ⟨#[]⟩, .int .u64 0, .slice (some ⟨3744, 0, none⟩) 3 0, .slice (some ⟨3742, 0, none⟩) 3 0, .int .i64 67, .int .i64 6, .string ⟨#[]⟩, .int .u64 0, .slice (some ⟨4375, 0, none⟩) 3 0, .slice (some ⟨4373, 0, none⟩) 3 0, .int .i64 103]),
  (4395, .row 9 1 [.string ⟨#[108, 48]⟩, .string ⟨#[108, 49]⟩]),
  (5709, .row 131 6 [.int .i64 4, .string ⟨#[112, 117, 115, 104, 32, 115]⟩, .int .u64 0, .slice none 0 0, .slice none 0 0, .int .i64 195]),
  (5731, .row 131 6 [.int .i64 4, .string ⟨#[108, 49]⟩, .int .u64 0, .slice none 0 0, .slice none 0 0, .int .i64 183, .int .i64 5, .string ⟨#[]⟩, .int .u64 0, .slice (some ⟨5709, 0, none⟩) 1 0, .slice none 0 0, .int .i64 194]),
  (5729, .row 9 1 [.string ⟨#[111, 117, 116]⟩, .string ⟨#[111, 112, 115]⟩]),
  (5751, .row 131 6 [.int .i64 6, .string ⟨#[]⟩, .int .u64 0, .slice (some ⟨5731, 0, none⟩) 2 0, .slice (some ⟨5729, 0, none⟩) 2 0, .int .i64 176]),
  (5771, .row 131 6 [.int .i64 5, .string ⟨#[]⟩, .int .u64 0, .slice (some ⟨5751, 0, none⟩) 1 0, .slice none 0 0, .int .i64 175]),
  (5793, .row 131 6 [.int .i64 4, .string ⟨#[108, 48]⟩, .int .u64 0, .slice none 0 0, .slice none 0 0, .int .i64 150, .int .i64 4, .string ⟨#[120]⟩, .int .u64 0, .slice none 0 0, .slice none 0 0, .int .i64 161, .int .i64 5, .string ⟨#[]⟩, .int .u64 0, .slice (some ⟨5771, 0, none⟩) 1 0, .slice none 0 0, .int .i64 174]),
  (5791, .row 9 1 [.string ⟨#[105, 110]⟩, .string ⟨#[116, 111, 112]⟩, .string ⟨#[103, 114, 111, 117, 112, 115]⟩]),
  (5813, .row 131 6 [.int .i64 6, .string ⟨#[]⟩, .int .u64 0, .slice (some ⟨5793, 0, none⟩) 3 0, .slice (some ⟨5791, 0, none⟩) 3 0, .int .i64 144]),
  (5835, .row 131 6 [.int .i64 5, .string ⟨#[]⟩, .int .u64 0, .slice (some ⟨2379, 0, none⟩) 2 0, .slice none 0 0, .int .i64 11, .int .i64 6, .string ⟨#[]⟩, .int .u64 0, .slice (some ⟨2938, 0, none⟩) 2 0, .slice (some ⟨2936, 0, none⟩) 2 0, .int .i64 30, .int .i64 6, .string ⟨#[]⟩, .int .u64 0, .slice (some ⟨4397, 0, none⟩) 2 0, .slice (some ⟨4395, 0, none⟩) 2 0, .int .i64 61, .int .i64 5, .string ⟨#[]⟩, .int .u64 0, .slice (some ⟨5813, 0, none⟩) 1 0, .slice none 0 0, .int .i64 143]),
  (5833, .row 9 1 [.string ⟨#[114, 111, 117, 116, 101, 114, 115]⟩, .string ⟨#[108, 97, 98, 101, 108, 115]⟩, .string ⟨#[108, 105, 110, 107, 115]⟩, .string ⟨#[116, 97, 98, 108, 101]⟩])]
  n1 := 6000
set_option maxRecDepth 1000000 in
theorem mTree_good : mTree.good Tryz.prog NG (hkOf hooks0) 20000 = true := by kernel_rfl
theorem mTree_ok : HOk Tryz.prog NG 88 (hMemo mTree) := Memo.ok noNum_prog mixed_prog (hkOf_ok hooks0_ok) (hkOf_mn hooks0_ok) mTree_good
noncomputable def hooks1 : List (FuncId × Caller) := (88, hMemo mTree) :: hooks0
theorem hooks1_ok : HsOk Tryz.prog NG hooks1 := ⟨mTree_ok, hooks0_ok⟩
end Go.Proofs.YtbhkfifmgbcknaaGreatDoor.Ex
