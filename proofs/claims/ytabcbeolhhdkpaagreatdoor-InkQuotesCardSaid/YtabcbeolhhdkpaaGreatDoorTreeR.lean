/-
  Package tree by contracts, sixteenth part: chapter 5's awake.
-/
import Derived.Test.YtabcbeolhhdkpaaGreatDoorTreeQ
import Derived.Test.YtabcbeolhhdkpaaGreatDoorAwk3
namespace Go.Proofs.YtabcbeolhhdkpaaGreatDoor
open Go.RowKit Go.Extern.Stop Go.Stop Go.Extern Go.WideMaps

set_option maxRecDepth 100000 in
set_option maxHeartbeats 4000000 in
theorem awake5_any (w : World) (hg : Handle w) : Calls Tryz.prog 25 #[] w fun e w' => e = .returned (.bool true) ∧ Below w.heap.size w w' := by
  have HP1 := Lib.hid (fun w hg => tparse_any t5a (by decide) w hg)
  have HP2 := Lib.hid (fun w hg => tparse_any t5b (by decide) w hg)
  have HG := Lib.hid hg
  have HW1 : Hid (∀ o, Whole ⟨#[91, 49, 44, 32, 123, 34, 97, 34, 58, 32, 34, 98, 34, 125, 93]⟩ o → o = .ok 15 v5a) := Lib.hid (fun o h => Whole.one whole5a h)
  have HW2 : Hid (∀ o, Whole ⟨#[91, 49, 44, 93]⟩ o → o = .er 4 3) := Lib.hid (fun o h => Whole.one whole5b h)
  unfold t5a at HP1
  unfold t5b at HP2
  clear hg
  go_enter Tryz.func25, Tryz.ntmps25
  go_wp2_with fail
  refine (HP1.out _ HG.out).mono ?_
  rintro e w1 (⟨x, k, t, n, a, l, c, a', l', c', z, hw, rfl, hx, b1⟩ | ⟨ec, ea, fb, hw, -⟩)
  case inr => cases HW1.out _ hw
  have hxx := HW1.out _ hw
  injection hxx with _ hxx
  subst hxx
  have bn := sbelow_new w1 (.cells #[.int .i64 k, .string t, .int .u64 n, .slice a l c, .slice a' l' c', .int .i64 z] 28)
  have HX := Lib.hid (hx.step bn)
  have H6 : Hid (SixAt (w1.alloc (.cells #[.int .i64 k, .string t, .int .u64 n, .slice a l c, .slice a' l' c', .int .i64 z] 28)) w1.heap.size _ _ _ _ _ _) := Lib.hid (heap_alloc_new w1 _)
  have HB := Lib.hid (b1.trans (bn.mono b1.size))
  clear hx hw bn b1
  go_wp2_with fail
  generalize w1.alloc (.cells #[.int .i64 k, .string t, .int .u64 n, .slice a l c, .slice a' l' c', .int .i64 z] 28) = w2 at *
  generalize w1.heap.size = q at *
  refine (HP2.out _ (HG.out.below HB.out)).mono ?_
  rintro e w3 (⟨x, k1, t1, n1, a1, l1, c1, a1', l1', c1', z1, hw, -⟩ | ⟨ec, ea, fb, hw, rfl, hf, b3⟩)
  case inl => cases HW2.out _ hw
  have hxx := HW2.out _ hw
  injection hxx with h1 h2
  subst h1; subst h2
  clear hw
  have bn := sbelow_new w3 (.cells #[.int .i64 0, .string ⟨#[]⟩, .int .u64 0, .slice none 0 0, .slice none 0 0, .int .i64 0] 28)
  replace b3 := b3.trans (bn.mono b3.size)
  replace hf := hf.keep bn
  have HF := Lib.hid hf
  have HB3 := Lib.hid (HB.out.trans (b3.mono HB.out.size))
  clear bn
  unfold pf
  go_wp2_with fail
  generalize w3.alloc (.cells #[.int .i64 0, .string ⟨#[]⟩, .int .u64 0, .slice none 0 0, .slice none 0 0, .int .i64 0] 28) = w3 at *
  refine (Awake3_any _ (HG.out.below HB3.out)).mono ?_
  rintro e w4 ⟨rfl, b4⟩
  have b24 := b3.trans (b4.mono b3.size)
  have HX4 := Lib.hid (HX.out.step b24)
  have HB4 := Lib.hid (HB3.out.trans (b4.mono HB3.out.size))
  have HF4 := Lib.hid (HF.out.keep b4)
  obtain ⟨s0, s1, s2, s3, s4, s5⟩ := (H6.out.step b24).cells
  clear b3 b4 hf HF
  go_wp2_with fail
  refine (size_go _ _ _ (Nat.lt_succ_self _) (by rw [v5a_size]; decide) _ _ _ _ _ _ _ _ _ _ _ HX4.out).mono ?_
  rintro e w5 ⟨rfl, b5⟩
  rw [v5a_size]
  have HX5 := Lib.hid (HX4.out.step b5)
  have HB5 := Lib.hid (HB4.out.trans (b5.mono HB4.out.size))
  have HF5 := Lib.hid (HF4.out.keep b5)
  have H65 := Lib.hid (SixAt.step (H6.out.step b24) b5)
  clear s0 s1 s2 s3 s4 s5 b24 b5
  obtain ⟨s0, s1, s2, s3, s4, s5⟩ := H65.out.cells
  go_wp2_with fail
  refine (deep_go _ _ _ (Nat.lt_succ_self _) (by rw [v5a_size]; decide) _ _ _ _ _ _ _ _ _ _ _ HX5.out).mono ?_
  rintro e w6 ⟨rfl, b6⟩
  rw [v5a_deep]
  have HB6 := Lib.hid (HB5.out.trans (b6.mono HB5.out.size))
  have HF6 := Lib.hid (HF5.out.keep b6)
  clear s0 s1 s2 s3 s4 s5 b6
  go_wp2_with fail
  refine (lawIs_err _ 4 3 _ HF6.out (HG.out.below HB6.out)).mono ?_
  rintro e w7 ⟨rfl, b7⟩
  go_wp2_with fail
  go_ret
  exact ⟨rfl, HB6.out.trans (b7.mono HB6.out.size)⟩
end Go.Proofs.YtabcbeolhhdkpaaGreatDoor
