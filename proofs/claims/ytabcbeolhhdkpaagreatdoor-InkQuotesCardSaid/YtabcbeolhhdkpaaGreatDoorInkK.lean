/-
  Package ink by contracts: chapter 6's awake itself.
-/
import Derived.Test.YtabcbeolhhdkpaaGreatDoorInkJ
namespace Go.Proofs.YtabcbeolhhdkpaaGreatDoor
open Go.RowKit Go.Extern.Stop Go.Stop Go.Extern Go.WideMaps

set_option maxHeartbeats 2000000 in
theorem Awake5_any (w : World) (hg : Handle w) : Calls Tryz.prog 12 #[] w fun e w' => e = .returned (.bool true) ∧ Below w.heap.size w w' := by
  go_enter Tryz.func12, Tryz.ntmps12
  go_wp2_with (go_at_call 25; refine (awake5_any _ hg).mono ?_; rintro e w' ⟨rfl, hb⟩)
  go_ret
  exact ⟨rfl, hb⟩
theorem one_new (w : World) : OneAt ((w.alloc (.cells #[.string ⟨#[97]⟩] 9)).alloc (.cells #[.int .i64 2, .string ⟨#[]⟩, .int .u64 0, .slice none 0 0, .slice none 0 0, .int .i64 0] 28)) (w.heap.size + 1) w.heap.size := by
  have h := heap_alloc_new (w.alloc (.cells #[.string ⟨#[97]⟩] 9)) (.cells #[.int .i64 2, .string ⟨#[]⟩, .int .u64 0, .slice none 0 0, .slice none 0 0, .int .i64 0] 28)
  rw [World.size_alloc] at h
  have hk : ((w.alloc (.cells #[.string ⟨#[97]⟩] 9)).alloc (.cells #[.int .i64 2, .string ⟨#[]⟩, .int .u64 0, .slice none 0 0, .slice none 0 0, .int .i64 0] 28)).cell? ⟨w.heap.size, 0, none⟩ = some (.string ⟨#[97]⟩) :=
    ((sbelow_new (w.alloc (.cells #[.string ⟨#[97]⟩] 9)) _).cell (p := ⟨w.heap.size, 0, none⟩) (by rw [World.size_alloc]; exact Nat.lt_succ_self _)).trans (by rw [Lib.cell_of_heap (heap_alloc_new w _)]; rfl)
  exact ⟨⟨by rw [World.size_alloc, World.size_alloc]; omega, by rw [World.size_alloc, World.size_alloc]; omega⟩, hk, by rw [Lib.cell_of_heap h]; rfl, by rw [Lib.cell_of_heap h]; rfl, by rw [Lib.cell_of_heap h]; rfl, by rw [Lib.cell_of_heap h]; rfl, by rw [Lib.cell_of_heap h]; rfl, by rw [Lib.cell_of_heap h]; rfl⟩
set_option maxRecDepth 100000 in
set_option maxHeartbeats 2000000 in
theorem awake6_any (w : World) (hg : Handle w) (hT : Tab w) : Calls Tryz.prog 4 #[] w fun e w' => e = .returned (.bool true) ∧ Below w.heap.size w w' := by
  have HG := Lib.hid hg
  have HTb := Lib.hid hT
  have HA2 := Lib.hid (fun W (hW : Handle W) => Awake2_any W hW)
  have HA5 := Lib.hid (fun W (hW : Handle W) => Awake5_any W hW)
  have HO := Lib.hid (one_new w)
  have HB := Lib.hid ((sbelow_new w (.cells #[.string ⟨#[97]⟩] 9)).trans ((sbelow_new (w.alloc (.cells #[.string ⟨#[97]⟩] 9)) (.cells #[.int .i64 2, .string ⟨#[]⟩, .int .u64 0, .slice none 0 0, .slice none 0 0, .int .i64 0] 28)).mono (by rw [World.size_alloc]; omega)))
  clear hg hT
  go_enter Tryz.func4, Tryz.ntmps4
  go_wp2_with fail
  refine (iText_one _ _ 1 1 _ HO.out (HTb.out.below HB.out)).mono ?_
  rintro e w1 ⟨rfl, b1⟩
  have HB1 := Lib.hid (HB.out.trans (b1.mono HB.out.size))
  clear b1
  unfold t6
  go_wp2_with fail
  refine (HA2.out _ (HG.out.below HB1.out)).mono ?_
  rintro e w2 ⟨rfl, b2⟩
  have HB2 := Lib.hid (HB1.out.trans (b2.mono HB1.out.size))
  clear b2
  go_wp2_with fail
  refine (HA5.out _ (HG.out.below HB2.out)).mono ?_
  rintro e w3 ⟨rfl, b3⟩
  have HB3 := Lib.hid (HB2.out.trans (b3.mono HB2.out.size))
  clear b3
  go_wp2_with fail
  go_ret
  exact ⟨rfl, HB3.out⟩
end Go.Proofs.YtabcbeolhhdkpaaGreatDoor
