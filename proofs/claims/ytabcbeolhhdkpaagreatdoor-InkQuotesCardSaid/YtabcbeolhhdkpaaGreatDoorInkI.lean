/-
  Package ink by contracts: chapter 6's example may be written: its key, its members.
-/
import Derived.Test.YtabcbeolhhdkpaaGreatDoorInkH
namespace Go.Proofs.YtabcbeolhhdkpaaGreatDoor
open Go.RowKit Go.Extern.Stop Go.Stop Go.Extern Go.WideMaps

theorem key97 : keyOf Tryz.prog 9 (.string ⟨#[97]⟩) = some (.string [97]) := keyOf_string_mk Tryz.underlying9 (s := ⟨#[97]⟩) (by decide)
set_option maxRecDepth 100000 in
set_option maxHeartbeats 2000000 in
theorem checkKey_one (mb n : Nat) (w : World) (hm : KsAt w mb n []) :
    Calls Tryz.prog 81 #[.string ⟨#[97]⟩, .map (some mb)] w fun e w' => e = .returned .nilIface ∧ Below w.heap.size w w' := by
  have HM := Lib.hid (fun W => mayBe_any ⟨#[97]⟩ (by decide) W)
  have hkey := key97
  have hbe := sbelow_new w (.cells #[] 106)
  have HB := Lib.hid hbe
  obtain ⟨D, hown, hhas⟩ := hm
  obtain ⟨D', hown', hhas'⟩ := KsAt.step ⟨D, hown, hhas⟩ hbe
  have HH := Lib.hid (hhas ⟨#[97]⟩)
  have HH' := Lib.hid (hhas' ⟨#[97]⟩)
  clear hhas hhas' hbe
  go_enter Tryz.func81, Tryz.ntmps81
  go_wp2_with fail
  refine (HM.out _).mono ?_
  rintro e w1 ⟨rfl, rfl⟩
  go_wp2_with (at_lookup; first
    | (refine wpList_lookup_own_unit _ rfl _ _ 93 rfl 9 106 law9 Tryz.underlying93 (zeroE _) mb n _ rfl hown _ _ rfl hkey ?_; rw [HH.out])
    | (refine wpList_lookup_own_unit _ rfl _ _ 93 rfl 9 106 law9 Tryz.underlying93 (zeroE _) mb n _ rfl hown' _ _ rfl hkey ?_; rw [HH'.out]))
  go_ret
  exact ⟨rfl, HB.out⟩
/-- The one member's cells. -/
structure OneAt (W : World) (b0 kb : Nat) : Prop where
  lt : b0 < W.heap.size ∧ kb < W.heap.size
  k : W.cell? ⟨kb, 0, none⟩ = some (.string ⟨#[97]⟩)
  c0 : W.cell? ⟨b0, 0, none⟩ = some (.int .i64 2)
  c1 : W.cell? ⟨b0, 1, none⟩ = some (.string ⟨#[]⟩)
  c2 : W.cell? ⟨b0, 2, none⟩ = some (.int .u64 0)
  c3 : W.cell? ⟨b0, 3, none⟩ = some (.slice none 0 0)
  c4 : W.cell? ⟨b0, 4, none⟩ = some (.slice none 0 0)
  c5 : W.cell? ⟨b0, 5, none⟩ = some (.int .i64 0)
theorem OneAt.below {W W' : World} {b0 kb : Nat} (h : OneAt W b0 kb) (hb : Below W.heap.size W W') : OneAt W' b0 kb :=
  ⟨⟨Nat.lt_of_lt_of_le h.lt.1 hb.size, Nat.lt_of_lt_of_le h.lt.2 hb.size⟩, (hb.cell (p := ⟨kb, 0, none⟩) h.lt.2).trans h.k, (hb.cell (p := ⟨b0, 0, none⟩) h.lt.1).trans h.c0, (hb.cell (p := ⟨b0, 1, none⟩) h.lt.1).trans h.c1, (hb.cell (p := ⟨b0, 2, none⟩) h.lt.1).trans h.c2, (hb.cell (p := ⟨b0, 3, none⟩) h.lt.1).trans h.c3, (hb.cell (p := ⟨b0, 4, none⟩) h.lt.1).trans h.c4, (hb.cell (p := ⟨b0, 5, none⟩) h.lt.1).trans h.c5⟩
/-- On the way through the one member. -/
def CoR (w : World) (b0 kb c c' : Nat) (i : Nat) (wr : World) : Prop :=
  (i = 0 → KsAt wr (w.heap.size + 1) 0 []) ∧ SixAt wr w.heap.size (.int .i64 6) (.string ⟨#[]⟩) (.int .u64 0) (.slice (some ⟨b0, 0, none⟩) 1 c) (.slice (some ⟨kb, 0, none⟩) 1 c') (.int .i64 0) ∧ OneAt wr b0 kb ∧ Below w.heap.size w wr
set_option maxRecDepth 100000 in
set_option maxHeartbeats 4000000 in
theorem checkObject_one (b0 kb c c' : Nat) (w : World) (h1 : OneAt w b0 kb) :
    Calls Tryz.prog 64 #[.agg #[.int .i64 6, .string ⟨#[]⟩, .int .u64 0, .slice (some ⟨b0, 0, none⟩) 1 c, .slice (some ⟨kb, 0, none⟩) 1 c', .int .i64 0], .int .i64 1] w fun e w' => e = .returned .nilIface ∧ Below w.heap.size w w' := by
  have HK := Lib.hid (fun mb W hm => checkKey_one mb 0 W hm)
  have HC := Lib.hid (fun W => check_true W)
  have H0 := Lib.hid (sbelow_new w (.cells #[.int .i64 6, .string ⟨#[]⟩, .int .u64 0, .slice (some ⟨b0, 0, none⟩) 1 c, .slice (some ⟨kb, 0, none⟩) 1 c', .int .i64 0] 28))
  have H6 : Hid (SixAt (w.alloc (.cells #[.int .i64 6, .string ⟨#[]⟩, .int .u64 0, .slice (some ⟨b0, 0, none⟩) 1 c, .slice (some ⟨kb, 0, none⟩) 1 c', .int .i64 0] 28)) w.heap.size (.int .i64 6) (.string ⟨#[]⟩) (.int .u64 0) (.slice (some ⟨b0, 0, none⟩) 1 c) (.slice (some ⟨kb, 0, none⟩) 1 c') (.int .i64 0)) := Lib.hid (heap_alloc_new w _)
  have HO := Lib.hid h1
  have H1 := Lib.hid (h1.below H0.out)
  have hmm := @run_makeMap Tryz.prog
  clear h1
  obtain ⟨s0, s1, s2, s3, s4, s5⟩ := H6.out.cells
  go_enter Tryz.func64, Tryz.ntmps64
  go_wp2_with fail
  clear s0 s1 s2 s3 s4 s5
  have bm := sbelow_new (w.alloc (.cells #[.int .i64 6, .string ⟨#[]⟩, .int .u64 0, .slice (some ⟨b0, 0, none⟩) 1 c, .slice (some ⟨kb, 0, none⟩) 1 c', .int .i64 0] 28)) (.map #[] 0)
  have hks := KsAt.new (w.alloc (.cells #[.int .i64 6, .string ⟨#[]⟩, .int .u64 0, .slice (some ⟨b0, 0, none⟩) 1 c, .slice (some ⟨kb, 0, none⟩) 1 c', .int .i64 0] 28))
  rw [World.size_alloc] at hks
  have HR : Hid (CoR w b0 kb c c' 0 _) := Lib.hid ⟨fun _ => hks, H6.out.step bm, H1.out.below bm, H0.out.trans (bm.mono H0.out.size)⟩
  clear bm hks H6 H1 H0
  go_loopg [13] 1 (fun g u wr => ∃ i : Nat, i ≤ 1 ∧ g = 1 - i ∧ u = .int .i64 i ∧ CoR w b0 kb c c' i wr)
  case atStart => exact ⟨0, by omega, rfl, rfl, HR.out⟩
  case round =>
    clear HR
    obtain ⟨i, hi, hgi, rfl, hks, h6, h1, hb⟩ := hrel
    by_cases hlt : i < 1
    · obtain rfl : i = 0 := by omega
      have HKS := Lib.hid (hks rfl)
      have H6 := Lib.hid h6
      have H1 := Lib.hid h1
      have HB := Lib.hid hb
      clear hks h6 h1 hb
      have k0 := H1.out.k
      go_wp2_with fail
      refine (HK.out _ _ HKS.out).mono ?_
      rintro e w1 ⟨rfl, b1⟩
      have HKS1 := Lib.hid (HKS.out.step b1)
      have H61 := Lib.hid (H6.out.step b1)
      have H11 := Lib.hid (H1.out.below b1)
      have HB1 := Lib.hid (HB.out.trans (b1.mono HB.out.size))
      clear b1 k0 HKS H6 H1 HB
      obtain ⟨s0, s1, s2, s3, s4, s5⟩ := H61.out.cells
      have c0 := H11.out.c0
      have c1 := H11.out.c1
      have c2 := H11.out.c2
      have c3 := H11.out.c3
      have c4 := H11.out.c4
      have c5 := H11.out.c5
      go_wp2_with fail
      refine (HC.out _).mono ?_
      rintro e w2 ⟨rfl, b2⟩
      have HKS2 := Lib.hid (HKS1.out.step b2)
      have H62 := Lib.hid (H61.out.step b2)
      have H12 := Lib.hid (H11.out.below b2)
      have HB2 := Lib.hid (HB1.out.trans (b2.mono HB1.out.size))
      clear b2 s0 s1 s2 s3 s4 s5 c0 c1 c2 c3 c4 c5 HKS1 H61 H11 HB1
      obtain ⟨D, hown, hhas⟩ := HKS2.out
      have hkey := key97
      clear hhas
      go_wp2_with (at_mapUpdate; refine wpList_mapUpdate_own _ rfl _ _ _ 93 rfl 9 106 law9 Tryz.underlying93 (unitElem (H := Unit)) (w.heap.size + 1) 0 _ rfl hown (by unfold maxLen; omega) _ _ _ rfl rfl hkey _ [] unitElem_mk ?_)
      intro w6 hown6 hgrow6
      have HK6 : Hid (Keeps (· = w.heap.size + 1) w2 w6) := Lib.hid (Keeps.of_grown hgrow6 (fun k e => (by injection e with e; exact e.symm)))
      have HB6 : Hid (Below w.heap.size w w6) := Lib.hid (HB2.out.trans (HK6.out.below HB2.out.size (fun k e => by rw [e]; omega)))
      have HN : Hid (CoR w b0 kb c c' (0 + 1) w6) := Lib.hid ⟨fun h => by omega, H62.out.keeps HK6.out (fun e => by omega), HO.out.below HB6.out, HB6.out⟩
      clear hown6 hgrow6 hown HKS2 H62 H12 HB2 HK6
      go_wp2_with fail
      go_roundg (1 - (0 + 1))
      case measure => omega
      case rel => exact ⟨0 + 1, by omega, rfl, by go_num, HN.out⟩
    · obtain rfl : i = 1 := by omega
      have HB := Lib.hid hb
      clear hks h6 h1 hb
      go_wp2_with fail
      go_ret
      exact ⟨rfl, HB.out⟩
set_option maxHeartbeats 2000000 in
theorem check_one (b0 kb c c' : Nat) (w : World) (h1 : OneAt w b0 kb) :
    Calls Tryz.prog 36 #[.agg #[.int .i64 6, .string ⟨#[]⟩, .int .u64 0, .slice (some ⟨b0, 0, none⟩) 1 c, .slice (some ⟨kb, 0, none⟩) 1 c', .int .i64 0], .int .i64 0] w fun e w' => e = .returned .nilIface ∧ Below w.heap.size w w' := by
  have HF := Lib.hid (fun W => flaw_obj (some ⟨b0, 0, none⟩) c (some ⟨kb, 0, none⟩) c' W)
  have HO := Lib.hid (fun W (hW : Below w.heap.size w W) => checkObject_one b0 kb c c' W (h1.below hW))
  clear h1
  have H0 := Lib.hid (sbelow_new w (.cells #[.int .i64 6, .string ⟨#[]⟩, .int .u64 0, .slice (some ⟨b0, 0, none⟩) 1 c, .slice (some ⟨kb, 0, none⟩) 1 c', .int .i64 0] 28))
  have H6 : Hid (SixAt (w.alloc (.cells #[.int .i64 6, .string ⟨#[]⟩, .int .u64 0, .slice (some ⟨b0, 0, none⟩) 1 c, .slice (some ⟨kb, 0, none⟩) 1 c', .int .i64 0] 28)) w.heap.size (.int .i64 6) (.string ⟨#[]⟩) (.int .u64 0) (.slice (some ⟨b0, 0, none⟩) 1 c) (.slice (some ⟨kb, 0, none⟩) 1 c') (.int .i64 0)) := Lib.hid (heap_alloc_new w _)
  obtain ⟨s0, s1, s2, s3, s4, s5⟩ := H6.out.cells
  go_enter Tryz.func36, Tryz.ntmps36
  go_wp2_with fail
  refine (HF.out _).mono ?_
  rintro e w1 ⟨rfl, b1⟩
  have HB1 := Lib.hid (H0.out.trans (b1.mono H0.out.size))
  have H61 := Lib.hid (H6.out.step b1)
  clear s0 s1 s2 s3 s4 s5 b1
  obtain ⟨s0, s1, s2, s3, s4, s5⟩ := H61.out.cells
  go_wp2_with fail
  refine (HO.out _ HB1.out).mono ?_
  rintro e w2 ⟨rfl, b2⟩
  have HB2 := Lib.hid (HB1.out.trans (b2.mono HB1.out.size))
  clear b2 s0 s1 s2 s3 s4 s5
  go_wp2_with fail
  go_ret
  exact ⟨rfl, HB2.out⟩
set_option maxHeartbeats 2000000 in
theorem iCheck_one (b0 kb c c' : Nat) (w : World) (h1 : OneAt w b0 kb) :
    Calls Tryz.prog 22 #[.agg #[.int .i64 6, .string ⟨#[]⟩, .int .u64 0, .slice (some ⟨b0, 0, none⟩) 1 c, .slice (some ⟨kb, 0, none⟩) 1 c', .int .i64 0]] w fun e w' => e = .returned .nilIface ∧ Below w.heap.size w w' := by
  have HO := Lib.hid (fun W (hW : Below w.heap.size w W) => check_one b0 kb c c' W (h1.below hW))
  have HB0 := Lib.hid (sbelow_new w (.cells #[.int .i64 6, .string ⟨#[]⟩, .int .u64 0, .slice (some ⟨b0, 0, none⟩) 1 c, .slice (some ⟨kb, 0, none⟩) 1 c', .int .i64 0] 28))
  have H6 : Hid (SixAt (w.alloc (.cells #[.int .i64 6, .string ⟨#[]⟩, .int .u64 0, .slice (some ⟨b0, 0, none⟩) 1 c, .slice (some ⟨kb, 0, none⟩) 1 c', .int .i64 0] 28)) w.heap.size (.int .i64 6) (.string ⟨#[]⟩) (.int .u64 0) (.slice (some ⟨b0, 0, none⟩) 1 c) (.slice (some ⟨kb, 0, none⟩) 1 c') (.int .i64 0)) := Lib.hid (heap_alloc_new w _)
  obtain ⟨s0, s1, s2, s3, s4, s5⟩ := H6.out.cells
  clear h1
  go_enter Tryz.func22, Tryz.ntmps22
  go_wp2_with fail
  refine (HO.out _ HB0.out).mono ?_
  rintro e w2 ⟨rfl, b2⟩
  have HB2 := Lib.hid (HB0.out.trans (b2.mono HB0.out.size))
  clear b2
  go_wp2_with fail
  go_ret
  exact ⟨rfl, HB2.out⟩
end Go.Proofs.YtabcbeolhhdkpaaGreatDoor
