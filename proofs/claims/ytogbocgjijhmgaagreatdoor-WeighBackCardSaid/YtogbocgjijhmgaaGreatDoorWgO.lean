/-
  The statement WeighBack as a walk: whatever the input, the law answers true, and all of old memory stays as it was.
-/
import Derived.Test.YtogbocgjijhmgaaGreatDoorWgN
namespace Go.Proofs.YtogbocgjijhmgaaGreatDoor
open Go.RowKit Go.Extern.Stop Go.Stop Go.Extern

theorem gparse_text (p : Nat → Nat) (hp : ∀ i, p i ≤ 1000000) (w : World) (h : Lk w) :
    Calls Tryz.prog 26 #[.string ⟨(textW p).toArray⟩] w fun e w' => e = .returned (.tuple #[.agg #[.int .u64 (p 0), .int .u64 (p 1), .int .u64 (p 2)], .nilIface]) ∧ Below w.heap.size w w' := by
  have hz : (⟨(textW p).toArray⟩ : ByteArray).size ≤ 65536 := by
    have := textW_len hp
    simp only [ByteArray.size, List.size_toArray]
    omega
  obtain ⟨p', h1, h2⟩ := wgP_text p hp
  have h3 := gparse_any _ hz w h.hw h.hg
  rw [h1] at h3
  refine h3.mono ?_
  rintro e w' ⟨rfl, hb⟩
  rw [h2 0 (by decide), h2 1 (by decide), h2 2 (by decide)]
  exact ⟨rfl, hb⟩
theorem wgP_nat {s : ByteArray} {q : Nat → Int} (h : wgP s = .ok q) : ∃ n : Nat → Nat, (∀ i, n i ≤ 1000000) ∧ q = fun i => (n i : Int) := by
  have hb := wgP_bd h
  refine ⟨fun i => (q i).toNat, fun i => ?_, ?_⟩
  · have := hb i
    show (q i).toNat ≤ 1000000
    omega
  · funext i
    have := hb i
    show q i = ((q i).toNat : Int)
    omega
set_option maxRecDepth 100000 in
set_option maxHeartbeats 16000000 in
theorem weighBack_any (a b c : Nat) (s : ByteArray) (w : World) (hl : Lk w) :
    Calls Tryz.prog 7 #[.agg #[.int .u64 a, .int .u64 b, .int .u64 c], .string s] w fun e w' => e = .returned (.bool true) ∧ Below w.heap.size w w' := by
  have HL := Lib.hid hl
  have HB1 := Lib.hid (sbelow_new w (.cells #[.int .u64 a, .int .u64 b, .int .u64 c] 55))
  have HC1 := Lib.hid (tri_new w a b c)
  clear hl
  by_cases hs : 500 < s.size
  · have hsi : (500 : Int) < (s.size : Int) := by omega
    go_enter Tryz.func7, Tryz.ntmps7
    go_wp2_with fail
    generalize w.alloc (.cells #[.int .u64 a, .int .u64 b, .int .u64 c] 55) = w1 at *
    refine (awake20_lk _ (HL.out.below HB1.out)).mono ?_
    rintro e w2 ⟨rfl, b2⟩
    go_wp2_with fail
    go_ret
    exact ⟨rfl, HB1.out.trans (b2.mono HB1.out.size)⟩
  · have hsi : ¬ (500 : Int) < (s.size : Int) := by omega
    have HP := Lib.hid (fun W h => gparse_any s (by omega) W (Lk.hw h) (Lk.hg h))
    by_cases hc : wC a b c = 0
    · have HPR : Hid (∀ W, Lk W → Calls Tryz.prog 23 #[.agg #[.int .u64 a, .int .u64 b, .int .u64 c]] W fun e w' => e = .returned (.tuple #[.string ⟨(textW (tri a b c)).toArray⟩, .nilIface]) ∧ Below W.heap.size W w') := Lib.hid (fun W h => gprint_ok (tri a b c) (tri_le hc) W (Lk.ht h) (Lk.hw h))
      have HPT : Hid (∀ W, Lk W → Calls Tryz.prog 26 #[.string ⟨(textW (tri a b c)).toArray⟩] W fun e w' => e = .returned (.tuple #[.agg #[.int .u64 a, .int .u64 b, .int .u64 c], .nilIface]) ∧ Below W.heap.size W w') := Lib.hid (fun W h => gparse_text (tri a b c) (tri_le hc) W h)
      have heq := eqWeight a b c a b c
      generalize (⟨(textW (tri a b c)).toArray⟩ : ByteArray) = T at *
      clear hc hs
      go_enter Tryz.func7, Tryz.ntmps7
      go_wp2_with fail
      generalize w.alloc (.cells #[.int .u64 a, .int .u64 b, .int .u64 c] 55) = w1 at *
      refine (awake20_lk _ (HL.out.below HB1.out)).mono ?_
      rintro e w2 ⟨rfl, b2⟩
      have HB2 := Lib.hid (HB1.out.trans (b2.mono HB1.out.size))
      have HC2 := Lib.hid (HC1.out.step b2)
      obtain ⟨c0, c1, c2⟩ := HC2.out.cells
      clear b2 HB1 HC1
      go_wp2_with fail
      refine (HPR.out _ (HL.out.below HB2.out)).mono ?_
      rintro e w3 ⟨rfl, b3⟩
      have HB3 := Lib.hid (HB2.out.trans (b3.mono HB2.out.size))
      have HC3 := Lib.hid (HC2.out.step b3)
      clear b3 HB2 HC2 c0 c1 c2
      go_wp2_with fail
      refine (HPT.out _ (HL.out.below HB3.out)).mono ?_
      rintro e w4 ⟨rfl, b4⟩
      have bn := sbelow_new w4 (.cells #[.int .u64 a, .int .u64 b, .int .u64 c] 55)
      have HB5 := Lib.hid ((HB3.out.trans (b4.mono HB3.out.size)).trans (bn.mono (HB3.out.trans (b4.mono HB3.out.size)).size))
      have HC5 := Lib.hid ((HC3.out.step b4).step bn)
      have HD5 := Lib.hid (tri_new w4 a b c)
      clear b4 bn HB3 HC3
      obtain ⟨c0, c1, c2⟩ := HC5.out.cells
      obtain ⟨d0, d1, d2⟩ := HD5.out.cells
      go_upto_region 10 with (fail)
      generalize w4.alloc (.cells #[.int .u64 a, .int .u64 b, .int .u64 c] 55) = w5 at *
      generalize w4.heap.size = xb at *
      clear c0 c1 c2 d0 d1 d2 HC5 HD5 HPR HPT heq
      cases hR : wgP s with
      | er cc aa =>
        rw [hR] at HP
        have heq2 := eqWeight 0 0 0 0 0 0
        clear hR
        go_wp2_with fail
        refine (HP.out _ (HL.out.below HB5.out)).mono ?_
        rintro e w7 ⟨fb, rfl, hf, b7⟩
        have bn := sbelow_new w7 (.cells #[.int .u64 0, .int .u64 0, .int .u64 0] 55)
        have HB8 := Lib.hid ((HB5.out.trans (b7.mono HB5.out.size)).trans (bn.mono (HB5.out.trans (b7.mono HB5.out.size)).size))
        clear hf b7 bn
        unfold pf
        go_wp2_with fail
        go_ret
        exact ⟨rfl, HB8.out⟩
      | ok q =>
        obtain ⟨n, hn, rfl⟩ := wgP_nat hR
        rw [hR] at HP
        have HPR2 := Lib.hid (fun W (h : Lk W) => gprint_ok n hn W h.ht h.hw)
        have HPT2 := Lib.hid (fun W (h : Lk W) => gparse_text n hn W h)
        have heq2 := eqWeight (n 0) (n 1) (n 2) (n 0) (n 1) (n 2)
        generalize (⟨(textW n).toArray⟩ : ByteArray) = T2 at *
        clear hR hn
        go_wp2_with fail
        refine (HP.out _ (HL.out.below HB5.out)).mono ?_
        rintro e w7 ⟨rfl, b7⟩
        have bn := sbelow_new w7 (.cells #[.int .u64 (n 0), .int .u64 (n 1), .int .u64 (n 2)] 55)
        have HC8 := Lib.hid (tri_new w7 (n 0) (n 1) (n 2))
        have HB8 := Lib.hid ((HB5.out.trans (b7.mono HB5.out.size)).trans (bn.mono (HB5.out.trans (b7.mono HB5.out.size)).size))
        clear b7 bn
        obtain ⟨g0, g1, g2⟩ := HC8.out.cells
        go_wp2_with fail
        generalize w7.alloc (.cells #[.int .u64 (n 0), .int .u64 (n 1), .int .u64 (n 2)] 55) = w8 at *
        generalize w7.heap.size = yb at *
        refine (HPR2.out _ (HL.out.below HB8.out)).mono ?_
        rintro e w9 ⟨rfl, b9⟩
        have HB9 := Lib.hid (HB8.out.trans (b9.mono HB8.out.size))
        have HC9 := Lib.hid (HC8.out.step b9)
        clear b9 g0 g1 g2 HC8
        go_wp2_with fail
        refine (HPT2.out _ (HL.out.below HB9.out)).mono ?_
        rintro e w10 ⟨rfl, b10⟩
        have bn := sbelow_new w10 (.cells #[.int .u64 (n 0), .int .u64 (n 1), .int .u64 (n 2)] 55)
        have HD11 := Lib.hid (tri_new w10 (n 0) (n 1) (n 2))
        have HC11 := Lib.hid ((HC9.out.step b10).step bn)
        have HB11 := Lib.hid ((HB9.out.trans (b10.mono HB9.out.size)).trans (bn.mono (HB9.out.trans (b10.mono HB9.out.size)).size))
        clear b10 bn HC9
        obtain ⟨g0, g1, g2⟩ := HC11.out.cells
        obtain ⟨l0, l1, l2⟩ := HD11.out.cells
        go_wp2_with fail
        go_ret
        exact ⟨rfl, HB11.out⟩
    · have HPR := Lib.hid (fun W => gprint_er a b c hc W)
      rw [wC_seven hc] at HPR
      generalize wA a b c = at_ at *
      clear hc hs
      go_enter Tryz.func7, Tryz.ntmps7
      go_wp2_with fail
      generalize w.alloc (.cells #[.int .u64 a, .int .u64 b, .int .u64 c] 55) = w1 at *
      refine (awake20_lk _ (HL.out.below HB1.out)).mono ?_
      rintro e w2 ⟨rfl, b2⟩
      have HB2 := Lib.hid (HB1.out.trans (b2.mono HB1.out.size))
      have HC2 := Lib.hid (HC1.out.step b2)
      obtain ⟨c0, c1, c2⟩ := HC2.out.cells
      clear b2 HB1 HC1
      go_wp2_with fail
      refine (HPR.out _).mono ?_
      rintro e w3 ⟨v, rfl, hv, b3⟩
      obtain ⟨fb, rfl⟩ := hv.ptr (by decide)
      have HB5 := Lib.hid (HB2.out.trans (b3.mono HB2.out.size))
      clear b3 hv HB2 HC2 c0 c1 c2 HPR
      go_upto_region 10 with (fail)
      cases hR : wgP s with
      | er cc aa =>
        rw [hR] at HP
        have heq2 := eqWeight 0 0 0 0 0 0
        clear hR
        go_wp2_with fail
        refine (HP.out _ (HL.out.below HB5.out)).mono ?_
        rintro e w7 ⟨fb, rfl, hf, b7⟩
        have bn := sbelow_new w7 (.cells #[.int .u64 0, .int .u64 0, .int .u64 0] 55)
        have HB8 := Lib.hid ((HB5.out.trans (b7.mono HB5.out.size)).trans (bn.mono (HB5.out.trans (b7.mono HB5.out.size)).size))
        clear hf b7 bn
        unfold pf
        go_wp2_with fail
        go_ret
        exact ⟨rfl, HB8.out⟩
      | ok q =>
        obtain ⟨n, hn, rfl⟩ := wgP_nat hR
        rw [hR] at HP
        have HPR2 := Lib.hid (fun W (h : Lk W) => gprint_ok n hn W h.ht h.hw)
        have HPT2 := Lib.hid (fun W (h : Lk W) => gparse_text n hn W h)
        have heq2 := eqWeight (n 0) (n 1) (n 2) (n 0) (n 1) (n 2)
        generalize (⟨(textW n).toArray⟩ : ByteArray) = T2 at *
        clear hR hn
        go_wp2_with fail
        refine (HP.out _ (HL.out.below HB5.out)).mono ?_
        rintro e w7 ⟨rfl, b7⟩
        have bn := sbelow_new w7 (.cells #[.int .u64 (n 0), .int .u64 (n 1), .int .u64 (n 2)] 55)
        have HC8 := Lib.hid (tri_new w7 (n 0) (n 1) (n 2))
        have HB8 := Lib.hid ((HB5.out.trans (b7.mono HB5.out.size)).trans (bn.mono (HB5.out.trans (b7.mono HB5.out.size)).size))
        clear b7 bn
        obtain ⟨g0, g1, g2⟩ := HC8.out.cells
        go_wp2_with fail
        generalize w7.alloc (.cells #[.int .u64 (n 0), .int .u64 (n 1), .int .u64 (n 2)] 55) = w8 at *
        generalize w7.heap.size = yb at *
        refine (HPR2.out _ (HL.out.below HB8.out)).mono ?_
        rintro e w9 ⟨rfl, b9⟩
        have HB9 := Lib.hid (HB8.out.trans (b9.mono HB8.out.size))
        have HC9 := Lib.hid (HC8.out.step b9)
        clear b9 g0 g1 g2 HC8
        go_wp2_with fail
        refine (HPT2.out _ (HL.out.below HB9.out)).mono ?_
        rintro e w10 ⟨rfl, b10⟩
        have bn := sbelow_new w10 (.cells #[.int .u64 (n 0), .int .u64 (n 1), .int .u64 (n 2)] 55)
        have HD11 := Lib.hid (tri_new w10 (n 0) (n 1) (n 2))
        have HC11 := Lib.hid ((HC9.out.step b10).step bn)
        have HB11 := Lib.hid ((HB9.out.trans (b10.mono HB9.out.size)).trans (bn.mono (HB9.out.trans (b10.mono HB9.out.size)).size))
        clear b10 bn HC9
        obtain ⟨g0, g1, g2⟩ := HC11.out.cells
        obtain ⟨l0, l1, l2⟩ := HD11.out.cells
        go_wp2_with fail
        go_ret
        exact ⟨rfl, HB11.out⟩
end Go.Proofs.YtogbocgjijhmgaaGreatDoor
