/-
  The statements WeighPrints, WeighParses and WeighBack as walks: whatever the input, the law answers true, and all of old memory stays as it was.
-/
import Derived.Test.YtogbocgjijhmgaaGreatDoorWgM
namespace Go.Proofs.YtogbocgjijhmgaaGreatDoor
open Go.RowKit Go.Extern.Stop Go.Stop Go.Extern

/-- Three numbers as a weight. -/
def tri (a b c : Nat) (i : Nat) : Nat := if i = 0 then a else if i = 1 then b else if i = 2 then c else 0
theorem tri_le {a b c : Nat} (h : wC a b c = 0) (i : Nat) : tri a b c i ≤ 1000000 := by
  unfold wC at h
  split at h
  · exact absurd h (by decide)
  · split at h
    · exact absurd h (by decide)
    · split at h
      · exact absurd h (by decide)
      · unfold tri
        split
        · omega
        · split
          · omega
          · split <;> omega
theorem wA_zero {a b c : Int} (h : wC a b c = 0) : wA a b c = 0 := by
  unfold wC at h
  unfold wA
  split at h
  · exact absurd h (by decide)
  · rw [if_neg (by assumption)]
    split at h
    · exact absurd h (by decide)
    · rw [if_neg (by assumption)]
      split at h
      · exact absurd h (by decide)
      · rw [if_neg (by assumption)]
theorem wC_seven {a b c : Int} (h : wC a b c ≠ 0) : wC a b c = 7 := by
  unfold wC at *
  split
  · rfl
  · split
    · rfl
    · split
      · rfl
      · rename_i h1 h2 h3
        rw [if_neg h1, if_neg h2, if_neg h3] at h
        exact absurd rfl h

/-! ### WeighPrints -/
set_option maxRecDepth 100000 in
set_option maxHeartbeats 8000000 in
theorem weighPrints_any (a b c : Nat) (w : World) (hl : Lk w) :
    Calls Tryz.prog 5 #[.agg #[.int .u64 a, .int .u64 b, .int .u64 c]] w fun e w' => e = .returned (.bool true) ∧ Below w.heap.size w w' := by
  have HL := Lib.hid hl
  have HB1 := Lib.hid (sbelow_new w (.cells #[.int .u64 a, .int .u64 b, .int .u64 c] 55))
  have HC1 := Lib.hid (tri_new w a b c)
  have HRC := Lib.hid (fun W => rgcheck_any a b c W)
  have HCK := Lib.hid (fun W => gcheck_any a b c W)
  clear hl
  by_cases hc : wC a b c = 0
  · have HPR : Hid (∀ W, Tab W → Wds W → Calls Tryz.prog 23 #[.agg #[.int .u64 a, .int .u64 b, .int .u64 c]] W fun e w' => e = .returned (.tuple #[.string ⟨(textW (tri a b c)).toArray⟩, .nilIface]) ∧ Below W.heap.size W w') := Lib.hid (fun W ht hw => gprint_ok (tri a b c) (tri_le hc) W ht hw)
    have HRP : Hid (∀ W, Calls Tryz.prog 25 #[.agg #[.int .u64 a, .int .u64 b, .int .u64 c]] W fun e w' => e = .returned (.string ⟨(textW (tri a b c)).toArray⟩) ∧ Below W.heap.size W w') := Lib.hid (fun W => rgprint_any (tri a b c) (tri_le hc) W)
    rw [hc, wA_zero hc] at HRC HCK
    generalize (⟨(textW (tri a b c)).toArray⟩ : ByteArray) = T at *
    clear hc
    go_enter Tryz.func5, Tryz.ntmps5
    go_wp2_with fail
    generalize w.alloc (.cells #[.int .u64 a, .int .u64 b, .int .u64 c] 55) = w1 at *
    refine (awake20_lk _ (HL.out.below HB1.out)).mono ?_
    rintro e w2 ⟨rfl, b2⟩
    have HB2 := Lib.hid (HB1.out.trans (b2.mono HB1.out.size))
    have HC2 := Lib.hid (HC1.out.step b2)
    obtain ⟨c0, c1, c2⟩ := HC2.out.cells
    clear b2 HB1 HC1
    go_wp2_with fail
    refine (HRC.out _).mono ?_
    rintro e w3 ⟨rfl, b3⟩
    have HB3 := Lib.hid (HB2.out.trans (b3.mono HB2.out.size))
    have HC3 := Lib.hid (HC2.out.step b3)
    clear b3 HB2 HC2 c0 c1 c2
    obtain ⟨c0, c1, c2⟩ := HC3.out.cells
    go_wp2_with fail
    refine (HPR.out _ (HL.out.below HB3.out).ht (HL.out.below HB3.out).hw).mono ?_
    rintro e w4 ⟨rfl, b4⟩
    have HB4 := Lib.hid (HB3.out.trans (b4.mono HB3.out.size))
    have HC4 := Lib.hid (HC3.out.step b4)
    clear b4 HB3 HC3 c0 c1 c2
    obtain ⟨c0, c1, c2⟩ := HC4.out.cells
    go_wp2_with fail
    refine (lawIs_nil _ _).mono ?_
    rintro e w' ⟨rfl, rfl⟩
    go_wp2_with fail
    refine (HCK.out _).mono ?_
    rintro e w5 ⟨v, rfl, hv, b5⟩
    obtain rfl := hv.nil_of
    have HB5 := Lib.hid (HB4.out.trans (b5.mono HB4.out.size))
    have HC5 := Lib.hid (HC4.out.step b5)
    clear b5 hv HB4 HC4 c0 c1 c2
    obtain ⟨c0, c1, c2⟩ := HC5.out.cells
    go_wp2_with fail
    refine (lawIs_nil _ _).mono ?_
    rintro e w' ⟨rfl, rfl⟩
    go_wp2_with fail
    refine (HRP.out _).mono ?_
    rintro e w6 ⟨rfl, b6⟩
    go_wp2_with fail
    go_ret
    exact ⟨rfl, HB5.out.trans (b6.mono HB5.out.size)⟩
  · have HPR := Lib.hid (fun W => gprint_er a b c hc W)
    rw [wC_seven hc] at HRC HCK HPR
    generalize wA a b c = at_ at *
    clear hc
    go_enter Tryz.func5, Tryz.ntmps5
    go_wp2_with fail
    generalize w.alloc (.cells #[.int .u64 a, .int .u64 b, .int .u64 c] 55) = w1 at *
    refine (awake20_lk _ (HL.out.below HB1.out)).mono ?_
    rintro e w2 ⟨rfl, b2⟩
    have HB2 := Lib.hid (HB1.out.trans (b2.mono HB1.out.size))
    have HC2 := Lib.hid (HC1.out.step b2)
    obtain ⟨c0, c1, c2⟩ := HC2.out.cells
    clear b2 HB1 HC1
    go_wp2_with fail
    refine (HRC.out _).mono ?_
    rintro e w3 ⟨rfl, b3⟩
    have HB3 := Lib.hid (HB2.out.trans (b3.mono HB2.out.size))
    have HC3 := Lib.hid (HC2.out.step b3)
    clear b3 HB2 HC2 c0 c1 c2
    obtain ⟨c0, c1, c2⟩ := HC3.out.cells
    go_wp2_with fail
    refine (HPR.out _).mono ?_
    rintro e w4 ⟨v, rfl, hv, b4⟩
    obtain ⟨fb, rfl⟩ := hv.ptr (by decide)
    have HV := Lib.hid hv
    have HB4 := Lib.hid (HB3.out.trans (b4.mono HB3.out.size))
    have HC4 := Lib.hid (HC3.out.step b4)
    clear b4 hv HB3 HC3 c0 c1 c2
    go_wp2_with fail
    refine (lawIs_err _ 7 at_ _ HV.out (HL.out.below HB4.out).hg).mono ?_
    rintro e w5 ⟨rfl, b5⟩
    have HB5 := Lib.hid (HB4.out.trans (b5.mono HB4.out.size))
    have HC5 := Lib.hid (HC4.out.step b5)
    clear b5 HV HB4 HC4
    obtain ⟨c0, c1, c2⟩ := HC5.out.cells
    go_wp2_with fail
    refine (HCK.out _).mono ?_
    rintro e w6 ⟨v, rfl, hv, b6⟩
    obtain ⟨fb2, rfl⟩ := hv.ptr (by decide)
    have HV := Lib.hid hv
    have HB6 := Lib.hid (HB5.out.trans (b6.mono HB5.out.size))
    clear b6 hv HB5 HC5 c0 c1 c2
    go_wp2_with fail
    refine (lawIs_err _ 7 at_ _ HV.out (HL.out.below HB6.out).hg).mono ?_
    rintro e w7 ⟨rfl, b7⟩
    go_wp2_with fail
    go_ret
    exact ⟨rfl, HB6.out.trans (b7.mono HB6.out.size)⟩

/-! ### WeighParses -/
theorem rgparse_any (s : ByteArray) (hs : s.size ≤ 65536) (w : World) : Calls Tryz.prog 27 #[.string s] w (RgOut w (wgP s)) := by
  unfold wgP
  cases hn : noughtB s with
  | true => rw [if_pos rfl]; exact rgparse_nought s hs hn w
  | false => rw [if_neg (by decide)]; exact rgparse_go s hs hn w
theorem rtri_new (w : World) (x y z : Int) : Cel3 58 (w.alloc (.cells #[.int .u64 x, .int .u64 y, .int .u64 z] 58)) w.heap.size (.int .u64 x) (.int .u64 y) (.int .u64 z) := heap_alloc_new w _
set_option maxRecDepth 100000 in
set_option maxHeartbeats 8000000 in
theorem weighParses_any (s : ByteArray) (w : World) (hl : Lk w) :
    Calls Tryz.prog 6 #[.string s] w fun e w' => e = .returned (.bool true) ∧ Below w.heap.size w w' := by
  have HL := Lib.hid hl
  clear hl
  by_cases hs : 500 < s.size
  · have hsi : (500 : Int) < (s.size : Int) := by omega
    go_enter Tryz.func6, Tryz.ntmps6
    go_wp2_with fail
    refine (awake20_lk _ HL.out).mono ?_
    rintro e w2 ⟨rfl, b2⟩
    go_wp2_with fail
    go_ret
    exact ⟨rfl, b2⟩
  · have hsi : ¬ (500 : Int) < (s.size : Int) := by omega
    have HP := Lib.hid (fun W h => gparse_any s (by omega) W (Lk.hw h) (Lk.hg h))
    have HR := Lib.hid (fun W => rgparse_any s (by omega) W)
    cases hR : wgP s with
    | er cc aa =>
      rw [hR] at HP HR
      have heq := eqRWeight 0 0 0 0 0 0
      clear hR hs
      go_enter Tryz.func6, Tryz.ntmps6
      go_wp2_with fail
      refine (awake20_lk _ HL.out).mono ?_
      rintro e w2 ⟨rfl, b2⟩
      have HB2 := Lib.hid b2
      clear b2
      go_wp2_with fail
      refine (HP.out _ (HL.out.below HB2.out)).mono ?_
      rintro e w3 ⟨fb, rfl, hf, b3⟩
      have bn := sbelow_new w3 (.cells #[.int .u64 0, .int .u64 0, .int .u64 0] 55)
      have HV4 := Lib.hid (hf.keep bn)
      have HC4 := Lib.hid (tri_new w3 0 0 0)
      have HB4 := Lib.hid ((HB2.out.trans (b3.mono HB2.out.size)).trans (bn.mono (HB2.out.trans (b3.mono HB2.out.size)).size))
      clear hf b3 bn HB2
      unfold pf
      go_wp2_with fail
      generalize w3.alloc (.cells #[.int .u64 0, .int .u64 0, .int .u64 0] 55) = w4 at *
      generalize w3.heap.size = xb at *
      refine (HR.out _).mono ?_
      rintro e w5 ⟨rfl, b5⟩
      have bn := sbelow_new w5 (.cells #[.int .u64 0, .int .u64 0, .int .u64 0] 58)
      have HV6 := Lib.hid ((HV4.out.keep b5).keep bn)
      have HC6 := Lib.hid ((HC4.out.step b5).step bn)
      have HD6 := Lib.hid (rtri_new w5 0 0 0)
      have HB6 := Lib.hid ((HB4.out.trans (b5.mono HB4.out.size)).trans (bn.mono (HB4.out.trans (b5.mono HB4.out.size)).size))
      clear b5 bn HB4 HV4 HC4
      go_wp2_with fail
      generalize w5.alloc (.cells #[.int .u64 0, .int .u64 0, .int .u64 0] 58) = w6 at *
      generalize w5.heap.size = yb at *
      refine (lawIs_err _ cc aa _ HV6.out (HL.out.below HB6.out).hg).mono ?_
      rintro e w7 ⟨rfl, b7⟩
      obtain ⟨c0, c1, c2⟩ := (HC6.out.step b7).cells
      obtain ⟨d0, d1, d2⟩ := (HD6.out.step b7).cells
      have HB7 := Lib.hid (HB6.out.trans (b7.mono HB6.out.size))
      clear b7
      go_wp2_with fail
      go_ret
      exact ⟨rfl, HB7.out⟩
    | ok q =>
      rw [hR] at HP HR
      have heq := eqRWeight (q 0) (q 1) (q 2) (q 0) (q 1) (q 2)
      clear hR hs
      go_enter Tryz.func6, Tryz.ntmps6
      go_wp2_with fail
      refine (awake20_lk _ HL.out).mono ?_
      rintro e w2 ⟨rfl, b2⟩
      have HB2 := Lib.hid b2
      clear b2
      go_wp2_with fail
      refine (HP.out _ (HL.out.below HB2.out)).mono ?_
      rintro e w3 ⟨rfl, b3⟩
      have bn := sbelow_new w3 (.cells #[.int .u64 (q 0), .int .u64 (q 1), .int .u64 (q 2)] 55)
      have HC4 := Lib.hid (tri_new w3 (q 0) (q 1) (q 2))
      have HB4 := Lib.hid ((HB2.out.trans (b3.mono HB2.out.size)).trans (bn.mono (HB2.out.trans (b3.mono HB2.out.size)).size))
      clear b3 bn HB2
      go_wp2_with fail
      generalize w3.alloc (.cells #[.int .u64 (q 0), .int .u64 (q 1), .int .u64 (q 2)] 55) = w4 at *
      generalize w3.heap.size = xb at *
      refine (HR.out _).mono ?_
      rintro e w5 ⟨rfl, b5⟩
      have bn := sbelow_new w5 (.cells #[.int .u64 (q 0), .int .u64 (q 1), .int .u64 (q 2)] 58)
      have HC6 := Lib.hid ((HC4.out.step b5).step bn)
      have HD6 := Lib.hid (rtri_new w5 (q 0) (q 1) (q 2))
      have HB6 := Lib.hid ((HB4.out.trans (b5.mono HB4.out.size)).trans (bn.mono (HB4.out.trans (b5.mono HB4.out.size)).size))
      clear b5 bn HB4 HC4
      go_wp2_with fail
      generalize w5.alloc (.cells #[.int .u64 (q 0), .int .u64 (q 1), .int .u64 (q 2)] 58) = w6 at *
      generalize w5.heap.size = yb at *
      refine (lawIs_nil _ _).mono ?_
      rintro e w' ⟨rfl, rfl⟩
      obtain ⟨c0, c1, c2⟩ := HC6.out.cells
      obtain ⟨d0, d1, d2⟩ := HD6.out.cells
      go_wp2_with fail
      go_ret
      exact ⟨rfl, HB6.out⟩
end Go.Proofs.YtogbocgjijhmgaaGreatDoor
