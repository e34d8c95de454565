/-
  Chapter 3's example holds.
-/
import Derived.Test.YtajmlkephefapaaGreatDoorScanE
import Derived.Test.YtajmlkephefapaaGreatDoorAwk2
namespace Go.Proofs.YtajmlkephefapaaGreatDoor
open Go.RowKit Go.Extern.Stop Go.Stop Go.Extern

def ab1c : ByteArray := ⟨#[97, 98, 45, 49, 32, 99]⟩
def s07 : ByteArray := ⟨#[48, 55]⟩
theorem run_ab1c : runTo isIn ab1c 0 = 4 := by
  rw [runTo_go (by decide) (by decide), runTo_go (by decide) (by decide), runTo_go (by decide) (by decide), runTo_go (by decide) (by decide), runTo_stop (by decide) (by decide)]
theorem run_07 : runTo isDig s07 0 = 2 := by
  rw [runTo_go (by decide) (by decide), runTo_go (by decide) (by decide), runTo_end (by decide)]
theorem name_ab1c (w : World) : Calls Tryz.prog 81 #[.agg #[.string ab1c, .int .i64 0]] w fun e w' => e = .returned (.tuple #[.agg #[.string ab1c, .int .i64 4], .string ⟨#[97, 98, 45, 49]⟩, .nilIface]) ∧ Below w.heap.size w w' := by
  have h := name_yes ab1c 0 (by decide) (by decide) (by decide) (by rw [run_ab1c]; decide) w
  rw [run_ab1c] at h
  exact h
theorem number_07 (w : World) (hg : Handle w) : Calls Tryz.prog 57 #[.agg #[.string s07, .int .i64 0]] w (NumOut w s07 0 0 4 0) := by
  have hd : digsR s07 0 = (0, 4, 0) := by unfold digsR; rw [run_07]; decide
  have h := number_bad s07 0 (by decide) (by decide) (by rw [run_07]; decide) (by rw [hd]; decide) w hg
  rw [hd] at h
  exact h

set_option maxRecDepth 100000 in
set_option maxHeartbeats 1600000 in
theorem awake3_any (w : World) (hg : Handle w) :
    Calls Tryz.prog 52 #[] w fun e w' => e = .returned (.bool true) ∧ Below w.heap.size w w' := by
  have HN1 := Lib.hid (fun w => scanNew_any ab1c (by decide) w)
  have HN2 := Lib.hid (fun w => scanNew_any s07 (by decide) w)
  have HM := Lib.hid name_ab1c
  have HU := Lib.hid number_07
  unfold ab1c at HN1 HM
  unfold s07 at HN2 HU
  go_enter Tryz.func52, Tryz.ntmps52
  go_wp2_with fail
  refine (HN1.out _).mono ?_
  rintro e w1 ⟨rfl, b1⟩
  have hs1 := ScanAt.new w1 ⟨#[97, 98, 45, 49, 32, 99]⟩ 0 58
  have HB1 := Lib.hid (b1.trans ((sbelow_new w1 (.cells #[.string ⟨#[97, 98, 45, 49, 32, 99]⟩, .int .i64 0] 58)).mono b1.size))
  have HL := Lib.hid b1.size
  go_wp2_with fail
  generalize w1.alloc (.cells #[.string ⟨#[97, 98, 45, 49, 32, 99]⟩, .int .i64 0] 58) = w2 at *
  generalize w1.heap.size = q at *
  refine (HM.out _).mono ?_
  rintro e w3 ⟨rfl, b3⟩
  have hs3 := hs1.step b3
  have hs4 := hs3.set ⟨#[97, 98, 45, 49, 32, 99]⟩ 4
  have HB4 := Lib.hid (((HB1.out.trans (b3.mono HB1.out.size)).setCell (p := ⟨q, 0, none⟩) HL.out (.string ⟨#[97, 98, 45, 49, 32, 99]⟩)).setCell (p := ⟨q, 1, none⟩) HL.out (.int .i64 4))
  clear hs1
  obtain ⟨l3, c0, c1, cf⟩ := hs3
  go_wp2_with fail
  generalize (w3.setCell ⟨q, 0, none⟩ (.string ⟨#[97, 98, 45, 49, 32, 99]⟩)).setCell ⟨q, 1, none⟩ (.int .i64 4) = w4 at *
  clear c0 c1 cf l3
  refine (HN2.out _).mono ?_
  rintro e w5 ⟨rfl, b5⟩
  have hs5 := hs4.step b5
  have HB5 := Lib.hid (HB4.out.trans (b5.mono HB4.out.size))
  have hs6 := hs5.step (sbelow_new w5 (.cells #[.string ⟨#[48, 55]⟩, .int .i64 0] 58))
  have HB6 := Lib.hid (HB5.out.trans ((sbelow_new w5 (.cells #[.string ⟨#[48, 55]⟩, .int .i64 0] 58)).mono HB5.out.size))
  clear hs4 hs5
  go_wp2_with fail
  generalize w5.alloc (.cells #[.string ⟨#[48, 55]⟩, .int .i64 0] 58) = w6 at *
  generalize w5.heap.size = q5 at *
  refine (HU.out _ (hg.below HB6.out)).mono ?_
  rintro e w7 ⟨v, rfl, hv, b7⟩
  have HB7 := Lib.hid (HB6.out.trans (b7.mono HB6.out.size))
  have hs7 := hs6.step b7
  have hs8 := hs7.step (sbelow_new w7 (.cells #[.string ⟨#[48, 55]⟩, .int .i64 0] 58))
  have HB8 := Lib.hid (HB7.out.trans ((sbelow_new w7 (.cells #[.string ⟨#[48, 55]⟩, .int .i64 0] 58)).mono HB7.out.size))
  have HV8 := Lib.hid (hv.keep (sbelow_new w7 (.cells #[.string ⟨#[48, 55]⟩, .int .i64 0] 58)))
  clear hs6 hs7 hv
  go_wp2_with fail
  generalize w7.alloc (.cells #[.string ⟨#[48, 55]⟩, .int .i64 0] 58) = w8 at *
  generalize w7.heap.size = q7 at *
  refine (Awake1_any _ (hg.below HB8.out)).mono ?_
  rintro e w9 ⟨rfl, b9⟩
  have HB9 := Lib.hid (HB8.out.trans (b9.mono HB8.out.size))
  have hs9 := hs8.step b9
  have HV9 := Lib.hid (HV8.out.keep b9)
  clear hs8
  go_wp2_with fail
  refine (Awake2_any _ (hg.below HB9.out)).mono ?_
  rintro e w10 ⟨rfl, b10⟩
  have HB10 := Lib.hid (HB9.out.trans (b10.mono HB9.out.size))
  have hs10 := hs9.step b10
  have HV10 := Lib.hid (HV9.out.keep b10)
  clear hs9
  obtain ⟨l10, d0, d1, df⟩ := hs10
  go_wp2_with fail
  refine (at_any _ 4 _).mono ?_
  rintro e w11 ⟨rfl, b11⟩
  have HB11 := Lib.hid (HB10.out.trans (b11.mono HB10.out.size))
  have HV11 := Lib.hid (HV10.out.keep b11)
  go_wp2_with fail
  refine (lawIs_err v 4 0 _ HV11.out (hg.below HB11.out)).mono ?_
  rintro e w12 ⟨rfl, b12⟩
  go_wp2_with fail
  go_ret
  exact ⟨rfl, HB11.out.trans (b12.mono HB11.out.size)⟩

theorem Awake3_any (w : World) (hg : Handle w) :
    Calls Tryz.prog 26 #[] w fun e w' => e = .returned (.bool true) ∧ Below w.heap.size w w' := by
  go_enter Tryz.func26, Tryz.ntmps26
  go_wp2_with (go_at_call 52; refine (awake3_any _ hg).mono ?_; rintro e w' ⟨rfl, hb⟩)
  go_ret
  exact ⟨rfl, hb⟩
end Go.Proofs.YtajmlkephefapaaGreatDoor
