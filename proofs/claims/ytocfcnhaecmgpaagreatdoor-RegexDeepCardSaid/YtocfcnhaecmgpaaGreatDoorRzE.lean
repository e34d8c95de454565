/-
  The statement RegexDeep as a walk: whatever number and text, the law answers true, and all of old memory stays as it was.
-/
import Derived.Test.YtocfcnhaecmgpaaGreatDoorRzD
namespace Go.Proofs.YtocfcnhaecmgpaaGreatDoor
open Go.RowKit Go.Extern.Stop Go.Stop Go.Extern Go.WideMaps

set_option maxRecDepth 100000 in
set_option maxHeartbeats 8000000 in
theorem regexDeep_any (n : Nat) (hn : n ≤ 255) (s : ByteArray) (w : World) (hg : Handle w) :
    Calls Tryz.prog 7 #[.int .u8 n, .string s] w fun e w' => e = .returned (.bool true) ∧ Below w.heap.size w w' := by
  have HG := Lib.hid hg
  have HN := Lib.hid hn
  by_cases hs : 200 < s.size
  · clear hg hn
    go_enter Tryz.func7, Tryz.ntmps7
    go_wp2_with fail
    refine (awake15_any _ HG.out).mono ?_
    rintro e w2 ⟨rfl, b2⟩
    go_wp2_with fail
    go_ret
    exact ⟨rfl, b2⟩
  have HR1 := Lib.hid (fun (b : UInt8) W => Tryz.strings_Repeat ⟨#[b]⟩ n W (by omega) (by rw [show (⟨#[b]⟩ : ByteArray).size = 1 from rfl]; omega))
  have HRA : Hid (∀ W, Calls Tryz.prog 30 #[.string ⟨#[40]⟩, .int .i64 n] W fun e w' => e = .returned (.string ⟨(Lib.repeatL [40] n).toArray⟩) ∧ Below W.heap.size W w') := Lib.hid (fun W => HR1.out 40 W)
  have HRB : Hid (∀ W, Calls Tryz.prog 30 #[.string ⟨#[41]⟩, .int .i64 n] W fun e w' => e = .returned (.string ⟨(Lib.repeatL [41] n).toArray⟩) ∧ Below W.heap.size W w') := Lib.hid (fun W => HR1.out 41 W)
  have HT := Lib.hid (brB_cat n)
  have hA : (⟨(Lib.repeatL [40] n).toArray⟩ : ByteArray).size ≤ 300 := by rw [repeat_one]; simp [ByteArray.size]; omega
  have hB : (⟨(Lib.repeatL [41] n).toArray⟩ : ByteArray).size ≤ 300 := by rw [repeat_one]; simp [ByteArray.size]; omega
  have HSA := Lib.hid hA
  have HSB := Lib.hid hB
  have HPX := Lib.hid (fun W => xparse_any s (by omega) W)
  have HPY := Lib.hid (fun W => xparse_any (brB n) (by rw [brB_size]; omega) W)
  have hws : (wrapB s).size = s.size + 2 := (wrap_any s).size
  have HPZ := Lib.hid (fun W => xparse_any (wrapB s) (by omega) W)
  have HCT := Lib.hid (fun W => Tryz.strings_Count_one s 40 W)
  rw [← opens_count s] at HCT
  have HWR := Lib.hid (fun k n x => xpR_wrap (s := s) (k := k) (n := n) (x := x))
  have HSM := Lib.hid (fun k n x (h : xpR s = .ok k n x) => xpR_small h (by omega))
  have HBR := Lib.hid (xpR_br n)
  have HWB : Hid ((⟨#[40]⟩ : ByteArray) ++ s ++ ⟨#[41]⟩ = wrapB s) := Lib.hid rfl
  generalize xpR (brB n) = oy at *
  generalize xpR (wrapB s) = oz at *
  generalize hox : xpR s = ox at *
  generalize opens s 0 = cnt0 at *
  generalize (⟨(Lib.repeatL [40] n).toArray⟩ : ByteArray) = A at *
  generalize (⟨(Lib.repeatL [41] n).toArray⟩ : ByteArray) = B at *
  generalize brB n = T at *
  generalize wrapB s = S at *
  have hwn : IntKind.i64.wrap (n : Int) = (n : Int) := IntWalk.i64_in _ (by omega)
  have hn0 : (n : Int) ≤ 255 := by omega
  clear hg hn HR1 hws hox
  go_enter Tryz.func7, Tryz.ntmps7
  go_wp2_with fail
  refine (awake15_any _ HG.out).mono ?_
  rintro e w2 ⟨rfl, b2⟩
  have HB2 := Lib.hid b2
  clear b2
  go_wp2_with fail
  refine (HPX.out _).mono ?_
  intro e w3 hx
  obtain ⟨xk, xt, xa1, xl1, xc1, xa2, xl2, xc2, ex, rfl, hxs, b3⟩ := xp_view hx
  have bn := sbelow_new w3 (.cells #[.int .i64 xk, .bool xt, .slice xa1 xl1 xc1, .slice xa2 xl2 xc2] 25)
  have HX4 := Lib.hid (hxs.step bn)
  have HF4 := Lib.hid (four_new w3 25 (.int .i64 xk) (.bool xt) (.slice xa1 xl1 xc1) (.slice xa2 xl2 xc2))
  have HB4 := Lib.hid ((HB2.out.trans (b3.mono HB2.out.size)).trans (bn.mono (HB2.out.trans (b3.mono HB2.out.size)).size))
  clear hx hxs bn b3 HPX HB2
  go_wp2_with fail
  generalize w3.alloc (.cells #[.int .i64 xk, .bool xt, .slice xa1 xl1 xc1, .slice xa2 xl2 xc2] 25) = w4 at *
  generalize w3.heap.size = xb at *
  refine (HRA.out _).mono ?_
  rintro e w5 ⟨rfl, b5⟩
  have HX5 := Lib.hid (HX4.out.step b5)
  have HF5 := Lib.hid (HF4.out.step b5)
  have HB5 := Lib.hid (HB4.out.trans (b5.mono HB4.out.size))
  clear b5 HX4 HF4 HB4
  go_wp2_with fail
  refine (HRB.out _).mono ?_
  rintro e w6 ⟨rfl, b6⟩
  have HX6 := Lib.hid (HX5.out.step b6)
  have HF6 := Lib.hid (HF5.out.step b6)
  have HB6 := Lib.hid (HB5.out.trans (b6.mono HB5.out.size))
  clear b6 HX5 HF5 HB5
  have hA2 := HSA.out
  have hB2 := HSB.out
  go_wp2_with fail
  rw [HT.out]
  refine (HPY.out _).mono ?_
  intro e w7 hy
  obtain ⟨yk, yt, ya1, yl1, yc1, ya2, yl2, yc2, ey, rfl, hys, b7⟩ := xp_view hy
  have bn := sbelow_new w7 (.cells #[.int .i64 yk, .bool yt, .slice ya1 yl1 yc1, .slice ya2 yl2 yc2] 25)
  have HY8 := Lib.hid (hys.step bn)
  have HX8 := Lib.hid ((HX6.out.step b7).step bn)
  have HFX8 := Lib.hid ((HF6.out.step b7).step bn)
  have HFY8 := Lib.hid (four_new w7 25 (.int .i64 yk) (.bool yt) (.slice ya1 yl1 yc1) (.slice ya2 yl2 yc2))
  have HB8 := Lib.hid ((HB6.out.trans (b7.mono HB6.out.size)).trans (bn.mono (HB6.out.trans (b7.mono HB6.out.size)).size))
  clear hy hys bn b7 HPY HX6 HF6 HB6 hA2 hB2 hA hB
  generalize hw8 : w7.alloc (.cells #[.int .i64 yk, .bool yt, .slice ya1 yl1 yc1, .slice ya2 yl2 yc2] 25) = w8 at *
  by_cases h64 : 64 < n
  · obtain ⟨fb, rfl, hf⟩ := HY8.out.er 8 64 (by rw [HBR.out, if_neg (by omega)])
    have HF := Lib.hid hf
    have h64i : (64 : Int) < (n : Int) := by omega
    clear hf
    unfold pf
    go_wp2_with fail
    refine (lawIs_err _ 8 64 _ HF.out (HG.out.below HB8.out)).mono ?_
    rintro e w9 ⟨rfl, b9⟩
    go_wp2_with fail
    go_ret
    exact ⟨rfl, HB8.out.trans (b9.mono HB8.out.size)⟩
  · obtain ⟨rfl, hvy⟩ := HY8.out.ok _ _ atomA (by rw [HBR.out, if_pos (by omega)])
    have hyk : yk = 1 := (show ExC _ w8 [.int .i64 yk, .bool yt, .slice ya1 yl1 yc1, .slice ya2 yl2 yc2] (.mk 1 false [⟨#[97]⟩] []) from hvy).open.1
    subst hyk
    have HVY := Lib.hid hvy
    have h64i : ¬ (64 : Int) < (n : Int) := by omega
    have HSZ := Lib.hid (fun W (hb : Below w8.heap.size w8 W) => xsize_go _ _ atomA (Nat.lt_succ_self _) (by decide) W _ _ _ _ _ _ _ _ (HVY.out.step hb))
    rw [show rxSize atomA = 1 from by decide] at HSZ
    obtain ⟨q0, q1, q2, q3⟩ := HFY8.out.box
    clear hvy HY8 HBR
    go_wp2_with fail
    refine (HSZ.out _ (Below.refl _ _)).mono ?_
    rintro e w9 ⟨rfl, b9⟩
    have HX9 := Lib.hid (HX8.out.step b9)
    have HFX9 := Lib.hid (HFX8.out.step b9)
    have HB9 := Lib.hid (HB8.out.trans (b9.mono HB8.out.size))
    clear b9 HX8 HFX8 HFY8 HB8 HVY HSZ q0 q1 q2 q3 hw8
    have hs3 : s.size ≤ 200 := by omega
    go_wp2_with fail
    rw [HWB.out]
    refine (HPZ.out _).mono ?_
    intro e w10 hz
    obtain ⟨zk, zt, za1, zl1, zc1, za2, zl2, zc2, ez, rfl, hzs, b10⟩ := xp_view hz
    have bn := sbelow_new w10 (.cells #[.int .i64 zk, .bool zt, .slice za1 zl1 zc1, .slice za2 zl2 zc2] 25)
    have HZ11 := Lib.hid (hzs.step bn)
    have HX11 := Lib.hid ((HX9.out.step b10).step bn)
    have HFX11 := Lib.hid ((HFX9.out.step b10).step bn)
    have HFZ11 := Lib.hid (four_new w10 25 (.int .i64 zk) (.bool zt) (.slice za1 zl1 zc1) (.slice za2 zl2 zc2))
    have HB11 := Lib.hid ((HB9.out.trans (b10.mono HB9.out.size)).trans (bn.mono (HB9.out.trans (b10.mono HB9.out.size)).size))
    clear hz hzs bn b10 HPZ HX9 HFX9 HB9
    generalize hw11 : w10.alloc (.cells #[.int .i64 zk, .bool zt, .slice za1 zl1 zc1, .slice za2 zl2 zc2] 25) = w11 at *
    cases ox with
    | er c a =>
      obtain ⟨fb, rfl, hf⟩ := HX11.out.er c a rfl
      clear hf
      unfold pf
      go_wp2_with fail
      go_ret
      exact ⟨rfl, HB11.out⟩
    | ok k2 n2 X =>
      obtain ⟨rfl, hvx⟩ := HX11.out.ok k2 n2 X rfl
      have HVX := Lib.hid hvx
      clear hvx
      go_wp2_with fail
      refine (HCT.out _).mono ?_
      rintro e w12 ⟨rfl, rfl⟩
      by_cases h60 : 60 < cnt0
      · have h60i : (60 : Int) < (cnt0 : Int) := by omega
        go_wp2_with fail
        go_ret
        exact ⟨rfl, HB11.out⟩
      · have h60i : ¬ (60 : Int) < (cnt0 : Int) := by omega
        obtain ⟨k3, n3, hoz⟩ := HWR.out k2 n2 X rfl (by omega)
        obtain ⟨rfl, hvz⟩ := HZ11.out.ok k3 n3 X hoz
        have HSME := Lib.hid (xsame_go _ _ _ X (Nat.lt_succ_self _) (HSM.out k2 n2 X rfl) X w12 _ _ _ _ _ _ _ _ _ _ _ _ _ _ _ _ HVX.out hvz)
        rw [sameE_refl] at HSME
        obtain ⟨p0, p1, p2, p3⟩ := HFX11.out.box
        obtain ⟨r0, r1, r2, r3⟩ := HFZ11.out.box
        clear hvz hoz
        go_wp2_with fail
        refine HSME.out.mono ?_
        rintro e w13 ⟨rfl, b13⟩
        go_wp2_with fail
        go_ret
        exact ⟨rfl, HB11.out.trans (b13.mono HB11.out.size)⟩
end Go.Proofs.YtocfcnhaecmgpaaGreatDoor
