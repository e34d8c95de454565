/-
  RegexReads: for every two texts, from the contracts of package regex's Read and of the document's.
-/
import Derived.Test.YtpccdhkghlbhkaaGreatDoorQyB
namespace Go.Proofs.YtpccdhkghlbhkaaGreatDoor
open Go.RowKit Go.Extern.Stop Go.Stop Go.Extern

theorem pre_front (f s : ByteArray) : hasPre (restOf (f ++ s) 0) f = true ∧ hasK (f ++ s) 0 f = f.size := by
  have h0 : restOf (f ++ s) 0 = f ++ s := by unfold restOf; exact ByteArray.extract_zero_size
  have hsz : (f ++ s).size = f.size + s.size := ByteArray.size_append
  have h1 : (f ++ s).extract 0 f.size = f := by
    refine ByteArray.ext_getElem (by rw [ByteArray.size_extract]; omega) (fun i hi hi' => ?_)
    rw [ByteArray.getElem_extract, ByteArray.getElem_append_left (by omega)]
    simp
  have hp : hasPre (restOf (f ++ s) 0) f = true := by
    rw [h0]
    unfold hasPre
    rw [h1, hsz]
    simp
  refine ⟨hp, ?_⟩
  unfold hasK
  rw [if_pos hp]
  omega
set_option maxRecDepth 100000 in
set_option maxHeartbeats 8000000 in
theorem regexReads_any (f s : ByteArray) (w : World) (hg : Handle w) :
    Calls Tryz.prog 4 #[.string f, .string s] w fun e w' => e = .returned (.bool true) ∧ Below w.heap.size w w' := by
  have HG := Lib.hid hg
  clear hg
  go_enter Tryz.func4, Tryz.ntmps4
  go_wp2_with fail
  refine (awake15_any _ HG.out).mono ?_
  rintro e w1 ⟨rfl, b1⟩
  have HB1 := Lib.hid b1
  clear b1
  by_cases hm : (1000 : Int) < max (f.size : Int) (s.size : Int)
  · go_wp2_with fail
    go_ret
    exact ⟨rfl, HB1.out⟩
  have HF : Hid (f.size ≤ 1000 ∧ s.size ≤ 1000) := Lib.hid ⟨by omega, by omega⟩
  obtain ⟨hp1, hp2⟩ := pre_front f s
  have HHas := Lib.hid (fun W => shas_any (f ++ s) 0 f (by have := HF.out; rw [ByteArray.size_append]; omega) (Nat.zero_le _) (by have := HF.out; unfold maxLen; omega) W)
  rw [hp1, hp2] at HHas
  have HNew := Lib.hid (fun W => scanNew_any (f ++ s) (by have := HF.out; rw [ByteArray.size_append]; omega) W)
  have hSz : (f ++ s).size = f.size + s.size := ByteArray.size_append
  have HRd := Lib.hid (fun W => read_any (f ++ s) f.size (by have := HF.out; omega) (by omega) W)
  have HQr := Lib.hid (fun W => qread_any (f ++ s) f.size (by have := HF.out; omega) (by omega) W)
  have HWt : Hid (∀ k n x, alR (f ++ s) 64 f.size 0 = .ok k n x → rxWt x ≤ 1000000) := Lib.hid (fun k n x h => by
    have hg := alR_good 64 f.size 0 k n x (by omega) h
    have hw := alR_wt 64 f.size 0 k n x (by omega) h
    have := HF.out
    omega)
  clear hp1 hp2
  generalize hS : f ++ s = S at *
  go_upto_region 6 with (go_at_call 12; (try rw [hS]); refine (HNew.out _).mono ?_; rintro e w3 ⟨rfl, b3⟩)
  have bn3 := sbelow_new w3 (.cells #[.string S, .int .i64 0] 42)
  have HB4 := Lib.hid ((HB1.out.trans (b3.mono HB1.out.size)).trans (bn3.mono (HB1.out.trans (b3.mono HB1.out.size)).size))
  have HC4 := Lib.hid (ScanAt.new w3 S 0 42)
  have HCs : Hid (w.heap.size ≤ w3.heap.size) := Lib.hid (HB1.out.trans (b3.mono HB1.out.size)).size
  clear b3 bn3 HB1 HNew
  generalize w3.alloc (.cells #[.string S, .int .i64 0] 42) = w4 at *
  generalize w3.heap.size = C at *
  have h40 := HC4.out.2.1
  have h41 := HC4.out.2.2.1
  go_wp2_with (go_at_call 13; refine (HHas.out _).mono ?_; rintro e w5 ⟨rfl, b5⟩; have HC5 := Lib.hid (HC4.out.step b5); have x0 := HC5.out.2.1; have x1 := HC5.out.2.2.1; have xf0 := HC5.out.2.2.2 0; have xf1 := HC5.out.2.2.2 1; have y0 := (HC5.out.put S f.size).1; have y1 := (HC5.out.put S f.size).2)
  have HC6 := Lib.hid (HC5.out.set S f.size)
  have HB6 := Lib.hid (((HB4.out.trans (b5.mono HB4.out.size)).setCell (p := ⟨C, 0, none⟩) HCs.out (.string S)).setCell (p := ⟨C, 1, none⟩) HCs.out (.int .i64 f.size))
  clear b5 HC5 x0 x1 xf0 xf1 y0 y1 h40 h41 HHas HC4 HB4
  generalize (w5.setCell ⟨C, 0, none⟩ (.string S)).setCell ⟨C, 1, none⟩ (.int .i64 f.size) = w6 at *
  generalize alR S 64 f.size 0 = R at *
  refine (HRd.out _).mono ?_
  intro e w7 hout
  rcases R with ⟨c, p⟩ | ⟨k', n', x⟩
  · obtain ⟨fb, rfl, hf7, b7⟩ := hout
    have HF7 := Lib.hid hf7
    have HB7 := Lib.hid (HB6.out.trans (b7.mono HB6.out.size))
    clear hf7 b7 HRd
    unfold pf
    go_upto_region 8 with (fail)
    have hzz : (w7.alloc (.cells #[.string S, .int .i64 f.size] 42)).heap.size = w7.heap.size + 1 := World.size_alloc _ _
    have bn1 := sbelow_new w7 (.cells #[.string S, .int .i64 f.size] 42)
    have bn2 := sbelow_new (w7.alloc (.cells #[.string S, .int .i64 f.size] 42)) (.cells #[.int .i64 0, .bool false, .slice none 0 0, .slice none 0 0] 26)
    have hX := quad_new (w7.alloc (.cells #[.string S, .int .i64 f.size] 42)) 26 (.int .i64 0) (.bool false) (.slice none 0 0) (.slice none 0 0)
    rw [hzz] at hX
    have hbb := bn1.trans (bn2.mono bn1.size)
    have HD8 := Lib.hid ((ScanAt.new w7 S f.size 42).step bn2)
    have HX8 := Lib.hid hX
    have HB8 := Lib.hid (HB7.out.trans (hbb.mono HB7.out.size))
    have HF8 := Lib.hid (HF7.out.keep hbb)
    clear HF7
    clear hzz bn1 bn2 hX hbb HB7
    generalize (w7.alloc (.cells #[.string S, .int .i64 f.size] 42)).alloc (.cells #[.int .i64 0, .bool false, .slice none 0 0, .slice none 0 0] 26) = w8 at *
    generalize w7.heap.size = D at *
    go_upto_region 9 with (go_at_call 15; refine (HQr.out _).mono ?_; rintro e w9 ⟨rfl, hc0, -, b9⟩)
    have bn9 := sbelow_new w9 (.cells #[.int .i64 0, .bool false, .slice none 0 0, .slice none 0 0] 33)
    have b10 := b9.trans (bn9.mono b9.size)
    have HD10 := Lib.hid (HD8.out.step b10)
    have HX10 := Lib.hid (HX8.out.step b10)
    have HF10 := Lib.hid (HF8.out.keep b10)
    have HB10 := Lib.hid (HB8.out.trans (b10.mono HB8.out.size))
    clear b9 bn9 b10 HD8 HX8 HF8 HB8 HQr
    generalize w9.alloc (.cells #[.int .i64 0, .bool false, .slice none 0 0, .slice none 0 0] 33) = w10 at *
    have hc1 : (c != 0) = true := by simpa using hc0
    go_upto_region 10 with (fail)
    have HK : Hid (∀ W, Below w10.heap.size w10 W → W.cell? ⟨D, 0, none⟩ = some (.string S) ∧ W.cell? ⟨D, 1, none⟩ = some (.int .i64 f.size) ∧ W.cell? ⟨D + 1, 0, none⟩ = some (.int .i64 0) ∧ W.cell? ⟨D + 1, 1, none⟩ = some (.bool false) ∧ W.cell? ⟨D + 1, 2, none⟩ = some (.slice none 0 0) ∧ W.cell? ⟨D + 1, 3, none⟩ = some (.slice none 0 0)) := Lib.hid (fun W hb =>
      ⟨(HD10.out.step hb).2.1, (HD10.out.step hb).2.2.1, (HX10.out.step hb).cells⟩)
    have HLw := Lib.hid (fun W (hb : Below w10.heap.size w10 W) => lawIs_err _ c p W (HF10.out.keep hb) (HG.out.below (HB10.out.trans (hb.mono HB10.out.size))))
    have HAt := Lib.hid (fun W => at_any S f.size W)
    have HTO := Lib.hid (fun W => xto_go (fun _ => True) _ (.mk 0 false [] []) (Nat.lt_succ_self _) (by decide) W 0 false none 0 0 none 0 0 (exc_zero _ W))
    have HSM := Lib.hid (fun (P : Nat → Prop) W (za1 : Option Addr) (zl1 zc1 : Nat) (za2 : Option Addr) (zl2 zc2 : Nat) (hz : ExC P W [.int .i64 0, .bool false, .slice za1 zl1 zc1, .slice za2 zl2 zc2] (.mk 0 false [] [])) => rxsame_go P (fun _ => True) _ (.mk 0 false [] []) (Nat.lt_succ_self _) (by decide) (.mk 0 false [] []) W 0 false za1 zl1 zc1 za2 zl2 zc2 0 false none 0 0 none 0 0 hz (exc_zero _ W))
    rw [sameE_refl] at HSM
    have hB := Below.refl w10.heap.size w10
    obtain ⟨d0, d1, d2, d3, d4, d5⟩ := HK.out _ hB
    go_wp2_with (first
      | (go_at_call 8; refine (HLw.out _ hB).mono ?_; rintro e w11 ⟨rfl, b11⟩; replace hB := hB.trans (b11.mono hB.size); clear b11 d0 d1 d2 d3 d4 d5; obtain ⟨d0, d1, d2, d3, d4, d5⟩ := HK.out _ hB)
      | (go_at_call 16; refine (HAt.out _).mono ?_; rintro e w11 ⟨rfl, b11⟩; replace hB := hB.trans (b11.mono hB.size); clear b11 d0 d1 d2 d3 d4 d5; obtain ⟨d0, d1, d2, d3, d4, d5⟩ := HK.out _ hB)
      | (go_at_call 10; (with_reducible refine (HTO.out _).mono ?_); rintro e w11 ⟨za1, zl1, zc1, za2, zl2, zc2, rfl, hA, b11⟩; replace hB := hB.trans (b11.mono hB.size); clear b11 d0 d1 d2 d3 d4 d5; obtain ⟨d0, d1, d2, d3, d4, d5⟩ := HK.out _ hB)
      | (go_at_call 9; (with_reducible refine (HSM.out _ _ _ _ _ _ _ _ hA).mono ?_); rintro e w11 ⟨rfl, b11⟩; replace hB := hB.trans (b11.mono hB.size); clear b11 d0 d1 d2 d3 d4 d5))
    have HEND := Lib.hid (HB10.out.trans (hB.mono HB10.out.size))
    go_ret
    exact ⟨by simp, HEND.out⟩
  · obtain ⟨xk, xt, xa1, xl1, xc1, xa2, xl2, xc2, rfl, hv, b7⟩ := hout
    have HV7 := Lib.hid hv
    have HB7 := Lib.hid (HB6.out.trans (b7.mono HB6.out.size))
    have HW := Lib.hid (HWt.out k' n' x rfl)
    clear hv b7 HRd HWt
    go_upto_region 8 with (fail)
    have hzz : (w7.alloc (.cells #[.string S, .int .i64 k'] 42)).heap.size = w7.heap.size + 1 := World.size_alloc _ _
    have bn1 := sbelow_new w7 (.cells #[.string S, .int .i64 k'] 42)
    have bn2 := sbelow_new (w7.alloc (.cells #[.string S, .int .i64 k'] 42)) (.cells #[.int .i64 xk, .bool xt, .slice xa1 xl1 xc1, .slice xa2 xl2 xc2] 26)
    have hX := quad_new (w7.alloc (.cells #[.string S, .int .i64 k'] 42)) 26 (.int .i64 xk) (.bool xt) (.slice xa1 xl1 xc1) (.slice xa2 xl2 xc2)
    rw [hzz] at hX
    have hbb := bn1.trans (bn2.mono bn1.size)
    have HD8 := Lib.hid ((ScanAt.new w7 S k' 42).step bn2)
    have HX8 := Lib.hid hX
    have HB8 := Lib.hid (HB7.out.trans (hbb.mono HB7.out.size))
    have HV8 := Lib.hid ((HV7.out.step hbb).weak (P' := fun _ => True) (fun _ _ => True.intro))
    clear HV7
    clear hzz bn1 bn2 hX hbb HB7
    generalize (w7.alloc (.cells #[.string S, .int .i64 k'] 42)).alloc (.cells #[.int .i64 xk, .bool xt, .slice xa1 xl1 xc1, .slice xa2 xl2 xc2] 26) = w8 at *
    generalize w7.heap.size = D at *
    go_upto_region 9 with (go_at_call 15; refine (HQr.out _).mono ?_; rintro e w9 ⟨yk, yt, ya1, yl1, yc1, ya2, yl2, yc2, rfl, hy, -, b9⟩)
    have bn9 := sbelow_new w9 (.cells #[.int .i64 yk, .bool yt, .slice ya1 yl1 yc1, .slice ya2 yl2 yc2] 33)
    have b10 := b9.trans (bn9.mono b9.size)
    have HD10 := Lib.hid (HD8.out.step b10)
    have HX10 := Lib.hid (HX8.out.step b10)
    have HY10 := Lib.hid (quad_new w9 33 (.int .i64 yk) (.bool yt) (.slice ya1 yl1 yc1) (.slice ya2 yl2 yc2))
    have HV10 := Lib.hid (HV8.out.step b10)
    have HU10 := Lib.hid ((hy.step bn9).weak (P' := fun _ => True) (fun _ _ => True.intro))
    have HB10 := Lib.hid (HB8.out.trans (b10.mono HB8.out.size))
    clear b9 bn9 b10 hy HD8 HX8 HV8 HB8 HQr
    generalize w9.alloc (.cells #[.int .i64 yk, .bool yt, .slice ya1 yl1 yc1, .slice ya2 yl2 yc2] 33) = w10 at *
    generalize w9.heap.size = E at *
    go_upto_region 11 with (fail)
    have HK : Hid (∀ W, Below w10.heap.size w10 W → W.cell? ⟨D, 0, none⟩ = some (.string S) ∧ W.cell? ⟨D, 1, none⟩ = some (.int .i64 k') ∧ W.cell? ⟨D + 1, 0, none⟩ = some (.int .i64 xk) ∧ W.cell? ⟨D + 1, 1, none⟩ = some (.bool xt) ∧ W.cell? ⟨D + 1, 2, none⟩ = some (.slice xa1 xl1 xc1) ∧ W.cell? ⟨D + 1, 3, none⟩ = some (.slice xa2 xl2 xc2) ∧ W.cell? ⟨E, 0, none⟩ = some (.int .i64 yk) ∧ W.cell? ⟨E, 1, none⟩ = some (.bool yt) ∧ W.cell? ⟨E, 2, none⟩ = some (.slice ya1 yl1 yc1) ∧ W.cell? ⟨E, 3, none⟩ = some (.slice ya2 yl2 yc2)) := Lib.hid (fun W hb =>
      have h1 := (HX10.out.step hb).cells
      ⟨(HD10.out.step hb).2.1, (HD10.out.step hb).2.2.1, h1.1, h1.2.1, h1.2.2.1, h1.2.2.2, (HY10.out.step hb).cells⟩)
    have HAt := Lib.hid (fun W => at_any S k' W)
    have HTO := Lib.hid (fun W (hb : Below w10.heap.size w10 W) => xto_go (fun _ => True) _ x (Nat.lt_succ_self _) HW.out W xk xt xa1 xl1 xc1 xa2 xl2 xc2 (HV10.out.step hb))
    have HSM := Lib.hid (fun (P : Nat → Prop) W (za1 : Option Addr) (zl1 zc1 : Nat) (za2 : Option Addr) (zl2 zc2 : Nat) (hb : Below w10.heap.size w10 W) (hz : ExC P W [.int .i64 xk, .bool xt, .slice za1 zl1 zc1, .slice za2 zl2 zc2] x) => rxsame_go P (fun _ => True) _ x (Nat.lt_succ_self _) HW.out x W xk xt za1 zl1 zc1 za2 zl2 zc2 yk yt ya1 yl1 yc1 ya2 yl2 yc2 hz (HU10.out.step hb))
    rw [sameE_refl] at HSM
    have hB := (Below.refl w10.heap.size w10).drew
    have kk := HK.out _ hB
    go_region_held3 (fun W => W.cell? ⟨D, 0, none⟩ = some (.string S) ∧ W.cell? ⟨D, 1, none⟩ = some (.int .i64 k') ∧ W.cell? ⟨D + 1, 0, none⟩ = some (.int .i64 xk) ∧ W.cell? ⟨D + 1, 1, none⟩ = some (.bool xt) ∧ W.cell? ⟨D + 1, 2, none⟩ = some (.slice xa1 xl1 xc1) ∧ W.cell? ⟨D + 1, 3, none⟩ = some (.slice xa2 xl2 xc2) ∧ W.cell? ⟨E, 0, none⟩ = some (.int .i64 yk) ∧ W.cell? ⟨E, 1, none⟩ = some (.bool yt) ∧ W.cell? ⟨E, 2, none⟩ = some (.slice ya1 yl1 yc1) ∧ W.cell? ⟨E, 3, none⟩ = some (.slice ya2 yl2 yc2))
      (first | exact kk | exact HK.out _ hB)
      (first
      | (go_at_call 16; refine (HAt.out _).mono ?_; rintro e w11 ⟨rfl, b11⟩; replace hB := hB.trans (b11.mono hB.size); clear b11)
      | (go_at_call 10; (with_reducible refine (HTO.out _ hB).mono ?_); rintro e w11 ⟨za1, zl1, zc1, za2, zl2, zc2, rfl, hA, b11⟩; replace hB := hB.trans (b11.mono hB.size); clear b11)
      | (go_at_call 9; (with_reducible refine (HSM.out _ _ _ _ _ _ _ _ hB hA).mono ?_); rintro e w11 ⟨rfl, b11⟩; replace hB := hB.trans (b11.mono hB.size); clear b11))
    have HEND := Lib.hid (HB10.out.trans (hB.mono HB10.out.size))
    go_wp2
    go_ret
    exact ⟨by simp, HEND.out⟩
end Go.Proofs.YtpccdhkghlbhkaaGreatDoor
