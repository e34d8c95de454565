/-
  Package regex's Parse, by contract, of any text: an expression, or what is wrong, and where.
-/
import Derived.Test.YtocfcnhaecmgpaaGreatDoorRxQ
namespace Go.Proofs.YtocfcnhaecmgpaaGreatDoor
open Go.RowKit Go.Extern.Stop Go.Stop Go.Extern Go.WideMaps

set_option maxRecDepth 100000 in
set_option maxHeartbeats 8000000 in
/-- Parse, where no expression stands at the text's beginning. -/
theorem parse_er1 (s : ByteArray) (hs : s.size ≤ 65536) (cc : Int) (aa : Nat) (ho : alR s 64 0 0 = .er cc aa) (w : World) :
    Calls Tryz.prog 21 #[.string s] w (XpOut w (.er cc aa)) := by
  have HC0 : Hid (cc ≠ 0) := Lib.hid ((alt_spec s (by omega) 64 0 rfl).2.2 0 0 cc aa (Nat.zero_le _) ho)
  have hq1 := quad_new w 25 (.int .i64 0) (.bool false) (.slice none 0 0) (.slice none 0 0)
  have hb1 := sbelow_new w (.cells #[.int .i64 0, .bool false, .slice none 0 0, .slice none 0 0] 25)
  have hz1 : (w.alloc (.cells #[.int .i64 0, .bool false, .slice none 0 0, .slice none 0 0] 25)).heap.size = w.heap.size + 1 := World.size_alloc _ _
  generalize hw1 : w.alloc (.cells #[.int .i64 0, .bool false, .slice none 0 0, .slice none 0 0] 25) = w1 at *
  have HN := Lib.hid (fun W => scanNew_any s hs W)
  have HRD : Hid (∀ W, Calls Tryz.prog 26 #[.agg #[.string s, .int .i64 0]] W (ReadOut W s 0 (.er cc aa))) := Lib.hid (fun W => by have := read_any s 0 (by omega) (Nat.zero_le _) W; rwa [ho] at this)
  have HQ1 := Lib.hid hq1
  have HB1 := Lib.hid hb1
  have HZ1 := Lib.hid hz1
  clear hq1 hb1 hz1 ho
  go_enter Tryz.func21, Tryz.ntmps21
  go_wp2_with fail
  refine (HN.out _).mono ?_
  rintro e w2 ⟨rfl, b2⟩
  have bn := sbelow_new w2 (.cells #[.string s, .int .i64 0] 50)
  have HQ3 := Lib.hid ((HQ1.out.step b2).step bn)
  have HC3 := Lib.hid (ScanAt.new w2 s 0 50)
  have hz2 : w.heap.size < w2.heap.size := by have := b2.size; have := HZ1.out; omega
  have HB3 := Lib.hid ((HB1.out.trans (b2.mono (by have := HZ1.out; omega))).trans (bn.mono (by omega)))
  have HZ2 := Lib.hid hz2
  clear b2 bn hz2 hw1
  go_wp2_with fail
  generalize w2.alloc (.cells #[.string s, .int .i64 0] 50) = w3 at *
  generalize w2.heap.size = cb at *
  refine (HRD.out _).mono ?_
  rintro e w4 ⟨fb, rfl, hf4, hb4⟩
  have HQ4 := Lib.hid (HQ3.out.step hb4)
  have HC4 := Lib.hid (HC3.out.step hb4)
  have HB4 := Lib.hid (HB3.out.trans (hb4.mono (by have := HB3.out.size; omega)))
  have bx := sbelow_new w4 (.cells #[.int .i64 0, .bool false, .slice none 0 0, .slice none 0 0] 25)
  have HX5 := Lib.hid (quad_new w4 25 (.int .i64 0) (.bool false) (.slice none 0 0) (.slice none 0 0))
  have HF5 := Lib.hid (hf4.keep bx)
  have HQ5 := Lib.hid (HQ4.out.step bx)
  have HC5 := Lib.hid (HC4.out.step bx)
  have HB5 := Lib.hid (HB4.out.trans (bx.mono HB4.out.size))
  have HXB : Hid (cb < w4.heap.size) := Lib.hid HC4.out.1
  obtain ⟨-, c0, c1, cf⟩ := HC5.out
  have cf0 := cf 0
  have cf1 := cf 1
  have hne : cb ≠ w4.heap.size := by have := HXB.out; omega
  have hne' := hne.symm
  clear hf4 hb4 bx cf HQ3 HC3 HB3 HQ4 HC4 HB4
  unfold pf
  go_upto_region 5 with (fail)
  have hk6 := keeps_two (w4.alloc (.cells #[.int .i64 0, .bool false, .slice none 0 0, .slice none 0 0] 25)) cb (.string s) (.int .i64 (0 : Nat))
  have hx6 := HX5.out.keeps hk6 hne'
  have hrb : w.heap.size < cb := HZ2.out
  have hq6 := HQ5.out.keeps hk6 (by omega)
  have hf6 : FaultAt (((w4.alloc (.cells #[.int .i64 0, .bool false, .slice none 0 0, .slice none 0 0] 25)).setCell ⟨cb, 0, none⟩ (.string s)).setCell ⟨cb, 1, none⟩ (.int .i64 (0 : Nat))) fb cc aa := HF5.out.set HC5.out s (0 : Nat)
  have hb6 := (HB5.out.setCell (p := ⟨cb, 0, none⟩) (by show w.heap.size ≤ cb; omega) (.string s)).setCell (p := ⟨cb, 1, none⟩) (by show w.heap.size ≤ cb; omega) (.int .i64 (0 : Nat))
  generalize ((w4.alloc (.cells #[.int .i64 0, .bool false, .slice none 0 0, .slice none 0 0] 25)).setCell ⟨cb, 0, none⟩ (.string s)).setCell ⟨cb, 1, none⟩ (.int .i64 (0 : Nat)) = w6 at *
  have hk7 := keeps_set4 w6 w4.heap.size 0 (.int .i64 0) (.bool false) (.slice none 0 0) (.slice none 0 0)
  have HQ7 := Lib.hid (hq6.keeps hk7 (by have := HXB.out; omega))
  have HF7 := Lib.hid (hf6.setq HC0.out hx6 (.int .i64 0) (.bool false) (.slice none 0 0) (.slice none 0 0))
  have HB7 := Lib.hid (hb6.trans (hk7.below (B := w.heap.size) hb6.size (fun q e => by have := HXB.out; omega)))
  clear hk6 hx6 hq6 hf6 hb6 hk7 HX5 HF5 HQ5 HC5 HB5 c0 c1 cf0 cf1
  unfold set4 at HQ7 HF7 HB7
  generalize (((w6.setCell ⟨w4.heap.size, 0, none⟩ (.int .i64 0)).setCell ⟨w4.heap.size, 0 + 1, none⟩ (.bool false)).setCell ⟨w4.heap.size, 0 + 2, none⟩ (.slice none 0 0)).setCell ⟨w4.heap.size, 0 + 3, none⟩ (.slice none 0 0) = w7 at *
  have r0 := HQ7.out.cells.1
  have r1 := HQ7.out.cells.2.1
  have r2 := HQ7.out.cells.2.2.1
  have r3 := HQ7.out.cells.2.2.2
  have rf0 := HQ7.out.fz 0
  have rf1 := HQ7.out.fz 1
  have rf2 := HQ7.out.fz 2
  have rf3 := HQ7.out.fz 3
  go_wp2_with fail
  obtain ⟨q0, q1, q2, q3⟩ := (HQ7.out.set4 (.int .i64 0) (.bool false) (.slice none 0 0) (.slice none 0 0)).cells
  have hk8 := keeps_set4 w7 w.heap.size 0 (.int .i64 0) (.bool false) (.slice none 0 0) (.slice none 0 0)
  have hf8 := HF7.out.setq HC0.out HQ7.out (.int .i64 0) (.bool false) (.slice none 0 0) (.slice none 0 0)
  have hb8 := HB7.out.trans (hk8.below (B := w.heap.size) HB7.out.size (fun q e => by omega))
  unfold set4 at q0 q1 q2 q3 hf8 hb8
  exact bodyPost_ret (v := .tuple #[.agg #[.int .i64 0, .bool false, .slice none 0 0, .slice none 0 0], pf fb]) (by simp [results, Tryz.results21, go_sem, q0, q1, q2, q3, pf]) rfl ⟨fb, rfl, hf8, hb8⟩
set_option maxRecDepth 100000 in
set_option maxHeartbeats 8000000 in
/-- Parse, where more stands behind an expression. -/
theorem parse_er2 (s : ByteArray) (hs : s.size ≤ 65536) (k2 n2 : Nat) (x2 : Rx) (ho : alR s 64 0 0 = .ok k2 n2 x2) (hend : skp s k2 ≠ s.size) (hk2 : k2 ≤ s.size) (w : World) :
    Calls Tryz.prog 21 #[.string s] w (XpOut w (.er 4 (skp s k2))) := by
  have HNW := Lib.hid (fun (j : Nat) W => new_err 4 (j : Int) (by decide) W)
  have HAT := Lib.hid (fun (j : Nat) W => at_any s j W)
  have hq1 := quad_new w 25 (.int .i64 0) (.bool false) (.slice none 0 0) (.slice none 0 0)
  have hb1 := sbelow_new w (.cells #[.int .i64 0, .bool false, .slice none 0 0, .slice none 0 0] 25)
  have hz1 : (w.alloc (.cells #[.int .i64 0, .bool false, .slice none 0 0, .slice none 0 0] 25)).heap.size = w.heap.size + 1 := World.size_alloc _ _
  generalize hw1 : w.alloc (.cells #[.int .i64 0, .bool false, .slice none 0 0, .slice none 0 0] 25) = w1 at *
  have HN := Lib.hid (fun W => scanNew_any s hs W)
  have HRD : Hid (∀ W, Calls Tryz.prog 26 #[.agg #[.string s, .int .i64 0]] W (ReadOut W s 0 (.ok k2 n2 x2))) := Lib.hid (fun W => by have := read_any s 0 (by omega) (Nat.zero_le _) W; rwa [ho] at this)
  have HSK : Hid (∀ W, Calls Tryz.prog 45 #[.agg #[.string s, .int .i64 k2]] W fun e w' => e = .returned (.agg #[.string s, .int .i64 (skp s k2)]) ∧ Below W.heap.size W w') := Lib.hid (fun W => skip_any s k2 (by omega) hk2 W)
  have hE := fun W => end_any s (skp s k2) W
  rw [decide_eq_false hend] at hE
  have HE := Lib.hid hE
  have HQ1 := Lib.hid hq1
  have HB1 := Lib.hid hb1
  have HZ1 := Lib.hid hz1
  clear hq1 hb1 hz1 ho hend hE
  generalize skp s k2 = sz at *
  go_enter Tryz.func21, Tryz.ntmps21
  go_wp2_with fail
  refine (HN.out _).mono ?_
  rintro e w2 ⟨rfl, b2⟩
  have bn := sbelow_new w2 (.cells #[.string s, .int .i64 0] 50)
  have HQ3 := Lib.hid ((HQ1.out.step b2).step bn)
  have HC3 := Lib.hid (ScanAt.new w2 s 0 50)
  have hz2 : w.heap.size < w2.heap.size := by have := b2.size; have := HZ1.out; omega
  have HB3 := Lib.hid ((HB1.out.trans (b2.mono (by have := HZ1.out; omega))).trans (bn.mono (by omega)))
  have HZ2 := Lib.hid hz2
  clear b2 bn hz2 hw1
  go_wp2_with fail
  generalize w2.alloc (.cells #[.string s, .int .i64 0] 50) = w3 at *
  generalize w2.heap.size = cb at *
  refine (HRD.out _).mono ?_
  rintro e w4 ⟨xk, xt, xa1, xl1, xc1, xa2, xl2, xc2, rfl, hv4, hb4⟩
  have HQ4 := Lib.hid (HQ3.out.step hb4)
  have HC4 := Lib.hid (HC3.out.step hb4)
  have HB4 := Lib.hid (HB3.out.trans (hb4.mono (by have := HB3.out.size; omega)))
  have hlt3 : cb < w3.heap.size := HC3.out.1
  have bx := sbelow_new w4 (.cells #[.int .i64 0, .bool false, .slice none 0 0, .slice none 0 0] 25)
  have HX5 := Lib.hid (quad_new w4 25 (.int .i64 0) (.bool false) (.slice none 0 0) (.slice none 0 0))
  have HV5 := Lib.hid ((hv4.move (P' := fun q => cb < q ∧ q ≠ w4.heap.size) (Nat.le_refl _) (fun q hq hl => ⟨⟨by omega, by omega⟩, rfl⟩)).step bx)
  have HQ5 := Lib.hid (HQ4.out.step bx)
  have HC5 := Lib.hid (HC4.out.step bx)
  have HB5 := Lib.hid (HB4.out.trans (bx.mono HB4.out.size))
  have HXB : Hid (cb < w4.heap.size) := Lib.hid HC4.out.1
  obtain ⟨-, c0, c1, cf⟩ := HC5.out
  have cf0 := cf 0
  have cf1 := cf 1
  have hne : cb ≠ w4.heap.size := by have := HXB.out; omega
  have hne' := hne.symm
  clear hv4 hb4 hlt3 bx cf HQ3 HC3 HB3 HQ4 HC4 HB4
  go_upto_region 5 with (fail)
  have hc6 : ScanAt (((w4.alloc (.cells #[.int .i64 0, .bool false, .slice none 0 0, .slice none 0 0] 25)).setCell ⟨cb, 0, none⟩ (.string s)).setCell ⟨cb, 1, none⟩ (.int .i64 k2)) cb s k2 := HC5.out.set s k2
  have hk6 := keeps_two (w4.alloc (.cells #[.int .i64 0, .bool false, .slice none 0 0, .slice none 0 0] 25)) cb (.string s) (.int .i64 k2)
  have hx6 := HX5.out.keeps hk6 hne'
  have hrb : w.heap.size < cb := HZ2.out
  have hq6 := HQ5.out.keeps hk6 (by omega)
  have hv6 := HV5.out.move (P' := fun q => cb < q ∧ q ≠ w4.heap.size) hk6.size (fun q hq hlt => ⟨hq, hk6.block q hlt (by omega)⟩)
  have hb6 := (HB5.out.setCell (p := ⟨cb, 0, none⟩) (by show w.heap.size ≤ cb; omega) (.string s)).setCell (p := ⟨cb, 1, none⟩) (by show w.heap.size ≤ cb; omega) (.int .i64 k2)
  generalize ((w4.alloc (.cells #[.int .i64 0, .bool false, .slice none 0 0, .slice none 0 0] 25)).setCell ⟨cb, 0, none⟩ (.string s)).setCell ⟨cb, 1, none⟩ (.int .i64 k2) = w6 at *
  have hk7 := keeps_set4 w6 w4.heap.size 0 (.int .i64 xk) (.bool xt) (.slice xa1 xl1 xc1) (.slice xa2 xl2 xc2)
  have HC7 := Lib.hid (hc6.keepsX hk7 hne)
  have HX7 := Lib.hid (hx6.set4 (.int .i64 xk) (.bool xt) (.slice xa1 xl1 xc1) (.slice xa2 xl2 xc2))
  have HQ7 := Lib.hid (hq6.keeps hk7 (by have := HXB.out; omega))
  have HV7 := Lib.hid (hv6.move (P' := fun q => cb < q) hk7.size (fun q hq hlt => ⟨hq.1, hk7.block q hlt hq.2⟩))
  have HB7 := Lib.hid (hb6.trans (hk7.below (B := w.heap.size) hb6.size (fun q e => by have := HXB.out; omega)))
  clear hc6 hk6 hx6 hq6 hv6 hb6 hk7 HX5 HV5 HQ5 HC5 HB5 c0 c1 cf0 cf1
  unfold set4 at HC7 HX7 HQ7 HV7 HB7
  generalize (((w6.setCell ⟨w4.heap.size, 0, none⟩ (.int .i64 xk)).setCell ⟨w4.heap.size, 0 + 1, none⟩ (.bool xt)).setCell ⟨w4.heap.size, 0 + 2, none⟩ (.slice xa1 xl1 xc1)).setCell ⟨w4.heap.size, 0 + 3, none⟩ (.slice xa2 xl2 xc2) = w7 at *
  generalize w4.heap.size = xb at *
  obtain ⟨-, c0, c1, -⟩ := HC7.out
  go_wp2_with fail
  refine (HSK.out _).mono ?_
  rintro e w8 ⟨rfl, b8⟩
  have hc8 := HC7.out.step b8
  have hk9 := keeps_two w8 cb (.string s) (.int .i64 sz)
  have HC9 : Hid (ScanAt ((w8.setCell ⟨cb, 0, none⟩ (.string s)).setCell ⟨cb, 1, none⟩ (.int .i64 sz)) cb s sz) := Lib.hid (hc8.set s sz)
  have HX9 := Lib.hid ((HX7.out.step b8).keeps hk9 hne')
  have HQ9 := Lib.hid ((HQ7.out.step b8).keeps hk9 (by omega))
  have HV9 := Lib.hid ((HV7.out.step b8).move (P' := fun q => cb < q) hk9.size (fun q hq hlt => ⟨hq, hk9.block q hlt (by omega)⟩))
  have HB9 := Lib.hid (((HB7.out.trans (b8.mono HB7.out.size)).setCell (p := ⟨cb, 0, none⟩) (by show w.heap.size ≤ cb; omega) (.string s)).setCell (p := ⟨cb, 1, none⟩) (by show w.heap.size ≤ cb; omega) (.int .i64 sz))
  obtain ⟨-, d0, d1, df⟩ := hc8
  have df0 := df 0
  have df1 := df 1
  clear hk9 b8 df c0 c1
  go_wp2_with fail
  generalize (w8.setCell ⟨cb, 0, none⟩ (.string s)).setCell ⟨cb, 1, none⟩ (.int .i64 sz) = w9 at *
  clear d0 d1 df0 df1
  refine (HE.out _).mono ?_
  rintro e w10 ⟨rfl, b10⟩
  have HC10 := Lib.hid (HC9.out.step b10)
  have HQ10 := Lib.hid (HQ9.out.step b10)
  have HB10 := Lib.hid (HB9.out.trans (b10.mono HB9.out.size))
  obtain ⟨-, c0, c1, -⟩ := HC10.out
  clear b10
  go_wp2_with fail
  refine (HAT.out sz _).mono ?_
  rintro e w11 ⟨rfl, b11⟩
  have HQ11 := Lib.hid (HQ10.out.step b11)
  have HB11 := Lib.hid (HB10.out.trans (b11.mono HB10.out.size))
  clear b11 c0 c1
  go_wp2_with fail
  refine (HNW.out sz _).mono ?_
  rintro e w12 ⟨fb, rfl, hf12, b12⟩
  have HQ12 := Lib.hid (HQ11.out.step b12)
  have HF12 := Lib.hid hf12
  have HB12 := Lib.hid (HB11.out.trans (b12.mono HB11.out.size))
  have r0 := HQ12.out.cells.1
  have r1 := HQ12.out.cells.2.1
  have r2 := HQ12.out.cells.2.2.1
  have r3 := HQ12.out.cells.2.2.2
  have rf0 := HQ12.out.fz 0
  have rf1 := HQ12.out.fz 1
  have rf2 := HQ12.out.fz 2
  have rf3 := HQ12.out.fz 3
  clear b12 hf12
  unfold pf
  go_wp2_with fail
  obtain ⟨q0, q1, q2, q3⟩ := (HQ12.out.set4 (.int .i64 0) (.bool false) (.slice none 0 0) (.slice none 0 0)).cells
  have hk13 := keeps_set4 w12 w.heap.size 0 (.int .i64 0) (.bool false) (.slice none 0 0) (.slice none 0 0)
  have hf13 := HF12.out.setq (by decide) HQ12.out (.int .i64 0) (.bool false) (.slice none 0 0) (.slice none 0 0)
  have hb13 := HB12.out.trans (hk13.below (B := w.heap.size) HB12.out.size (fun q e => by omega))
  unfold set4 at q0 q1 q2 q3 hf13 hb13
  exact bodyPost_ret (v := .tuple #[.agg #[.int .i64 0, .bool false, .slice none 0 0, .slice none 0 0], pf fb]) (by simp [results, Tryz.results21, go_sem, q0, q1, q2, q3, pf]) rfl ⟨fb, rfl, hf13, hb13⟩

theorem xparse_any (s : ByteArray) (hs : s.size ≤ 65536) (w : World) : Calls Tryz.prog 21 #[.string s] w (XpOut w (xpR s)) := by
  unfold xpR
  cases ho : alR s 64 0 0 with
  | er c a => exact parse_er1 s hs c a ho w
  | ok k n x =>
    have hk := (alR_good 64 0 0 k n x (Nat.zero_le _) ho).2.2
    simp only
    by_cases hend : skp s k = s.size
    · rw [if_pos hend]
      exact parse_ok s hs k n x ho hend hk w
    · rw [if_neg hend]
      exact parse_er2 s hs k n x ho hend hk w
end Go.Proofs.YtocfcnhaecmgpaaGreatDoor
