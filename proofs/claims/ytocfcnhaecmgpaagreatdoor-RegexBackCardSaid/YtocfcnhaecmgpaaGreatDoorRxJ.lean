/-
  Package regex's reader by contracts: what stands ahead of a part's signs: a set of words, a word.
-/
import Derived.Test.YtocfcnhaecmgpaaGreatDoorRxI
namespace Go.Proofs.YtocfcnhaecmgpaaGreatDoor
open Go.RowKit Go.Extern.Stop Go.Stop Go.Extern Go.WideMaps

/-- Its cells are stored. -/
theorem BsSt.put {w0 w : World} {rb : Nat} {s : ByteArray} {k n d xb : Nat} {x0 x1 x2 x3 : Value} (h : BsSt w0 rb s k n d xb x0 x1 x2 x3 w) (d0 d1 d2 d3 : Value) : BsSt w0 rb s k n d xb d0 d1 d2 d3 (set4 w xb 0 d0 d1 d2 d3) := by
  have hkx := keeps_set4 w xb 0 d0 d1 d2 d3
  have ho := h.ord
  refine ⟨QuadAt.keeps h.rd hkx (by omega), h.res.keeps hkx (by omega), h.x.set4 _ _ _ _, ?_, ho⟩
  unfold set4
  exact (((h.keep.setCell (q := ⟨xb, 0, none⟩) (.inl (by show w0.heap.size ≤ xb; omega)) _).setCell (q := ⟨xb, 0 + 1, none⟩) (.inl (by show w0.heap.size ≤ xb; omega)) _).setCell (q := ⟨xb, 0 + 2, none⟩) (.inl (by show w0.heap.size ≤ xb; omega)) _).setCell (q := ⟨xb, 0 + 3, none⟩) (.inl (by show w0.heap.size ≤ xb; omega)) _
set_option maxRecDepth 100000 in
set_option maxHeartbeats 8000000 in
theorem base_set (s : ByteArray) (sub : Option (Nat → Nat → RO Rx)) (k n d rb : Nat) (hs : s.size ≤ 100000) (hk : k ≤ s.size) (hn : n ≤ 100) (h91 : byteI s (skp s k) = 91) (w : World) (hr : Rd w rb s k n d) :
    Calls Tryz.prog 128 #[.pointer (some ⟨rb, 0, none⟩)] w (XrOut w rb s d (bsR s sub k n)) := by
  have hq1 := quad_new w 25 (.int .i64 0) (.bool false) (.slice none 0 0) (.slice none 0 0)
  have hb1 := sbelow_new w (.cells #[.int .i64 0, .bool false, .slice none 0 0, .slice none 0 0] 25)
  have hr1 := hr.step hb1
  have hz1 : (w.alloc (.cells #[.int .i64 0, .bool false, .slice none 0 0, .slice none 0 0] 25)).heap.size = w.heap.size + 1 := World.size_alloc _ _
  have HRB := Lib.hid hr.lt
  have HKL := Lib.hid hk
  have HJL := Lib.hid (skp_le hk).2
  have HS : Hid (∀ W, Calls Tryz.prog 45 #[.agg #[.string s, .int .i64 k]] W fun e w' => e = .returned (.agg #[.string s, .int .i64 (skp s k)]) ∧ Below W.heap.size W w') := Lib.hid (fun W => skip_any s k hs hk W)
  have HT40 := Lib.hid (fun W (h : Rd W rb s k n d) => took_any s k n d rb 40 (by decide) hs hk W h)
  rw [show ((40 : UInt8).toNat : Int) = 40 from rfl] at HT40
  have HT46 := Lib.hid (fun W (h : Rd W rb s k n d) => took_any s k n d rb 46 (by decide) hs hk W h)
  rw [show ((46 : UInt8).toNat : Int) = 46 from rfl] at HT46
  have HT91 := Lib.hid (fun W (h : Rd W rb s k n d) => took_any s k n d rb 91 (by decide) hs hk W h)
  rw [show ((91 : UInt8).toNat : Int) = 91 from rfl] at HT91
  generalize hw1 : w.alloc (.cells #[.int .i64 0, .bool false, .slice none 0 0, .slice none 0 0] 25) = w1 at *
  have HQ1 := Lib.hid hq1
  have HB1 := Lib.hid hb1
  have HZ1 := Lib.hid hz1
  have HR1 := Lib.hid hr1
  obtain ⟨c0, c1, -, -⟩ := hr1.cells
  clear hq1 hb1 hr1 hr hz1
  go_enter Tryz.func128, Tryz.ntmps128
  go_wp2_with fail
  refine (HS.out _).mono ?_
  rintro e w2 ⟨rfl, b2⟩
  clear c0 c1
  go_wp2_with fail
  refine (at_any s _ _).mono ?_
  rintro e w3 ⟨rfl, b3⟩
  have hbz := (b2.trans (b3.mono b2.size))
  have hbx := sbelow_new w3 (.cells #[.int .i64 0, .bool false, .slice none 0 0, .slice none 0 0] 25)
  have HST : Hid (BsSt w rb s k n d w3.heap.size (.int .i64 0) (.bool false) (.slice none 0 0) (.slice none 0 0) (w3.alloc (.cells #[.int .i64 0, .bool false, .slice none 0 0, .slice none 0 0] 25))) := Lib.hid
    ⟨(HR1.out.step hbz).step hbx, (HQ1.out.step hbz).step hbx, quad_new w3 _ _ _ _ _, ((Keeps.of_below HB1.out).next hbz).next hbx, ⟨HRB.out, by have := hbz.size; have := HZ1.out; omega⟩⟩
  have HORD : Hid (rb < w.heap.size ∧ w.heap.size < w3.heap.size) := Lib.hid HST.out.ord
  clear b2 b3 hbz hbx hw1
  go_wp2_with fail
  generalize w3.alloc (.cells #[.int .i64 0, .bool false, .slice none 0 0, .slice none 0 0] 25) = w4 at *
  generalize w3.heap.size = xb at *
  have h40 : ¬ byteI s (skp s k) = 40 := by rw [h91]; decide
  have h46 : ¬ byteI s (skp s k) = 46 := by rw [h91]; decide
  refine (HT40.out _ HST.out.rd).mono ?_
  rintro e w5 ⟨rfl, hr, hkp⟩
  rw [decide_eq_false h40]
  have HS5 : Hid (BsSt w rb s k n d xb (.int .i64 0) (.bool false) (.slice none 0 0) (.slice none 0 0) w5) := Lib.hid (HST.out.go (by unfold tkK at hr; rwa [if_neg h40] at hr) hkp)
  clear hr hkp
  go_wp2_with fail
  refine (HT46.out _ HS5.out.rd).mono ?_
  rintro e w6 ⟨rfl, hr, hkp⟩
  rw [decide_eq_false h46]
  have HS6 : Hid (BsSt w rb s k n d xb (.int .i64 0) (.bool false) (.slice none 0 0) (.slice none 0 0) w6) := Lib.hid (HS5.out.go (by unfold tkK at hr; rwa [if_neg h46] at hr) hkp)
  clear hr hkp
  go_wp2_with fail
  refine (HT91.out _ HS6.out.rd).mono ?_
  rintro e w7 ⟨rfl, hr, hkp⟩
  rw [decide_eq_true h91]
  have HS7 : Hid (BsSt w rb s (skp s k + 1) n d xb (.int .i64 0) (.bool false) (.slice none 0 0) (.slice none 0 0) w7) := Lib.hid (HS6.out.go (by unfold tkK at hr; rwa [if_pos h91] at hr) hkp)
  clear hr hkp
  have HE := Lib.hid (bsR_91 (sub := sub) (n := n) h91)
  have hlt := byteI_in h91 (by decide)
  have hl1 : skp s k + 1 ≤ s.size := by omega
  have HCH := Lib.hid (fun W (h : Rd W rb s (skp s k + 1) n d) => choice_any s (skp s k + 1) n d rb hs hl1 W h)
  have HCL := Lib.hid (fun k' n' x (h : chX s (skp s k + 1) n = .ok k' n' x) => chX_le h)
  have HCZ := Lib.hid (fun c a (h : chX s (skp s k + 1) n = .er c a) => chX_nz hl1 h)
  clear h40 h46 h91 hlt hl1
  go_wp2_with fail
  refine (HCH.out _ HS7.out.rd).mono ?_
  intro e w8 hout
  have hz7 : w.heap.size < w7.heap.size := HS7.out.res.lt
  cases ho : chX s (skp s k + 1) n with
  | er cc aa =>
    rw [ho] at hout HE
    obtain ⟨fb, xk, xt, xa1, xl1, xc1, xa2, xl2, xc2, rfl, hf, hkp⟩ := hout
    have HR8 := Lib.hid (HS7.out.res.keeps hkp (by have := HORD.out; omega))
    have HX8 := Lib.hid (HS7.out.x.keeps hkp (by have := HORD.out; omega))
    have HK8 := Lib.hid (HS7.out.keep.trans hkp)
    have HF8 := Lib.hid hf
    have HC0 := Lib.hid (HCZ.out _ _ ho)
    clear ho hf hkp
    have hkx := keeps_set4 w8 xb 0 (.int .i64 xk) (.bool xt) (.slice xa1 xl1 xc1) (.slice xa2 xl2 xc2)
    have HR9 := Lib.hid (HR8.out.keeps hkx (by have := HORD.out; omega))
    have HF9 := Lib.hid (HF8.out.setq HC0.out HX8.out (.int .i64 xk) (.bool xt) (.slice xa1 xl1 xc1) (.slice xa2 xl2 xc2))
    have HK9 : Hid (Keeps (· = rb) w (set4 w8 xb 0 (.int .i64 xk) (.bool xt) (.slice xa1 xl1 xc1) (.slice xa2 xl2 xc2))) := Lib.hid (by
      have ho := HORD.out
      unfold set4
      exact (((HK8.out.setCell (q := ⟨xb, 0, none⟩) (.inl (by show w.heap.size ≤ xb; omega)) _).setCell (q := ⟨xb, 0 + 1, none⟩) (.inl (by show w.heap.size ≤ xb; omega)) _).setCell (q := ⟨xb, 0 + 2, none⟩) (.inl (by show w.heap.size ≤ xb; omega)) _).setCell (q := ⟨xb, 0 + 3, none⟩) (.inl (by show w.heap.size ≤ xb; omega)) _)
    obtain ⟨x0, x1, x2, x3⟩ := HX8.out.cells
    have xf0 := HX8.out.fz 0
    have xf1 := HX8.out.fz 1
    have xf2 := HX8.out.fz 2
    have xf3 := HX8.out.fz 3
    clear hkx
    unfold pf
    go_upto_region 13 with (fail)
    unfold set4 at HR9 HF9 HK9
    generalize (((w8.setCell ⟨xb, 0, none⟩ (.int .i64 xk)).setCell ⟨xb, 0 + 1, none⟩ (.bool xt)).setCell ⟨xb, 0 + 2, none⟩ (.slice xa1 xl1 xc1)).setCell ⟨xb, 0 + 3, none⟩ (.slice xa2 xl2 xc2) = w9 at *
    clear x0 x1 x2 x3 xf0 xf1 xf2 xf3
    have r0 := HR9.out.cells.1
    have r1 := HR9.out.cells.2.1
    have r2 := HR9.out.cells.2.2.1
    have r3 := HR9.out.cells.2.2.2
    have rf0 := HR9.out.fz 0
    have rf1 := HR9.out.fz 1
    have rf2 := HR9.out.fz 2
    have rf3 := HR9.out.fz 3
    go_wp2_with fail
    have ho := out_er (s := s) (d := d) (k1 := 0) (t1 := false) (a1 := none) (l1 := 0) (c1 := 0) (a2 := none) (l2 := 0) (c2 := 0) HR9.out HK9.out HF9.out HC0.out
    obtain ⟨q0, q1, q2, q3⟩ := (HR9.out.set4 (.int .i64 0) (.bool false) (.slice none 0 0) (.slice none 0 0)).cells
    unfold set4 at q0 q1 q2 q3 ho
    refine bodyPost_ret (v := .tuple #[.agg #[.int .i64 0, .bool false, .slice none 0 0, .slice none 0 0], pf fb]) (by simp [results, Tryz.results128, go_sem, q0, q1, q2, q3, pf]) rfl ?_
    rw [HE.out]
    exact ho
  | ok k8 n8 x8 =>
    rw [ho] at hout HE
    obtain ⟨xk, xt, xa1, xl1, xc1, xa2, xl2, xc2, rfl, hv, hrd, hkp⟩ := hout
    obtain ⟨hk8, hn8⟩ := HCL.out _ _ _ ho
    have hn9 := hn8.symm
    subst hn9
    have HX6 := Lib.hid (HS7.out.go hrd hkp)
    have HV : Hid (ExC (fun q => w.heap.size < q ∧ q ≠ xb) w8 _ x8) := Lib.hid (hv.move (P' := fun q => w.heap.size < q ∧ q ≠ xb) (Nat.le_refl _) (fun q hq _ => ⟨⟨by omega, by have := HS7.out.x.lt; omega⟩, rfl⟩))
    clear ho hv hkp hrd
    have HP := Lib.hid (HX6.out.put (.int .i64 xk) (.bool xt) (.slice xa1 xl1 xc1) (.slice xa2 xl2 xc2))
    have hk4 := keeps_set4 w8 xb 0 (.int .i64 xk) (.bool xt) (.slice xa1 xl1 xc1) (.slice xa2 xl2 xc2)
    have HV9 := Lib.hid (HV.out.move (P' := fun q => w.heap.size < q) hk4.size (fun q hq hlt => ⟨hq.1, hk4.block q hlt hq.2⟩))
    clear hk4
    obtain ⟨x0, x1, x2, x3⟩ := HX6.out.x.cells
    have xf0 := HX6.out.x.fz 0
    have xf1 := HX6.out.x.fz 1
    have xf2 := HX6.out.x.fz 2
    have xf3 := HX6.out.x.fz 3
    unfold set4 at HP HV9
    go_wp2_with fail
    generalize (((w8.setCell ⟨xb, 0, none⟩ (.int .i64 xk)).setCell ⟨xb, 0 + 1, none⟩ (.bool xt)).setCell ⟨xb, 0 + 2, none⟩ (.slice xa1 xl1 xc1)).setCell ⟨xb, 0 + 3, none⟩ (.slice xa2 xl2 xc2) = w9 at *
    clear x0 x1 x2 x3 xf0 xf1 xf2 xf3
    have hX : QuadAt 25 w9.drew xb (.int .i64 xk) (.bool xt) (.slice xa1 xl1 xc1) (.slice xa2 xl2 xc2) := HP.out.x
    have hR : QuadAt 25 w9.drew w.heap.size (.int .i64 0) (.bool false) (.slice none 0 0) (.slice none 0 0) := HP.out.res
    have hRD : Rd w9.drew rb s k8 n d := HP.out.rd
    have hKP : Keeps (· = rb) w w9.drew := HP.out.keep.drew
    have hVV : ExC (fun q => w.heap.size < q) w9.drew [.int .i64 xk, .bool xt, .slice xa1 xl1 xc1, .slice xa2 xl2 xc2] x8 := HV9.out.move (Nat.le_refl _) (fun q hq _ => ⟨hq, rfl⟩)
    have hxr : xb ≠ rb := by have := HORD.out; omega
    have hrr : w.heap.size ≠ rb := by have := HORD.out; omega
    have hxw : xb ≠ w.heap.size := by have := HORD.out; omega
    have hxw' := hxw.symm
    by_cases hn1 : n + 1 ≤ 100
    · have HTA := Lib.hid (fun W (h : Rd W rb s k8 n d) => count_yes s k8 n d rb (skp s k) hn1 W h)
      have HE3 := Lib.hid (HE.out.trans (by rw [cnt, if_neg (by omega)]))
      obtain ⟨x0, x1, x2, x3⟩ := hX.cells
      clear hn1
      go_region_held3 (fun W => W.cell? ⟨xb, 0, none⟩ = some (.int .i64 xk) ∧ W.cell? ⟨xb, 1, none⟩ = some (.bool xt) ∧ W.cell? ⟨xb, 2, none⟩ = some (.slice xa1 xl1 xc1) ∧ W.cell? ⟨xb, 3, none⟩ = some (.slice xa2 xl2 xc2))
        (first | go_keep | exact hX.cells)
        (first
        | (go_at_call 106; refine (HTA.out _ hRD).mono ?_; rintro e w' ⟨rfl, hrd, hkp⟩; replace hX := hX.keeps hkp hxr; replace hR := hR.keeps hkp hrr; replace hKP := hKP.trans hkp; replace hVV := hVV.move (P' := fun q => w.heap.size < q) hkp.size (fun q hq hlt => ⟨hq, hkp.block q hlt (by have := HORD.out; omega)⟩); have r0 := hR.cells.1; have r1 := hR.cells.2.1; have r2 := hR.cells.2.2.1; have r3 := hR.cells.2.2.2; have rf0 := hR.fz 0; have rf1 := hR.fz 1; have rf2 := hR.fz 2; have rf3 := hR.fz 3))
      go_wp2
      have ho := out_ok HORD.out.1 hKP hrd hVV
      obtain ⟨q0, q1, q2, q3⟩ := (hR.set4 (.int .i64 xk) (.bool xt) (.slice xa1 xl1 xc1) (.slice xa2 xl2 xc2)).cells
      unfold set4 at q0 q1 q2 q3 ho
      refine bodyPost_ret (v := .tuple #[.agg #[.int .i64 xk, .bool xt, .slice xa1 xl1 xc1, .slice xa2 xl2 xc2], .nilIface]) (by simp [results, Tryz.results128, go_sem, q0, q1, q2, q3]) rfl ?_
      rw [HE3.out]
      exact ho
    · have HTA := Lib.hid (fun W (h : Rd W rb s k8 n d) => count_no s k8 n d rb (skp s k) (by omega) (by omega) W h)
      have HE3 := Lib.hid (HE.out.trans (by rw [cnt, if_pos (by omega)]))
      obtain ⟨x0, x1, x2, x3⟩ := hX.cells
      clear hn1
      go_region_held3 (fun W => W.cell? ⟨xb, 0, none⟩ = some (.int .i64 xk) ∧ W.cell? ⟨xb, 1, none⟩ = some (.bool xt) ∧ W.cell? ⟨xb, 2, none⟩ = some (.slice xa1 xl1 xc1) ∧ W.cell? ⟨xb, 3, none⟩ = some (.slice xa2 xl2 xc2))
        (first | go_keep | exact hX.cells)
        (first
        | (go_at_call 106; refine (HTA.out _ hRD).mono ?_; rintro e w' ⟨fb, rfl, hff, hkp⟩; replace hX := hX.keeps hkp hxr; replace hR := hR.keeps hkp hrr; replace hKP := hKP.trans hkp; have r0 := hR.cells.1; have r1 := hR.cells.2.1; have r2 := hR.cells.2.2.1; have r3 := hR.cells.2.2.2; have rf0 := hR.fz 0; have rf1 := hR.fz 1; have rf2 := hR.fz 2; have rf3 := hR.fz 3))
      unfold pf
      go_wp2
      have ho := out_er (s := s) (d := d) (k1 := xk) (t1 := xt) (a1 := xa1) (l1 := xl1) (c1 := xc1) (a2 := xa2) (l2 := xl2) (c2 := xc2) hR hKP hff (by decide)
      obtain ⟨q0, q1, q2, q3⟩ := (hR.set4 (.int .i64 xk) (.bool xt) (.slice xa1 xl1 xc1) (.slice xa2 xl2 xc2)).cells
      unfold set4 at q0 q1 q2 q3 ho
      refine bodyPost_ret (v := .tuple #[.agg #[.int .i64 xk, .bool xt, .slice xa1 xl1 xc1, .slice xa2 xl2 xc2], pf fb]) (by simp [results, Tryz.results128, go_sem, q0, q1, q2, q3, pf]) rfl ?_
      rw [HE3.out]
      exact ho

set_option maxRecDepth 100000 in
set_option maxHeartbeats 8000000 in
theorem base_word (s : ByteArray) (sub : Option (Nat → Nat → RO Rx)) (k n d rb : Nat) (hs : s.size ≤ 100000) (hk : k ≤ s.size) (hn : n ≤ 100) (h40 : ¬ byteI s (skp s k) = 40) (h46 : ¬ byteI s (skp s k) = 46) (h91 : ¬ byteI s (skp s k) = 91) (w : World) (hr : Rd w rb s k n d) :
    Calls Tryz.prog 128 #[.pointer (some ⟨rb, 0, none⟩)] w (XrOut w rb s d (bsR s sub k n)) := by
  have hq1 := quad_new w 25 (.int .i64 0) (.bool false) (.slice none 0 0) (.slice none 0 0)
  have hb1 := sbelow_new w (.cells #[.int .i64 0, .bool false, .slice none 0 0, .slice none 0 0] 25)
  have hr1 := hr.step hb1
  have hz1 : (w.alloc (.cells #[.int .i64 0, .bool false, .slice none 0 0, .slice none 0 0] 25)).heap.size = w.heap.size + 1 := World.size_alloc _ _
  have HRB := Lib.hid hr.lt
  have HKL := Lib.hid hk
  have HJL := Lib.hid (skp_le hk).2
  have HS : Hid (∀ W, Calls Tryz.prog 45 #[.agg #[.string s, .int .i64 k]] W fun e w' => e = .returned (.agg #[.string s, .int .i64 (skp s k)]) ∧ Below W.heap.size W w') := Lib.hid (fun W => skip_any s k hs hk W)
  have HT40 := Lib.hid (fun W (h : Rd W rb s k n d) => took_any s k n d rb 40 (by decide) hs hk W h)
  rw [show ((40 : UInt8).toNat : Int) = 40 from rfl] at HT40
  have HT46 := Lib.hid (fun W (h : Rd W rb s k n d) => took_any s k n d rb 46 (by decide) hs hk W h)
  rw [show ((46 : UInt8).toNat : Int) = 46 from rfl] at HT46
  have HT91 := Lib.hid (fun W (h : Rd W rb s k n d) => took_any s k n d rb 91 (by decide) hs hk W h)
  rw [show ((91 : UInt8).toNat : Int) = 91 from rfl] at HT91
  generalize hw1 : w.alloc (.cells #[.int .i64 0, .bool false, .slice none 0 0, .slice none 0 0] 25) = w1 at *
  have HQ1 := Lib.hid hq1
  have HB1 := Lib.hid hb1
  have HZ1 := Lib.hid hz1
  have HR1 := Lib.hid hr1
  obtain ⟨c0, c1, -, -⟩ := hr1.cells
  clear hq1 hb1 hr1 hr hz1
  go_enter Tryz.func128, Tryz.ntmps128
  go_wp2_with fail
  refine (HS.out _).mono ?_
  rintro e w2 ⟨rfl, b2⟩
  clear c0 c1
  go_wp2_with fail
  refine (at_any s _ _).mono ?_
  rintro e w3 ⟨rfl, b3⟩
  have hbz := (b2.trans (b3.mono b2.size))
  have hbx := sbelow_new w3 (.cells #[.int .i64 0, .bool false, .slice none 0 0, .slice none 0 0] 25)
  have HST : Hid (BsSt w rb s k n d w3.heap.size (.int .i64 0) (.bool false) (.slice none 0 0) (.slice none 0 0) (w3.alloc (.cells #[.int .i64 0, .bool false, .slice none 0 0, .slice none 0 0] 25))) := Lib.hid
    ⟨(HR1.out.step hbz).step hbx, (HQ1.out.step hbz).step hbx, quad_new w3 _ _ _ _ _, ((Keeps.of_below HB1.out).next hbz).next hbx, ⟨HRB.out, by have := hbz.size; have := HZ1.out; omega⟩⟩
  have HORD : Hid (rb < w.heap.size ∧ w.heap.size < w3.heap.size) := Lib.hid HST.out.ord
  clear b2 b3 hbz hbx hw1
  go_wp2_with fail
  generalize w3.alloc (.cells #[.int .i64 0, .bool false, .slice none 0 0, .slice none 0 0] 25) = w4 at *
  generalize w3.heap.size = xb at *
  refine (HT40.out _ HST.out.rd).mono ?_
  rintro e w5 ⟨rfl, hr, hkp⟩
  rw [decide_eq_false h40]
  have HS5 : Hid (BsSt w rb s k n d xb (.int .i64 0) (.bool false) (.slice none 0 0) (.slice none 0 0) w5) := Lib.hid (HST.out.go (by unfold tkK at hr; rwa [if_neg h40] at hr) hkp)
  clear hr hkp
  go_wp2_with fail
  refine (HT46.out _ HS5.out.rd).mono ?_
  rintro e w6 ⟨rfl, hr, hkp⟩
  rw [decide_eq_false h46]
  have HS6 : Hid (BsSt w rb s k n d xb (.int .i64 0) (.bool false) (.slice none 0 0) (.slice none 0 0) w6) := Lib.hid (HS5.out.go (by unfold tkK at hr; rwa [if_neg h46] at hr) hkp)
  clear hr hkp
  go_wp2_with fail
  refine (HT91.out _ HS6.out.rd).mono ?_
  rintro e w7 ⟨rfl, hr, hkp⟩
  rw [decide_eq_false h91]
  have HS7 : Hid (BsSt w rb s k n d xb (.int .i64 0) (.bool false) (.slice none 0 0) (.slice none 0 0) w7) := Lib.hid (HS6.out.go (by unfold tkK at hr; rwa [if_neg h91] at hr) hkp)
  clear hr hkp
  have HE := Lib.hid (bsR_word (sub := sub) (n := n) h40 h46 h91)
  by_cases hc : wdC s (skp s k) = 0
  · rw [if_neg (by rw [hc]; decide)] at HE
    have HW := Lib.hid (fun W (h : Rd W rb s k n d) => rword_yes s k n d rb hs hk hc W h)
    have HWL := Lib.hid (wdK_le HJL.out)
    generalize s.extract (skp s k) (wdK s (skp s k)) = t at *
    clear h40 h46 h91 hc
    go_wp2_with fail
    refine (HW.out _ HS7.out.rd).mono ?_
    rintro e w8 ⟨rfl, hrd, hkp⟩
    have bn := sbelow_new w8 (.cells #[.string t] 9)
    have HX6 := Lib.hid ((HS7.out.go hrd hkp).step bn)
    have HC9 : Hid ((w8.alloc (.cells #[.string t] 9)).heap[w8.heap.size]? = some (.cells #[.string t] 9 (0, 0))) := Lib.hid (heap_alloc_new w8 _)
    have HZ8 : Hid (w.heap.size < w8.heap.size ∧ xb < w8.heap.size) := Lib.hid ⟨by have := HS7.out.res.lt; have := hkp.size; omega, by have := HS7.out.x.lt; have := hkp.size; omega⟩
    clear hrd hkp bn
    obtain ⟨x0, x1, x2, x3⟩ := HX6.out.x.cells
    have xf0 := HX6.out.x.fz 0
    have xf1 := HX6.out.x.fz 1
    have xf2 := HX6.out.x.fz 2
    have xf3 := HX6.out.x.fz 3
    have HP := Lib.hid (HX6.out.put (.int .i64 1) (.bool false) (.slice (some ⟨w8.heap.size, 0, none⟩) 1 1) (.slice none 0 0))
    have hk4 := keeps_set4 (w8.alloc (.cells #[.string t] 9)) xb 0 (.int .i64 1) (.bool false) (.slice (some ⟨w8.heap.size, 0, none⟩) 1 1) (.slice none 0 0)
    have HC10 := Lib.hid ((hk4.block w8.heap.size (by simp) (by have := HZ8.out; omega)).trans HC9.out)
    clear hk4
    go_wp2_with fail
    unfold set4 at HP HC10
    generalize ((((w8.alloc (.cells #[.string t] 9)).setCell ⟨xb, 0, none⟩ (.int .i64 1)).setCell ⟨xb, 0 + 1, none⟩ (.bool false)).setCell ⟨xb, 0 + 2, none⟩ (.slice (some ⟨w8.heap.size, 0, none⟩) 1 1)).setCell ⟨xb, 0 + 3, none⟩ (.slice none 0 0) = w9 at *
    generalize w8.heap.size = sb at *
    clear x0 x1 x2 x3 xf0 xf1 xf2 xf3
    have hX : QuadAt 25 w9.drew xb (.int .i64 1) (.bool false) (.slice (some ⟨sb, 0, none⟩) 1 1) (.slice none 0 0) := HP.out.x
    have hR : QuadAt 25 w9.drew w.heap.size (.int .i64 0) (.bool false) (.slice none 0 0) (.slice none 0 0) := HP.out.res
    have hRD : Rd w9.drew rb s (wdK s (skp s k)) n d := HP.out.rd
    have hKP : Keeps (· = rb) w w9.drew := HP.out.keep.drew
    have hVV : ExC (fun q => w.heap.size < q) w9.drew [.int .i64 1, .bool false, .slice (some ⟨sb, 0, none⟩) 1 1, .slice none 0 0] (.mk 1 false [t] []) := by
      unfold ExC
      refine ⟨_, _, [], rfl, ⟨_, _, rfl, Nat.le_refl _⟩, .inr ⟨sb, 0, 1, rfl, HZ8.out.1, (Array.getElem?_eq_some_iff.1 HC10.out).1, fun j u hu => ?_⟩, RowX.nil _ _, ExsC.nil⟩
      match j, hu with
      | 0, hu =>
        simp at hu
        subst hu
        exact (Lib.cell_of_heap HC10.out 0).trans rfl
    have hxr : xb ≠ rb := by have := HORD.out; omega
    have hrr : w.heap.size ≠ rb := by have := HORD.out; omega
    have hxw : xb ≠ w.heap.size := by have := HORD.out; omega
    have hxw' := hxw.symm
    by_cases hn1 : n + 1 ≤ 100
    · have HTA := Lib.hid (fun W (h : Rd W rb s (wdK s (skp s k)) n d) => count_yes s (wdK s (skp s k)) n d rb (skp s k) hn1 W h)
      have HE3 := Lib.hid (HE.out.trans (by rw [cnt, if_neg (by omega)]))
      obtain ⟨x0, x1, x2, x3⟩ := hX.cells
      clear hn1
      go_region_held3 (fun W => W.cell? ⟨xb, 0, none⟩ = some (.int .i64 1) ∧ W.cell? ⟨xb, 1, none⟩ = some (.bool false) ∧ W.cell? ⟨xb, 2, none⟩ = some (.slice (some ⟨sb, 0, none⟩) 1 1) ∧ W.cell? ⟨xb, 3, none⟩ = some (.slice none 0 0))
        (first | go_keep | exact hX.cells)
        (first
        | (go_at_call 106; refine (HTA.out _ hRD).mono ?_; rintro e w' ⟨rfl, hrd, hkp⟩; replace hX := hX.keeps hkp hxr; replace hR := hR.keeps hkp hrr; replace hKP := hKP.trans hkp; replace hVV := hVV.move (P' := fun q => w.heap.size < q) hkp.size (fun q hq hlt => ⟨hq, hkp.block q hlt (by have := HORD.out; omega)⟩); have r0 := hR.cells.1; have r1 := hR.cells.2.1; have r2 := hR.cells.2.2.1; have r3 := hR.cells.2.2.2; have rf0 := hR.fz 0; have rf1 := hR.fz 1; have rf2 := hR.fz 2; have rf3 := hR.fz 3))
      go_wp2
      have ho := out_ok HORD.out.1 hKP hrd hVV
      obtain ⟨q0, q1, q2, q3⟩ := (hR.set4 (.int .i64 1) (.bool false) (.slice (some ⟨sb, 0, none⟩) 1 1) (.slice none 0 0)).cells
      unfold set4 at q0 q1 q2 q3 ho
      refine bodyPost_ret (v := .tuple #[.agg #[.int .i64 1, .bool false, .slice (some ⟨sb, 0, none⟩) 1 1, .slice none 0 0], .nilIface]) (by simp [results, Tryz.results128, go_sem, q0, q1, q2, q3]) rfl ?_
      rw [HE3.out]
      exact ho
    · have HTA := Lib.hid (fun W (h : Rd W rb s (wdK s (skp s k)) n d) => count_no s (wdK s (skp s k)) n d rb (skp s k) (by omega) (by omega) W h)
      have HE3 := Lib.hid (HE.out.trans (by rw [cnt, if_pos (by omega)]))
      obtain ⟨x0, x1, x2, x3⟩ := hX.cells
      clear hn1
      go_region_held3 (fun W => W.cell? ⟨xb, 0, none⟩ = some (.int .i64 1) ∧ W.cell? ⟨xb, 1, none⟩ = some (.bool false) ∧ W.cell? ⟨xb, 2, none⟩ = some (.slice (some ⟨sb, 0, none⟩) 1 1) ∧ W.cell? ⟨xb, 3, none⟩ = some (.slice none 0 0))
        (first | go_keep | exact hX.cells)
        (first
        | (go_at_call 106; refine (HTA.out _ hRD).mono ?_; rintro e w' ⟨fb, rfl, hff, hkp⟩; replace hX := hX.keeps hkp hxr; replace hR := hR.keeps hkp hrr; replace hKP := hKP.trans hkp; have r0 := hR.cells.1; have r1 := hR.cells.2.1; have r2 := hR.cells.2.2.1; have r3 := hR.cells.2.2.2; have rf0 := hR.fz 0; have rf1 := hR.fz 1; have rf2 := hR.fz 2; have rf3 := hR.fz 3))
      unfold pf
      go_wp2
      have ho := out_er (s := s) (d := d) (k1 := 1) (t1 := false) (a1 := some ⟨sb, 0, none⟩) (l1 := 1) (c1 := 1) (a2 := none) (l2 := 0) (c2 := 0) hR hKP hff (by decide)
      obtain ⟨q0, q1, q2, q3⟩ := (hR.set4 (.int .i64 1) (.bool false) (.slice (some ⟨sb, 0, none⟩) 1 1) (.slice none 0 0)).cells
      unfold set4 at q0 q1 q2 q3 ho
      refine bodyPost_ret (v := .tuple #[.agg #[.int .i64 1, .bool false, .slice (some ⟨sb, 0, none⟩) 1 1, .slice none 0 0], pf fb]) (by simp [results, Tryz.results128, go_sem, q0, q1, q2, q3, pf]) rfl ?_
      rw [HE3.out]
      exact ho
  · rw [if_pos hc] at HE
    have HW := Lib.hid (fun W (h : Rd W rb s k n d) => rword_no s k n d rb hs hk hc W h)
    have HC0 := Lib.hid hc
    generalize wdC s (skp s k) = cc at *
    generalize wdA s (skp s k) = aa at *
    clear h40 h46 h91 hc
    go_wp2_with fail
    refine (HW.out _ HS7.out.rd).mono ?_
    rintro e w8 ⟨fb, rfl, hf, hkp⟩
    have bn := sbelow_new w8 (.cells #[.string ⟨#[]⟩] 9)
    have HR8 := Lib.hid ((HS7.out.res.keeps hkp (by have := HORD.out; omega)).step bn)
    have HX8 := Lib.hid ((HS7.out.x.keeps hkp (by have := HORD.out; omega)).step bn)
    have HK8 := Lib.hid ((HS7.out.keep.trans hkp).next bn)
    have HF8 := Lib.hid (hf.keep bn)
    clear hf hkp bn
    have hkx := keeps_set4 (w8.alloc (.cells #[.string ⟨#[]⟩] 9)) xb 0 (.int .i64 1) (.bool false) (.slice (some ⟨w8.heap.size, 0, none⟩) 1 1) (.slice none 0 0)
    have HR9 := Lib.hid (HR8.out.keeps hkx (by have := HORD.out; omega))
    have HF9 := Lib.hid (HF8.out.setq HC0.out HX8.out (.int .i64 1) (.bool false) (.slice (some ⟨w8.heap.size, 0, none⟩) 1 1) (.slice none 0 0))
    have HK9 : Hid (Keeps (· = rb) w (set4 (w8.alloc (.cells #[.string ⟨#[]⟩] 9)) xb 0 (.int .i64 1) (.bool false) (.slice (some ⟨w8.heap.size, 0, none⟩) 1 1) (.slice none 0 0))) := Lib.hid (by
      have ho := HORD.out
      unfold set4
      exact (((HK8.out.setCell (q := ⟨xb, 0, none⟩) (.inl (by show w.heap.size ≤ xb; omega)) _).setCell (q := ⟨xb, 0 + 1, none⟩) (.inl (by show w.heap.size ≤ xb; omega)) _).setCell (q := ⟨xb, 0 + 2, none⟩) (.inl (by show w.heap.size ≤ xb; omega)) _).setCell (q := ⟨xb, 0 + 3, none⟩) (.inl (by show w.heap.size ≤ xb; omega)) _)
    obtain ⟨x0, x1, x2, x3⟩ := HX8.out.cells
    have xf0 := HX8.out.fz 0
    have xf1 := HX8.out.fz 1
    have xf2 := HX8.out.fz 2
    have xf3 := HX8.out.fz 3
    clear hkx
    unfold pf
    go_upto_region 13 with (fail)
    unfold set4 at HR9 HF9 HK9
    generalize ((((w8.alloc (.cells #[.string ⟨#[]⟩] 9)).setCell ⟨xb, 0, none⟩ (.int .i64 1)).setCell ⟨xb, 0 + 1, none⟩ (.bool false)).setCell ⟨xb, 0 + 2, none⟩ (.slice (some ⟨w8.heap.size, 0, none⟩) 1 1)).setCell ⟨xb, 0 + 3, none⟩ (.slice none 0 0) = w9 at *
    clear x0 x1 x2 x3 xf0 xf1 xf2 xf3
    have r0 := HR9.out.cells.1
    have r1 := HR9.out.cells.2.1
    have r2 := HR9.out.cells.2.2.1
    have r3 := HR9.out.cells.2.2.2
    have rf0 := HR9.out.fz 0
    have rf1 := HR9.out.fz 1
    have rf2 := HR9.out.fz 2
    have rf3 := HR9.out.fz 3
    go_wp2_with fail
    have ho := out_er (s := s) (d := d) (k1 := 0) (t1 := false) (a1 := none) (l1 := 0) (c1 := 0) (a2 := none) (l2 := 0) (c2 := 0) HR9.out HK9.out HF9.out HC0.out
    obtain ⟨q0, q1, q2, q3⟩ := (HR9.out.set4 (.int .i64 0) (.bool false) (.slice none 0 0) (.slice none 0 0)).cells
    unfold set4 at q0 q1 q2 q3 ho
    refine bodyPost_ret (v := .tuple #[.agg #[.int .i64 0, .bool false, .slice none 0 0, .slice none 0 0], pf fb]) (by simp [results, Tryz.results128, go_sem, q0, q1, q2, q3, pf]) rfl ?_
    rw [HE.out]
    exact ho

/-- A base, whatever stands there. -/
theorem base_any (s : ByteArray) (sub : Option (Nat → Nat → RO Rx)) (k n d rb : Nat) (hs : s.size ≤ 100000) (hk : k ≤ s.size) (hn : n ≤ 100) (hsub : SubSpec s sub d) (w : World) (hr : Rd w rb s k n d) :
    Calls Tryz.prog 128 #[.pointer (some ⟨rb, 0, none⟩)] w (XrOut w rb s d (bsR s sub k n)) := by
  by_cases h40 : byteI s (skp s k) = 40
  · exact base_open s sub k n d rb hs hk hn hsub h40 w hr
  · by_cases h46 : byteI s (skp s k) = 46
    · exact base_dot s sub k n d rb hs hk hn h46 w hr
    · by_cases h91 : byteI s (skp s k) = 91
      · exact base_set s sub k n d rb hs hk hn h91 w hr
      · exact base_word s sub k n d rb hs hk hn h40 h46 h91 w hr
end Go.Proofs.YtocfcnhaecmgpaaGreatDoor
