/-
  Package regex's reader by contracts: what stands ahead of a part's signs.
  Package regex's reader by contracts: what stands ahead of a part's signs: a set of words, a word.
  Package regex's reader by contracts: a part: a base, and the signs behind it.
-/
import Derived.Test.YtpccdhkghlbhkaaGreatDoorGa
namespace Go.Proofs.YtpccdhkghlbhkaaGreatDoor
open Go.RowKit Go.Extern.Stop Go.Stop Go.Extern Go.WideMaps

theorem bsR_40 {s : ByteArray} {sub : Option (Nat → Nat → RO Rx)} {k n : Nat} (h : byteI s (skp s k) = 40) : bsR s sub k n = brR s sub (skp s k + 1) n (skp s k) := by
  unfold bsR brR
  rw [if_pos h]
  cases sub <;> rfl
theorem bsR_46 {s : ByteArray} {sub : Option (Nat → Nat → RO Rx)} {k n : Nat} (h : byteI s (skp s k) = 46) : bsR s sub k n = cnt (skp s k + 1) n (.mk 0 false [] []) (skp s k) := by
  unfold bsR
  rw [if_neg (by rw [h]; decide), if_pos h]
theorem bsR_91 {s : ByteArray} {sub : Option (Nat → Nat → RO Rx)} {k n : Nat} (h : byteI s (skp s k) = 91) : bsR s sub k n = (match chX s (skp s k + 1) n with | .er c a => .er c a | .ok k' _ x => cnt k' n x (skp s k)) := by
  unfold bsR chX
  rw [if_neg (by rw [h]; decide), if_neg (by rw [h]; decide), if_pos h]
  cases chR s (s.size + 1) (notK s (skp s k + 1)) [] <;> rfl
theorem bsR_word {s : ByteArray} {sub : Option (Nat → Nat → RO Rx)} {k n : Nat} (h1 : ¬ byteI s (skp s k) = 40) (h2 : ¬ byteI s (skp s k) = 46) (h3 : ¬ byteI s (skp s k) = 91) :
    bsR s sub k n = if wdC s (skp s k) ≠ 0 then .er (wdC s (skp s k)) (wdA s (skp s k)) else cnt (wdK s (skp s k)) n (.mk 1 false [s.extract (skp s k) (wdK s (skp s k))] []) (skp s k) := by
  unfold bsR
  rw [if_neg h1, if_neg h2, if_neg h3]
theorem chX_le {s : ByteArray} {k n k' n' : Nat} {x : Rx} (h : chX s k n = .ok k' n' x) : k' ≤ s.size ∧ n' = n := by
  unfold chX at h
  split at h
  · cases h
  · rename_i k1 n1 ws e
    injection h with h1 h2 h3
    exact ⟨by rw [← h1]; exact chR_le _ _ _ _ _ _ e, h2.symm⟩
theorem chR_nz {s : ByteArray} : ∀ (f k : Nat) (seen : List ByteArray) (c : Int) (a : Nat), s.size < k + f → k ≤ s.size → chR s f k seen = .er c a → c ≠ 0
  | 0, k, seen, c, a, h0, h1, _ => by omega
  | f + 1, k, seen, c, a, h0, h1, h => by
    rw [chR] at h
    split at h
    · rename_i h2
      injection h with h3 h4
      rw [← h3]; exact h2
    · split at h
      · injection h with h3 h4
        rw [← h3]; decide
      · split at h
        · rename_i h2
          have h3 := byteI_in h2 (by decide : (44 : Int) ≠ 0)
          have h4 := (skp_le h1)
          have h5 := wdK_le h4.2
          have h6 := skp_le h5.2
          exact chR_nz f _ _ c a (by omega) (by omega) h
        · split at h
          · cases h
          · injection h with h3 h4
            rw [← h3]; exact missC_ne s _
theorem chX_nz {s : ByteArray} {k n : Nat} {c : Int} {a : Nat} (hk : k ≤ s.size) (h : chX s k n = .er c a) : c ≠ 0 := by
  unfold chX at h
  split at h
  · rename_i c1 a1 e
    injection h with h1 h2
    rw [← h1]
    have : notK s k ≤ s.size := by rw [notK_eq]; exact tkK_le hk (by decide)
    exact chR_nz _ _ _ _ _ (by omega) this e
  · cases h
theorem cnt_nz {α : Type} {k n a : Nat} {x : α} {c : Int} {b : Nat} (h : cnt k n x a = .er c b) : c ≠ 0 := by
  unfold cnt at h
  split at h
  · injection h with h1 h2; rw [← h1]; decide
  · cases h

set_option maxRecDepth 100000 in
set_option maxHeartbeats 8000000 in
theorem base_open (s : ByteArray) (sub : Option (Nat → Nat → RO Rx)) (k n d rb : Nat) (hs : s.size ≤ 100000) (hk : k ≤ s.size) (hn : n ≤ 100) (hsub : SubSpec s sub d) (h40 : byteI s (skp s k) = 40) (w : World) (hr : Rd w rb s k n d) :
    Calls Tryz.prog 79 #[.pointer (some ⟨rb, 0, none⟩)] w (XrOut w rb s d (bsR s sub k n)) := by
  have hq1 := quad_new w 26 (.int .i64 0) (.bool false) (.slice none 0 0) (.slice none 0 0)
  have hb1 := sbelow_new w (.cells #[.int .i64 0, .bool false, .slice none 0 0, .slice none 0 0] 26)
  have hr1 := hr.step hb1
  have hz1 : (w.alloc (.cells #[.int .i64 0, .bool false, .slice none 0 0, .slice none 0 0] 26)).heap.size = w.heap.size + 1 := World.size_alloc _ _
  have HRB := Lib.hid hr.lt
  have HKL := Lib.hid hk
  have HJL := Lib.hid (skp_le hk).2
  have HS : Hid (∀ W, Calls Tryz.prog 20 #[.agg #[.string s, .int .i64 k]] W fun e w' => e = .returned (.agg #[.string s, .int .i64 (skp s k)]) ∧ Below W.heap.size W w') := Lib.hid (fun W => skip_any s k hs hk W)
  have HT40 := Lib.hid (fun W (h : Rd W rb s k n d) => took_any s k n d rb 40 (by decide) hs hk W h)
  rw [show ((40 : UInt8).toNat : Int) = 40 from rfl] at HT40
  have HT46 := Lib.hid (fun W (h : Rd W rb s k n d) => took_any s k n d rb 46 (by decide) hs hk W h)
  rw [show ((46 : UInt8).toNat : Int) = 46 from rfl] at HT46
  have HT91 := Lib.hid (fun W (h : Rd W rb s k n d) => took_any s k n d rb 91 (by decide) hs hk W h)
  rw [show ((91 : UInt8).toNat : Int) = 91 from rfl] at HT91
  generalize hw1 : w.alloc (.cells #[.int .i64 0, .bool false, .slice none 0 0, .slice none 0 0] 26) = w1 at *
  have HQ1 := Lib.hid hq1
  have HB1 := Lib.hid hb1
  have HZ1 := Lib.hid hz1
  have HR1 := Lib.hid hr1
  obtain ⟨c0, c1, -, -⟩ := hr1.cells
  clear hq1 hb1 hr1 hr hz1
  go_enter Tryz.func79, Tryz.ntmps79
  go_wp2_with fail
  refine (HS.out _).mono ?_
  rintro e w2 ⟨rfl, b2⟩
  clear c0 c1
  go_wp2_with fail
  refine (at_any s _ _).mono ?_
  rintro e w3 ⟨rfl, b3⟩
  have hbz := (b2.trans (b3.mono b2.size))
  have hbx := sbelow_new w3 (.cells #[.int .i64 0, .bool false, .slice none 0 0, .slice none 0 0] 26)
  have HST : Hid (BsSt w rb s k n d w3.heap.size (.int .i64 0) (.bool false) (.slice none 0 0) (.slice none 0 0) (w3.alloc (.cells #[.int .i64 0, .bool false, .slice none 0 0, .slice none 0 0] 26))) := Lib.hid
    ⟨(HR1.out.step hbz).step hbx, (HQ1.out.step hbz).step hbx, quad_new w3 _ _ _ _ _, ((Keeps.of_below HB1.out).next hbz).next hbx, ⟨HRB.out, by have := hbz.size; have := HZ1.out; omega⟩⟩
  have HORD : Hid (rb < w.heap.size ∧ w.heap.size < w3.heap.size) := Lib.hid HST.out.ord
  clear b2 b3 hbz hbx hw1
  go_wp2_with fail
  generalize w3.alloc (.cells #[.int .i64 0, .bool false, .slice none 0 0, .slice none 0 0] 26) = w4 at *
  generalize w3.heap.size = xb at *
  refine (HT40.out _ HST.out.rd).mono ?_
  rintro e w5 ⟨rfl, hr, hkp⟩
  rw [decide_eq_true h40]
  have HS5 : Hid (BsSt w rb s (skp s k + 1) n d xb (.int .i64 0) (.bool false) (.slice none 0 0) (.slice none 0 0) w5) := Lib.hid (HST.out.go (by unfold tkK at hr; rwa [if_pos h40] at hr) hkp)
  clear hr hkp
  have HE := Lib.hid (bsR_40 (sub := sub) (n := n) h40)
  have hlt := byteI_in h40 (by decide)
  clear h40 HT46 HT91
  have HBR := Lib.hid (fun W (h : Rd W rb s (skp s k + 1) n d) => brackets_any s sub (skp s k + 1) n d rb (skp s k) hs (by omega) hn hsub W h)
  go_wp2_with fail
  refine (HBR.out _ HS5.out.rd).mono ?_
  intro e w6 hout
  have HNZ : Hid (∀ c a, brR s sub (skp s k + 1) n (skp s k) = .er c a → c ≠ 0) := Lib.hid (by
    intro c a h
    unfold brR at h
    split at h
    · injection h with h1 h2; rw [← h1]; decide
    · rename_i f
      obtain ⟨-, -, -, hz⟩ := hsub
      split at h
      · exact cnt_nz h
      · split at h
        · rename_i c1 a1 e1
          injection h with h1 h2
          rw [← h1]; exact hz _ _ _ _ (by omega) e1
        · split at h
          · cases h
          · injection h with h1 h2; rw [← h1]; exact missC_ne s _)
  have hz5 : w.heap.size < w5.heap.size := HS5.out.res.lt
  cases ho : brR s sub (skp s k + 1) n (skp s k) with
  | er cc aa =>
    rw [ho] at hout HE
    obtain ⟨fb, xk, xt, xa1, xl1, xc1, xa2, xl2, xc2, rfl, hf, hkp⟩ := hout
    have HR := Lib.hid (HS5.out.res.keeps hkp (by have := HORD.out; omega))
    have HK := Lib.hid (HS5.out.keep.trans hkp)
    have HF := Lib.hid hf
    have HC0 := Lib.hid (HNZ.out _ _ ho)
    clear ho hf hkp
    have r0 := HR.out.cells.1
    have r1 := HR.out.cells.2.1
    have r2 := HR.out.cells.2.2.1
    have r3 := HR.out.cells.2.2.2
    have rf0 := HR.out.fz 0
    have rf1 := HR.out.fz 1
    have rf2 := HR.out.fz 2
    have rf3 := HR.out.fz 3
    unfold pf
    go_wp2_with fail
    have ho := out_er (s := s) (d := d) (k1 := xk) (t1 := xt) (a1 := xa1) (l1 := xl1) (c1 := xc1) (a2 := xa2) (l2 := xl2) (c2 := xc2) HR.out HK.out HF.out HC0.out
    obtain ⟨q0, q1, q2, q3⟩ := (HR.out.set4 (.int .i64 xk) (.bool xt) (.slice xa1 xl1 xc1) (.slice xa2 xl2 xc2)).cells
    unfold set4 at q0 q1 q2 q3 ho
    refine bodyPost_ret (v := .tuple #[.agg #[.int .i64 xk, .bool xt, .slice xa1 xl1 xc1, .slice xa2 xl2 xc2], pf fb]) (by simp [results, Tryz.results79, go_sem, q0, q1, q2, q3, pf]) rfl ?_
    rw [HE.out]
    exact ho
  | ok k6 n6 x6 =>
    rw [ho] at hout HE
    obtain ⟨xk, xt, xa1, xl1, xc1, xa2, xl2, xc2, rfl, hv, hrd, hkp⟩ := hout
    have HR := Lib.hid (HS5.out.res.keeps hkp (by have := HORD.out; omega))
    have HK := Lib.hid (HS5.out.keep.trans hkp)
    have HV : Hid (ExC (fun q => w.heap.size < q) w6 _ x6) := Lib.hid (hv.move (Nat.le_refl _) (fun q hq _ => ⟨by omega, rfl⟩))
    have HD := Lib.hid hrd
    clear ho hv hkp hrd
    have r0 := HR.out.cells.1
    have r1 := HR.out.cells.2.1
    have r2 := HR.out.cells.2.2.1
    have r3 := HR.out.cells.2.2.2
    have rf0 := HR.out.fz 0
    have rf1 := HR.out.fz 1
    have rf2 := HR.out.fz 2
    have rf3 := HR.out.fz 3
    go_wp2_with fail
    have ho := out_ok HORD.out.1 HK.out HD.out HV.out
    obtain ⟨q0, q1, q2, q3⟩ := (HR.out.set4 (.int .i64 xk) (.bool xt) (.slice xa1 xl1 xc1) (.slice xa2 xl2 xc2)).cells
    unfold set4 at q0 q1 q2 q3 ho
    refine bodyPost_ret (v := .tuple #[.agg #[.int .i64 xk, .bool xt, .slice xa1 xl1 xc1, .slice xa2 xl2 xc2], .nilIface]) (by simp [results, Tryz.results79, go_sem, q0, q1, q2, q3]) rfl ?_
    rw [HE.out]
    exact ho

set_option maxRecDepth 100000 in
set_option maxHeartbeats 8000000 in
theorem base_dot (s : ByteArray) (sub : Option (Nat → Nat → RO Rx)) (k n d rb : Nat) (hs : s.size ≤ 100000) (hk : k ≤ s.size) (hn : n ≤ 100) (h46 : byteI s (skp s k) = 46) (w : World) (hr : Rd w rb s k n d) :
    Calls Tryz.prog 79 #[.pointer (some ⟨rb, 0, none⟩)] w (XrOut w rb s d (bsR s sub k n)) := by
  have hq1 := quad_new w 26 (.int .i64 0) (.bool false) (.slice none 0 0) (.slice none 0 0)
  have hb1 := sbelow_new w (.cells #[.int .i64 0, .bool false, .slice none 0 0, .slice none 0 0] 26)
  have hr1 := hr.step hb1
  have hz1 : (w.alloc (.cells #[.int .i64 0, .bool false, .slice none 0 0, .slice none 0 0] 26)).heap.size = w.heap.size + 1 := World.size_alloc _ _
  have HRB := Lib.hid hr.lt
  have HKL := Lib.hid hk
  have HJL := Lib.hid (skp_le hk).2
  have HS : Hid (∀ W, Calls Tryz.prog 20 #[.agg #[.string s, .int .i64 k]] W fun e w' => e = .returned (.agg #[.string s, .int .i64 (skp s k)]) ∧ Below W.heap.size W w') := Lib.hid (fun W => skip_any s k hs hk W)
  have HT40 := Lib.hid (fun W (h : Rd W rb s k n d) => took_any s k n d rb 40 (by decide) hs hk W h)
  rw [show ((40 : UInt8).toNat : Int) = 40 from rfl] at HT40
  have HT46 := Lib.hid (fun W (h : Rd W rb s k n d) => took_any s k n d rb 46 (by decide) hs hk W h)
  rw [show ((46 : UInt8).toNat : Int) = 46 from rfl] at HT46
  have HT91 := Lib.hid (fun W (h : Rd W rb s k n d) => took_any s k n d rb 91 (by decide) hs hk W h)
  rw [show ((91 : UInt8).toNat : Int) = 91 from rfl] at HT91
  generalize hw1 : w.alloc (.cells #[.int .i64 0, .bool false, .slice none 0 0, .slice none 0 0] 26) = w1 at *
  have HQ1 := Lib.hid hq1
  have HB1 := Lib.hid hb1
  have HZ1 := Lib.hid hz1
  have HR1 := Lib.hid hr1
  obtain ⟨c0, c1, -, -⟩ := hr1.cells
  clear hq1 hb1 hr1 hr hz1
  go_enter Tryz.func79, Tryz.ntmps79
  go_wp2_with fail
  refine (HS.out _).mono ?_
  rintro e w2 ⟨rfl, b2⟩
  clear c0 c1
  go_wp2_with fail
  refine (at_any s _ _).mono ?_
  rintro e w3 ⟨rfl, b3⟩
  have hbz := (b2.trans (b3.mono b2.size))
  have hbx := sbelow_new w3 (.cells #[.int .i64 0, .bool false, .slice none 0 0, .slice none 0 0] 26)
  have HST : Hid (BsSt w rb s k n d w3.heap.size (.int .i64 0) (.bool false) (.slice none 0 0) (.slice none 0 0) (w3.alloc (.cells #[.int .i64 0, .bool false, .slice none 0 0, .slice none 0 0] 26))) := Lib.hid
    ⟨(HR1.out.step hbz).step hbx, (HQ1.out.step hbz).step hbx, quad_new w3 _ _ _ _ _, ((Keeps.of_below HB1.out).next hbz).next hbx, ⟨HRB.out, by have := hbz.size; have := HZ1.out; omega⟩⟩
  have HORD : Hid (rb < w.heap.size ∧ w.heap.size < w3.heap.size) := Lib.hid HST.out.ord
  clear b2 b3 hbz hbx hw1
  go_wp2_with fail
  generalize w3.alloc (.cells #[.int .i64 0, .bool false, .slice none 0 0, .slice none 0 0] 26) = w4 at *
  generalize w3.heap.size = xb at *
  have h40 : ¬ byteI s (skp s k) = 40 := by rw [h46]; decide
  refine (HT40.out _ HST.out.rd).mono ?_
  rintro e w5 ⟨rfl, hr, hkp⟩
  rw [decide_eq_false h40]
  have HS5 : Hid (BsSt w rb s k n d xb (.int .i64 0) (.bool false) (.slice none 0 0) (.slice none 0 0) w5) := Lib.hid (HST.out.go (by unfold tkK at hr; rwa [if_neg h40] at hr) hkp)
  clear hr hkp
  go_wp2_with fail
  refine (HT46.out _ HS5.out.rd).mono ?_
  rintro e w6 ⟨rfl, hr, hkp⟩
  rw [decide_eq_true h46]
  have HS6 : Hid (BsSt w rb s (skp s k + 1) n d xb (.int .i64 0) (.bool false) (.slice none 0 0) (.slice none 0 0) w6) := Lib.hid (HS5.out.go (by unfold tkK at hr; rwa [if_pos h46] at hr) hkp)
  clear hr hkp
  have HE := Lib.hid (bsR_46 (sub := sub) (n := n) h46)
  clear h40 h46 HT91
  obtain ⟨x0, x1, x2, x3⟩ := HS6.out.x.cells
  have xf0 := HS6.out.x.fz 0
  have xf1 := HS6.out.x.fz 1
  have xf2 := HS6.out.x.fz 2
  have xf3 := HS6.out.x.fz 3
  have hkx := keeps_set4 w6 xb 0 (.int .i64 0) (.bool false) (.slice none 0 0) (.slice none 0 0)
  have HX := Lib.hid (HS6.out.x.set4 (.int .i64 0) (.bool false) (.slice none 0 0) (.slice none 0 0))
  have HR := Lib.hid (HS6.out.res.keeps hkx (by have := HORD.out; omega))
  have HD := Lib.hid (QuadAt.keeps HS6.out.rd hkx (by have := HORD.out; omega))
  have HK : Hid (Keeps (· = rb) w (set4 w6 xb 0 (.int .i64 0) (.bool false) (.slice none 0 0) (.slice none 0 0))) := Lib.hid (by
    unfold set4
    have ho := HORD.out
    exact (((HS6.out.keep.setCell (q := ⟨xb, 0, none⟩) (.inl (by show w.heap.size ≤ xb; omega)) _).setCell (q := ⟨xb, 0 + 1, none⟩) (.inl (by show w.heap.size ≤ xb; omega)) _).setCell (q := ⟨xb, 0 + 2, none⟩) (.inl (by show w.heap.size ≤ xb; omega)) _).setCell (q := ⟨xb, 0 + 3, none⟩) (.inl (by show w.heap.size ≤ xb; omega)) _)
  clear hkx
  unfold set4 at HX HR HD HK
  go_wp2_with fail
  generalize (((w6.setCell ⟨xb, 0, none⟩ (.int .i64 0)).setCell ⟨xb, 0 + 1, none⟩ (.bool false)).setCell ⟨xb, 0 + 2, none⟩ (.slice none 0 0)).setCell ⟨xb, 0 + 3, none⟩ (.slice none 0 0) = w7 at *
  clear x0 x1 x2 x3 xf0 xf1 xf2 xf3
  have hX : QuadAt 26 w7.drew xb (.int .i64 0) (.bool false) (.slice none 0 0) (.slice none 0 0) := HX.out
  have hR : QuadAt 26 w7.drew w.heap.size (.int .i64 0) (.bool false) (.slice none 0 0) (.slice none 0 0) := HR.out
  have hRD : Rd w7.drew rb s (skp s k + 1) n d := HD.out
  have hKP : Keeps (· = rb) w w7.drew := HK.out.drew
  have hVV : ExC (fun q => w.heap.size < q) w7.drew [.int .i64 0, .bool false, .slice none 0 0, .slice none 0 0] (.mk 0 false [] []) := by
    unfold ExC
    exact ⟨_, _, [], rfl, CapV.nil, RowX.nil _ _, RowX.nil _ _, ExsC.nil⟩
  have hxr : xb ≠ rb := by have := HORD.out; omega
  have hrr : w.heap.size ≠ rb := by have := HORD.out; omega
  have hxw : xb ≠ w.heap.size := by have := HORD.out; omega
  have hxw' := hxw.symm
  by_cases hn1 : n + 1 ≤ 100
  · have HTA := Lib.hid (fun W (h : Rd W rb s (skp s k + 1) n d) => count_yes s (skp s k + 1) n d rb (skp s k) hn1 W h)
    have HE3 := Lib.hid (HE.out.trans (by rw [cnt, if_neg (by omega)]))
    obtain ⟨x0, x1, x2, x3⟩ := hX.cells
    clear hn1
    go_region_held3 (fun W => W.cell? ⟨xb, 0, none⟩ = some (.int .i64 0) ∧ W.cell? ⟨xb, 1, none⟩ = some (.bool false) ∧ W.cell? ⟨xb, 2, none⟩ = some (.slice none 0 0) ∧ W.cell? ⟨xb, 3, none⟩ = some (.slice none 0 0))
      (first | go_keep | exact hX.cells)
      (first
      | (go_at_call 60; refine (HTA.out _ hRD).mono ?_; rintro e w' ⟨rfl, hrd, hkp⟩; replace hX := hX.keeps hkp hxr; replace hR := hR.keeps hkp hrr; replace hKP := hKP.trans hkp; replace hVV := hVV.move (P' := fun q => w.heap.size < q) hkp.size (fun q hq hlt => ⟨hq, hkp.block q hlt (by have := HORD.out; omega)⟩); have r0 := hR.cells.1; have r1 := hR.cells.2.1; have r2 := hR.cells.2.2.1; have r3 := hR.cells.2.2.2; have rf0 := hR.fz 0; have rf1 := hR.fz 1; have rf2 := hR.fz 2; have rf3 := hR.fz 3))
    go_wp2
    have ho := out_ok HORD.out.1 hKP hrd hVV
    obtain ⟨q0, q1, q2, q3⟩ := (hR.set4 (.int .i64 0) (.bool false) (.slice none 0 0) (.slice none 0 0)).cells
    unfold set4 at q0 q1 q2 q3 ho
    refine bodyPost_ret (v := .tuple #[.agg #[.int .i64 0, .bool false, .slice none 0 0, .slice none 0 0], .nilIface]) (by simp [results, Tryz.results79, go_sem, q0, q1, q2, q3]) rfl ?_
    rw [HE3.out]
    exact ho
  · have HTA := Lib.hid (fun W (h : Rd W rb s (skp s k + 1) n d) => count_no s (skp s k + 1) n d rb (skp s k) (by omega) (by omega) W h)
    have HE3 := Lib.hid (HE.out.trans (by rw [cnt, if_pos (by omega)]))
    obtain ⟨x0, x1, x2, x3⟩ := hX.cells
    clear hn1
    go_region_held3 (fun W => W.cell? ⟨xb, 0, none⟩ = some (.int .i64 0) ∧ W.cell? ⟨xb, 1, none⟩ = some (.bool false) ∧ W.cell? ⟨xb, 2, none⟩ = some (.slice none 0 0) ∧ W.cell? ⟨xb, 3, none⟩ = some (.slice none 0 0))
      (first | go_keep | exact hX.cells)
      (first
      | (go_at_call 60; refine (HTA.out _ hRD).mono ?_; rintro e w' ⟨fb, rfl, hff, hkp⟩; replace hX := hX.keeps hkp hxr; replace hR := hR.keeps hkp hrr; replace hKP := hKP.trans hkp; have r0 := hR.cells.1; have r1 := hR.cells.2.1; have r2 := hR.cells.2.2.1; have r3 := hR.cells.2.2.2; have rf0 := hR.fz 0; have rf1 := hR.fz 1; have rf2 := hR.fz 2; have rf3 := hR.fz 3))
    unfold pf
    go_wp2
    have ho := out_er (s := s) (d := d) (k1 := 0) (t1 := false) (a1 := none) (l1 := 0) (c1 := 0) (a2 := none) (l2 := 0) (c2 := 0) hR hKP hff (by decide)
    obtain ⟨q0, q1, q2, q3⟩ := (hR.set4 (.int .i64 0) (.bool false) (.slice none 0 0) (.slice none 0 0)).cells
    unfold set4 at q0 q1 q2 q3 ho
    refine bodyPost_ret (v := .tuple #[.agg #[.int .i64 0, .bool false, .slice none 0 0, .slice none 0 0], pf fb]) (by simp [results, Tryz.results79, go_sem, q0, q1, q2, q3, pf]) rfl ?_
    rw [HE3.out]
    exact ho
end Go.Proofs.YtpccdhkghlbhkaaGreatDoor

namespace Go.Proofs.YtpccdhkghlbhkaaGreatDoor
open Go.RowKit Go.Extern.Stop Go.Stop Go.Extern Go.WideMaps

/-- Its cells are stored. -/
theorem BsSt.put {w0 w : World} {rb : Nat} {s : ByteArray} {k n d xb : Nat} {x0 x1 x2 x3 : Value} (h : BsSt w0 rb s k n d xb x0 x1 x2 x3 w) (d0 d1 d2 d3 : Value) : BsSt w0 rb s k n d xb d0 d1 d2 d3 (set4 w xb 0 d0 d1 d2 d3) := by
  have hkx := keeps_set4 w xb 0 d0 d1 d2 d3
  have ho := h.ord
  refine ⟨QuadAt.keeps h.rd hkx (by omega), h.res.keeps hkx (by omega), h.x.set4 _ _ _ _, ?_, ho⟩
  unfold set4
  exact (((h.keep.setCell (q := ⟨xb, 0, none⟩) (.inl (by show w0.heap.size ≤ xb; omega)) _).setCell (q := ⟨xb, 0 + 1, none⟩) (.inl (by show w0.heap.size ≤ xb; omega)) _).setCell (q := ⟨xb, 0 + 2, none⟩) (.inl (by show w0.heap.size ≤ xb; omega)) _).setCell (q := ⟨xb, 0 + 3, none⟩) (.inl (by show w0.heap.size ≤ xb; omega)) _
set_option maxRecDepth 100000 in
set_option maxHeartbeats 8000000 in
theorem base_set (s : ByteArray) (sub : Option (Nat → Nat → RO Rx)) (k n d rb : Nat) (hs : s.size ≤ 100000) (hk : k ≤ s.size) (hn : n ≤ 100) (h91 : byteI s (skp s k) = 91) (w : World) (hr : Rd w rb s k n d) :
    Calls Tryz.prog 79 #[.pointer (some ⟨rb, 0, none⟩)] w (XrOut w rb s d (bsR s sub k n)) := by
  have hq1 := quad_new w 26 (.int .i64 0) (.bool false) (.slice none 0 0) (.slice none 0 0)
  have hb1 := sbelow_new w (.cells #[.int .i64 0, .bool false, .slice none 0 0, .slice none 0 0] 26)
  have hr1 := hr.step hb1
  have hz1 : (w.alloc (.cells #[.int .i64 0, .bool false, .slice none 0 0, .slice none 0 0] 26)).heap.size = w.heap.size + 1 := World.size_alloc _ _
  have HRB := Lib.hid hr.lt
  have HKL := Lib.hid hk
  have HJL := Lib.hid (skp_le hk).2
  have HS : Hid (∀ W, Calls Tryz.prog 20 #[.agg #[.string s, .int .i64 k]] W fun e w' => e = .returned (.agg #[.string s, .int .i64 (skp s k)]) ∧ Below W.heap.size W w') := Lib.hid (fun W => skip_any s k hs hk W)
  have HT40 := Lib.hid (fun W (h : Rd W rb s k n d) => took_any s k n d rb 40 (by decide) hs hk W h)
  rw [show ((40 : UInt8).toNat : Int) = 40 from rfl] at HT40
  have HT46 := Lib.hid (fun W (h : Rd W rb s k n d) => took_any s k n d rb 46 (by decide) hs hk W h)
  rw [show ((46 : UInt8).toNat : Int) = 46 from rfl] at HT46
  have HT91 := Lib.hid (fun W (h : Rd W rb s k n d) => took_any s k n d rb 91 (by decide) hs hk W h)
  rw [show ((91 : UInt8).toNat : Int) = 91 from rfl] at HT91
  generalize hw1 : w.alloc (.cells #[.int .i64 0, .bool false, .slice none 0 0, .slice none 0 0] 26) = w1 at *
  have HQ1 := Lib.hid hq1
  have HB1 := Lib.hid hb1
  have HZ1 := Lib.hid hz1
  have HR1 := Lib.hid hr1
  obtain ⟨c0, c1, -, -⟩ := hr1.cells
  clear hq1 hb1 hr1 hr hz1
  go_enter Tryz.func79, Tryz.ntmps79
  go_wp2_with fail
  refine (HS.out _).mono ?_
  rintro e w2 ⟨rfl, b2⟩
  clear c0 c1
  go_wp2_with fail
  refine (at_any s _ _).mono ?_
  rintro e w3 ⟨rfl, b3⟩
  have hbz := (b2.trans (b3.mono b2.size))
  have hbx := sbelow_new w3 (.cells #[.int .i64 0, .bool false, .slice none 0 0, .slice none 0 0] 26)
  have HST : Hid (BsSt w rb s k n d w3.heap.size (.int .i64 0) (.bool false) (.slice none 0 0) (.slice none 0 0) (w3.alloc (.cells #[.int .i64 0, .bool false, .slice none 0 0, .slice none 0 0] 26))) := Lib.hid
    ⟨(HR1.out.step hbz).step hbx, (HQ1.out.step hbz).step hbx, quad_new w3 _ _ _ _ _, ((Keeps.of_below HB1.out).next hbz).next hbx, ⟨HRB.out, by have := hbz.size; have := HZ1.out; omega⟩⟩
  have HORD : Hid (rb < w.heap.size ∧ w.heap.size < w3.heap.size) := Lib.hid HST.out.ord
  clear b2 b3 hbz hbx hw1
  go_wp2_with fail
  generalize w3.alloc (.cells #[.int .i64 0, .bool false, .slice none 0 0, .slice none 0 0] 26) = w4 at *
  generalize w3.heap.size = xb at *
  have h40 : ¬ byteI s (skp s k) = 40 := by rw [h91]; decide
  have h46 : ¬ byteI s (skp s k) = 46 := by rw [h91]; decide
  refine (HT40.out _ HST.out.rd).mono ?_
  rintro e w5 ⟨rfl, hr, hkp⟩
  rw [decide_eq_false h40]
  have HS5 : Hid (BsSt w rb s k n d xb (.int .i64 0) (.bool false) (.slice none 0 0) (.slice none 0 0) w5) := Lib.hid (HST.out.go (by unfold tkK at hr; rwa [if_neg h40] at hr) hkp)
  clear hr hkp
  go_wp2_with fail
  refine (HT46.out _ HS5.out.rd).mono ?_
  rintro e w6 ⟨rfl, hr, hkp⟩
  rw [decide_eq_false h46]
  have HS6 : Hid (BsSt w rb s k n d xb (.int .i64 0) (.bool false) (.slice none 0 0) (.slice none 0 0) w6) := Lib.hid (HS5.out.go (by unfold tkK at hr; rwa [if_neg h46] at hr) hkp)
  clear hr hkp
  go_wp2_with fail
  refine (HT91.out _ HS6.out.rd).mono ?_
  rintro e w7 ⟨rfl, hr, hkp⟩
  rw [decide_eq_true h91]
  have HS7 : Hid (BsSt w rb s (skp s k + 1) n d xb (.int .i64 0) (.bool false) (.slice none 0 0) (.slice none 0 0) w7) := Lib.hid (HS6.out.go (by unfold tkK at hr; rwa [if_pos h91] at hr) hkp)
  clear hr hkp
  have HE := Lib.hid (bsR_91 (sub := sub) (n := n) h91)
  have hlt := byteI_in h91 (by decide)
  have hl1 : skp s k + 1 ≤ s.size := by omega
  have HCH := Lib.hid (fun W (h : Rd W rb s (skp s k + 1) n d) => choice_any s (skp s k + 1) n d rb hs hl1 W h)
  have HCL := Lib.hid (fun k' n' x (h : chX s (skp s k + 1) n = .ok k' n' x) => chX_le h)
  have HCZ := Lib.hid (fun c a (h : chX s (skp s k + 1) n = .er c a) => chX_nz hl1 h)
  clear h40 h46 h91 hlt hl1
  go_wp2_with fail
  refine (HCH.out _ HS7.out.rd).mono ?_
  intro e w8 hout
  have hz7 : w.heap.size < w7.heap.size := HS7.out.res.lt
  cases ho : chX s (skp s k + 1) n with
  | er cc aa =>
    rw [ho] at hout HE
    obtain ⟨fb, xk, xt, xa1, xl1, xc1, xa2, xl2, xc2, rfl, hf, hkp⟩ := hout
    have HR8 := Lib.hid (HS7.out.res.keeps hkp (by have := HORD.out; omega))
    have HX8 := Lib.hid (HS7.out.x.keeps hkp (by have := HORD.out; omega))
    have HK8 := Lib.hid (HS7.out.keep.trans hkp)
    have HF8 := Lib.hid hf
    have HC0 := Lib.hid (HCZ.out _ _ ho)
    clear ho hf hkp
    have hkx := keeps_set4 w8 xb 0 (.int .i64 xk) (.bool xt) (.slice xa1 xl1 xc1) (.slice xa2 xl2 xc2)
    have HR9 := Lib.hid (HR8.out.keeps hkx (by have := HORD.out; omega))
    have HF9 := Lib.hid (HF8.out.setq HC0.out HX8.out (.int .i64 xk) (.bool xt) (.slice xa1 xl1 xc1) (.slice xa2 xl2 xc2))
    have HK9 : Hid (Keeps (· = rb) w (set4 w8 xb 0 (.int .i64 xk) (.bool xt) (.slice xa1 xl1 xc1) (.slice xa2 xl2 xc2))) := Lib.hid (by
      have ho := HORD.out
      unfold set4
      exact (((HK8.out.setCell (q := ⟨xb, 0, none⟩) (.inl (by show w.heap.size ≤ xb; omega)) _).setCell (q := ⟨xb, 0 + 1, none⟩) (.inl (by show w.heap.size ≤ xb; omega)) _).setCell (q := ⟨xb, 0 + 2, none⟩) (.inl (by show w.heap.size ≤ xb; omega)) _).setCell (q := ⟨xb, 0 + 3, none⟩) (.inl (by show w.heap.size ≤ xb; omega)) _)
    obtain ⟨x0, x1, x2, x3⟩ := HX8.out.cells
    have xf0 := HX8.out.fz 0
    have xf1 := HX8.out.fz 1
    have xf2 := HX8.out.fz 2
    have xf3 := HX8.out.fz 3
    clear hkx
    unfold pf
    go_upto_region 13 with (fail)
    unfold set4 at HR9 HF9 HK9
    generalize (((w8.setCell ⟨xb, 0, none⟩ (.int .i64 xk)).setCell ⟨xb, 0 + 1, none⟩ (.bool xt)).setCell ⟨xb, 0 + 2, none⟩ (.slice xa1 xl1 xc1)).setCell ⟨xb, 0 + 3, none⟩ (.slice xa2 xl2 xc2) = w9 at *
    clear x0 x1 x2 x3 xf0 xf1 xf2 xf3
    have r0 := HR9.out.cells.1
    have r1 := HR9.out.cells.2.1
    have r2 := HR9.out.cells.2.2.1
    have r3 := HR9.out.cells.2.2.2
    have rf0 := HR9.out.fz 0
    have rf1 := HR9.out.fz 1
    have rf2 := HR9.out.fz 2
    have rf3 := HR9.out.fz 3
    go_wp2_with fail
    have ho := out_er (s := s) (d := d) (k1 := 0) (t1 := false) (a1 := none) (l1 := 0) (c1 := 0) (a2 := none) (l2 := 0) (c2 := 0) HR9.out HK9.out HF9.out HC0.out
    obtain ⟨q0, q1, q2, q3⟩ := (HR9.out.set4 (.int .i64 0) (.bool false) (.slice none 0 0) (.slice none 0 0)).cells
    unfold set4 at q0 q1 q2 q3 ho
    refine bodyPost_ret (v := .tuple #[.agg #[.int .i64 0, .bool false, .slice none 0 0, .slice none 0 0], pf fb]) (by simp [results, Tryz.results79, go_sem, q0, q1, q2, q3, pf]) rfl ?_
    rw [HE.out]
    exact ho
  | ok k8 n8 x8 =>
    rw [ho] at hout HE
    obtain ⟨xk, xt, xa1, xl1, xc1, xa2, xl2, xc2, rfl, hv, hrd, hkp⟩ := hout
    obtain ⟨hk8, hn8⟩ := HCL.out _ _ _ ho
    have hn9 := hn8.symm
    subst hn9
    have HX6 := Lib.hid (HS7.out.go hrd hkp)
    have HV : Hid (ExC (fun q => w.heap.size < q ∧ q ≠ xb) w8 _ x8) := Lib.hid (hv.move (P' := fun q => w.heap.size < q ∧ q ≠ xb) (Nat.le_refl _) (fun q hq _ => ⟨⟨by omega, by have := HS7.out.x.lt; omega⟩, rfl⟩))
    clear ho hv hkp hrd
    have HP := Lib.hid (HX6.out.put (.int .i64 xk) (.bool xt) (.slice xa1 xl1 xc1) (.slice xa2 xl2 xc2))
    have hk4 := keeps_set4 w8 xb 0 (.int .i64 xk) (.bool xt) (.slice xa1 xl1 xc1) (.slice xa2 xl2 xc2)
    have HV9 := Lib.hid (HV.out.move (P' := fun q => w.heap.size < q) hk4.size (fun q hq hlt => ⟨hq.1, hk4.block q hlt hq.2⟩))
    clear hk4
    obtain ⟨x0, x1, x2, x3⟩ := HX6.out.x.cells
    have xf0 := HX6.out.x.fz 0
    have xf1 := HX6.out.x.fz 1
    have xf2 := HX6.out.x.fz 2
    have xf3 := HX6.out.x.fz 3
    unfold set4 at HP HV9
    go_wp2_with fail
    generalize (((w8.setCell ⟨xb, 0, none⟩ (.int .i64 xk)).setCell ⟨xb, 0 + 1, none⟩ (.bool xt)).setCell ⟨xb, 0 + 2, none⟩ (.slice xa1 xl1 xc1)).setCell ⟨xb, 0 + 3, none⟩ (.slice xa2 xl2 xc2) = w9 at *
    clear x0 x1 x2 x3 xf0 xf1 xf2 xf3
    have hX : QuadAt 26 w9.drew xb (.int .i64 xk) (.bool xt) (.slice xa1 xl1 xc1) (.slice xa2 xl2 xc2) := HP.out.x
    have hR : QuadAt 26 w9.drew w.heap.size (.int .i64 0) (.bool false) (.slice none 0 0) (.slice none 0 0) := HP.out.res
    have hRD : Rd w9.drew rb s k8 n d := HP.out.rd
    have hKP : Keeps (· = rb) w w9.drew := HP.out.keep.drew
    have hVV : ExC (fun q => w.heap.size < q) w9.drew [.int .i64 xk, .bool xt, .slice xa1 xl1 xc1, .slice xa2 xl2 xc2] x8 := HV9.out.move (Nat.le_refl _) (fun q hq _ => ⟨hq, rfl⟩)
    have hxr : xb ≠ rb := by have := HORD.out; omega
    have hrr : w.heap.size ≠ rb := by have := HORD.out; omega
    have hxw : xb ≠ w.heap.size := by have := HORD.out; omega
    have hxw' := hxw.symm
    by_cases hn1 : n + 1 ≤ 100
    · have HTA := Lib.hid (fun W (h : Rd W rb s k8 n d) => count_yes s k8 n d rb (skp s k) hn1 W h)
      have HE3 := Lib.hid (HE.out.trans (by rw [cnt, if_neg (by omega)]))
      obtain ⟨x0, x1, x2, x3⟩ := hX.cells
      clear hn1
      go_region_held3 (fun W => W.cell? ⟨xb, 0, none⟩ = some (.int .i64 xk) ∧ W.cell? ⟨xb, 1, none⟩ = some (.bool xt) ∧ W.cell? ⟨xb, 2, none⟩ = some (.slice xa1 xl1 xc1) ∧ W.cell? ⟨xb, 3, none⟩ = some (.slice xa2 xl2 xc2))
        (first | go_keep | exact hX.cells)
        (first
        | (go_at_call 60; refine (HTA.out _ hRD).mono ?_; rintro e w' ⟨rfl, hrd, hkp⟩; replace hX := hX.keeps hkp hxr; replace hR := hR.keeps hkp hrr; replace hKP := hKP.trans hkp; replace hVV := hVV.move (P' := fun q => w.heap.size < q) hkp.size (fun q hq hlt => ⟨hq, hkp.block q hlt (by have := HORD.out; omega)⟩); have r0 := hR.cells.1; have r1 := hR.cells.2.1; have r2 := hR.cells.2.2.1; have r3 := hR.cells.2.2.2; have rf0 := hR.fz 0; have rf1 := hR.fz 1; have rf2 := hR.fz 2; have rf3 := hR.fz 3))
      go_wp2
      have ho := out_ok HORD.out.1 hKP hrd hVV
      obtain ⟨q0, q1, q2, q3⟩ := (hR.set4 (.int .i64 xk) (.bool xt) (.slice xa1 xl1 xc1) (.slice xa2 xl2 xc2)).cells
      unfold set4 at q0 q1 q2 q3 ho
      refine bodyPost_ret (v := .tuple #[.agg #[.int .i64 xk, .bool xt, .slice xa1 xl1 xc1, .slice xa2 xl2 xc2], .nilIface]) (by simp [results, Tryz.results79, go_sem, q0, q1, q2, q3]) rfl ?_
      rw [HE3.out]
      exact ho
    · have HTA := Lib.hid (fun W (h : Rd W rb s k8 n d) => count_no s k8 n d rb (skp s k) (by omega) (by omega) W h)
      have HE3 := Lib.hid (HE.out.trans (by rw [cnt, if_pos (by omega)]))
      obtain ⟨x0, x1, x2, x3⟩ := hX.cells
      clear hn1
      go_region_held3 (fun W => W.cell? ⟨xb, 0, none⟩ = some (.int .i64 xk) ∧ W.cell? ⟨xb, 1, none⟩ = some (.bool xt) ∧ W.cell? ⟨xb, 2, none⟩ = some (.slice xa1 xl1 xc1) ∧ W.cell? ⟨xb, 3, none⟩ = some (.slice xa2 xl2 xc2))
        (first | go_keep | exact hX.cells)
        (first
        | (go_at_call 60; refine (HTA.out _ hRD).mono ?_; rintro e w' ⟨fb, rfl, hff, hkp⟩; replace hX := hX.keeps hkp hxr; replace hR := hR.keeps hkp hrr; replace hKP := hKP.trans hkp; have r0 := hR.cells.1; have r1 := hR.cells.2.1; have r2 := hR.cells.2.2.1; have r3 := hR.cells.2.2.2; have rf0 := hR.fz 0; have rf1 := hR.fz 1; have rf2 := hR.fz 2; have rf3 := hR.fz 3))
      unfold pf
      go_wp2
      have ho := out_er (s := s) (d := d) (k1 := xk) (t1 := xt) (a1 := xa1) (l1 := xl1) (c1 := xc1) (a2 := xa2) (l2 := xl2) (c2 := xc2) hR hKP hff (by decide)
      obtain ⟨q0, q1, q2, q3⟩ := (hR.set4 (.int .i64 xk) (.bool xt) (.slice xa1 xl1 xc1) (.slice xa2 xl2 xc2)).cells
      unfold set4 at q0 q1 q2 q3 ho
      refine bodyPost_ret (v := .tuple #[.agg #[.int .i64 xk, .bool xt, .slice xa1 xl1 xc1, .slice xa2 xl2 xc2], pf fb]) (by simp [results, Tryz.results79, go_sem, q0, q1, q2, q3, pf]) rfl ?_
      rw [HE3.out]
      exact ho

set_option maxRecDepth 100000 in
set_option maxHeartbeats 8000000 in
theorem base_word (s : ByteArray) (sub : Option (Nat → Nat → RO Rx)) (k n d rb : Nat) (hs : s.size ≤ 100000) (hk : k ≤ s.size) (hn : n ≤ 100) (h40 : ¬ byteI s (skp s k) = 40) (h46 : ¬ byteI s (skp s k) = 46) (h91 : ¬ byteI s (skp s k) = 91) (w : World) (hr : Rd w rb s k n d) :
    Calls Tryz.prog 79 #[.pointer (some ⟨rb, 0, none⟩)] w (XrOut w rb s d (bsR s sub k n)) := by
  have hq1 := quad_new w 26 (.int .i64 0) (.bool false) (.slice none 0 0) (.slice none 0 0)
  have hb1 := sbelow_new w (.cells #[.int .i64 0, .bool false, .slice none 0 0, .slice none 0 0] 26)
  have hr1 := hr.step hb1
  have hz1 : (w.alloc (.cells #[.int .i64 0, .bool false, .slice none 0 0, .slice none 0 0] 26)).heap.size = w.heap.size + 1 := World.size_alloc _ _
  have HRB := Lib.hid hr.lt
  have HKL := Lib.hid hk
  have HJL := Lib.hid (skp_le hk).2
  have HS : Hid (∀ W, Calls Tryz.prog 20 #[.agg #[.string s, .int .i64 k]] W fun e w' => e = .returned (.agg #[.string s, .int .i64 (skp s k)]) ∧ Below W.heap.size W w') := Lib.hid (fun W => skip_any s k hs hk W)
  have HT40 := Lib.hid (fun W (h : Rd W rb s k n d) => took_any s k n d rb 40 (by decide) hs hk W h)
  rw [show ((40 : UInt8).toNat : Int) = 40 from rfl] at HT40
  have HT46 := Lib.hid (fun W (h : Rd W rb s k n d) => took_any s k n d rb 46 (by decide) hs hk W h)
  rw [show ((46 : UInt8).toNat : Int) = 46 from rfl] at HT46
  have HT91 := Lib.hid (fun W (h : Rd W rb s k n d) => took_any s k n d rb 91 (by decide) hs hk W h)
  rw [show ((91 : UInt8).toNat : Int) = 91 from rfl] at HT91
  generalize hw1 : w.alloc (.cells #[.int .i64 0, .bool false, .slice none 0 0, .slice none 0 0] 26) = w1 at *
  have HQ1 := Lib.hid hq1
  have HB1 := Lib.hid hb1
  have HZ1 := Lib.hid hz1
  have HR1 := Lib.hid hr1
  obtain ⟨c0, c1, -, -⟩ := hr1.cells
  clear hq1 hb1 hr1 hr hz1
  go_enter Tryz.func79, Tryz.ntmps79
  go_wp2_with fail
  refine (HS.out _).mono ?_
  rintro e w2 ⟨rfl, b2⟩
  clear c0 c1
  go_wp2_with fail
  refine (at_any s _ _).mono ?_
  rintro e w3 ⟨rfl, b3⟩
  have hbz := (b2.trans (b3.mono b2.size))
  have hbx := sbelow_new w3 (.cells #[.int .i64 0, .bool false, .slice none 0 0, .slice none 0 0] 26)
  have HST : Hid (BsSt w rb s k n d w3.heap.size (.int .i64 0) (.bool false) (.slice none 0 0) (.slice none 0 0) (w3.alloc (.cells #[.int .i64 0, .bool false, .slice none 0 0, .slice none 0 0] 26))) := Lib.hid
    ⟨(HR1.out.step hbz).step hbx, (HQ1.out.step hbz).step hbx, quad_new w3 _ _ _ _ _, ((Keeps.of_below HB1.out).next hbz).next hbx, ⟨HRB.out, by have := hbz.size; have := HZ1.out; omega⟩⟩
  have HORD : Hid (rb < w.heap.size ∧ w.heap.size < w3.heap.size) := Lib.hid HST.out.ord
  clear b2 b3 hbz hbx hw1
  go_wp2_with fail
  generalize w3.alloc (.cells #[.int .i64 0, .bool false, .slice none 0 0, .slice none 0 0] 26) = w4 at *
  generalize w3.heap.size = xb at *
  refine (HT40.out _ HST.out.rd).mono ?_
  rintro e w5 ⟨rfl, hr, hkp⟩
  rw [decide_eq_false h40]
  have HS5 : Hid (BsSt w rb s k n d xb (.int .i64 0) (.bool false) (.slice none 0 0) (.slice none 0 0) w5) := Lib.hid (HST.out.go (by unfold tkK at hr; rwa [if_neg h40] at hr) hkp)
  clear hr hkp
  go_wp2_with fail
  refine (HT46.out _ HS5.out.rd).mono ?_
  rintro e w6 ⟨rfl, hr, hkp⟩
  rw [decide_eq_false h46]
  have HS6 : Hid (BsSt w rb s k n d xb (.int .i64 0) (.bool false) (.slice none 0 0) (.slice none 0 0) w6) := Lib.hid (HS5.out.go (by unfold tkK at hr; rwa [if_neg h46] at hr) hkp)
  clear hr hkp
  go_wp2_with fail
  refine (HT91.out _ HS6.out.rd).mono ?_
  rintro e w7 ⟨rfl, hr, hkp⟩
  rw [decide_eq_false h91]
  have HS7 : Hid (BsSt w rb s k n d xb (.int .i64 0) (.bool false) (.slice none 0 0) (.slice none 0 0) w7) := Lib.hid (HS6.out.go (by unfold tkK at hr; rwa [if_neg h91] at hr) hkp)
  clear hr hkp
  have HE := Lib.hid (bsR_word (sub := sub) (n := n) h40 h46 h91)
  by_cases hc : wdC s (skp s k) = 0
  · rw [if_neg (by rw [hc]; decide)] at HE
    have HW := Lib.hid (fun W (h : Rd W rb s k n d) => rword_yes s k n d rb hs hk hc W h)
    have HWL := Lib.hid (wdK_le HJL.out)
    generalize s.extract (skp s k) (wdK s (skp s k)) = t at *
    clear h40 h46 h91 hc
    go_wp2_with fail
    refine (HW.out _ HS7.out.rd).mono ?_
    rintro e w8 ⟨rfl, hrd, hkp⟩
    have bn := sbelow_new w8 (.cells #[.string t] 9)
    have HX6 := Lib.hid ((HS7.out.go hrd hkp).step bn)
    have HC9 : Hid ((w8.alloc (.cells #[.string t] 9)).heap[w8.heap.size]? = some (.cells #[.string t] 9 (0, 0))) := Lib.hid (heap_alloc_new w8 _)
    have HZ8 : Hid (w.heap.size < w8.heap.size ∧ xb < w8.heap.size) := Lib.hid ⟨by have := HS7.out.res.lt; have := hkp.size; omega, by have := HS7.out.x.lt; have := hkp.size; omega⟩
    clear hrd hkp bn
    obtain ⟨x0, x1, x2, x3⟩ := HX6.out.x.cells
    have xf0 := HX6.out.x.fz 0
    have xf1 := HX6.out.x.fz 1
    have xf2 := HX6.out.x.fz 2
    have xf3 := HX6.out.x.fz 3
    have HP := Lib.hid (HX6.out.put (.int .i64 1) (.bool false) (.slice (some ⟨w8.heap.size, 0, none⟩) 1 1) (.slice none 0 0))
    have hk4 := keeps_set4 (w8.alloc (.cells #[.string t] 9)) xb 0 (.int .i64 1) (.bool false) (.slice (some ⟨w8.heap.size, 0, none⟩) 1 1) (.slice none 0 0)
    have HC10 := Lib.hid ((hk4.block w8.heap.size (by simp) (by have := HZ8.out; omega)).trans HC9.out)
    clear hk4
    go_wp2_with fail
    unfold set4 at HP HC10
    generalize ((((w8.alloc (.cells #[.string t] 9)).setCell ⟨xb, 0, none⟩ (.int .i64 1)).setCell ⟨xb, 0 + 1, none⟩ (.bool false)).setCell ⟨xb, 0 + 2, none⟩ (.slice (some ⟨w8.heap.size, 0, none⟩) 1 1)).setCell ⟨xb, 0 + 3, none⟩ (.slice none 0 0) = w9 at *
    generalize w8.heap.size = sb at *
    clear x0 x1 x2 x3 xf0 xf1 xf2 xf3
    have hX : QuadAt 26 w9.drew xb (.int .i64 1) (.bool false) (.slice (some ⟨sb, 0, none⟩) 1 1) (.slice none 0 0) := HP.out.x
    have hR : QuadAt 26 w9.drew w.heap.size (.int .i64 0) (.bool false) (.slice none 0 0) (.slice none 0 0) := HP.out.res
    have hRD : Rd w9.drew rb s (wdK s (skp s k)) n d := HP.out.rd
    have hKP : Keeps (· = rb) w w9.drew := HP.out.keep.drew
    have hVV : ExC (fun q => w.heap.size < q) w9.drew [.int .i64 1, .bool false, .slice (some ⟨sb, 0, none⟩) 1 1, .slice none 0 0] (.mk 1 false [t] []) := by
      unfold ExC
      refine ⟨_, _, [], rfl, ⟨_, _, rfl, Nat.le_refl _⟩, .inr ⟨sb, 0, 1, rfl, HZ8.out.1, (Array.getElem?_eq_some_iff.1 HC10.out).1, fun j u hu => ?_⟩, RowX.nil _ _, ExsC.nil⟩
      match j, hu with
      | 0, hu =>
        simp at hu
        subst hu
        exact (Lib.cell_of_heap HC10.out 0).trans rfl
    have hxr : xb ≠ rb := by have := HORD.out; omega
    have hrr : w.heap.size ≠ rb := by have := HORD.out; omega
    have hxw : xb ≠ w.heap.size := by have := HORD.out; omega
    have hxw' := hxw.symm
    by_cases hn1 : n + 1 ≤ 100
    · have HTA := Lib.hid (fun W (h : Rd W rb s (wdK s (skp s k)) n d) => count_yes s (wdK s (skp s k)) n d rb (skp s k) hn1 W h)
      have HE3 := Lib.hid (HE.out.trans (by rw [cnt, if_neg (by omega)]))
      obtain ⟨x0, x1, x2, x3⟩ := hX.cells
      clear hn1
      go_region_held3 (fun W => W.cell? ⟨xb, 0, none⟩ = some (.int .i64 1) ∧ W.cell? ⟨xb, 1, none⟩ = some (.bool false) ∧ W.cell? ⟨xb, 2, none⟩ = some (.slice (some ⟨sb, 0, none⟩) 1 1) ∧ W.cell? ⟨xb, 3, none⟩ = some (.slice none 0 0))
        (first | go_keep | exact hX.cells)
        (first
        | (go_at_call 60; refine (HTA.out _ hRD).mono ?_; rintro e w' ⟨rfl, hrd, hkp⟩; replace hX := hX.keeps hkp hxr; replace hR := hR.keeps hkp hrr; replace hKP := hKP.trans hkp; replace hVV := hVV.move (P' := fun q => w.heap.size < q) hkp.size (fun q hq hlt => ⟨hq, hkp.block q hlt (by have := HORD.out; omega)⟩); have r0 := hR.cells.1; have r1 := hR.cells.2.1; have r2 := hR.cells.2.2.1; have r3 := hR.cells.2.2.2; have rf0 := hR.fz 0; have rf1 := hR.fz 1; have rf2 := hR.fz 2; have rf3 := hR.fz 3))
      go_wp2
      have ho := out_ok HORD.out.1 hKP hrd hVV
      obtain ⟨q0, q1, q2, q3⟩ := (hR.set4 (.int .i64 1) (.bool false) (.slice (some ⟨sb, 0, none⟩) 1 1) (.slice none 0 0)).cells
      unfold set4 at q0 q1 q2 q3 ho
      refine bodyPost_ret (v := .tuple #[.agg #[.int .i64 1, .bool false, .slice (some ⟨sb, 0, none⟩) 1 1, .slice none 0 0], .nilIface]) (by simp [results, Tryz.results79, go_sem, q0, q1, q2, q3]) rfl ?_
      rw [HE3.out]
      exact ho
    · have HTA := Lib.hid (fun W (h : Rd W rb s (wdK s (skp s k)) n d) => count_no s (wdK s (skp s k)) n d rb (skp s k) (by omega) (by omega) W h)
      have HE3 := Lib.hid (HE.out.trans (by rw [cnt, if_pos (by omega)]))
      obtain ⟨x0, x1, x2, x3⟩ := hX.cells
      clear hn1
      go_region_held3 (fun W => W.cell? ⟨xb, 0, none⟩ = some (.int .i64 1) ∧ W.cell? ⟨xb, 1, none⟩ = some (.bool false) ∧ W.cell? ⟨xb, 2, none⟩ = some (.slice (some ⟨sb, 0, none⟩) 1 1) ∧ W.cell? ⟨xb, 3, none⟩ = some (.slice none 0 0))
        (first | go_keep | exact hX.cells)
        (first
        | (go_at_call 60; refine (HTA.out _ hRD).mono ?_; rintro e w' ⟨fb, rfl, hff, hkp⟩; replace hX := hX.keeps hkp hxr; replace hR := hR.keeps hkp hrr; replace hKP := hKP.trans hkp; have r0 := hR.cells.1; have r1 := hR.cells.2.1; have r2 := hR.cells.2.2.1; have r3 := hR.cells.2.2.2; have rf0 := hR.fz 0; have rf1 := hR.fz 1; have rf2 := hR.fz 2; have rf3 := hR.fz 3))
      unfold pf
      go_wp2
      have ho := out_er (s := s) (d := d) (k1 := 1) (t1 := false) (a1 := some ⟨sb, 0, none⟩) (l1 := 1) (c1 := 1) (a2 := none) (l2 := 0) (c2 := 0) hR hKP hff (by decide)
      obtain ⟨q0, q1, q2, q3⟩ := (hR.set4 (.int .i64 1) (.bool false) (.slice (some ⟨sb, 0, none⟩) 1 1) (.slice none 0 0)).cells
      unfold set4 at q0 q1 q2 q3 ho
      refine bodyPost_ret (v := .tuple #[.agg #[.int .i64 1, .bool false, .slice (some ⟨sb, 0, none⟩) 1 1, .slice none 0 0], pf fb]) (by simp [results, Tryz.results79, go_sem, q0, q1, q2, q3, pf]) rfl ?_
      rw [HE3.out]
      exact ho
  · rw [if_pos hc] at HE
    have HW := Lib.hid (fun W (h : Rd W rb s k n d) => rword_no s k n d rb hs hk hc W h)
    have HC0 := Lib.hid hc
    generalize wdC s (skp s k) = cc at *
    generalize wdA s (skp s k) = aa at *
    clear h40 h46 h91 hc
    go_wp2_with fail
    refine (HW.out _ HS7.out.rd).mono ?_
    rintro e w8 ⟨fb, rfl, hf, hkp⟩
    have bn := sbelow_new w8 (.cells #[.string ⟨#[]⟩] 9)
    have HR8 := Lib.hid ((HS7.out.res.keeps hkp (by have := HORD.out; omega)).step bn)
    have HX8 := Lib.hid ((HS7.out.x.keeps hkp (by have := HORD.out; omega)).step bn)
    have HK8 := Lib.hid ((HS7.out.keep.trans hkp).next bn)
    have HF8 := Lib.hid (hf.keep bn)
    clear hf hkp bn
    have hkx := keeps_set4 (w8.alloc (.cells #[.string ⟨#[]⟩] 9)) xb 0 (.int .i64 1) (.bool false) (.slice (some ⟨w8.heap.size, 0, none⟩) 1 1) (.slice none 0 0)
    have HR9 := Lib.hid (HR8.out.keeps hkx (by have := HORD.out; omega))
    have HF9 := Lib.hid (HF8.out.setq HC0.out HX8.out (.int .i64 1) (.bool false) (.slice (some ⟨w8.heap.size, 0, none⟩) 1 1) (.slice none 0 0))
    have HK9 : Hid (Keeps (· = rb) w (set4 (w8.alloc (.cells #[.string ⟨#[]⟩] 9)) xb 0 (.int .i64 1) (.bool false) (.slice (some ⟨w8.heap.size, 0, none⟩) 1 1) (.slice none 0 0))) := Lib.hid (by
      have ho := HORD.out
      unfold set4
      exact (((HK8.out.setCell (q := ⟨xb, 0, none⟩) (.inl (by show w.heap.size ≤ xb; omega)) _).setCell (q := ⟨xb, 0 + 1, none⟩) (.inl (by show w.heap.size ≤ xb; omega)) _).setCell (q := ⟨xb, 0 + 2, none⟩) (.inl (by show w.heap.size ≤ xb; omega)) _).setCell (q := ⟨xb, 0 + 3, none⟩) (.inl (by show w.heap.size ≤ xb; omega)) _)
    obtain ⟨x0, x1, x2, x3⟩ := HX8.out.cells
    have xf0 := HX8.out.fz 0
    have xf1 := HX8.out.fz 1
    have xf2 := HX8.out.fz 2
    have xf3 := HX8.out.fz 3
    clear hkx
    unfold pf
    go_upto_region 13 with (fail)
    unfold set4 at HR9 HF9 HK9
    generalize ((((w8.alloc (.cells #[.string ⟨#[]⟩] 9)).setCell ⟨xb, 0, none⟩ (.int .i64 1)).setCell ⟨xb, 0 + 1, none⟩ (.bool false)).setCell ⟨xb, 0 + 2, none⟩ (.slice (some ⟨w8.heap.size, 0, none⟩) 1 1)).setCell ⟨xb, 0 + 3, none⟩ (.slice none 0 0) = w9 at *
    clear x0 x1 x2 x3 xf0 xf1 xf2 xf3
    have r0 := HR9.out.cells.1
    have r1 := HR9.out.cells.2.1
    have r2 := HR9.out.cells.2.2.1
    have r3 := HR9.out.cells.2.2.2
    have rf0 := HR9.out.fz 0
    have rf1 := HR9.out.fz 1
    have rf2 := HR9.out.fz 2
    have rf3 := HR9.out.fz 3
    go_wp2_with fail
    have ho := out_er (s := s) (d := d) (k1 := 0) (t1 := false) (a1 := none) (l1 := 0) (c1 := 0) (a2 := none) (l2 := 0) (c2 := 0) HR9.out HK9.out HF9.out HC0.out
    obtain ⟨q0, q1, q2, q3⟩ := (HR9.out.set4 (.int .i64 0) (.bool false) (.slice none 0 0) (.slice none 0 0)).cells
    unfold set4 at q0 q1 q2 q3 ho
    refine bodyPost_ret (v := .tuple #[.agg #[.int .i64 0, .bool false, .slice none 0 0, .slice none 0 0], pf fb]) (by simp [results, Tryz.results79, go_sem, q0, q1, q2, q3, pf]) rfl ?_
    rw [HE.out]
    exact ho

/-- A base, whatever stands there. -/
theorem base_any (s : ByteArray) (sub : Option (Nat → Nat → RO Rx)) (k n d rb : Nat) (hs : s.size ≤ 100000) (hk : k ≤ s.size) (hn : n ≤ 100) (hsub : SubSpec s sub d) (w : World) (hr : Rd w rb s k n d) :
    Calls Tryz.prog 79 #[.pointer (some ⟨rb, 0, none⟩)] w (XrOut w rb s d (bsR s sub k n)) := by
  by_cases h40 : byteI s (skp s k) = 40
  · exact base_open s sub k n d rb hs hk hn hsub h40 w hr
  · by_cases h46 : byteI s (skp s k) = 46
    · exact base_dot s sub k n d rb hs hk hn h46 w hr
    · by_cases h91 : byteI s (skp s k) = 91
      · exact base_set s sub k n d rb hs hk hn h91 w hr
      · exact base_word s sub k n d rb hs hk hn h40 h46 h91 w hr
end Go.Proofs.YtpccdhkghlbhkaaGreatDoor

namespace Go.Proofs.YtpccdhkghlbhkaaGreatDoor
open Go.RowKit Go.Extern.Stop Go.Stop Go.Extern Go.WideMaps

theorem byteI_bd (s : ByteArray) (k : Nat) : 0 ≤ byteI s k ∧ byteI s k < 256 := by
  unfold byteI
  split
  · rename_i h
    have := s[k].toNat_lt
    omega
  · omega
/-- Which of the three signs a byte is, as strings.IndexByte tells it. -/
def sgI (c : Int) : Int := match sgn c with | none => -1 | some i => i
theorem sgI_fin : ∀ n : Fin 256, Lib.indexByte [42, 43, 63] n.val.toUInt8 = sgI n.val := by decide +kernel
theorem indexB (c : Int) (h : 0 ≤ c ∧ c < 256) (w : World) :
    Calls Tryz.prog 80 #[.string ⟨#[42, 43, 63]⟩, .int .u8 c] w fun e w' => e = .returned (.int .i64 (sgI c)) ∧ w' = w := by
  refine (Tryz.strings_IndexByte ⟨#[42, 43, 63]⟩ c w).mono ?_
  rintro e w' ⟨rfl, rfl⟩
  have := sgI_fin ⟨c.toNat, by omega⟩
  have hc : ((c.toNat : Nat) : Int) = c := by omega
  simp only [hc] at this
  exact ⟨by rw [← this], rfl⟩
theorem sgn_cases (c : Int) : (c = 42 ∧ sgn c = some 0 ∧ sgI c = 0) ∨ (c = 43 ∧ sgn c = some 1 ∧ sgI c = 1) ∨ (c = 63 ∧ sgn c = some 2 ∧ sgI c = 2) ∨ (sgn c = none ∧ sgI c = -1) := by
  by_cases h1 : c = 42
  · subst h1; exact .inl ⟨rfl, rfl, rfl⟩
  · by_cases h2 : c = 43
    · subst h2; exact .inr (.inl ⟨rfl, rfl, rfl⟩)
    · by_cases h3 : c = 63
      · subst h3; exact .inr (.inr (.inl ⟨rfl, rfl, rfl⟩))
      · have : sgn c = none := by unfold sgn; rw [if_neg h1, if_neg h2, if_neg h3]
        exact .inr (.inr (.inr ⟨this, by unfold sgI; rw [this]⟩))
theorem cut0 : (⟨#[42, 43, 63]⟩ : ByteArray).extract 0 1 = ⟨#[42]⟩ := by decide
theorem cut1 : (⟨#[42, 43, 63]⟩ : ByteArray).extract 1 2 = ⟨#[43]⟩ := by decide
theorem cut2 : (⟨#[42, 43, 63]⟩ : ByteArray).extract 2 3 = ⟨#[63]⟩ := by decide
theorem bsR_nz {s : ByteArray} {sub : Option (Nat → Nat → RO Rx)} {d k n : Nat} {c : Int} {a : Nat} (hsub : SubSpec s sub d) (h : bsR s sub k n = .er c a) : c ≠ 0 := by
  by_cases h40 : byteI s (skp s k) = 40
  · rw [bsR_40 h40] at h
    have hlt := byteI_in h40 (by decide)
    unfold brR at h
    split at h
    · injection h with h1 h2; rw [← h1]; decide
    · obtain ⟨-, -, -, hz⟩ := hsub
      split at h
      · exact cnt_nz h
      · split at h
        · rename_i c1 a1 e1
          injection h with h1 h2
          rw [← h1]; exact hz _ _ _ _ (by omega) e1
        · split at h
          · cases h
          · injection h with h1 h2; rw [← h1]; exact missC_ne s _
  · by_cases h46 : byteI s (skp s k) = 46
    · rw [bsR_46 h46] at h; exact cnt_nz h
    · by_cases h91 : byteI s (skp s k) = 91
      · rw [bsR_91 h91] at h
        have := byteI_in h91 (by decide)
        split at h
        · rename_i c1 a1 e1
          injection h with h1 h2
          rw [← h1]; exact chX_nz (by omega) e1
        · exact cnt_nz h
      · rw [bsR_word h40 h46 h91] at h
        split at h
        · rename_i h0
          injection h with h1 h2
          rw [← h1]; exact h0
        · exact cnt_nz h
theorem subGood {s : ByteArray} {sub : Option (Nat → Nat → RO Rx)} {d : Nat} (hsub : SubSpec s sub d) : ∀ f, sub = some f → GoodR s f := by
  intro f h
  subst h
  exact hsub.2.2.1

/-- An expression read so far, in the call's own cells. -/
structure PtSt (w0 : World) (rb : Nat) (s : ByteArray) (k n d xb : Nat) (x : Rx) (xk : Int) (xt : Bool) (xa1 : Option Addr) (xl1 xc1 : Nat) (xa2 : Option Addr) (xl2 xc2 : Nat) (w : World) : Prop where
  st : BsSt w0 rb s k n d xb (.int .i64 xk) (.bool xt) (.slice xa1 xl1 xc1) (.slice xa2 xl2 xc2) w
  val : ExC (fun q => w0.heap.size < q ∧ q ≠ xb) w [.int .i64 xk, .bool xt, .slice xa1 xl1 xc1, .slice xa2 xl2 xc2] x
section
variable {w0 w w' : World} {rb : Nat} {s : ByteArray} {k n d xb k' n' : Nat} {x : Rx} {xk : Int} {xt : Bool} {xa1 : Option Addr} {xl1 xc1 : Nat} {xa2 : Option Addr} {xl2 xc2 : Nat}
theorem PtSt.go (h : PtSt w0 rb s k n d xb x xk xt xa1 xl1 xc1 xa2 xl2 xc2 w) (hr : Rd w' rb s k' n' d) (hk : Keeps (· = rb) w w') : PtSt w0 rb s k' n' d xb x xk xt xa1 xl1 xc1 xa2 xl2 xc2 w' :=
  ⟨h.st.go hr hk, h.val.move hk.size (fun q hq hlt => ⟨hq, hk.block q hlt (by have := h.st.ord; omega)⟩)⟩
theorem PtSt.step (h : PtSt w0 rb s k n d xb x xk xt xa1 xl1 xc1 xa2 xl2 xc2 w) (hb : Below w.heap.size w w') : PtSt w0 rb s k n d xb x xk xt xa1 xl1 xc1 xa2 xl2 xc2 w' := h.go (h.st.rd.step hb) (.of_below hb)
/-- It is wrapped by a sign. -/
theorem PtSt.wrap (h : PtSt w0 rb s k n d xb x xk xt xa1 xl1 xc1 xa2 xl2 xc2 w) (kind : Int) :
    PtSt w0 rb s k n d xb (.mk kind false [] [x]) kind false none 0 0 (some ⟨w.heap.size, 0, none⟩) 1 1 (set4 (w.alloc (.cells #[.int .i64 xk, .bool xt, .slice xa1 xl1 xc1, .slice xa2 xl2 xc2] 26)) xb 0 (.int .i64 kind) (.bool false) (.slice none 0 0) (.slice (some ⟨w.heap.size, 0, none⟩) 1 1)) := by
  have bn := sbelow_new w (.cells #[.int .i64 xk, .bool xt, .slice xa1 xl1 xc1, .slice xa2 xl2 xc2] 26)
  have h1 := h.step bn
  have hq := quad_new w 26 (.int .i64 xk) (.bool xt) (.slice xa1 xl1 xc1) (.slice xa2 xl2 xc2)
  have hxl := h.st.x.lt
  have hrl := h.st.res.lt
  have hk4 := keeps_set4 (w.alloc (.cells #[.int .i64 xk, .bool xt, .slice xa1 xl1 xc1, .slice xa2 xl2 xc2] 26)) xb 0 (.int .i64 kind) (.bool false) (.slice none 0 0) (.slice (some ⟨w.heap.size, 0, none⟩) 1 1)
  have hq4 := hq.keeps hk4 (by omega)
  refine ⟨h1.st.put _ _ _ _, ?_⟩
  unfold ExC
  refine ⟨_, _, [.int .i64 xk, .bool xt, .slice xa1 xl1 xc1, .slice xa2 xl2 xc2], rfl, CapV.nil, RowX.nil _ _, .inr ⟨w.heap.size, 0, 1, rfl, ⟨by omega, by omega⟩, hq4.lt, fun j u hu => ?_⟩, ?_⟩
  · obtain ⟨e0, e1, e2, e3⟩ := hq4.cells
    match j, hu with
    | 0, hu => simp at hu; subst hu; exact e0
    | 1, hu => simp at hu; subst hu; exact e1
    | 2, hu => simp at hu; subst hu; exact e2
    | 3, hu => simp at hu; subst hu; exact e3
  · unfold ExsC
    exact ⟨_, [], by simp, h1.val.move hk4.size (fun q hq hlt => ⟨hq, hk4.block q hlt hq.2⟩), by unfold ExsC; rfl⟩
end
/-- What is told at the end of the way through the signs. -/
def PtRel (w : World) (rb : Nat) (s : ByteArray) (d xb : Nat) (tot : RO Rx) (g : Nat) (v : Value) (wr : World) : Prop :=
  (∃ (f k n : Nat) (x : Rx) (xk : Int) (xt : Bool) (xa1 : Option Addr) (xl1 xc1 : Nat) (xa2 : Option Addr) (xl2 xc2 : Nat), v = .nilIface ∧ g = f + 1 ∧ 100 < n + f ∧ n ≤ 100 ∧ k ≤ s.size ∧ sgR s f k n x = tot ∧ PtSt w rb s k n d xb x xk xt xa1 xl1 xc1 xa2 xl2 xc2 wr) ∨
  (∃ (fb : Nat) (c : Int) (a : Nat), v = pf fb ∧ g = 0 ∧ tot = .er c a ∧ c ≠ 0 ∧ FaultAt wr fb c a ∧ QuadAt 26 wr w.heap.size (.int .i64 0) (.bool false) (.slice none 0 0) (.slice none 0 0) ∧ Keeps (· = rb) w wr)

theorem ScanAt.keepsX {D : Nat → Prop} {w w' : World} {b : Nat} {s : ByteArray} {j : Int} (h : ScanAt w b s j) (hk : Keeps D w w') (hD : ¬ D b) : ScanAt w' b s j := by
  have e := hk.block b h.1 hD
  exact ⟨Nat.lt_of_lt_of_le h.1 hk.size, (World.cell?_of_block (a := ⟨b, 0, none⟩) e).trans h.2.1, (World.cell?_of_block (a := ⟨b, 1, none⟩) e).trans h.2.2.1, fun i => (World.frozen?_of_block (a := ⟨b, i, none⟩) e).trans (h.2.2.2 i)⟩
set_option maxRecDepth 100000 in
set_option maxHeartbeats 8000000 in
theorem part_any (s : ByteArray) (sub : Option (Nat → Nat → RO Rx)) (k0 n0 d rb : Nat) (hs : s.size ≤ 100000) (hk : k0 ≤ s.size) (hn : n0 ≤ 100) (hsub : SubSpec s sub d) (w : World) (hr : Rd w rb s k0 n0 d) :
    Calls Tryz.prog 61 #[.pointer (some ⟨rb, 0, none⟩)] w (XrOut w rb s d (ptR s sub k0 n0)) := by
  have hq1 := quad_new w 26 (.int .i64 0) (.bool false) (.slice none 0 0) (.slice none 0 0)
  have hb1 := sbelow_new w (.cells #[.int .i64 0, .bool false, .slice none 0 0, .slice none 0 0] 26)
  have hr1 := hr.step hb1
  have hz1 : (w.alloc (.cells #[.int .i64 0, .bool false, .slice none 0 0, .slice none 0 0] 26)).heap.size = w.heap.size + 1 := World.size_alloc _ _
  have HRB := Lib.hid hr.lt
  generalize hw1 : w.alloc (.cells #[.int .i64 0, .bool false, .slice none 0 0, .slice none 0 0] 26) = w1 at *
  have HBS := Lib.hid (base_any s sub k0 n0 d rb hs hk hn hsub w1 hr1)
  have HQ1 := Lib.hid hq1
  have HB1 := Lib.hid hb1
  have HZ1 := Lib.hid hz1
  have HNZ := Lib.hid (fun c a (h : bsR s sub k0 n0 = .er c a) => bsR_nz hsub h)
  have HGD := Lib.hid (fun k' n' x (h : bsR s sub k0 n0 = .ok k' n' x) => bsR_good (subGood hsub) k0 n0 k' n' x hk h)
  clear hq1 hb1 hr1 hr hz1
  go_enter Tryz.func61, Tryz.ntmps61
  go_wp2_with fail
  refine HBS.out.mono ?_
  intro e w2 hout
  clear hw1
  cases ho : bsR s sub k0 n0 with
  | er cc aa =>
    rw [ho] at hout
    have HE : Hid (ptR s sub k0 n0 = .er cc aa) := Lib.hid (by unfold ptR; rw [ho])
    obtain ⟨fb, xk, xt, xa1, xl1, xc1, xa2, xl2, xc2, rfl, hf, hkp⟩ := hout
    have bn := sbelow_new w2 (.cells #[.int .i64 xk, .bool xt, .slice xa1 xl1 xc1, .slice xa2 xl2 xc2] 26)
    have HR := Lib.hid ((HQ1.out.keeps hkp (by have := HRB.out; omega)).step bn)
    have HK : Hid (Keeps (· = rb) w _) := Lib.hid (((Keeps.of_below HB1.out).trans hkp).next bn)
    have HF := Lib.hid (hf.keep bn)
    have HC0 := Lib.hid (HNZ.out _ _ ho)
    clear ho hf hkp bn
    have r0 := HR.out.cells.1
    have r1 := HR.out.cells.2.1
    have r2 := HR.out.cells.2.2.1
    have r3 := HR.out.cells.2.2.2
    have rf0 := HR.out.fz 0
    have rf1 := HR.out.fz 1
    have rf2 := HR.out.fz 2
    have rf3 := HR.out.fz 3
    unfold pf
    go_wp2_with fail
    go_loopg [5] 0 (fun _ v wr => v = pf fb ∧ wr = w2.alloc (.cells #[.int .i64 xk, .bool xt, .slice xa1 xl1 xc1, .slice xa2 xl2 xc2] 26))
    case atStart => exact ⟨rfl, rfl⟩
    case round =>
      obtain ⟨rfl, rfl⟩ := hrel
      unfold pf
      go_wp2_with fail
      have ho := out_er (s := s) (d := d) (k1 := 0) (t1 := false) (a1 := none) (l1 := 0) (c1 := 0) (a2 := none) (l2 := 0) (c2 := 0) HR.out HK.out HF.out HC0.out
      obtain ⟨q0, q1, q2, q3⟩ := (HR.out.set4 (.int .i64 0) (.bool false) (.slice none 0 0) (.slice none 0 0)).cells
      unfold set4 at q0 q1 q2 q3 ho
      refine bodyPost_ret (v := .tuple #[.agg #[.int .i64 0, .bool false, .slice none 0 0, .slice none 0 0], pf fb]) (by simp [results, Tryz.results61, go_sem, q0, q1, q2, q3, pf]) rfl ?_
      rw [HE.out]
      exact ho
  | ok k1 n1 x1 =>
    rw [ho] at hout
    have HE : Hid (ptR s sub k0 n0 = sgR s 101 k1 n1 x1) := Lib.hid (by unfold ptR; rw [ho])
    have hgd := HGD.out _ _ _ ho
    obtain ⟨xk, xt, xa1, xl1, xc1, xa2, xl2, xc2, rfl, hv, hrd, hkp⟩ := hout
    have bn := sbelow_new w2 (.cells #[.int .i64 xk, .bool xt, .slice xa1 xl1 xc1, .slice xa2 xl2 xc2] 26)
    have hz2 : w.heap.size + 1 ≤ w2.heap.size := by have := hkp.size; have := HZ1.out; omega
    have HP : Hid (PtSt w rb s k1 n1 d w2.heap.size x1 xk xt xa1 xl1 xc1 xa2 xl2 xc2 (w2.alloc (.cells #[.int .i64 xk, .bool xt, .slice xa1 xl1 xc1, .slice xa2 xl2 xc2] 26))) := Lib.hid
      ⟨⟨hrd.step bn, (HQ1.out.keeps hkp (by have := HRB.out; omega)).step bn, quad_new w2 _ _ _ _ _, ((Keeps.of_below HB1.out).trans hkp).next bn, ⟨HRB.out, by omega⟩⟩,
        hv.move (P' := fun q => w.heap.size < q ∧ q ≠ w2.heap.size) bn.size (fun q hq hlt => ⟨⟨by have := HZ1.out; omega, by omega⟩, bn.block q hlt⟩)⟩
    have HORD : Hid (rb < w.heap.size ∧ w.heap.size < w2.heap.size) := Lib.hid HP.out.st.ord
    have HGD1 := Lib.hid hgd
    clear ho hv hrd hkp bn hz2 hgd
    go_wp2_with fail
    generalize w2.alloc (.cells #[.int .i64 xk, .bool xt, .slice xa1 xl1 xc1, .slice xa2 xl2 xc2] 26) = w3 at *
    generalize w2.heap.size = xb at *
    go_loopg [5] 102 (fun g v wr => PtRel w rb s d xb (sgR s 101 k1 n1 x1) g v wr)
    case atStart => exact .inl ⟨101, k1, n1, x1, xk, xt, xa1, xl1, xc1, xa2, xl2, xc2, rfl, rfl, by have := HGD1.out; omega, HGD1.out.2.1, HGD1.out.2.2, rfl, HP.out⟩
    case round =>
      clear HP
      rcases hrel with ⟨f, k, n, x, xk, xt, xa1, xl1, xc1, xa2, xl2, xc2, rfl, hg, hf, hnn, hkl, htot, hst⟩ | ⟨fb, cc, aa, rfl, hg, htot, hc0, hfa, hre, hke⟩
      · obtain ⟨f, rfl⟩ : ∃ f', f = f' + 1 := ⟨f - 1, by omega⟩
        have HTT := Lib.hid htot
        have HG := Lib.hid hg
        have HF := Lib.hid hf
        have HP1 := Lib.hid hst
        have HSK : Hid (∀ W, Calls Tryz.prog 20 #[.agg #[.string s, .int .i64 k]] W fun e w' => e = .returned (.agg #[.string s, .int .i64 (skp s k)]) ∧ Below W.heap.size W w') := Lib.hid (fun W => skip_any s k hs hkl W)
        have HPK := Lib.hid (fun W => peek_any s (skp s k) (skp_le hkl).2 W)
        have HIB := Lib.hid (fun W => indexB (byteI s (skp s k)) (byteI_bd s (skp s k)) W)
        obtain ⟨c0, c1, -, -⟩ := hst.st.rd.cells
        clear htot hg hf hst
        go_wp2_with fail
        refine (HSK.out _).mono ?_
        rintro e w4 ⟨rfl, b4⟩
        have bc := sbelow_new w4 (.cells #[.string s, .int .i64 (skp s k)] 42)
        have HC4 := Lib.hid (ScanAt.new w4 s (skp s k) 42)
        have HP4 := Lib.hid ((HP1.out.step b4).step bc)
        have HCB : Hid (rb < w4.heap.size ∧ xb < w4.heap.size) := Lib.hid ⟨((HP1.out.step b4).st.rd).lt, (HP1.out.step b4).st.x.lt⟩
        clear b4 bc c0 c1 HP1
        go_wp2_with fail
        generalize w4.alloc (.cells #[.string s, .int .i64 (skp s k)] 42) = w4' at *
        generalize w4.heap.size = cb at *
        refine (HPK.out _).mono ?_
        rintro e w6 ⟨rfl, b6⟩
        replace HP4 := Lib.hid (HP4.out.step b6)
        replace HC4 := Lib.hid (HC4.out.step b6)
        clear b6
        go_wp2_with fail
        refine (HIB.out _).mono ?_
        rintro e w7 ⟨rfl, rfl⟩
        rcases sgn_cases (byteI s (skp s k)) with ⟨hcc, hsg, hsi⟩ | ⟨hcc, hsg, hsi⟩ | ⟨hcc, hsg, hsi⟩ | ⟨hsg, hsi⟩
        · have hs1 : sgR s (f + 1) k n x = if 100 < n + 1 then .er 6 (skp s k) else sgR s f (skp s k + 1) (n + 1) (.mk (4 + 0 : Nat) false [] [x]) := by rw [sgR, hsg]
          have HS1 := Lib.hid hs1
          have HTK := Lib.hid (fun W (h : Rd W rb s k n d) => took_any s k n d rb 42 (by decide) hs hkl W h)
          rw [show ((42 : UInt8).toNat : Int) = 42 from rfl, decide_eq_true hcc] at HTK
          have hlt := byteI_in hcc (by decide)
          have HLT := Lib.hid hlt
          rw [hsi]
          have hcut := cut0
          clear hs1 hsg hsi hlt
          go_wp2_with fail
          refine (HTK.out _ HP4.out.st.rd).mono ?_
          rintro e w5 ⟨rfl, hr5, hk5⟩
          have HC5 := Lib.hid (hk5.block cb HC4.out.1 (by have := HCB.out; omega))
          have HS5 : Hid (ScanAt w5 cb s (skp s k)) := Lib.hid (HC4.out.keepsX hk5 (by have := HCB.out; omega))
          have HP5 : Hid (PtSt w rb s (skp s k + 1) n d xb x xk xt xa1 xl1 xc1 xa2 xl2 xc2 w5) := Lib.hid (HP4.out.go (by unfold tkK at hr5; rwa [if_pos hcc] at hr5) hk5)
          clear hr5 hk5 hcc HTK
          obtain ⟨x0, x1, x2, x3⟩ := HP5.out.st.x.cells
          have hP6 := HP5.out.wrap (4 + 0 : Nat)
          have HP6 : Hid (PtSt w rb s (skp s k + 1) n d xb (.mk (4 + 0 : Nat) false [] [x]) (4 + 0 : Nat) false none 0 0 (some ⟨w5.heap.size, 0, none⟩) 1 1 _) := Lib.hid hP6
          have bn := sbelow_new w5 (.cells #[.int .i64 xk, .bool xt, .slice xa1 xl1 xc1, .slice xa2 xl2 xc2] 26)
          have HX5 := Lib.hid ((HP5.out.st.x.step bn))
          obtain ⟨y0, y1, y2, y3⟩ := HX5.out.cells
          have yf0 := HX5.out.fz 0
          have yf1 := HX5.out.fz 1
          have yf2 := HX5.out.fz 2
          have yf3 := HX5.out.fz 3
          have HS6 := Lib.hid ((HS5.out.step bn).keepsX (keeps_set4 (w5.alloc (.cells #[.int .i64 xk, .bool xt, .slice xa1 xl1 xc1, .slice xa2 xl2 xc2] 26)) xb 0 (.int .i64 (4 + 0 : Nat)) (.bool false) (.slice none 0 0) (.slice (some ⟨w5.heap.size, 0, none⟩) 1 1)) (by have := HCB.out; omega))
          clear bn hP6
          unfold set4 at HP6 HS6
          go_upto_region 7 with (fail)
          generalize ((((w5.alloc (.cells #[.int .i64 xk, .bool xt, .slice xa1 xl1 xc1, .slice xa2 xl2 xc2] 26)).setCell ⟨xb, 0, none⟩ (.int .i64 (4 + 0 : Nat))).setCell ⟨xb, 0 + 1, none⟩ (.bool false)).setCell ⟨xb, 0 + 2, none⟩ (.slice none 0 0)).setCell ⟨xb, 0 + 3, none⟩ (.slice (some ⟨w5.heap.size, 0, none⟩) 1 1) = w6 at *
          generalize w5.heap.size = nb at *
          clear x0 x1 x2 x3 y0 y1 y2 y3 yf0 yf1 yf2 yf3
          obtain ⟨-, z0, z1, -⟩ := HS6.out
          go_wp2_with fail
          refine (at_any s _ _).mono ?_
          rintro e w7 ⟨rfl, b7⟩
          have HP7 := Lib.hid (HP6.out.step b7)
          clear b7 z0 z1
          go_wp2_with fail
          by_cases hn1 : n + 1 ≤ 100
          · refine (count_yes s (skp s k + 1) n d rb (skp s k) hn1 _ HP7.out.st.rd).mono ?_
            rintro e w8 ⟨rfl, hr8, hk8⟩
            have HP8 := Lib.hid (HP7.out.go hr8 hk8)
            have HS2 := Lib.hid (HS1.out.trans (if_neg (by omega)))
            clear hr8 hk8
            go_wp2_with fail
            go_roundg (f + 1)
            case measure => have := HG.out; omega
            case rel => exact .inl ⟨f, skp s k + 1, n + 1, _, _, _, _, _, _, _, _, _, rfl, rfl, by have := HF.out; omega, hn1, by have := HLT.out; omega, HS2.out.symm.trans HTT.out, HP8.out⟩
          · refine (count_no s (skp s k + 1) n d rb (skp s k) (by omega) (by omega) _ HP7.out.st.rd).mono ?_
            rintro e w8 ⟨fb, rfl, hf8, hk8⟩
            have HR8 := Lib.hid (HP7.out.st.res.keeps hk8 (by have := HORD.out; omega))
            have HK8 := Lib.hid (HP7.out.st.keep.trans hk8)
            have HF8 := Lib.hid hf8
            have HS2 := Lib.hid (HS1.out.trans (if_pos (by omega)))
            clear hf8 hk8
            unfold pf
            go_wp2_with fail
            go_roundg 0
            case measure => have := HG.out; omega
            case rel => exact .inr ⟨fb, 6, skp s k, rfl, rfl, HTT.out.symm.trans HS2.out, by decide, HF8.out, HR8.out, HK8.out⟩
        · have hs1 : sgR s (f + 1) k n x = if 100 < n + 1 then .er 6 (skp s k) else sgR s f (skp s k + 1) (n + 1) (.mk (4 + 1 : Nat) false [] [x]) := by rw [sgR, hsg]
          have HS1 := Lib.hid hs1
          have HTK := Lib.hid (fun W (h : Rd W rb s k n d) => took_any s k n d rb 43 (by decide) hs hkl W h)
          rw [show ((43 : UInt8).toNat : Int) = 43 from rfl, decide_eq_true hcc] at HTK
          have hlt := byteI_in hcc (by decide)
          have HLT := Lib.hid hlt
          rw [hsi]
          have hcut := cut1
          clear hs1 hsg hsi hlt
          go_wp2_with fail
          refine (HTK.out _ HP4.out.st.rd).mono ?_
          rintro e w5 ⟨rfl, hr5, hk5⟩
          have HC5 := Lib.hid (hk5.block cb HC4.out.1 (by have := HCB.out; omega))
          have HS5 : Hid (ScanAt w5 cb s (skp s k)) := Lib.hid (HC4.out.keepsX hk5 (by have := HCB.out; omega))
          have HP5 : Hid (PtSt w rb s (skp s k + 1) n d xb x xk xt xa1 xl1 xc1 xa2 xl2 xc2 w5) := Lib.hid (HP4.out.go (by unfold tkK at hr5; rwa [if_pos hcc] at hr5) hk5)
          clear hr5 hk5 hcc HTK
          obtain ⟨x0, x1, x2, x3⟩ := HP5.out.st.x.cells
          have hP6 := HP5.out.wrap (4 + 1 : Nat)
          have HP6 : Hid (PtSt w rb s (skp s k + 1) n d xb (.mk (4 + 1 : Nat) false [] [x]) (4 + 1 : Nat) false none 0 0 (some ⟨w5.heap.size, 0, none⟩) 1 1 _) := Lib.hid hP6
          have bn := sbelow_new w5 (.cells #[.int .i64 xk, .bool xt, .slice xa1 xl1 xc1, .slice xa2 xl2 xc2] 26)
          have HX5 := Lib.hid ((HP5.out.st.x.step bn))
          obtain ⟨y0, y1, y2, y3⟩ := HX5.out.cells
          have yf0 := HX5.out.fz 0
          have yf1 := HX5.out.fz 1
          have yf2 := HX5.out.fz 2
          have yf3 := HX5.out.fz 3
          have HS6 := Lib.hid ((HS5.out.step bn).keepsX (keeps_set4 (w5.alloc (.cells #[.int .i64 xk, .bool xt, .slice xa1 xl1 xc1, .slice xa2 xl2 xc2] 26)) xb 0 (.int .i64 (4 + 1 : Nat)) (.bool false) (.slice none 0 0) (.slice (some ⟨w5.heap.size, 0, none⟩) 1 1)) (by have := HCB.out; omega))
          clear bn hP6
          unfold set4 at HP6 HS6
          go_upto_region 7 with (fail)
          generalize ((((w5.alloc (.cells #[.int .i64 xk, .bool xt, .slice xa1 xl1 xc1, .slice xa2 xl2 xc2] 26)).setCell ⟨xb, 0, none⟩ (.int .i64 (4 + 1 : Nat))).setCell ⟨xb, 0 + 1, none⟩ (.bool false)).setCell ⟨xb, 0 + 2, none⟩ (.slice none 0 0)).setCell ⟨xb, 0 + 3, none⟩ (.slice (some ⟨w5.heap.size, 0, none⟩) 1 1) = w6 at *
          generalize w5.heap.size = nb at *
          clear x0 x1 x2 x3 y0 y1 y2 y3 yf0 yf1 yf2 yf3
          obtain ⟨-, z0, z1, -⟩ := HS6.out
          go_wp2_with fail
          refine (at_any s _ _).mono ?_
          rintro e w7 ⟨rfl, b7⟩
          have HP7 := Lib.hid (HP6.out.step b7)
          clear b7 z0 z1
          go_wp2_with fail
          by_cases hn1 : n + 1 ≤ 100
          · refine (count_yes s (skp s k + 1) n d rb (skp s k) hn1 _ HP7.out.st.rd).mono ?_
            rintro e w8 ⟨rfl, hr8, hk8⟩
            have HP8 := Lib.hid (HP7.out.go hr8 hk8)
            have HS2 := Lib.hid (HS1.out.trans (if_neg (by omega)))
            clear hr8 hk8
            go_wp2_with fail
            go_roundg (f + 1)
            case measure => have := HG.out; omega
            case rel => exact .inl ⟨f, skp s k + 1, n + 1, _, _, _, _, _, _, _, _, _, rfl, rfl, by have := HF.out; omega, hn1, by have := HLT.out; omega, HS2.out.symm.trans HTT.out, HP8.out⟩
          · refine (count_no s (skp s k + 1) n d rb (skp s k) (by omega) (by omega) _ HP7.out.st.rd).mono ?_
            rintro e w8 ⟨fb, rfl, hf8, hk8⟩
            have HR8 := Lib.hid (HP7.out.st.res.keeps hk8 (by have := HORD.out; omega))
            have HK8 := Lib.hid (HP7.out.st.keep.trans hk8)
            have HF8 := Lib.hid hf8
            have HS2 := Lib.hid (HS1.out.trans (if_pos (by omega)))
            clear hf8 hk8
            unfold pf
            go_wp2_with fail
            go_roundg 0
            case measure => have := HG.out; omega
            case rel => exact .inr ⟨fb, 6, skp s k, rfl, rfl, HTT.out.symm.trans HS2.out, by decide, HF8.out, HR8.out, HK8.out⟩
        · have hs1 : sgR s (f + 1) k n x = if 100 < n + 1 then .er 6 (skp s k) else sgR s f (skp s k + 1) (n + 1) (.mk (4 + 2 : Nat) false [] [x]) := by rw [sgR, hsg]
          have HS1 := Lib.hid hs1
          have HTK := Lib.hid (fun W (h : Rd W rb s k n d) => took_any s k n d rb 63 (by decide) hs hkl W h)
          rw [show ((63 : UInt8).toNat : Int) = 63 from rfl, decide_eq_true hcc] at HTK
          have hlt := byteI_in hcc (by decide)
          have HLT := Lib.hid hlt
          rw [hsi]
          have hcut := cut2
          clear hs1 hsg hsi hlt
          go_wp2_with fail
          refine (HTK.out _ HP4.out.st.rd).mono ?_
          rintro e w5 ⟨rfl, hr5, hk5⟩
          have HC5 := Lib.hid (hk5.block cb HC4.out.1 (by have := HCB.out; omega))
          have HS5 : Hid (ScanAt w5 cb s (skp s k)) := Lib.hid (HC4.out.keepsX hk5 (by have := HCB.out; omega))
          have HP5 : Hid (PtSt w rb s (skp s k + 1) n d xb x xk xt xa1 xl1 xc1 xa2 xl2 xc2 w5) := Lib.hid (HP4.out.go (by unfold tkK at hr5; rwa [if_pos hcc] at hr5) hk5)
          clear hr5 hk5 hcc HTK
          obtain ⟨x0, x1, x2, x3⟩ := HP5.out.st.x.cells
          have hP6 := HP5.out.wrap (4 + 2 : Nat)
          have HP6 : Hid (PtSt w rb s (skp s k + 1) n d xb (.mk (4 + 2 : Nat) false [] [x]) (4 + 2 : Nat) false none 0 0 (some ⟨w5.heap.size, 0, none⟩) 1 1 _) := Lib.hid hP6
          have bn := sbelow_new w5 (.cells #[.int .i64 xk, .bool xt, .slice xa1 xl1 xc1, .slice xa2 xl2 xc2] 26)
          have HX5 := Lib.hid ((HP5.out.st.x.step bn))
          obtain ⟨y0, y1, y2, y3⟩ := HX5.out.cells
          have yf0 := HX5.out.fz 0
          have yf1 := HX5.out.fz 1
          have yf2 := HX5.out.fz 2
          have yf3 := HX5.out.fz 3
          have HS6 := Lib.hid ((HS5.out.step bn).keepsX (keeps_set4 (w5.alloc (.cells #[.int .i64 xk, .bool xt, .slice xa1 xl1 xc1, .slice xa2 xl2 xc2] 26)) xb 0 (.int .i64 (4 + 2 : Nat)) (.bool false) (.slice none 0 0) (.slice (some ⟨w5.heap.size, 0, none⟩) 1 1)) (by have := HCB.out; omega))
          clear bn hP6
          unfold set4 at HP6 HS6
          go_upto_region 7 with (fail)
          generalize ((((w5.alloc (.cells #[.int .i64 xk, .bool xt, .slice xa1 xl1 xc1, .slice xa2 xl2 xc2] 26)).setCell ⟨xb, 0, none⟩ (.int .i64 (4 + 2 : Nat))).setCell ⟨xb, 0 + 1, none⟩ (.bool false)).setCell ⟨xb, 0 + 2, none⟩ (.slice none 0 0)).setCell ⟨xb, 0 + 3, none⟩ (.slice (some ⟨w5.heap.size, 0, none⟩) 1 1) = w6 at *
          generalize w5.heap.size = nb at *
          clear x0 x1 x2 x3 y0 y1 y2 y3 yf0 yf1 yf2 yf3
          obtain ⟨-, z0, z1, -⟩ := HS6.out
          go_wp2_with fail
          refine (at_any s _ _).mono ?_
          rintro e w7 ⟨rfl, b7⟩
          have HP7 := Lib.hid (HP6.out.step b7)
          clear b7 z0 z1
          go_wp2_with fail
          by_cases hn1 : n + 1 ≤ 100
          · refine (count_yes s (skp s k + 1) n d rb (skp s k) hn1 _ HP7.out.st.rd).mono ?_
            rintro e w8 ⟨rfl, hr8, hk8⟩
            have HP8 := Lib.hid (HP7.out.go hr8 hk8)
            have HS2 := Lib.hid (HS1.out.trans (if_neg (by omega)))
            clear hr8 hk8
            go_wp2_with fail
            go_roundg (f + 1)
            case measure => have := HG.out; omega
            case rel => exact .inl ⟨f, skp s k + 1, n + 1, _, _, _, _, _, _, _, _, _, rfl, rfl, by have := HF.out; omega, hn1, by have := HLT.out; omega, HS2.out.symm.trans HTT.out, HP8.out⟩
          · refine (count_no s (skp s k + 1) n d rb (skp s k) (by omega) (by omega) _ HP7.out.st.rd).mono ?_
            rintro e w8 ⟨fb, rfl, hf8, hk8⟩
            have HR8 := Lib.hid (HP7.out.st.res.keeps hk8 (by have := HORD.out; omega))
            have HK8 := Lib.hid (HP7.out.st.keep.trans hk8)
            have HF8 := Lib.hid hf8
            have HS2 := Lib.hid (HS1.out.trans (if_pos (by omega)))
            clear hf8 hk8
            unfold pf
            go_wp2_with fail
            go_roundg 0
            case measure => have := HG.out; omega
            case rel => exact .inr ⟨fb, 6, skp s k, rfl, rfl, HTT.out.symm.trans HS2.out, by decide, HF8.out, HR8.out, HK8.out⟩
        · have HS1 : Hid (sgR s (f + 1) k n x = .ok k n x) := Lib.hid (by rw [sgR, hsg])
          rw [hsi]
          have HR := Lib.hid HP4.out.st.res
          obtain ⟨x0, x1, x2, x3⟩ := HP4.out.st.x.cells
          clear hsg hsi
          have r0 := HR.out.cells.1
          have r1 := HR.out.cells.2.1
          have r2 := HR.out.cells.2.2.1
          have r3 := HR.out.cells.2.2.2
          have rf0 := HR.out.fz 0
          have rf1 := HR.out.fz 1
          have rf2 := HR.out.fz 2
          have rf3 := HR.out.fz 3
          go_wp2_with fail
          have ho := out_ok HORD.out.1 HP4.out.st.keep HP4.out.st.rd (HP4.out.val.move (P' := fun q => w.heap.size < q) (Nat.le_refl _) (fun q hq _ => ⟨hq.1, rfl⟩))
          obtain ⟨q0, q1, q2, q3⟩ := (HR.out.set4 (.int .i64 xk) (.bool xt) (.slice xa1 xl1 xc1) (.slice xa2 xl2 xc2)).cells
          unfold set4 at q0 q1 q2 q3 ho
          refine bodyPost_ret (v := .tuple #[.agg #[.int .i64 xk, .bool xt, .slice xa1 xl1 xc1, .slice xa2 xl2 xc2], .nilIface]) (by simp [results, Tryz.results61, go_sem, q0, q1, q2, q3]) rfl ?_
          rw [HE.out, ← HTT.out, HS1.out]
          exact ho
      · have HR := Lib.hid hre
        have HK := Lib.hid hke
        have HF := Lib.hid hfa
        have HC0 := Lib.hid hc0
        have HTT := Lib.hid htot
        clear hre hke hfa hc0 htot
        have r0 := HR.out.cells.1
        have r1 := HR.out.cells.2.1
        have r2 := HR.out.cells.2.2.1
        have r3 := HR.out.cells.2.2.2
        have rf0 := HR.out.fz 0
        have rf1 := HR.out.fz 1
        have rf2 := HR.out.fz 2
        have rf3 := HR.out.fz 3
        unfold pf
        go_wp2_with fail
        have ho := out_er (s := s) (d := d) (k1 := 0) (t1 := false) (a1 := none) (l1 := 0) (c1 := 0) (a2 := none) (l2 := 0) (c2 := 0) HR.out HK.out HF.out HC0.out
        obtain ⟨q0, q1, q2, q3⟩ := (HR.out.set4 (.int .i64 0) (.bool false) (.slice none 0 0) (.slice none 0 0)).cells
        unfold set4 at q0 q1 q2 q3 ho
        refine bodyPost_ret (v := .tuple #[.agg #[.int .i64 0, .bool false, .slice none 0 0, .slice none 0 0], pf fb]) (by simp [results, Tryz.results61, go_sem, q0, q1, q2, q3, pf]) rfl ?_
        rw [HE.out, HTT.out]
        exact ho
end Go.Proofs.YtpccdhkghlbhkaaGreatDoor
