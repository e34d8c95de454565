/-
  Package regex's reader by contracts: what stands ahead of a part's signs.
-/
import Derived.Test.YtocfcnhaecmgpaaGreatDoorRxH
namespace Go.Proofs.YtocfcnhaecmgpaaGreatDoor
open Go.RowKit Go.Extern.Stop Go.Stop Go.Extern Go.WideMaps

theorem bsR_40 {s : ByteArray} {sub : Option (Nat → Nat → RO Rx)} {k n : Nat} (h : byteI s (skp s k) = 40) : bsR s sub k n = brR s sub (skp s k + 1) n (skp s k) := by
  unfold bsR brR
  rw [if_pos h]
  cases sub <;> rfl
theorem bsR_46 {s : ByteArray} {sub : Option (Nat → Nat → RO Rx)} {k n : Nat} (h : byteI s (skp s k) = 46) : bsR s sub k n = cnt (skp s k + 1) n (.mk 0 false [] []) (skp s k) := by
  unfold bsR
  rw [if_neg (by rw [h]; decide), if_pos h]
theorem bsR_91 {s : ByteArray} {sub : Option (Nat → Nat → RO Rx)} {k n : Nat} (h : byteI s (skp s k) = 91) : bsR s sub k n = (match chX s (skp s k + 1) n with | .er c a => .er c a | .ok k' _ x => cnt k' n x (skp s k)) := by
  unfold bsR chX
  rw [if_neg (by rw [h]; decide), if_neg (by rw [h]; decide), if_pos h]
  cases chR s (s.size + 1) (notK s (skp s k + 1)) [] <;> rfl
theorem bsR_word {s : ByteArray} {sub : Option (Nat → Nat → RO Rx)} {k n : Nat} (h1 : ¬ byteI s (skp s k) = 40) (h2 : ¬ byteI s (skp s k) = 46) (h3 : ¬ byteI s (skp s k) = 91) :
    bsR s sub k n = if wdC s (skp s k) ≠ 0 then .er (wdC s (skp s k)) (wdA s (skp s k)) else cnt (wdK s (skp s k)) n (.mk 1 false [s.extract (skp s k) (wdK s (skp s k))] []) (skp s k) := by
  unfold bsR
  rw [if_neg h1, if_neg h2, if_neg h3]
theorem chX_le {s : ByteArray} {k n k' n' : Nat} {x : Rx} (h : chX s k n = .ok k' n' x) : k' ≤ s.size ∧ n' = n := by
  unfold chX at h
  split at h
  · cases h
  · rename_i k1 n1 ws e
    injection h with h1 h2 h3
    exact ⟨by rw [← h1]; exact chR_le _ _ _ _ _ _ e, h2.symm⟩
theorem chR_nz {s : ByteArray} : ∀ (f k : Nat) (seen : List ByteArray) (c : Int) (a : Nat), s.size < k + f → k ≤ s.size → chR s f k seen = .er c a → c ≠ 0
  | 0, k, seen, c, a, h0, h1, _ => by omega
  | f + 1, k, seen, c, a, h0, h1, h => by
    rw [chR] at h
    split at h
    · rename_i h2
      injection h with h3 h4
      rw [← h3]; exact h2
    · split at h
      · injection h with h3 h4
        rw [← h3]; decide
      · split at h
        · rename_i h2
          have h3 := byteI_in h2 (by decide : (44 : Int) ≠ 0)
          have h4 := (skp_le h1)
          have h5 := wdK_le h4.2
          have h6 := skp_le h5.2
          exact chR_nz f _ _ c a (by omega) (by omega) h
        · split at h
          · cases h
          · injection h with h3 h4
            rw [← h3]; exact missC_ne s _
theorem chX_nz {s : ByteArray} {k n : Nat} {c : Int} {a : Nat} (hk : k ≤ s.size) (h : chX s k n = .er c a) : c ≠ 0 := by
  unfold chX at h
  split at h
  · rename_i c1 a1 e
    injection h with h1 h2
    rw [← h1]
    have : notK s k ≤ s.size := by rw [notK_eq]; exact tkK_le hk (by decide)
    exact chR_nz _ _ _ _ _ (by omega) this e
  · cases h
theorem cnt_nz {α : Type} {k n a : Nat} {x : α} {c : Int} {b : Nat} (h : cnt k n x a = .er c b) : c ≠ 0 := by
  unfold cnt at h
  split at h
  · injection h with h1 h2; rw [← h1]; decide
  · cases h

set_option maxRecDepth 100000 in
set_option maxHeartbeats 8000000 in
theorem base_open (s : ByteArray) (sub : Option (Nat → Nat → RO Rx)) (k n d rb : Nat) (hs : s.size ≤ 100000) (hk : k ≤ s.size) (hn : n ≤ 100) (hsub : SubSpec s sub d) (h40 : byteI s (skp s k) = 40) (w : World) (hr : Rd w rb s k n d) :
    Calls Tryz.prog 128 #[.pointer (some ⟨rb, 0, none⟩)] w (XrOut w rb s d (bsR s sub k n)) := by
  have hq1 := quad_new w 25 (.int .i64 0) (.bool false) (.slice none 0 0) (.slice none 0 0)
  have hb1 := sbelow_new w (.cells #[.int .i64 0, .bool false, .slice none 0 0, .slice none 0 0] 25)
  have hr1 := hr.step hb1
  have hz1 : (w.alloc (.cells #[.int .i64 0, .bool false, .slice none 0 0, .slice none 0 0] 25)).heap.size = w.heap.size + 1 := World.size_alloc _ _
  have HRB := Lib.hid hr.lt
  have HKL := Lib.hid hk
  have HJL := Lib.hid (skp_le hk).2
  have HS : Hid (∀ W, Calls Tryz.prog 45 #[.agg #[.string s, .int .i64 k]] W fun e w' => e = .returned (.agg #[.string s, .int .i64 (skp s k)]) ∧ Below W.heap.size W w') := Lib.hid (fun W => skip_any s k hs hk W)
  have HT40 := Lib.hid (fun W (h : Rd W rb s k n d) => took_any s k n d rb 40 (by decide) hs hk W h)
  rw [show ((40 : UInt8).toNat : Int) = 40 from rfl] at HT40
  have HT46 := Lib.hid (fun W (h : Rd W rb s k n d) => took_any s k n d rb 46 (by decide) hs hk W h)
  rw [show ((46 : UInt8).toNat : Int) = 46 from rfl] at HT46
  have HT91 := Lib.hid (fun W (h : Rd W rb s k n d) => took_any s k n d rb 91 (by decide) hs hk W h)
  rw [show ((91 : UInt8).toNat : Int) = 91 from rfl] at HT91
  generalize hw1 : w.alloc (.cells #[.int .i64 0, .bool false, .slice none 0 0, .slice none 0 0] 25) = w1 at *
  have HQ1 := Lib.hid hq1
  have HB1 := Lib.hid hb1
  have HZ1 := Lib.hid hz1
  have HR1 := Lib.hid hr1
  obtain ⟨c0, c1, -, -⟩ := hr1.cells
  clear hq1 hb1 hr1 hr hz1
  go_enter Tryz.func128, Tryz.ntmps128
  go_wp2_with fail
  refine (HS.out _).mono ?_
  rintro e w2 ⟨rfl, b2⟩
  clear c0 c1
  go_wp2_with fail
  refine (at_any s _ _).mono ?_
  rintro e w3 ⟨rfl, b3⟩
  have hbz := (b2.trans (b3.mono b2.size))
  have hbx := sbelow_new w3 (.cells #[.int .i64 0, .bool false, .slice none 0 0, .slice none 0 0] 25)
  have HST : Hid (BsSt w rb s k n d w3.heap.size (.int .i64 0) (.bool false) (.slice none 0 0) (.slice none 0 0) (w3.alloc (.cells #[.int .i64 0, .bool false, .slice none 0 0, .slice none 0 0] 25))) := Lib.hid
    ⟨(HR1.out.step hbz).step hbx, (HQ1.out.step hbz).step hbx, quad_new w3 _ _ _ _ _, ((Keeps.of_below HB1.out).next hbz).next hbx, ⟨HRB.out, by have := hbz.size; have := HZ1.out; omega⟩⟩
  have HORD : Hid (rb < w.heap.size ∧ w.heap.size < w3.heap.size) := Lib.hid HST.out.ord
  clear b2 b3 hbz hbx hw1
  go_wp2_with fail
  generalize w3.alloc (.cells #[.int .i64 0, .bool false, .slice none 0 0, .slice none 0 0] 25) = w4 at *
  generalize w3.heap.size = xb at *
  refine (HT40.out _ HST.out.rd).mono ?_
  rintro e w5 ⟨rfl, hr, hkp⟩
  rw [decide_eq_true h40]
  have HS5 : Hid (BsSt w rb s (skp s k + 1) n d xb (.int .i64 0) (.bool false) (.slice none 0 0) (.slice none 0 0) w5) := Lib.hid (HST.out.go (by unfold tkK at hr; rwa [if_pos h40] at hr) hkp)
  clear hr hkp
  have HE := Lib.hid (bsR_40 (sub := sub) (n := n) h40)
  have hlt := byteI_in h40 (by decide)
  clear h40 HT46 HT91
  have HBR := Lib.hid (fun W (h : Rd W rb s (skp s k + 1) n d) => brackets_any s sub (skp s k + 1) n d rb (skp s k) hs (by omega) hn hsub W h)
  go_wp2_with fail
  refine (HBR.out _ HS5.out.rd).mono ?_
  intro e w6 hout
  have HNZ : Hid (∀ c a, brR s sub (skp s k + 1) n (skp s k) = .er c a → c ≠ 0) := Lib.hid (by
    intro c a h
    unfold brR at h
    split at h
    · injection h with h1 h2; rw [← h1]; decide
    · rename_i f
      obtain ⟨-, -, -, hz⟩ := hsub
      split at h
      · exact cnt_nz h
      · split at h
        · rename_i c1 a1 e1
          injection h with h1 h2
          rw [← h1]; exact hz _ _ _ _ (by omega) e1
        · split at h
          · cases h
          · injection h with h1 h2; rw [← h1]; exact missC_ne s _)
  have hz5 : w.heap.size < w5.heap.size := HS5.out.res.lt
  cases ho : brR s sub (skp s k + 1) n (skp s k) with
  | er cc aa =>
    rw [ho] at hout HE
    obtain ⟨fb, xk, xt, xa1, xl1, xc1, xa2, xl2, xc2, rfl, hf, hkp⟩ := hout
    have HR := Lib.hid (HS5.out.res.keeps hkp (by have := HORD.out; omega))
    have HK := Lib.hid (HS5.out.keep.trans hkp)
    have HF := Lib.hid hf
    have HC0 := Lib.hid (HNZ.out _ _ ho)
    clear ho hf hkp
    have r0 := HR.out.cells.1
    have r1 := HR.out.cells.2.1
    have r2 := HR.out.cells.2.2.1
    have r3 := HR.out.cells.2.2.2
    have rf0 := HR.out.fz 0
    have rf1 := HR.out.fz 1
    have rf2 := HR.out.fz 2
    have rf3 := HR.out.fz 3
    unfold pf
    go_wp2_with fail
    have ho := out_er (s := s) (d := d) (k1 := xk) (t1 := xt) (a1 := xa1) (l1 := xl1) (c1 := xc1) (a2 := xa2) (l2 := xl2) (c2 := xc2) HR.out HK.out HF.out HC0.out
    obtain ⟨q0, q1, q2, q3⟩ := (HR.out.set4 (.int .i64 xk) (.bool xt) (.slice xa1 xl1 xc1) (.slice xa2 xl2 xc2)).cells
    unfold set4 at q0 q1 q2 q3 ho
    refine bodyPost_ret (v := .tuple #[.agg #[.int .i64 xk, .bool xt, .slice xa1 xl1 xc1, .slice xa2 xl2 xc2], pf fb]) (by simp [results, Tryz.results128, go_sem, q0, q1, q2, q3, pf]) rfl ?_
    rw [HE.out]
    exact ho
  | ok k6 n6 x6 =>
    rw [ho] at hout HE
    obtain ⟨xk, xt, xa1, xl1, xc1, xa2, xl2, xc2, rfl, hv, hrd, hkp⟩ := hout
    have HR := Lib.hid (HS5.out.res.keeps hkp (by have := HORD.out; omega))
    have HK := Lib.hid (HS5.out.keep.trans hkp)
    have HV : Hid (ExC (fun q => w.heap.size < q) w6 _ x6) := Lib.hid (hv.move (Nat.le_refl _) (fun q hq _ => ⟨by omega, rfl⟩))
    have HD := Lib.hid hrd
    clear ho hv hkp hrd
    have r0 := HR.out.cells.1
    have r1 := HR.out.cells.2.1
    have r2 := HR.out.cells.2.2.1
    have r3 := HR.out.cells.2.2.2
    have rf0 := HR.out.fz 0
    have rf1 := HR.out.fz 1
    have rf2 := HR.out.fz 2
    have rf3 := HR.out.fz 3
    go_wp2_with fail
    have ho := out_ok HORD.out.1 HK.out HD.out HV.out
    obtain ⟨q0, q1, q2, q3⟩ := (HR.out.set4 (.int .i64 xk) (.bool xt) (.slice xa1 xl1 xc1) (.slice xa2 xl2 xc2)).cells
    unfold set4 at q0 q1 q2 q3 ho
    refine bodyPost_ret (v := .tuple #[.agg #[.int .i64 xk, .bool xt, .slice xa1 xl1 xc1, .slice xa2 xl2 xc2], .nilIface]) (by simp [results, Tryz.results128, go_sem, q0, q1, q2, q3]) rfl ?_
    rw [HE.out]
    exact ho

set_option maxRecDepth 100000 in
set_option maxHeartbeats 8000000 in
theorem base_dot (s : ByteArray) (sub : Option (Nat → Nat → RO Rx)) (k n d rb : Nat) (hs : s.size ≤ 100000) (hk : k ≤ s.size) (hn : n ≤ 100) (h46 : byteI s (skp s k) = 46) (w : World) (hr : Rd w rb s k n d) :
    Calls Tryz.prog 128 #[.pointer (some ⟨rb, 0, none⟩)] w (XrOut w rb s d (bsR s sub k n)) := by
  have hq1 := quad_new w 25 (.int .i64 0) (.bool false) (.slice none 0 0) (.slice none 0 0)
  have hb1 := sbelow_new w (.cells #[.int .i64 0, .bool false, .slice none 0 0, .slice none 0 0] 25)
  have hr1 := hr.step hb1
  have hz1 : (w.alloc (.cells #[.int .i64 0, .bool false, .slice none 0 0, .slice none 0 0] 25)).heap.size = w.heap.size + 1 := World.size_alloc _ _
  have HRB := Lib.hid hr.lt
  have HKL := Lib.hid hk
  have HJL := Lib.hid (skp_le hk).2
  have HS : Hid (∀ W, Calls Tryz.prog 45 #[.agg #[.string s, .int .i64 k]] W fun e w' => e = .returned (.agg #[.string s, .int .i64 (skp s k)]) ∧ Below W.heap.size W w') := Lib.hid (fun W => skip_any s k hs hk W)
  have HT40 := Lib.hid (fun W (h : Rd W rb s k n d) => took_any s k n d rb 40 (by decide) hs hk W h)
  rw [show ((40 : UInt8).toNat : Int) = 40 from rfl] at HT40
  have HT46 := Lib.hid (fun W (h : Rd W rb s k n d) => took_any s k n d rb 46 (by decide) hs hk W h)
  rw [show ((46 : UInt8).toNat : Int) = 46 from rfl] at HT46
  have HT91 := Lib.hid (fun W (h : Rd W rb s k n d) => took_any s k n d rb 91 (by decide) hs hk W h)
  rw [show ((91 : UInt8).toNat : Int) = 91 from rfl] at HT91
  generalize hw1 : w.alloc (.cells #[.int .i64 0, .bool false, .slice none 0 0, .slice none 0 0] 25) = w1 at *
  have HQ1 := Lib.hid hq1
  have HB1 := Lib.hid hb1
  have HZ1 := Lib.hid hz1
  have HR1 := Lib.hid hr1
  obtain ⟨c0, c1, -, -⟩ := hr1.cells
  clear hq1 hb1 hr1 hr hz1
  go_enter Tryz.func128, Tryz.ntmps128
  go_wp2_with fail
  refine (HS.out _).mono ?_
  rintro e w2 ⟨rfl, b2⟩
  clear c0 c1
  go_wp2_with fail
  refine (at_any s _ _).mono ?_
  rintro e w3 ⟨rfl, b3⟩
  have hbz := (b2.trans (b3.mono b2.size))
  have hbx := sbelow_new w3 (.cells #[.int .i64 0, .bool false, .slice none 0 0, .slice none 0 0] 25)
  have HST : Hid (BsSt w rb s k n d w3.heap.size (.int .i64 0) (.bool false) (.slice none 0 0) (.slice none 0 0) (w3.alloc (.cells #[.int .i64 0, .bool false, .slice none 0 0, .slice none 0 0] 25))) := Lib.hid
    ⟨(HR1.out.step hbz).step hbx, (HQ1.out.step hbz).step hbx, quad_new w3 _ _ _ _ _, ((Keeps.of_below HB1.out).next hbz).next hbx, ⟨HRB.out, by have := hbz.size; have := HZ1.out; omega⟩⟩
  have HORD : Hid (rb < w.heap.size ∧ w.heap.size < w3.heap.size) := Lib.hid HST.out.ord
  clear b2 b3 hbz hbx hw1
  go_wp2_with fail
  generalize w3.alloc (.cells #[.int .i64 0, .bool false, .slice none 0 0, .slice none 0 0] 25) = w4 at *
  generalize w3.heap.size = xb at *
  have h40 : ¬ byteI s (skp s k) = 40 := by rw [h46]; decide
  refine (HT40.out _ HST.out.rd).mono ?_
  rintro e w5 ⟨rfl, hr, hkp⟩
  rw [decide_eq_false h40]
  have HS5 : Hid (BsSt w rb s k n d xb (.int .i64 0) (.bool false) (.slice none 0 0) (.slice none 0 0) w5) := Lib.hid (HST.out.go (by unfold tkK at hr; rwa [if_neg h40] at hr) hkp)
  clear hr hkp
  go_wp2_with fail
  refine (HT46.out _ HS5.out.rd).mono ?_
  rintro e w6 ⟨rfl, hr, hkp⟩
  rw [decide_eq_true h46]
  have HS6 : Hid (BsSt w rb s (skp s k + 1) n d xb (.int .i64 0) (.bool false) (.slice none 0 0) (.slice none 0 0) w6) := Lib.hid (HS5.out.go (by unfold tkK at hr; rwa [if_pos h46] at hr) hkp)
  clear hr hkp
  have HE := Lib.hid (bsR_46 (sub := sub) (n := n) h46)
  clear h40 h46 HT91
  obtain ⟨x0, x1, x2, x3⟩ := HS6.out.x.cells
  have xf0 := HS6.out.x.fz 0
  have xf1 := HS6.out.x.fz 1
  have xf2 := HS6.out.x.fz 2
  have xf3 := HS6.out.x.fz 3
  have hkx := keeps_set4 w6 xb 0 (.int .i64 0) (.bool false) (.slice none 0 0) (.slice none 0 0)
  have HX := Lib.hid (HS6.out.x.set4 (.int .i64 0) (.bool false) (.slice none 0 0) (.slice none 0 0))
  have HR := Lib.hid (HS6.out.res.keeps hkx (by have := HORD.out; omega))
  have HD := Lib.hid (QuadAt.keeps HS6.out.rd hkx (by have := HORD.out; omega))
  have HK : Hid (Keeps (· = rb) w (set4 w6 xb 0 (.int .i64 0) (.bool false) (.slice none 0 0) (.slice none 0 0))) := Lib.hid (by
    unfold set4
    have ho := HORD.out
    exact (((HS6.out.keep.setCell (q := ⟨xb, 0, none⟩) (.inl (by show w.heap.size ≤ xb; omega)) _).setCell (q := ⟨xb, 0 + 1, none⟩) (.inl (by show w.heap.size ≤ xb; omega)) _).setCell (q := ⟨xb, 0 + 2, none⟩) (.inl (by show w.heap.size ≤ xb; omega)) _).setCell (q := ⟨xb, 0 + 3, none⟩) (.inl (by show w.heap.size ≤ xb; omega)) _)
  clear hkx
  unfold set4 at HX HR HD HK
  go_wp2_with fail
  generalize (((w6.setCell ⟨xb, 0, none⟩ (.int .i64 0)).setCell ⟨xb, 0 + 1, none⟩ (.bool false)).setCell ⟨xb, 0 + 2, none⟩ (.slice none 0 0)).setCell ⟨xb, 0 + 3, none⟩ (.slice none 0 0) = w7 at *
  clear x0 x1 x2 x3 xf0 xf1 xf2 xf3
  have hX : QuadAt 25 w7.drew xb (.int .i64 0) (.bool false) (.slice none 0 0) (.slice none 0 0) := HX.out
  have hR : QuadAt 25 w7.drew w.heap.size (.int .i64 0) (.bool false) (.slice none 0 0) (.slice none 0 0) := HR.out
  have hRD : Rd w7.drew rb s (skp s k + 1) n d := HD.out
  have hKP : Keeps (· = rb) w w7.drew := HK.out.drew
  have hVV : ExC (fun q => w.heap.size < q) w7.drew [.int .i64 0, .bool false, .slice none 0 0, .slice none 0 0] (.mk 0 false [] []) := by
    unfold ExC
    exact ⟨_, _, [], rfl, CapV.nil, RowX.nil _ _, RowX.nil _ _, ExsC.nil⟩
  have hxr : xb ≠ rb := by have := HORD.out; omega
  have hrr : w.heap.size ≠ rb := by have := HORD.out; omega
  have hxw : xb ≠ w.heap.size := by have := HORD.out; omega
  have hxw' := hxw.symm
  by_cases hn1 : n + 1 ≤ 100
  · have HTA := Lib.hid (fun W (h : Rd W rb s (skp s k + 1) n d) => count_yes s (skp s k + 1) n d rb (skp s k) hn1 W h)
    have HE3 := Lib.hid (HE.out.trans (by rw [cnt, if_neg (by omega)]))
    obtain ⟨x0, x1, x2, x3⟩ := hX.cells
    clear hn1
    go_region_held3 (fun W => W.cell? ⟨xb, 0, none⟩ = some (.int .i64 0) ∧ W.cell? ⟨xb, 1, none⟩ = some (.bool false) ∧ W.cell? ⟨xb, 2, none⟩ = some (.slice none 0 0) ∧ W.cell? ⟨xb, 3, none⟩ = some (.slice none 0 0))
      (first | go_keep | exact hX.cells)
      (first
      | (go_at_call 106; refine (HTA.out _ hRD).mono ?_; rintro e w' ⟨rfl, hrd, hkp⟩; replace hX := hX.keeps hkp hxr; replace hR := hR.keeps hkp hrr; replace hKP := hKP.trans hkp; replace hVV := hVV.move (P' := fun q => w.heap.size < q) hkp.size (fun q hq hlt => ⟨hq, hkp.block q hlt (by have := HORD.out; omega)⟩); have r0 := hR.cells.1; have r1 := hR.cells.2.1; have r2 := hR.cells.2.2.1; have r3 := hR.cells.2.2.2; have rf0 := hR.fz 0; have rf1 := hR.fz 1; have rf2 := hR.fz 2; have rf3 := hR.fz 3))
    go_wp2
    have ho := out_ok HORD.out.1 hKP hrd hVV
    obtain ⟨q0, q1, q2, q3⟩ := (hR.set4 (.int .i64 0) (.bool false) (.slice none 0 0) (.slice none 0 0)).cells
    unfold set4 at q0 q1 q2 q3 ho
    refine bodyPost_ret (v := .tuple #[.agg #[.int .i64 0, .bool false, .slice none 0 0, .slice none 0 0], .nilIface]) (by simp [results, Tryz.results128, go_sem, q0, q1, q2, q3]) rfl ?_
    rw [HE3.out]
    exact ho
  · have HTA := Lib.hid (fun W (h : Rd W rb s (skp s k + 1) n d) => count_no s (skp s k + 1) n d rb (skp s k) (by omega) (by omega) W h)
    have HE3 := Lib.hid (HE.out.trans (by rw [cnt, if_pos (by omega)]))
    obtain ⟨x0, x1, x2, x3⟩ := hX.cells
    clear hn1
    go_region_held3 (fun W => W.cell? ⟨xb, 0, none⟩ = some (.int .i64 0) ∧ W.cell? ⟨xb, 1, none⟩ = some (.bool false) ∧ W.cell? ⟨xb, 2, none⟩ = some (.slice none 0 0) ∧ W.cell? ⟨xb, 3, none⟩ = some (.slice none 0 0))
      (first | go_keep | exact hX.cells)
      (first
      | (go_at_call 106; refine (HTA.out _ hRD).mono ?_; rintro e w' ⟨fb, rfl, hff, hkp⟩; replace hX := hX.keeps hkp hxr; replace hR := hR.keeps hkp hrr; replace hKP := hKP.trans hkp; have r0 := hR.cells.1; have r1 := hR.cells.2.1; have r2 := hR.cells.2.2.1; have r3 := hR.cells.2.2.2; have rf0 := hR.fz 0; have rf1 := hR.fz 1; have rf2 := hR.fz 2; have rf3 := hR.fz 3))
    unfold pf
    go_wp2
    have ho := out_er (s := s) (d := d) (k1 := 0) (t1 := false) (a1 := none) (l1 := 0) (c1 := 0) (a2 := none) (l2 := 0) (c2 := 0) hR hKP hff (by decide)
    obtain ⟨q0, q1, q2, q3⟩ := (hR.set4 (.int .i64 0) (.bool false) (.slice none 0 0) (.slice none 0 0)).cells
    unfold set4 at q0 q1 q2 q3 ho
    refine bodyPost_ret (v := .tuple #[.agg #[.int .i64 0, .bool false, .slice none 0 0, .slice none 0 0], pf fb]) (by simp [results, Tryz.results128, go_sem, q0, q1, q2, q3, pf]) rfl ?_
    rw [HE3.out]
    exact ho
end Go.Proofs.YtocfcnhaecmgpaaGreatDoor
