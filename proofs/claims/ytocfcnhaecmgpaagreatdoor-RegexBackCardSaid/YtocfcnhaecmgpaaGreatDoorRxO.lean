/-
  Package regex's reader by contracts: a row, alternatives, however deep.
-/
import Derived.Test.YtocfcnhaecmgpaaGreatDoorRxN
namespace Go.Proofs.YtocfcnhaecmgpaaGreatDoor
open Go.RowKit Go.Extern.Stop Go.Stop Go.Extern Go.WideMaps

theorem sgR_nz {s : ByteArray} : ∀ (f k n : Nat) (x : Rx) (c : Int) (a : Nat), 100 < n + f → n ≤ 100 → sgR s f k n x = .er c a → c ≠ 0
  | 0, k, n, x, c, a, h0, h1, _ => by omega
  | f + 1, k, n, x, c, a, h0, h1, h => by
    rw [sgR] at h
    split at h
    · cases h
    · split at h
      · injection h with h2 h3; rw [← h2]; decide
      · exact sgR_nz f _ _ _ c a (by omega) (by omega) h
theorem ptR_nz {s : ByteArray} {sub : Option (Nat → Nat → RO Rx)} {d : Nat} (hsub : SubSpec s sub d) : NzR s (ptR s sub) := by
  intro k n c a hk h
  unfold ptR at h
  split at h
  · rename_i c1 a1 e1
    injection h with h1 h2
    rw [← h1]; exact bsR_nz hsub e1
  · rename_i k1 n1 x1 e1
    have h1 := bsR_good (subGood hsub) k n k1 n1 x1 hk e1
    exact sgR_nz 101 k1 n1 x1 c a (by omega) h1.2.1 h
theorem jnL_nz {s : ByteArray} {kind : Int} {nx : Nat → Nat → RO Rx} {more : Nat → Option Nat} (hn : GoodR s nx) (hm : GoodM s more) (hz : NzR s nx) : ∀ (f k n : Nat) (l : List Rx) (c : Int) (a : Nat), k ≤ s.size → 100 < n + f → n ≤ 100 → jnL kind nx more f k n l = .er c a → c ≠ 0
  | 0, k, n, l, c, a, _, h0, h1, _ => by omega
  | f + 1, k, n, l, c, a, hk, h0, h1, h => by
    rw [jnL] at h
    split at h
    · rename_i c1 a1 e1
      injection h with h2 h3
      rw [← h2]; exact hz _ _ _ _ hk e1
    · rename_i k1 n1 x1 e1
      have h2 := hn k n k1 n1 x1 hk e1
      split at h
      · rename_i k2 e2
        exact jnL_nz hn hm hz f k2 n1 _ c a (hm k1 k2 h2.2.2 e2) (by omega) h2.2.1 h
      · cases h
theorem jnR_nz {s : ByteArray} {kind : Int} {nx : Nat → Nat → RO Rx} {more : Nat → Option Nat} (hn : GoodR s nx) (hm : GoodM s more) (hz : NzR s nx) : NzR s (jnR s kind nx more) := by
  intro k n c a hk h
  unfold jnR at h
  split at h
  · rename_i c1 a1 e1
    injection h with h2 h3
    rw [← h2]; exact hz _ _ _ _ hk e1
  · rename_i k1 n1 x1 e1
    have h2 := hn k n k1 n1 x1 hk e1
    split at h
    · cases h
    · rename_i k2 e2
      split at h
      · injection h with h3 h4; rw [← h3]; decide
      · exact jnL_nz hn hm hz 101 k2 (n1 + 1) _ c a (hm k1 k2 h2.2.2 e2) (by omega) (by omega) h
theorem XrOut.lift {w w0 w' : World} {rb : Nat} {s : ByteArray} {d : Nat} {o : RO Rx} {e : Ending} (hb : Below w.heap.size w w0) (h : XrOut w0 rb s d o e w') : XrOut w rb s d o e w' := by
  cases o with
  | er c a =>
    obtain ⟨fb, k, t, a1, l1, c1, a2, l2, c2, h1, h2, h3⟩ := h
    exact ⟨fb, k, t, a1, l1, c1, a2, l2, c2, h1, h2, (Keeps.of_below hb).trans h3⟩
  | ok k' n' x =>
    obtain ⟨k, t, a1, l1, c1, a2, l2, c2, h1, h2, h3, h4⟩ := h
    exact ⟨k, t, a1, l1, c1, a2, l2, c2, h1, h2.move (Nat.le_refl _) (fun q hq _ => ⟨Nat.le_trans hb.size hq, rfl⟩), h3, (Keeps.of_below hb).trans h4⟩
set_option maxRecDepth 100000 in
set_option maxHeartbeats 4000000 in
theorem Xrow_any (s : ByteArray) (sub : Option (Nat → Nat → RO Rx)) (k n d rb : Nat) (hs : s.size ≤ 100000) (hk : k ≤ s.size) (hn : n ≤ 100) (hsub : SubSpec s sub d) (w : World) (hr : Rd w rb s k n d) :
    Calls Tryz.prog 76 #[.pointer (some ⟨rb, 0, none⟩)] w (XrOut w rb s d ((rwR s sub) k n)) := by
  have hb0 := sbelow_new w (.cells #[.pointer (some ⟨rb, 0, none⟩)] 117)
  have hrb := hr.lt
  have hz0 : (w.alloc (.cells #[.pointer (some ⟨rb, 0, none⟩)] 117)).heap.size = w.heap.size + 1 := World.size_alloc _ _
  have hbx0 : BoxAt (w.alloc (.cells #[.pointer (some ⟨rb, 0, none⟩)] 117)) w.heap.size rb := ⟨by omega, by rw [Lib.cell_of_heap (heap_alloc_new w _)]; rfl⟩
  have hr0 := hr.step hb0
  have HB0 := Lib.hid hb0
  generalize hw0 : w.alloc (.cells #[.pointer (some ⟨rb, 0, none⟩)] 117) = w0 at *
  have hq1 := quad_new w0 25 (.int .i64 0) (.bool false) (.slice none 0 0) (.slice none 0 0)
  have hb1 := sbelow_new w0 (.cells #[.int .i64 0, .bool false, .slice none 0 0, .slice none 0 0] 25)
  have hz1 : (w0.alloc (.cells #[.int .i64 0, .bool false, .slice none 0 0, .slice none 0 0] 25)).heap.size = w0.heap.size + 1 := World.size_alloc _ _
  have HJ := Lib.hid (joined_row s (ptR s sub) k n d rb w.heap.size hs hk hn (ptR_good (subGood hsub)) (ptR_nz hsub) (fun k n rb w h1 h2 h3 => part_any s sub k n d rb hs h1 h2 hsub w h3) _ (hr0.step hb1) (hbx0.step hb1) (by omega))
  have HORD : Hid (rb < w0.heap.size) := Lib.hid hr0.lt
  have HQ1 := Lib.hid hq1
  have HB1 := Lib.hid hb1
  have HZ1 := Lib.hid hz1
  have hbc := (hbx0.step hb1).2
  have HNZ : Hid (NzR s (rwR s sub)) := Lib.hid (jnR_nz (ptR_good (subGood hsub)) rwM_good (ptR_nz hsub))
  clear hq1 hb1 hz1 hb0 hr0 hbx0 hr hz0
  go_enter Tryz.func76, Tryz.ntmps76
  go_wp2_with fail
  refine HJ.out.mono ?_
  intro e w2 hout
  clear hw0 hbc
  cases ho : (rwR s sub) k n with
  | er cc aa =>
    have hout2 : XrOut (w0.alloc (.cells #[.int .i64 0, .bool false, .slice none 0 0, .slice none 0 0] 25)) rb s d (.er cc aa) e w2 := by rw [← ho]; exact hout
    obtain ⟨fb, xk, xt, xa1, xl1, xc1, xa2, xl2, xc2, rfl, hf, hkp⟩ := hout2
    have HR := Lib.hid (HQ1.out.keeps hkp (by have := HORD.out; omega))
    have HK := Lib.hid ((Keeps.of_below HB1.out).trans hkp)
    have HF := Lib.hid hf
    have HC0 := Lib.hid (HNZ.out _ _ _ _ hk ho)
    have HO := Lib.hid ho
    clear ho hf hkp hout
    have r0 := HR.out.cells.1
    have r1 := HR.out.cells.2.1
    have r2 := HR.out.cells.2.2.1
    have r3 := HR.out.cells.2.2.2
    have rf0 := HR.out.fz 0
    have rf1 := HR.out.fz 1
    have rf2 := HR.out.fz 2
    have rf3 := HR.out.fz 3
    unfold pf
    go_wp2_with fail
    have ho := (out_er (s := s) (d := d) (k1 := xk) (t1 := xt) (a1 := xa1) (l1 := xl1) (c1 := xc1) (a2 := xa2) (l2 := xl2) (c2 := xc2) HR.out HK.out HF.out HC0.out).lift HB0.out
    obtain ⟨q0, q1, q2, q3⟩ := (HR.out.set4 (.int .i64 xk) (.bool xt) (.slice xa1 xl1 xc1) (.slice xa2 xl2 xc2)).cells
    unfold set4 at q0 q1 q2 q3 ho
    refine bodyPost_ret (v := .tuple #[.agg #[.int .i64 xk, .bool xt, .slice xa1 xl1 xc1, .slice xa2 xl2 xc2], pf fb]) (by simp [results, Tryz.results76, go_sem, q0, q1, q2, q3, pf]) rfl ?_
    rw [HO.out]
    exact ho
  | ok k2 n2 x2 =>
    have hout2 : XrOut (w0.alloc (.cells #[.int .i64 0, .bool false, .slice none 0 0, .slice none 0 0] 25)) rb s d (.ok k2 n2 x2) e w2 := by rw [← ho]; exact hout
    obtain ⟨xk, xt, xa1, xl1, xc1, xa2, xl2, xc2, rfl, hv, hrd, hkp⟩ := hout2
    have HR := Lib.hid (HQ1.out.keeps hkp (by have := HORD.out; omega))
    have HK := Lib.hid ((Keeps.of_below HB1.out).trans hkp)
    have HV := Lib.hid (hv.move (P' := fun q => w0.heap.size < q) (Nat.le_refl _) (fun q hq _ => ⟨by have := HZ1.out; omega, rfl⟩))
    have HD := Lib.hid hrd
    have HO := Lib.hid ho
    clear ho hv hkp hout hrd
    have r0 := HR.out.cells.1
    have r1 := HR.out.cells.2.1
    have r2 := HR.out.cells.2.2.1
    have r3 := HR.out.cells.2.2.2
    have rf0 := HR.out.fz 0
    have rf1 := HR.out.fz 1
    have rf2 := HR.out.fz 2
    have rf3 := HR.out.fz 3
    go_wp2_with fail
    have ho := (out_ok HORD.out HK.out HD.out HV.out).lift HB0.out
    obtain ⟨q0, q1, q2, q3⟩ := (HR.out.set4 (.int .i64 xk) (.bool xt) (.slice xa1 xl1 xc1) (.slice xa2 xl2 xc2)).cells
    unfold set4 at q0 q1 q2 q3 ho
    refine bodyPost_ret (v := .tuple #[.agg #[.int .i64 xk, .bool xt, .slice xa1 xl1 xc1, .slice xa2 xl2 xc2], .nilIface]) (by simp [results, Tryz.results76, go_sem, q0, q1, q2, q3]) rfl ?_
    rw [HO.out]
    exact ho
set_option maxRecDepth 100000 in
set_option maxHeartbeats 4000000 in
theorem Xalternatives_any (s : ByteArray) (sub : Option (Nat → Nat → RO Rx)) (k n d rb : Nat) (hs : s.size ≤ 100000) (hk : k ≤ s.size) (hn : n ≤ 100) (hsub : SubSpec s sub d) (w : World) (hr : Rd w rb s k n d) :
    Calls Tryz.prog 50 #[.pointer (some ⟨rb, 0, none⟩)] w (XrOut w rb s d ((jnR s 3 (rwR s sub) (alM s)) k n)) := by
  have hb0 := sbelow_new w (.cells #[.pointer (some ⟨rb, 0, none⟩)] 117)
  have hrb := hr.lt
  have hz0 : (w.alloc (.cells #[.pointer (some ⟨rb, 0, none⟩)] 117)).heap.size = w.heap.size + 1 := World.size_alloc _ _
  have hbx0 : BoxAt (w.alloc (.cells #[.pointer (some ⟨rb, 0, none⟩)] 117)) w.heap.size rb := ⟨by omega, by rw [Lib.cell_of_heap (heap_alloc_new w _)]; rfl⟩
  have hr0 := hr.step hb0
  have HB0 := Lib.hid hb0
  generalize hw0 : w.alloc (.cells #[.pointer (some ⟨rb, 0, none⟩)] 117) = w0 at *
  have hq1 := quad_new w0 25 (.int .i64 0) (.bool false) (.slice none 0 0) (.slice none 0 0)
  have hb1 := sbelow_new w0 (.cells #[.int .i64 0, .bool false, .slice none 0 0, .slice none 0 0] 25)
  have hz1 : (w0.alloc (.cells #[.int .i64 0, .bool false, .slice none 0 0, .slice none 0 0] 25)).heap.size = w0.heap.size + 1 := World.size_alloc _ _
  have HJ := Lib.hid (joined_alt s (rwR s sub) k n d rb w.heap.size hs hk hn (rwR_good (subGood hsub)) (jnR_nz (ptR_good (subGood hsub)) rwM_good (ptR_nz hsub)) (fun k n rb w h1 h2 h3 => Xrow_any s sub k n d rb hs h1 h2 hsub w h3) _ (hr0.step hb1) (hbx0.step hb1) (by omega))
  have HORD : Hid (rb < w0.heap.size) := Lib.hid hr0.lt
  have HQ1 := Lib.hid hq1
  have HB1 := Lib.hid hb1
  have HZ1 := Lib.hid hz1
  have hbc := (hbx0.step hb1).2
  have HNZ : Hid (NzR s (jnR s 3 (rwR s sub) (alM s))) := Lib.hid (jnR_nz (rwR_good (subGood hsub)) alM_good (jnR_nz (ptR_good (subGood hsub)) rwM_good (ptR_nz hsub)))
  clear hq1 hb1 hz1 hb0 hr0 hbx0 hr hz0
  go_enter Tryz.func50, Tryz.ntmps50
  go_wp2_with fail
  refine HJ.out.mono ?_
  intro e w2 hout
  clear hw0 hbc
  cases ho : (jnR s 3 (rwR s sub) (alM s)) k n with
  | er cc aa =>
    have hout2 : XrOut (w0.alloc (.cells #[.int .i64 0, .bool false, .slice none 0 0, .slice none 0 0] 25)) rb s d (.er cc aa) e w2 := by rw [← ho]; exact hout
    obtain ⟨fb, xk, xt, xa1, xl1, xc1, xa2, xl2, xc2, rfl, hf, hkp⟩ := hout2
    have HR := Lib.hid (HQ1.out.keeps hkp (by have := HORD.out; omega))
    have HK := Lib.hid ((Keeps.of_below HB1.out).trans hkp)
    have HF := Lib.hid hf
    have HC0 := Lib.hid (HNZ.out _ _ _ _ hk ho)
    have HO := Lib.hid ho
    clear ho hf hkp hout
    have r0 := HR.out.cells.1
    have r1 := HR.out.cells.2.1
    have r2 := HR.out.cells.2.2.1
    have r3 := HR.out.cells.2.2.2
    have rf0 := HR.out.fz 0
    have rf1 := HR.out.fz 1
    have rf2 := HR.out.fz 2
    have rf3 := HR.out.fz 3
    unfold pf
    go_wp2_with fail
    have ho := (out_er (s := s) (d := d) (k1 := xk) (t1 := xt) (a1 := xa1) (l1 := xl1) (c1 := xc1) (a2 := xa2) (l2 := xl2) (c2 := xc2) HR.out HK.out HF.out HC0.out).lift HB0.out
    obtain ⟨q0, q1, q2, q3⟩ := (HR.out.set4 (.int .i64 xk) (.bool xt) (.slice xa1 xl1 xc1) (.slice xa2 xl2 xc2)).cells
    unfold set4 at q0 q1 q2 q3 ho
    refine bodyPost_ret (v := .tuple #[.agg #[.int .i64 xk, .bool xt, .slice xa1 xl1 xc1, .slice xa2 xl2 xc2], pf fb]) (by simp [results, Tryz.results50, go_sem, q0, q1, q2, q3, pf]) rfl ?_
    rw [HO.out]
    exact ho
  | ok k2 n2 x2 =>
    have hout2 : XrOut (w0.alloc (.cells #[.int .i64 0, .bool false, .slice none 0 0, .slice none 0 0] 25)) rb s d (.ok k2 n2 x2) e w2 := by rw [← ho]; exact hout
    obtain ⟨xk, xt, xa1, xl1, xc1, xa2, xl2, xc2, rfl, hv, hrd, hkp⟩ := hout2
    have HR := Lib.hid (HQ1.out.keeps hkp (by have := HORD.out; omega))
    have HK := Lib.hid ((Keeps.of_below HB1.out).trans hkp)
    have HV := Lib.hid (hv.move (P' := fun q => w0.heap.size < q) (Nat.le_refl _) (fun q hq _ => ⟨by have := HZ1.out; omega, rfl⟩))
    have HD := Lib.hid hrd
    have HO := Lib.hid ho
    clear ho hv hkp hout hrd
    have r0 := HR.out.cells.1
    have r1 := HR.out.cells.2.1
    have r2 := HR.out.cells.2.2.1
    have r3 := HR.out.cells.2.2.2
    have rf0 := HR.out.fz 0
    have rf1 := HR.out.fz 1
    have rf2 := HR.out.fz 2
    have rf3 := HR.out.fz 3
    go_wp2_with fail
    have ho := (out_ok HORD.out HK.out HD.out HV.out).lift HB0.out
    obtain ⟨q0, q1, q2, q3⟩ := (HR.out.set4 (.int .i64 xk) (.bool xt) (.slice xa1 xl1 xc1) (.slice xa2 xl2 xc2)).cells
    unfold set4 at q0 q1 q2 q3 ho
    refine bodyPost_ret (v := .tuple #[.agg #[.int .i64 xk, .bool xt, .slice xa1 xl1 xc1, .slice xa2 xl2 xc2], .nilIface]) (by simp [results, Tryz.results50, go_sem, q0, q1, q2, q3]) rfl ?_
    rw [HO.out]
    exact ho

/-- Alternatives, however many brackets more may be opened. -/
theorem alt_spec (s : ByteArray) (hs : s.size ≤ 100000) : ∀ (e d : Nat), d + e = 64 → SubSpec s (subR s e) d ∧ AltSpec s (alR s e) d ∧ NzR s (alR s e)
  | 0, d, h => by
    have h0 : SubSpec s (subR s 0) d := by show d = 64; omega
    refine ⟨h0, fun k n rb w hk hn hr => ?_, ?_⟩
    · rw [alR_eq]; exact Xalternatives_any s _ k n d rb hs hk hn h0 w hr
    · rw [alR_eq]; exact jnR_nz (rwR_good (subGood h0)) alM_good (jnR_nz (ptR_good (subGood h0)) rwM_good (ptR_nz h0))
  | e + 1, d, h => by
    have ih := alt_spec s hs e (d + 1) (by omega)
    have h0 : SubSpec s (subR s (e + 1)) d := ⟨by omega, ih.2.1, alR_good e, ih.2.2⟩
    refine ⟨h0, fun k n rb w hk hn hr => ?_, ?_⟩
    · rw [alR_eq]; exact Xalternatives_any s _ k n d rb hs hk hn h0 w hr
    · rw [alR_eq]; exact jnR_nz (rwR_good (subGood h0)) alM_good (jnR_nz (ptR_good (subGood h0)) rwM_good (ptR_nz h0))
end Go.Proofs.YtocfcnhaecmgpaaGreatDoor
