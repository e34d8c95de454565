/-
  Package tree by contracts, thirteenth part: values within so many, a whole text.
-/
import Derived.Test.YtajmlkephefapaaGreatDoorTreeN
namespace Go.Proofs.YtajmlkephefapaaGreatDoor
open Go.RowKit Go.Extern.Stop Go.Stop Go.Extern Go.WideMaps

theorem tree_value (s : ByteArray) (hs : s.size ≤ 100000) : ∀ (n d : Nat), d ≤ 64 → 64 - d = n → ValueSpec s d := by
  intro n
  induction n with
  | zero => intro d hd hn p0 hp w hg; exact value_step s d p0 hs hp hd (fun h => absurd h (by omega)) w hg
  | succ n ih => intro d hd hn p0 hp w hg; exact value_step s d p0 hs hp hd (fun h => ih (d + 1) (by omega) (by omega)) w hg
/-- What a whole text's call answers. -/
def TParseOut (w : World) (s : ByteArray) (e : Ending) (w' : World) : Prop :=
  (∃ (x : Val) (k : Int) (t : ByteArray) (n : Int) (a : Option Addr) (l c : Nat) (a' : Option Addr) (l' c' : Nat) (z : Int), Whole s (.ok s.size x) ∧
    e = .returned (.tuple #[.agg #[.int .i64 k, .string t, .int .u64 n, .slice a l c, .slice a' l' c', .int .i64 z], .nilIface]) ∧
    ValC (fun q => w.heap.size ≤ q) w' [.int .i64 k, .string t, .int .u64 n, .slice a l c, .slice a' l' c', .int .i64 z] x ∧ Below w.heap.size w w') ∨
  (∃ (ec : Int) (ea fb : Nat), Whole s (.er ec ea) ∧ e = .returned (.tuple #[.agg #[.int .i64 0, .string ⟨#[]⟩, .int .u64 0, .slice none 0 0, .slice none 0 0, .int .i64 0], pf fb]) ∧ FaultAt w' fb ec ea ∧ Below w.heap.size w w')
theorem keeps6 (w : World) (b : Nat) (d0 d1 d2 d3 d4 d5 : Value) : Keeps (· = b) w (set6 w b 0 d0 d1 d2 d3 d4 d5) :=
  (((((keeps_at w b 0 d0).trans (keeps_at _ b 1 d1)).trans (keeps_at _ b 2 d2)).trans (keeps_at _ b 3 d3)).trans (keeps_at _ b 4 d4)).trans (keeps_at _ b 5 d5)
theorem SixAt.keeps {D : Nat → Prop} {w w' : World} {b : Nat} {c0 c1 c2 c3 c4 c5 : Value} (h : SixAt w b c0 c1 c2 c3 c4 c5) (hk : Keeps D w w') (hD : ¬ D b) : SixAt w' b c0 c1 c2 c3 c4 c5 := (hk.block b h.lt hD).trans h
theorem six_out {w0 w : World} {c0 c1 c2 c3 c4 c5 : Value} (h : SixAt w w0.heap.size c0 c1 c2 c3 c4 c5) (hb : Below w0.heap.size w0 w) (d0 d1 d2 d3 d4 d5 : Value) :
    SixAt (set6 w w0.heap.size 0 d0 d1 d2 d3 d4 d5) w0.heap.size d0 d1 d2 d3 d4 d5 ∧ Below w0.heap.size w0 (set6 w w0.heap.size 0 d0 d1 d2 d3 d4 d5) ∧ Keeps (· = w0.heap.size) w (set6 w w0.heap.size 0 d0 d1 d2 d3 d4 d5) := by
  have hk : Keeps (· = w0.heap.size) w (set6 w w0.heap.size 0 d0 d1 d2 d3 d4 d5) := (((((keeps_at w w0.heap.size 0 d0).trans (keeps_at _ w0.heap.size 1 d1)).trans (keeps_at _ w0.heap.size 2 d2)).trans (keeps_at _ w0.heap.size 3 d3)).trans (keeps_at _ w0.heap.size 4 d4)).trans (keeps_at _ w0.heap.size 5 d5)
  exact ⟨h.set6 _ _ _ _ _ _, hb.trans (hk.below hb.size (fun q e => by omega)), hk⟩

set_option maxRecDepth 100000 in
set_option maxHeartbeats 4000000 in
theorem tparse_any (s : ByteArray) (hs : s.size ≤ maxLen) (w : World) (hg : Handle w) : Calls Tryz.prog 7 #[.string s] w (TParseOut w s) := by
  have hb0 := sbelow_new w (.cells #[.int .i64 0, .string ⟨#[]⟩, .int .u64 0, .slice none 0 0, .slice none 0 0, .int .i64 0] 27)
  have h60 : SixAt (w.alloc (.cells #[.int .i64 0, .string ⟨#[]⟩, .int .u64 0, .slice none 0 0, .slice none 0 0, .int .i64 0] 27)) w.heap.size (.int .i64 0) (.string ⟨#[]⟩) (.int .u64 0) (.slice none 0 0) (.slice none 0 0) (.int .i64 0) := heap_alloc_new w _
  have HG0 := Lib.hid (hg.below hb0)
  have HB0 := Lib.hid hb0
  have H60 := Lib.hid h60
  have HG := Lib.hid hg
  rcases Nat.lt_or_ge 65536 s.size with hl | hl
  · have HN := Lib.hid (fun w => scanNew_long s hl hs w)
    have HL := Lib.hid hl
    clear hb0 h60 hg hl
    go_enter Tryz.func7, Tryz.ntmps7
    go_wp2_with fail
    refine (HN.out _).mono ?_
    rintro e w1 ⟨v, rfl, hv, b1⟩
    obtain ⟨fb, rfl, hf⟩ := ErrIs.fb hv (by decide)
    generalize w.alloc (.cells #[.int .i64 0, .string ⟨#[]⟩, .int .u64 0, .slice none 0 0, .slice none 0 0, .int .i64 0] 27) = w0 at *
    have b2 := sbelow_new w1 (.cells #[.string ⟨#[]⟩, .int .i64 0] 58)
    have h62 := (H60.out.step b1).step b2
    have HF2 := Lib.hid (FaultAt.keep hf b2)
    have HB2 := Lib.hid (HB0.out.trans ((b1.trans (b2.mono b1.size)).mono HB0.out.size))
    have H62 := Lib.hid h62
    obtain ⟨c0, c1, c2, c3, c4, c5⟩ := h62.cells
    have cf := h62.fz
    clear b1 b2 h62 hf hv H60 HB0 HG0 HG HN
    clear c0 c1 c2 c3 c4 c5 cf
    unfold pf
    go_upto_region 3 with fail
    generalize w1.alloc (.cells #[.string ⟨#[]⟩, .int .i64 0] 58) = wq at *
    have HRV := H62
    have HBW := HB2
    have HF := HF2
    clear H62 HB2 HF2
    have HOUT := Lib.hid (six_out HRV.out HBW.out (.int .i64 0) (.string ⟨#[]⟩) (.int .u64 0) (.slice none 0 0) (.slice none 0 0) (.int .i64 0))
    obtain ⟨c0, c1, c2, c3, c4, c5⟩ := HRV.out.cells
    have cf := HRV.out.fz
    go_wp2_with fail
    generalize hwG : (((((wq.setCell ⟨w.heap.size, 0, none⟩ (.int .i64 0)).setCell ⟨w.heap.size, 1, none⟩ (.string ⟨#[]⟩)).setCell ⟨w.heap.size, 2, none⟩ (.int .u64 0)).setCell ⟨w.heap.size, 3, none⟩ (.slice none 0 0)).setCell ⟨w.heap.size, 4, none⟩ (.slice none 0 0)).setCell ⟨w.heap.size, 5, none⟩ (.int .i64 0) = wG
    have hwF : set6 wq w.heap.size 0 (.int .i64 0) (.string ⟨#[]⟩) (.int .u64 0) (.slice none 0 0) (.slice none 0 0) (.int .i64 0) = wG := hwG
    rw [hwF] at HOUT
    obtain ⟨hs1, hs2, hs3⟩ := HOUT.out
    obtain ⟨t0, t1, t2, t3, t4, t5⟩ := hs1.cells
    exact bodyPost_ret (v := .tuple #[.agg #[.int .i64 0, .string ⟨#[]⟩, .int .u64 0, .slice none 0 0, .slice none 0 0, .int .i64 0], pf fb]) (by simp [results, Tryz.results7, go_sem, t0, t1, t2, t3, t4, t5, pf]) rfl (.inr ⟨_, _, fb, .inl ⟨HL.out, rfl⟩, rfl, HF.out.block hs3.size (hs3.block fb HF.out.parts.2.1 (HRV.out.fault HF.out (fun z e => by cases e))), hs2⟩)
  · have hs' : s.size ≤ 100000 := by omega
    have HN := Lib.hid (fun w => scanNew_any s hl w)
    have HV : Hid (∀ w, Handle w → Calls Tryz.prog 28 #[.agg #[.string s, .int .i64 0], .int .i64 0] w (ValueOut w s 0 0)) := Lib.hid (fun w hg => tree_value s hs' 64 0 (by omega) rfl 0 (by omega) w hg)
    have HL := Lib.hid hl
    have HS := Lib.hid hs'
    clear hb0 h60 hg hl hs'
    go_enter Tryz.func7, Tryz.ntmps7
    go_wp2_with fail
    refine (HN.out _).mono ?_
    rintro e w1 ⟨rfl, b1⟩
    generalize w.alloc (.cells #[.int .i64 0, .string ⟨#[]⟩, .int .u64 0, .slice none 0 0, .slice none 0 0, .int .i64 0] 27) = w0 at *
    have b2 := sbelow_new w1 (.cells #[.string s, .int .i64 0] 58)
    have b3 := b1.trans (b2.mono b1.size)
    have hbW := HB0.out.trans (b3.mono HB0.out.size)
    have HG2 := Lib.hid (HG0.out.below b3)
    have H62 := Lib.hid (H60.out.step b3)
    have HO2 := Lib.hid (ScanS.new w1 s 0)
    have HB2 := Lib.hid hbW
    have HQ : Hid (w.heap.size < w1.heap.size) := Lib.hid (Nat.lt_of_lt_of_le H60.out.lt b1.size)
    obtain ⟨-, o0, o1, of⟩ := HO2.out.1
    clear b1 b2 b3 hbW H60 HB0 HG0 HG HN
    go_wp2_with fail
    refine (HV.out _ HG2.out).mono ?_
    clear o0 o1 of
    generalize w1.alloc (.cells #[.string s, .int .i64 0] 58) = w2 at *
    generalize w1.heap.size = q1 at *
    have HQQ : Hid (q1 < w2.heap.size) := Lib.hid HO2.out.1.1
    rintro e w3 (⟨j, x, k, t, n, a, l, c, a', l', c', z, hv, rfl, hx, b3⟩ | ⟨ec, ea, fb, j, k, t, n, a, l, c, a', l', c', z, hv, hj, rfl, hf, b3⟩)
    · have hj := (V.fits (sk_le s 0 (Nat.zero_le _)).2 hv).2
      have HVV := Lib.hid hv
      have HSK := Lib.hid (sk_le s j hj)
      have hwhole : ∀ o, (sk s j = s.size ∧ o = .ok s.size x ∨ sk s j ≠ s.size ∧ o = .er 4 (sk s j)) → Whole s o := fun o h => .inr ⟨HL.out, _, HVV.out, .inr ⟨j, x, rfl, h⟩⟩
      have HWH := Lib.hid hwhole
      have hO3 := HO2.out.step b3
      have hq13 := Nat.lt_of_lt_of_le HQQ.out b3.size
      have bn := sbelow_new w3 (.cells #[.int .i64 0, .string ⟨#[]⟩, .int .u64 0, .slice none 0 0, .slice none 0 0, .int .i64 0] 27)
      have hOv := hO3.step bn
      have h6 : SixAt (((w3.alloc (.cells #[.int .i64 0, .string ⟨#[]⟩, .int .u64 0, .slice none 0 0, .slice none 0 0, .int .i64 0] 27)).setCell ⟨q1, 0, none⟩ (.string s)).setCell ⟨q1, 1, none⟩ (.int .i64 (sk s j))) w3.heap.size (.int .i64 0) (.string ⟨#[]⟩) (.int .u64 0) (.slice none 0 0) (.slice none 0 0) (.int .i64 0) :=
        SixAt.far (SixAt.far (heap_alloc_new w3 (.cells #[.int .i64 0, .string ⟨#[]⟩, .int .u64 0, .slice none 0 0, .slice none 0 0, .int .i64 0] 27)) (q := ⟨q1, 0, none⟩) (by show _ ≠ q1; omega) _) (q := ⟨q1, 1, none⟩) (by show _ ≠ q1; omega) _
      have hkA : Keeps (fun k => k = q1 ∨ k = w3.heap.size) w3 (set6 (((w3.alloc (.cells #[.int .i64 0, .string ⟨#[]⟩, .int .u64 0, .slice none 0 0, .slice none 0 0, .int .i64 0] 27)).setCell ⟨q1, 0, none⟩ (.string s)).setCell ⟨q1, 1, none⟩ (.int .i64 (sk s j))) w3.heap.size 0 (.int .i64 k) (.string t) (.int .u64 n) (.slice a l c) (.slice a' l' c') (.int .i64 z)) :=
        ((Keeps.of_below bn).trans (((keeps_at (w3.alloc (.cells #[.int .i64 0, .string ⟨#[]⟩, .int .u64 0, .slice none 0 0, .slice none 0 0, .int .i64 0] 27)) q1 0 (.string s)).trans (keeps_at _ q1 1 (.int .i64 (sk s j)))).mono (fun q e => .inl e))).trans ((keeps6 _ w3.heap.size (.int .i64 k) (.string t) (.int .u64 n) (.slice a l c) (.slice a' l' c') (.int .i64 z)).mono (fun q e => .inr e))
      have hRV := (H62.out.step b3).keeps hkA (by have := HQ.out; have := H62.out.lt; have := b3.size; rintro (e | e) <;> omega)
      have hBW := (HB2.out.trans (b3.mono HB2.out.size)).trans (hkA.below (Nat.le_trans HB2.out.size b3.size) (fun q e => by have := HQ.out; omega))
      have hVA := h6.set6 (.int .i64 k) (.string t) (.int .u64 n) (.slice a l c) (.slice a' l' c') (.int .i64 z)
      have hOw := (hOv.set s (sk s j))
      have hO4 := hOw.keeps (keeps6 _ w3.heap.size (.int .i64 k) (.string t) (.int .u64 n) (.slice a l c) (.slice a' l' c') (.int .i64 z)) (by omega)
      have hX4 := hx.move (P' := fun q => w.heap.size + 1 ≤ q) hkA.size (fun q h1 h2 => ⟨by have h1 : w2.heap.size ≤ q := h1; have := HQQ.out; have := HQ.out; omega, hkA.block q h2 (by have h1 : w2.heap.size ≤ q := h1; have := HQQ.out; rintro (e | e) <;> omega)⟩)
      clear hx
      obtain ⟨w4, hw4⟩ : ∃ w4, w4 = set6 (((w3.alloc (.cells #[.int .i64 0, .string ⟨#[]⟩, .int .u64 0, .slice none 0 0, .slice none 0 0, .int .i64 0] 27)).setCell ⟨q1, 0, none⟩ (.string s)).setCell ⟨q1, 1, none⟩ (.int .i64 (sk s j))) w3.heap.size 0 (.int .i64 k) (.string t) (.int .u64 n) (.slice a l c) (.slice a' l' c') (.int .i64 z) := ⟨_, rfl⟩
      rw [← hw4] at hRV hBW hVA hO4 hX4
      have HRV := Lib.hid hRV
      have HBW := Lib.hid hBW
      have HVA := Lib.hid hVA
      have HO4 := Lib.hid hO4
      have HX := Lib.hid hX4
      unfold set6 at hw4
      have HW4 := Lib.hid hw4
      obtain ⟨-, o0, o1, of⟩ := hOv.1
      obtain ⟨z0, z1, z2, z3, z4, z5⟩ := h6.cells
      have zf := h6.fz
      have hq1n : q1 ≠ w3.heap.size := by omega
      clear hv b3 hO3 bn hOv h6 hkA hRV hBW hVA hOw hO4 hX4 hw4 HV HG2 H62 HB2 HO2 hq13
      clear hwhole hj
      go_upto_region 7 with fail
      rw [← HW4.out]
      clear HW4 z0 z1 z2 z3 z4 z5 zf
      generalize w3.heap.size = q at *
      generalize sk s j = m at *
      clear o0 o1 of
      obtain ⟨-, o0, o1, of⟩ := HO4.out.1
      have HE := Lib.hid (fun w => end_any s m w)
      rcases Nat.decEq m s.size with hm | hm
      · rw [decide_eq_false hm] at HE
        have HM := Lib.hid hm
        have HAT := Lib.hid (fun w => at_any s m w)
        clear hm
        go_wp2_with fail
        refine (HE.out _).mono ?_
        rintro e w5 ⟨rfl, b5⟩
        clear o0 o1 of
        obtain ⟨-, o0, o1, of⟩ := (HO4.out.step b5).1
        go_wp2_with fail
        refine (HAT.out _).mono ?_
        rintro e w6 ⟨rfl, b6⟩
        go_wp2_with fail
        refine (new_err 4 m (by decide) _).mono ?_
        rintro e w7 ⟨fb, rfl, hf, b7⟩
        have b57 := b5.trans ((b6.trans (b7.mono b6.size)).mono b5.size)
        have HRV7 := Lib.hid (HRV.out.step b57)
        have HBW7 := Lib.hid (HBW.out.trans (b57.mono HBW.out.size))
        have HF := Lib.hid hf
        clear HRV HBW b5 b6 b7 b57 hf o0 o1 of
        have HRV := HRV7
        have HBW := HBW7
        unfold pf
        have HOUT := Lib.hid (six_out HRV.out HBW.out (.int .i64 0) (.string ⟨#[]⟩) (.int .u64 0) (.slice none 0 0) (.slice none 0 0) (.int .i64 0))
        obtain ⟨c0, c1, c2, c3, c4, c5⟩ := HRV.out.cells
        have cf := HRV.out.fz
        go_wp2_with fail
        generalize hwG : (((((w7.setCell ⟨w.heap.size, 0, none⟩ (.int .i64 0)).setCell ⟨w.heap.size, 1, none⟩ (.string ⟨#[]⟩)).setCell ⟨w.heap.size, 2, none⟩ (.int .u64 0)).setCell ⟨w.heap.size, 3, none⟩ (.slice none 0 0)).setCell ⟨w.heap.size, 4, none⟩ (.slice none 0 0)).setCell ⟨w.heap.size, 5, none⟩ (.int .i64 0) = wG
        have hwF : set6 w7 w.heap.size 0 (.int .i64 0) (.string ⟨#[]⟩) (.int .u64 0) (.slice none 0 0) (.slice none 0 0) (.int .i64 0) = wG := hwG
        rw [hwF] at HOUT
        obtain ⟨hs1, hs2, hs3⟩ := HOUT.out
        obtain ⟨t0, t1, t2, t3, t4, t5⟩ := hs1.cells
        exact bodyPost_ret (v := .tuple #[.agg #[.int .i64 0, .string ⟨#[]⟩, .int .u64 0, .slice none 0 0, .slice none 0 0, .int .i64 0], pf fb]) (by simp [results, Tryz.results7, go_sem, t0, t1, t2, t3, t4, t5, pf]) rfl (.inr ⟨_, _, fb, HWH.out _ (.inr ⟨HM.out, rfl⟩), rfl, HF.out.block hs3.size (hs3.block fb HF.out.parts.2.1 (HRV.out.fault HF.out (fun z e => by cases e))), hs2⟩)
      · rw [decide_eq_true hm] at HE
        have HM := Lib.hid hm
        clear hm
        go_wp2_with fail
        refine (HE.out _).mono ?_
        rintro e w5 ⟨rfl, b5⟩
        have HRV7 := Lib.hid (HRV.out.step b5)
        have HBW7 := Lib.hid (HBW.out.trans (b5.mono HBW.out.size))
        have HX7 := Lib.hid (HX.out.step b5)
        obtain ⟨s0, s1, s2, s3, s4, s5⟩ := (HVA.out.step b5).cells
        clear HRV HBW b5 o0 o1 of
        have HRV := HRV7
        have HBW := HBW7
        have HOUT := Lib.hid (six_out HRV.out HBW.out (.int .i64 k) (.string t) (.int .u64 n) (.slice a l c) (.slice a' l' c') (.int .i64 z))
        obtain ⟨c0, c1, c2, c3, c4, c5⟩ := HRV.out.cells
        have cf := HRV.out.fz
        go_wp2_with fail
        generalize hwG : (((((w5.setCell ⟨w.heap.size, 0, none⟩ (.int .i64 k)).setCell ⟨w.heap.size, 1, none⟩ (.string t)).setCell ⟨w.heap.size, 2, none⟩ (.int .u64 n)).setCell ⟨w.heap.size, 3, none⟩ (.slice a l c)).setCell ⟨w.heap.size, 4, none⟩ (.slice a' l' c')).setCell ⟨w.heap.size, 5, none⟩ (.int .i64 z) = wG
        have hwF : set6 w5 w.heap.size 0 (.int .i64 k) (.string t) (.int .u64 n) (.slice a l c) (.slice a' l' c') (.int .i64 z) = wG := hwG
        rw [hwF] at HOUT
        obtain ⟨hs1, hs2, hs3⟩ := HOUT.out
        obtain ⟨t0, t1, t2, t3, t4, t5⟩ := hs1.cells
        exact bodyPost_ret (v := .tuple #[.agg #[.int .i64 k, .string t, .int .u64 n, .slice a l c, .slice a' l' c', .int .i64 z], .nilIface]) (by simp [results, Tryz.results7, go_sem, t0, t1, t2, t3, t4, t5]) rfl (.inl ⟨x, k, t, n, a, l, c, a', l', c', z, HWH.out _ (.inl ⟨HM.out, rfl⟩), rfl, HX7.out.move hs3.size (fun q' h1 h2 => ⟨by have h1 : w.heap.size + 1 ≤ q' := h1; omega, hs3.block q' h2 (by have h1 : w.heap.size + 1 ≤ q' := h1; omega)⟩), hs2⟩)
    · have HVV := Lib.hid hv
      have hO3 := HO2.out.step b3
      have hq13 := Nat.lt_of_lt_of_le HQQ.out b3.size
      have bn := sbelow_new w3 (.cells #[.int .i64 0, .string ⟨#[]⟩, .int .u64 0, .slice none 0 0, .slice none 0 0, .int .i64 0] 27)
      have hOv := hO3.step bn
      have h6 : SixAt (((w3.alloc (.cells #[.int .i64 0, .string ⟨#[]⟩, .int .u64 0, .slice none 0 0, .slice none 0 0, .int .i64 0] 27)).setCell ⟨q1, 0, none⟩ (.string s)).setCell ⟨q1, 1, none⟩ (.int .i64 j)) w3.heap.size (.int .i64 0) (.string ⟨#[]⟩) (.int .u64 0) (.slice none 0 0) (.slice none 0 0) (.int .i64 0) :=
        SixAt.far (SixAt.far (heap_alloc_new w3 (.cells #[.int .i64 0, .string ⟨#[]⟩, .int .u64 0, .slice none 0 0, .slice none 0 0, .int .i64 0] 27)) (q := ⟨q1, 0, none⟩) (by show _ ≠ q1; omega) _) (q := ⟨q1, 1, none⟩) (by show _ ≠ q1; omega) _
      have hkA : Keeps (fun k => k = q1 ∨ k = w3.heap.size) w3 (set6 (((w3.alloc (.cells #[.int .i64 0, .string ⟨#[]⟩, .int .u64 0, .slice none 0 0, .slice none 0 0, .int .i64 0] 27)).setCell ⟨q1, 0, none⟩ (.string s)).setCell ⟨q1, 1, none⟩ (.int .i64 j)) w3.heap.size 0 (.int .i64 k) (.string t) (.int .u64 n) (.slice a l c) (.slice a' l' c') (.int .i64 z)) :=
        ((Keeps.of_below bn).trans (((keeps_at (w3.alloc (.cells #[.int .i64 0, .string ⟨#[]⟩, .int .u64 0, .slice none 0 0, .slice none 0 0, .int .i64 0] 27)) q1 0 (.string s)).trans (keeps_at _ q1 1 (.int .i64 j))).mono (fun q e => .inl e))).trans ((keeps6 _ w3.heap.size (.int .i64 k) (.string t) (.int .u64 n) (.slice a l c) (.slice a' l' c') (.int .i64 z)).mono (fun q e => .inr e))
      have hRV := (H62.out.step b3).keeps hkA (by have := HQ.out; have := H62.out.lt; have := b3.size; rintro (e | e) <;> omega)
      have hBW := (HB2.out.trans (b3.mono HB2.out.size)).trans (hkA.below (Nat.le_trans HB2.out.size b3.size) (fun q e => by have := HQ.out; omega))
      have hVA := h6.set6 (.int .i64 k) (.string t) (.int .u64 n) (.slice a l c) (.slice a' l' c') (.int .i64 z)
      have hOw := (hOv.set s j)
      have hkA' := keeps6 (((w3.alloc (.cells #[.int .i64 0, .string ⟨#[]⟩, .int .u64 0, .slice none 0 0, .slice none 0 0, .int .i64 0] 27)).setCell ⟨q1, 0, none⟩ (.string s)).setCell ⟨q1, 1, none⟩ (.int .i64 j)) w3.heap.size (.int .i64 k) (.string t) (.int .u64 n) (.slice a l c) (.slice a' l' c') (.int .i64 z)
      have hO4 := trivial
      have hX4 := ((hf.keep bn).set hOv.1 s j).block hkA'.size (hkA'.block fb ((hf.keep bn).set hOv.1 s j).parts.2.1 (h6.fault ((hf.keep bn).set hOv.1 s j) (fun z e => by cases e)))
      clear hf
      obtain ⟨w4, hw4⟩ : ∃ w4, w4 = set6 (((w3.alloc (.cells #[.int .i64 0, .string ⟨#[]⟩, .int .u64 0, .slice none 0 0, .slice none 0 0, .int .i64 0] 27)).setCell ⟨q1, 0, none⟩ (.string s)).setCell ⟨q1, 1, none⟩ (.int .i64 j)) w3.heap.size 0 (.int .i64 k) (.string t) (.int .u64 n) (.slice a l c) (.slice a' l' c') (.int .i64 z) := ⟨_, rfl⟩
      rw [← hw4] at hRV hBW hVA hX4
      have HRV := Lib.hid hRV
      have HBW := Lib.hid hBW
      have HVA := Lib.hid hVA
      have HO4 := Lib.hid hO4
      have HF : Hid (FaultAt w4 fb ec ea) := Lib.hid hX4
      unfold set6 at hw4
      have HW4 := Lib.hid hw4
      obtain ⟨-, o0, o1, of⟩ := hOv.1
      obtain ⟨z0, z1, z2, z3, z4, z5⟩ := h6.cells
      have zf := h6.fz
      have hq1n : q1 ≠ w3.heap.size := by omega
      clear hkA' hv b3 hO3 bn hOv h6 hkA hRV hBW hVA hOw hO4 hX4 hw4 HV HG2 H62 HB2 HO2 hq13
      unfold pf
      go_upto_region 6 with fail
      rw [← HW4.out]
      clear HW4 z0 z1 z2 z3 z4 z5 zf
      clear o0 o1 of
      have HOUT := Lib.hid (six_out HRV.out HBW.out (.int .i64 0) (.string ⟨#[]⟩) (.int .u64 0) (.slice none 0 0) (.slice none 0 0) (.int .i64 0))
      obtain ⟨c0, c1, c2, c3, c4, c5⟩ := HRV.out.cells
      have cf := HRV.out.fz
      go_wp2_with fail
      generalize hwG : (((((w4.setCell ⟨w.heap.size, 0, none⟩ (.int .i64 0)).setCell ⟨w.heap.size, 1, none⟩ (.string ⟨#[]⟩)).setCell ⟨w.heap.size, 2, none⟩ (.int .u64 0)).setCell ⟨w.heap.size, 3, none⟩ (.slice none 0 0)).setCell ⟨w.heap.size, 4, none⟩ (.slice none 0 0)).setCell ⟨w.heap.size, 5, none⟩ (.int .i64 0) = wG
      have hwF : set6 w4 w.heap.size 0 (.int .i64 0) (.string ⟨#[]⟩) (.int .u64 0) (.slice none 0 0) (.slice none 0 0) (.int .i64 0) = wG := hwG
      rw [hwF] at HOUT
      obtain ⟨hs1, hs2, hs3⟩ := HOUT.out
      obtain ⟨t0, t1, t2, t3, t4, t5⟩ := hs1.cells
      exact bodyPost_ret (v := .tuple #[.agg #[.int .i64 0, .string ⟨#[]⟩, .int .u64 0, .slice none 0 0, .slice none 0 0, .int .i64 0], pf fb]) (by simp [results, Tryz.results7, go_sem, t0, t1, t2, t3, t4, t5, pf]) rfl (.inr ⟨_, _, fb, .inr ⟨HL.out, _, HVV.out, .inl ⟨_, _, rfl, rfl⟩⟩, rfl, HF.out.block hs3.size (hs3.block fb HF.out.parts.2.1 (HRV.out.fault HF.out (fun z e => by cases e))), hs2⟩)
end Go.Proofs.YtajmlkephefapaaGreatDoor
