/-
  Package regex's reader by contracts: alternatives, one behind the other.
-/
import Derived.Test.YtocfcnhaecmgpaaGreatDoorRxM
namespace Go.Proofs.YtocfcnhaecmgpaaGreatDoor
open Go.RowKit Go.Extern.Stop Go.Stop Go.Extern Go.WideMaps

set_option maxRecDepth 100000 in
set_option maxHeartbeats 8000000 in
theorem joined_alt (s : ByteArray) (nx : Nat → Nat → RO Rx) (k0 n0 d rb bx : Nat) (hs : s.size ≤ 100000) (hk : k0 ≤ s.size) (hn : n0 ≤ 100) (hgood : GoodR s nx) (hnz : NzR s nx)
    (hspec : ∀ (k n rb : Nat) (w : World), k ≤ s.size → n ≤ 100 → Rd w rb s k n d → Calls Tryz.prog 76 #[.pointer (some ⟨rb, 0, none⟩)] w (XrOut w rb s d (nx k n))) (w : World) (hr : Rd w rb s k0 n0 d) (hbx : BoxAt w bx rb) (hbr : bx ≠ rb) :
    Calls Tryz.prog 75 #[.pointer (some ⟨rb, 0, none⟩), .int .i64 3, .func (.func 76) #[.pointer (some ⟨rb, 0, none⟩)] #[], .func (.func 77) #[] #[.pointer (some ⟨bx, 0, none⟩)]] w (XrOut w rb s d (jnR s 3 nx (alM s) k0 n0)) := by
  obtain ⟨i0, hi, hz0, hz1, hz2⟩ := info_parts infoXExpr
  have hq1 := quad_new w 25 (.int .i64 0) (.bool false) (.slice none 0 0) (.slice none 0 0)
  have hb1 := sbelow_new w (.cells #[.int .i64 0, .bool false, .slice none 0 0, .slice none 0 0] 25)
  have hr1 := hr.step hb1
  have hx1 := hbx.step hb1
  have hz1' : (w.alloc (.cells #[.int .i64 0, .bool false, .slice none 0 0, .slice none 0 0] 25)).heap.size = w.heap.size + 1 := World.size_alloc _ _
  have HRB : Hid (rb < w.heap.size ∧ bx < w.heap.size ∧ bx ≠ rb) := Lib.hid ⟨hr.lt, hbx.1, hbr⟩
  generalize hw1 : w.alloc (.cells #[.int .i64 0, .bool false, .slice none 0 0, .slice none 0 0] 25) = w1 at *
  have HNX := Lib.hid (hspec k0 n0 rb w1 hk hn hr1)
  have HSP := Lib.hid (fun k n W (h1 : k ≤ s.size) (h2 : n ≤ 100) (h : Rd W rb s k n d) => hspec k n rb W h1 h2 h)
  have HMO := Lib.hid (fun k n W (h1 : k ≤ s.size) (h : Rd W rb s k n d) (h2 : BoxAt W bx rb) => altMore_any s k n d rb bx hs h1 W h h2)
  have HNZ := Lib.hid (fun k n c a h1 (h : nx k n = .er c a) => hnz k n c a h1 h)
  have HGD := Lib.hid (fun k n k' n' x (h1 : k ≤ s.size) (h : nx k n = .ok k' n' x) => hgood k n k' n' x h1 h)
  have HGM := Lib.hid (alM_good (s := s))
  have HKL := Lib.hid hk
  have HQ1 := Lib.hid hq1
  have HB1 := Lib.hid hb1
  have HZ1 := Lib.hid hz1'
  have HX1 := Lib.hid hx1
  clear hq1 hb1 hr1 hr hz1' hbx hx1 hspec hnz hgood hbr
  go_enter Tryz.func75, Tryz.ntmps75
  go_wp2_with fail
  refine HNX.out.mono ?_
  intro e w2 hout
  clear hw1
  cases ho : nx k0 n0 with
  | er cc aa =>
    rw [ho] at hout
    have HE : Hid (jnR s 3 nx (alM s) k0 n0 = .er cc aa) := Lib.hid (by unfold jnR; rw [ho])
    obtain ⟨fb, xk, xt, xa1, xl1, xc1, xa2, xl2, xc2, rfl, hf, hkp⟩ := hout
    have bn := sbelow_new w2 (.cells #[.int .i64 xk, .bool xt, .slice xa1 xl1 xc1, .slice xa2 xl2 xc2] 25)
    have HR := Lib.hid ((HQ1.out.keeps hkp (by have := HRB.out; omega)).step bn)
    have HK : Hid (Keeps (· = rb) w _) := Lib.hid (((Keeps.of_below HB1.out).trans hkp).next bn)
    have HF := Lib.hid (hf.keep bn)
    have HC0 := Lib.hid (HNZ.out _ _ _ _ HKL.out ho)
    clear ho hf hkp bn
    have r0 := HR.out.cells.1
    have r1 := HR.out.cells.2.1
    have r2 := HR.out.cells.2.2.1
    have r3 := HR.out.cells.2.2.2
    have rf0 := HR.out.fz 0
    have rf1 := HR.out.fz 1
    have rf2 := HR.out.fz 2
    have rf3 := HR.out.fz 3
    unfold pf
    go_wp2_with fail
    have ho := out_er (s := s) (d := d) (k1 := xk) (t1 := xt) (a1 := xa1) (l1 := xl1) (c1 := xc1) (a2 := xa2) (l2 := xl2) (c2 := xc2) HR.out HK.out HF.out HC0.out
    obtain ⟨q0, q1, q2, q3⟩ := (HR.out.set4 (.int .i64 xk) (.bool xt) (.slice xa1 xl1 xc1) (.slice xa2 xl2 xc2)).cells
    unfold set4 at q0 q1 q2 q3 ho
    refine bodyPost_ret (v := .tuple #[.agg #[.int .i64 xk, .bool xt, .slice xa1 xl1 xc1, .slice xa2 xl2 xc2], pf fb]) (by simp [results, Tryz.results75, go_sem, q0, q1, q2, q3, pf]) rfl ?_
    rw [HE.out]
    exact ho
  | ok k1 n1 x1 =>
    rw [ho] at hout
    have hgd := HGD.out _ _ _ _ _ HKL.out ho
    have HE0 : Hid (jnR s 3 nx (alM s) k0 n0 = (match alM s k1 with | none => .ok k1 n1 x1 | some k2 => if 100 < n1 + 1 then .er 6 (skp s k2) else jnL 3 nx (alM s) 101 k2 (n1 + 1) [x1])) := Lib.hid (by unfold jnR; rw [ho]; dsimp only; cases alM s k1 <;> rfl)
    obtain ⟨xk, xt, xa1, xl1, xc1, xa2, xl2, xc2, rfl, hv, hrd, hkp⟩ := hout
    have bn := sbelow_new w2 (.cells #[.int .i64 xk, .bool xt, .slice xa1 xl1 xc1, .slice xa2 xl2 xc2] 25)
    have hz2 : w.heap.size + 1 ≤ w2.heap.size := by have := hkp.size; have := HZ1.out; omega
    have HP : Hid (PtSt w rb s k1 n1 d w2.heap.size x1 xk xt xa1 xl1 xc1 xa2 xl2 xc2 (w2.alloc (.cells #[.int .i64 xk, .bool xt, .slice xa1 xl1 xc1, .slice xa2 xl2 xc2] 25))) := Lib.hid
      ⟨⟨hrd.step bn, (HQ1.out.keeps hkp (by have := HRB.out; omega)).step bn, quad_new w2 _ _ _ _ _, ((Keeps.of_below HB1.out).trans hkp).next bn, ⟨HRB.out.1, by omega⟩⟩,
        hv.move (P' := fun q => w.heap.size < q ∧ q ≠ w2.heap.size) bn.size (fun q hq hlt => ⟨⟨by have := HZ1.out; omega, by omega⟩, bn.block q hlt⟩)⟩
    have HBX := Lib.hid ((HX1.out.keeps hkp (by have := HRB.out; omega)).step bn)
    have HGD1 := Lib.hid hgd
    clear ho hv hrd hkp bn hz2 hgd
    go_wp2_with fail
    generalize w2.alloc (.cells #[.int .i64 xk, .bool xt, .slice xa1 xl1 xc1, .slice xa2 xl2 xc2] 25) = w3 at *
    generalize w2.heap.size = xb at *
    refine (HMO.out k1 n1 _ HGD1.out.2.2 HP.out.st.rd HBX.out).mono ?_
    rintro e w4 (⟨k2, hm, rfl, hr4, hk4⟩ | ⟨hm, rfl, hr4, hk4⟩)
    · have HP4 := Lib.hid (HP.out.go hr4 hk4)
      have HBX4 := Lib.hid (HBX.out.keeps hk4 (by have := HRB.out; omega))
      have HE1 : Hid (jnR s 3 nx (alM s) k0 n0 = if 100 < n1 + 1 then .er 6 (skp s k2) else jnL 3 nx (alM s) 101 k2 (n1 + 1) [x1]) := Lib.hid (by rw [HE0.out, hm])
      have hk2 := HGM.out k1 k2 HGD1.out.2.2 hm
      have HK2 := Lib.hid hk2
      have HSK : Hid (∀ W, Calls Tryz.prog 45 #[.agg #[.string s, .int .i64 k2]] W fun e w' => e = .returned (.agg #[.string s, .int .i64 (skp s k2)]) ∧ Below W.heap.size W w') := Lib.hid (fun W => skip_any s k2 hs hk2 W)
      obtain ⟨c0, c1, -, -⟩ := hr4.cells
      clear hm hr4 hk4 HP HBX hk2
      go_wp2_with fail
      refine (HSK.out _).mono ?_
      rintro e w5 ⟨rfl, b5⟩
      have HP5 := Lib.hid (HP4.out.step b5)
      have HBX5 := Lib.hid (HBX4.out.step b5)
      clear b5 c0 c1
      go_wp2_with fail
      refine (at_any s _ _).mono ?_
      rintro e w6 ⟨rfl, b6⟩
      have HP6 := Lib.hid (HP5.out.step b6)
      have HBX6 := Lib.hid (HBX5.out.step b6)
      clear b6
      go_wp2_with fail
      by_cases hn1 : n1 + 1 ≤ 100
      · refine (count_yes s k2 n1 d rb (skp s k2) hn1 _ HP6.out.st.rd).mono ?_
        rintro e w7 ⟨rfl, hr7, hk7⟩
        have HP7 := Lib.hid (HP6.out.go hr7 hk7)
        have HBX7 := Lib.hid (HBX6.out.keeps hk7 (by have := HRB.out; omega))
        have HE2 := Lib.hid (HE1.out.trans (if_neg (by omega)))
        have HN1 := Lib.hid hn1
        obtain ⟨x0, x1', x2, x3⟩ := HP7.out.st.x.cells
        have bn := sbelow_new w7 (.cells #[.int .i64 xk, .bool xt, .slice xa1 xl1 xc1, .slice xa2 xl2 xc2] 25)
        have HJ : Hid (JnSt w rb bx s k2 (n1 + 1) d [x1] (.slice (some ⟨w7.heap.size, 0, none⟩) 1 1) [.int .i64 xk, .bool xt, .slice xa1 xl1 xc1, .slice xa2 xl2 xc2] (w7.alloc (.cells #[.int .i64 xk, .bool xt, .slice xa1 xl1 xc1, .slice xa2 xl2 xc2] 25))) := Lib.hid (by
          have hp := HP7.out.step bn
          have hxl := HP7.out.st.res.lt
          refine ⟨hp.st.rd, hp.st.res, HBX7.out.step bn, ?_, ?_, hp.st.keep, HRB.out⟩
          · exact World.ownsRow_lit w7 #[.int .i64 xk, .bool xt, .slice xa1 xl1 xc1, .slice xa2 xl2 xc2] 1 (by omega) (by unfold maxLen; omega) rfl
          · unfold ExsC
            exact ⟨_, [], by simp, (HP7.out.val.move (P' := fun q => w.heap.size < q ∧ (Value.slice (some ⟨w7.heap.size, 0, none⟩) 1 1).ownBlock ≠ some q) bn.size (fun q hq hlt => ⟨⟨hq.1, fun e => by injection e with e; have e' : w7.heap.size = q := e; omega⟩, bn.block q hlt⟩)), by unfold ExsC; rfl⟩)
        clear hr7 hk7 bn hn1
        go_wp2_with fail
        generalize w7.alloc (.cells #[.int .i64 xk, .bool xt, .slice xa1 xl1 xc1, .slice xa2 xl2 xc2] 25) = w8 at *
        generalize w7.heap.size = kb at *
        clear x0 x1' x2 x3
        go_loopg [13, 14] 102 (fun g kv gv wr => JnRel w rb bx s d 3 nx (alM s) (jnL 3 nx (alM s) 101 k2 (n1 + 1) [x1]) g kv gv wr)
        case atStart => exact .inl ⟨101, k2, n1 + 1, [x1], _, rfl, rfl, by omega, HN1.out, HK2.out, by simp, rfl, HJ.out⟩
        case round =>
          clear HJ
          rcases hrel with ⟨f, k, n, l, xs, rfl, hg, hf, hnn, hkl, hll, htot, hst⟩ | ⟨k, n, l, xs, rfl, hg, hll, hnn, htot, hst⟩
          · obtain ⟨f, rfl⟩ : ∃ f', f = f' + 1 := ⟨f - 1, by omega⟩
            have HTT := Lib.hid htot
            have HG := Lib.hid hg
            have HF := Lib.hid hf
            have HJ1 := Lib.hid hst
            have HLL := Lib.hid hll
            have HCALL := Lib.hid (HSP.out k n wr hkl hnn hst.rd)
            clear htot hg hf hst hll
            go_wp2_with fail
            refine HCALL.out.mono ?_
            intro e w9 hout
            cases ho : nx k n with
            | er cc aa =>
              rw [ho] at hout
              obtain ⟨fb, yk, yt, ya1, yl1, yc1, ya2, yl2, yc2, rfl, hf9, hk9⟩ := hout
              have HE3 : Hid (jnL 3 nx (alM s) (f + 1) k n l = .er cc aa) := Lib.hid (by rw [jnL, ho])
              have bn := sbelow_new w9 (.cells #[.int .i64 yk, .bool yt, .slice ya1 yl1 yc1, .slice ya2 yl2 yc2] 25)
              have HR := Lib.hid ((HJ1.out.res.keeps hk9 (by have := HRB.out; omega)).step bn)
              have HK := Lib.hid ((HJ1.out.keep.trans hk9).next bn)
              have HFF := Lib.hid (hf9.keep bn)
              have HC0 := Lib.hid (HNZ.out _ _ _ _ hkl ho)
              clear ho hf9 hk9 bn
              have r0 := HR.out.cells.1
              have r1 := HR.out.cells.2.1
              have r2 := HR.out.cells.2.2.1
              have r3 := HR.out.cells.2.2.2
              have rf0 := HR.out.fz 0
              have rf1 := HR.out.fz 1
              have rf2 := HR.out.fz 2
              have rf3 := HR.out.fz 3
              unfold pf
              go_wp2_with fail
              have ho := out_er (s := s) (d := d) (k1 := 0) (t1 := false) (a1 := none) (l1 := 0) (c1 := 0) (a2 := none) (l2 := 0) (c2 := 0) HR.out HK.out HFF.out HC0.out
              obtain ⟨q0, q1, q2, q3⟩ := (HR.out.set4 (.int .i64 0) (.bool false) (.slice none 0 0) (.slice none 0 0)).cells
              unfold set4 at q0 q1 q2 q3 ho
              refine bodyPost_ret (v := .tuple #[.agg #[.int .i64 0, .bool false, .slice none 0 0, .slice none 0 0], pf fb]) (by simp [results, Tryz.results75, go_sem, q0, q1, q2, q3, pf]) rfl ?_
              rw [HE2.out, ← HTT.out, HE3.out]
              exact ho
            | ok k9 n9 x9 =>
              rw [ho] at hout
              have HGD9 := Lib.hid (HGD.out _ _ _ _ _ hkl ho)
              obtain ⟨yk, yt, ya1, yl1, yc1, ya2, yl2, yc2, rfl, hv9, hr9, hk9⟩ := hout
              have HE3 : Hid (jnL 3 nx (alM s) (f + 1) k n l = (match alM s k9 with | some k2 => jnL 3 nx (alM s) f k2 n9 (l ++ [x9]) | none => .ok k9 n9 (.mk 3 false [] (l ++ [x9])))) := Lib.hid (by rw [jnL, ho]; dsimp only; cases alM s k9 <;> rfl)
              have hj9 := HJ1.out.go hr9 hk9
              have bn := sbelow_new w9 (.cells #[.int .i64 yk, .bool yt, .slice ya1 yl1 yc1, .slice ya2 yl2 yc2] 25)
              have bm := sbelow_new (w9.alloc (.cells #[.int .i64 yk, .bool yt, .slice ya1 yl1 yc1, .slice ya2 yl2 yc2] 25)) (.cells #[.int .i64 yk, .bool yt, .slice ya1 yl1 yc1, .slice ya2 yl2 yc2] 25)
              have hj10 := (hj9.step bn).step bm
              have hN10 := heap_alloc_new (w9.alloc (.cells #[.int .i64 yk, .bool yt, .slice ya1 yl1 yc1, .slice ya2 yl2 yc2] 25)) (.cells #[.int .i64 yk, .bool yt, .slice ya1 yl1 yc1, .slice ya2 yl2 yc2] 25)
              have HVL := Lib.hid HJ1.out.own.lt
              have hwr : w.heap.size < wr.heap.size := HJ1.out.res.lt
              have hw9 : wr.heap.size ≤ w9.heap.size := hk9.size
              have hv10 : ExC (fun q => w.heap.size < q ∧ u13.ownBlock ≠ some q ∧ q < ((w9.alloc (.cells #[.int .i64 yk, .bool yt, .slice ya1 yl1 yc1, .slice ya2 yl2 yc2] 25)).alloc (.cells #[.int .i64 yk, .bool yt, .slice ya1 yl1 yc1, .slice ya2 yl2 yc2] 25)).heap.size) ((w9.alloc (.cells #[.int .i64 yk, .bool yt, .slice ya1 yl1 yc1, .slice ya2 yl2 yc2] 25)).alloc (.cells #[.int .i64 yk, .bool yt, .slice ya1 yl1 yc1, .slice ya2 yl2 yc2] 25)) [.int .i64 yk, .bool yt, .slice ya1 yl1 yc1, .slice ya2 yl2 yc2] x9 :=
                ((hv9.step bn).step bm).move (Nat.le_refl _) (fun q hq hlt => ⟨⟨by omega, fun e => by have := (HVL.out q e).2; omega, hlt⟩, rfl⟩)
              have hz10 : w.heap.size + 1 ≤ ((w9.alloc (.cells #[.int .i64 yk, .bool yt, .slice ya1 yl1 yc1, .slice ya2 yl2 yc2] 25)).alloc (.cells #[.int .i64 yk, .bool yt, .slice ya1 yl1 yc1, .slice ya2 yl2 yc2] 25)).heap.size := by rw [World.size_alloc, World.size_alloc]; omega
              have hown10 := hj10.own
              have HJ10 := Lib.hid hj10
              have HV10 := Lib.hid hv10
              have hl2 : l.length ≤ 100 := by have := HLL.out; omega
              obtain ⟨va, vc, rfl⟩ := HJ1.out.list
              have hne9 : (Value.slice va l.length vc).ownBlock ≠ some w9.heap.size := fun e => by have := (HVL.out _ e).2; omega
              clear ho hv9 hr9 hk9 hj9 bn bm hj10 hv10 hwr hw9
              go_wp2_with (at_builtin; refine wpList_append_lies _ rfl _ _ 23 rfl (w.heap.size + 1) 25 i0 (.agg #[.int .i64 0, .bool false, .slice none 0 0, .slice none 0 0]) 4 64 Tryz.underlying23 hi hz0 hz1 hz2 rfl (by decide) _ _ _ rfl hown10 ⟨w9.heap.size + 1, 0, none⟩ 1 1 [.int .i64 yk, .bool yt, .slice ya1 yl1 yc1, .slice ya2 yl2 yc2] rfl rfl (World.news_of_block (by simpa using hN10)) ?ones (by decide) ?len ?bytes hz10 _ rfl ?main)
              case ones => intro y hy; simp only [List.mem_cons, List.not_mem_nil, or_false] at hy; rcases hy with rfl | rfl | rfl | rfl <;> rfl
              case len => unfold maxLen; omega
              case bytes => omega
              intro g cap w11 hown11 hgrow11 hat11 hlt11
              have hj11 := HJ10.out.push rfl HV10.out hown11 hgrow11 (by rw [World.size_alloc, World.size_alloc]; exact hat11)
              have HJ11 := Lib.hid hj11
              clear hown11 hgrow11 hat11 hlt11 hj11 hown10 hN10 hz10 HV10
              go_wp2_with fail
              refine (HMO.out k9 n9 _ HGD9.out.2.2 HJ11.out.rd HJ11.out.box).mono ?_
              rintro e w12 (⟨k10, hm, rfl, hr12, hk12⟩ | ⟨hm, rfl, hr12, hk12⟩)
              · have HJ12 := Lib.hid (HJ11.out.go hr12 hk12)
                have HE4 := Lib.hid (HE3.out.trans (by rw [hm]))
                have HK10 := Lib.hid (HGM.out k9 k10 HGD9.out.2.2 hm)
                clear hm hr12 hk12
                go_wp2_with fail
                go_roundg (f + 1)
                case measure => have := HG.out; omega
                case rel =>
                  have h1 := HGD9.out
                  have h2 := HF.out
                  have h3 := HLL.out
                  exact .inl ⟨f, k10, n9, l ++ [x9], _, rfl, rfl, by omega, h1.2.1, HK10.out, by simp; omega, HE4.out.symm.trans HTT.out, HJ12.out⟩
              · have HJ12 := Lib.hid (HJ11.out.go hr12 hk12)
                have HE4 := Lib.hid (HE3.out.trans (by rw [hm]))
                clear hm hr12 hk12
                go_wp2_with fail
                go_roundg 0
                case measure => have := HG.out; omega
                case rel =>
                  have h1 := HGD9.out
                  have h3 := HLL.out
                  exact .inr ⟨k9, n9, l ++ [x9], _, rfl, rfl, by simp; omega, h1.2.1, HTT.out.symm.trans HE4.out, HJ12.out⟩
          · have HTT := Lib.hid htot
            have HJ1 := Lib.hid hst
            obtain ⟨va, vc, rfl⟩ := hst.list
            have HR := Lib.hid hst.res
            clear htot hg hst
            have r0 := HR.out.cells.1
            have r1 := HR.out.cells.2.1
            have r2 := HR.out.cells.2.2.1
            have r3 := HR.out.cells.2.2.2
            have rf0 := HR.out.fz 0
            have rf1 := HR.out.fz 1
            have rf2 := HR.out.fz 2
            have rf3 := HR.out.fz 3
            go_wp2_with fail
            have hvv : ExC (fun q => w.heap.size < q) wr [.int .i64 3, .bool false, .slice none 0 0, .slice va l.length vc] (.mk 3 false [] l) := by
              unfold ExC
              exact ⟨_, _, xs, rfl, CapV.nil, RowX.nil _ _, RowX.of_own HJ1.out.own (fun q e => by have := (HJ1.out.own.lt q e).1; show w.heap.size < q; omega), HJ1.out.vals.move (Nat.le_refl _) (fun q hq _ => ⟨hq.1, rfl⟩)⟩
            have ho := out_ok HRB.out.1 HJ1.out.keep HJ1.out.rd hvv
            obtain ⟨q0, q1, q2, q3⟩ := (HR.out.set4 (.int .i64 3) (.bool false) (.slice none 0 0) (.slice va l.length vc)).cells
            unfold set4 at q0 q1 q2 q3 ho
            refine bodyPost_ret (v := .tuple #[.agg #[.int .i64 3, .bool false, .slice none 0 0, .slice va l.length vc], .nilIface]) (by simp [results, Tryz.results75, go_sem, q0, q1, q2, q3]) rfl ?_
            rw [HE2.out, HTT.out]
            exact ho
      · refine (count_no s k2 n1 d rb (skp s k2) (by omega) (by have := HGD1.out; omega) _ HP6.out.st.rd).mono ?_
        rintro e w7 ⟨fb, rfl, hf7, hk7⟩
        have HR := Lib.hid (HP6.out.st.res.keeps hk7 (by have := HRB.out; omega))
        have HK := Lib.hid (HP6.out.st.keep.trans hk7)
        have HF := Lib.hid hf7
        have HE2 := Lib.hid (HE1.out.trans (if_pos (by omega)))
        clear hf7 hk7 hn1
        have r0 := HR.out.cells.1
        have r1 := HR.out.cells.2.1
        have r2 := HR.out.cells.2.2.1
        have r3 := HR.out.cells.2.2.2
        have rf0 := HR.out.fz 0
        have rf1 := HR.out.fz 1
        have rf2 := HR.out.fz 2
        have rf3 := HR.out.fz 3
        unfold pf
        go_wp2_with fail
        have ho := out_er (s := s) (d := d) (k1 := 0) (t1 := false) (a1 := none) (l1 := 0) (c1 := 0) (a2 := none) (l2 := 0) (c2 := 0) HR.out HK.out HF.out (by decide)
        obtain ⟨q0, q1, q2, q3⟩ := (HR.out.set4 (.int .i64 0) (.bool false) (.slice none 0 0) (.slice none 0 0)).cells
        unfold set4 at q0 q1 q2 q3 ho
        refine bodyPost_ret (v := .tuple #[.agg #[.int .i64 0, .bool false, .slice none 0 0, .slice none 0 0], pf fb]) (by simp [results, Tryz.results75, go_sem, q0, q1, q2, q3, pf]) rfl ?_
        rw [HE2.out]
        exact ho
    · have HP4 := Lib.hid (HP.out.go hr4 hk4)
      have HE1 : Hid (jnR s 3 nx (alM s) k0 n0 = .ok k1 n1 x1) := Lib.hid (by rw [HE0.out, hm])
      have HR := Lib.hid HP4.out.st.res
      obtain ⟨x0, x1', x2, x3⟩ := HP4.out.st.x.cells
      clear hm hr4 hk4 HP
      have r0 := HR.out.cells.1
      have r1 := HR.out.cells.2.1
      have r2 := HR.out.cells.2.2.1
      have r3 := HR.out.cells.2.2.2
      have rf0 := HR.out.fz 0
      have rf1 := HR.out.fz 1
      have rf2 := HR.out.fz 2
      have rf3 := HR.out.fz 3
      go_wp2_with fail
      have ho := out_ok HRB.out.1 HP4.out.st.keep HP4.out.st.rd (HP4.out.val.move (P' := fun q => w.heap.size < q) (Nat.le_refl _) (fun q hq _ => ⟨hq.1, rfl⟩))
      obtain ⟨q0, q1, q2, q3⟩ := (HR.out.set4 (.int .i64 xk) (.bool xt) (.slice xa1 xl1 xc1) (.slice xa2 xl2 xc2)).cells
      unfold set4 at q0 q1 q2 q3 ho
      refine bodyPost_ret (v := .tuple #[.agg #[.int .i64 xk, .bool xt, .slice xa1 xl1 xc1, .slice xa2 xl2 xc2], .nilIface]) (by simp [results, Tryz.results75, go_sem, q0, q1, q2, q3]) rfl ?_
      rw [HE1.out]
      exact ho
end Go.Proofs.YtocfcnhaecmgpaaGreatDoor
