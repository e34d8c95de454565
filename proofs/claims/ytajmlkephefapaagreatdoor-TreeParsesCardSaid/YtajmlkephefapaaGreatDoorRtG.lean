/-
  The document's own reader of values by contracts: what stands between an array's brackets.
-/
import Derived.Test.YtajmlkephefapaaGreatDoorGrd
namespace Go.Proofs.YtajmlkephefapaaGreatDoor
open Go.RowKit Go.Extern.Stop Go.Stop Go.Extern Go.WideMaps

set_option maxRecDepth 100000 in
set_option maxHeartbeats 16000000 in
theorem t5many_arr (s : ByteArray) (hs : s.size ≤ 100000) (d : Nat) (hd : d < 64) (hsp : T5Spec s (d + 1)) (b q k : Nat) (z : Int) (R : Outs) (hR : RowRel s (d + 1) 91 k R) (hk : k < s.size) (w0 w : World) (h : MnSt w0 b q s k 0 5 z [] [] (.slice none 0 0) (.slice none 0 0) [] w) :
    Calls Tryz.prog 67 #[.pointer (some ⟨b, 0, none⟩), .pointer (some ⟨q, 0, none⟩), .int .i64 d, .int .u8 93] w (T5mOut w0 b q s 5 z false R) := by
  obtain ⟨i0, hi, hz0, hz1, hz2⟩ := info_parts infoRValT
  have HSP := Lib.hid hsp
  have hdi : ¬ (64 : Int) ≤ (d : Int) := by omega
  have hdw : IntKind.i64.wrap ((d : Int) + 1) = ((d + 1 : Nat) : Int) := by rw [IntKind.wrap_i64]; omega
  have hdb : (d : Int) ≤ 64 := by omega
  have hkb : (k : Int) ≤ 100000 := by omega
  have HRR := Lib.hid hR
  have HSK := Lib.hid (fun k c hk W (h : Tn W b s k c) => t5skip_any s k b c hs hk W h)
  have HIS := Lib.hid (fun k c d hd hk W (h : Tn W b s k c) => t5is_any s k b c d hd hk W h)
  have HTY := Lib.hid (fun d hd k hk he W (h : Tn W b s k 0) => t5take_yes s k b d hs hd hk he W h)
  have HTN := Lib.hid (fun d hd k hk he W (h : Tn W b s k 0) => t5take_no s k b d hd hk he W h)
  have HK := Lib.hid hk
  have H0 := Lib.hid h
  have f1 := h.rd.fz 1
  obtain ⟨c0, c1, c2⟩ := h.rd.cells
  have H1 : Hid (MnSt w0 b q s (k + 1) 0 5 z [] [] (.slice none 0 0) (.slice none 0 0) [] (w.setCell ⟨b, 1, none⟩ (.int .i64 ((k : Int) + 1)))) := Lib.hid (h.go (h.rd.at1 (k + 1)) (keepsT w b 1 _))
  clear hsp hR hk h
  go_enter Tryz.func67, Tryz.ntmps67
  go_upto_region 3 with (fail)
  generalize w.setCell ⟨b, 1, none⟩ (.int .i64 ((k : Int) + 1)) = w1 at *
  clear f1 c0 c1 c2 H0
  go_wp2_with fail
  refine (HSK.out (k + 1) 0 HK.out _ H1.out.rd).mono ?_
  rintro e w2 ⟨rfl, hr2, hk2⟩
  have H2 := Lib.hid (H1.out.go hr2 hk2)
  have hsk := sk_le s (k + 1) HK.out
  have HSL := Lib.hid hsk
  have HR := HRR
  unfold RowRel at HR
  generalize sk s (k + 1) = j at *
  clear hr2 hk2 H1 HRR hsk
  go_wp2_with fail
  refine (HIS.out j 0 93 (by decide) HSL.out.2 _ H2.out.rd).mono ?_
  rintro e w3 ⟨rfl, b3⟩
  have H3 := Lib.hid (H2.out.step b3)
  clear b3 H2
  by_cases hsh : byteI s j = 93
  · have hRe : R = .ok (j + 1) [] [] := by
      rcases HR.out with ⟨-, e⟩ | ⟨e, -⟩
      · exact e
      · exact absurd hsh e
    subst hRe
    rw [decide_eq_true hsh]
    have hjb : (j : Int) ≤ 100000 := by have := HSL.out; omega
    have f1 := H3.out.rd.fz 1
    obtain ⟨c0, c1, c2⟩ := H3.out.rd.cells
    have HE : Hid (MnSt w0 b q s (j + 1) 0 5 z [] [] (.slice none 0 0) (.slice none 0 0) [] (w3.setCell ⟨b, 1, none⟩ (.int .i64 ((j : Int) + 1)))) := Lib.hid (H3.out.go (H3.out.rd.at1 (j + 1)) (keepsT w3 b 1 _))
    go_wp2_with fail
    refine bodyPost_ret (results_none rfl _ _ _) rfl ?_
    exact ⟨rfl, _, _, _, HE.out⟩
  have hI : I s (d + 1) 91 j [] R := by
    rcases HR.out with ⟨e, -⟩ | ⟨-, e⟩
    · exact absurd e hsh
    · exact e
  rw [decide_eq_false hsh]
  have H4 : Hid (MnRel w0 b q s d 91 5 z false R (s.size - j + 1) w3) := Lib.hid (.inl ⟨j, [], [], R, _, _, _, (Outs.pre_nil R).symm, hI, HSL.out.2, rfl, Nat.zero_le _, Nat.zero_le _, H3.out⟩)
  clear hI hsh HR H3 HSL HK
  go_wp2_with fail
  go_loopg [] (s.size - j + 1) (fun g wr => MnRel w0 b q s d 91 5 z false R g wr)
  case atStart => exact H4.out
  case round =>
    clear H4
    rcases hrel with ⟨p, vs, ks, o, vL, vK, xs, hRo, hI, hp, hg, hvl, hkl, hst⟩ | ⟨c, a, vs, ks, vL, vK, xs, hRe, hc, hg, hst⟩
    · obtain ⟨va, vc, vb, vd, rfl, rfl⟩ := hst.lists
      have H := Lib.hid hst
      have HG := Lib.hid hg
      have HRO := Lib.hid hRo
      have HL := Lib.hid (And.intro hp (And.intro hvl hkl))
      rcases I.split hI with ⟨c, a, hkr, -⟩ | ⟨q', key, ov, hkr, hV, hct⟩
      · exact absurd hkr (by unfold keyR; rw [if_pos rfl]; intro e; cases e)
      have hkq : q' = p ∧ key = ⟨#[]⟩ := by
        unfold keyR at hkr
        rw [if_pos rfl] at hkr
        injection hkr with e1 e2
        exact ⟨e1.symm, e2.symm⟩
      obtain ⟨rfl, rfl⟩ := hkq
      have HV := Lib.hid (HSP.out q' ov hV hp _ _ hst.rd)
      have HFI := Lib.hid (W.fits hV hp)
      have HCT := Lib.hid hct
      obtain ⟨c0, c1, c2⟩ := hst.rd.cells
      clear hst hg hRo hI hp hvl hkl hkr hV hct
      go_wp2_with fail
      refine HV.out.mono ?_
      intro e w4 hout
      cases ov with
      | er ec ea =>
        obtain ⟨k6, t6, n6, a6, l6, c6, a7, l7, c7, z6, rfl, hc, hr4, hk4⟩ := hout
        have HRE : Hid (R = .er ec ea) := Lib.hid (by rw [HRO.out, show o = .er ec ea from HCT.out]; rfl)
        have bn := sbelow_new w4 (.cells #[.int .i64 k6, .string t6, .int .u64 n6, .slice a6 l6 c6, .slice a7 l7 c7, .int .i64 z6] 34)
        have h5 := (H.out.go hr4 hk4).step bn
        obtain ⟨c0, c1, c2⟩ := h5.rd.cells
        have hne : (ec != 0) = true := bne_iff_ne.2 hc
        have hne2 : (ec == 0) = false := beq_eq_false_iff_ne.2 hc
        have HE := Lib.hid h5
        have HC := Lib.hid hc
        clear h5 hc hr4 hk4 bn HCT HFI H HV
        go_wp2_with fail
        refine bodyPost_ret (results_none rfl _ _ _) rfl ?_
        rw [HRE.out]
        exact ⟨rfl, HC.out, _, _, _, _, _, HE.out⟩
      | ok j x =>
        obtain ⟨k6, t6, n6, a6, l6, c6, a7, l7, c7, z6, rfl, hx, hr4, hk4⟩ := hout
        have bn := sbelow_new w4 (.cells #[.int .i64 k6, .string t6, .int .u64 n6, .slice a6 l6 c6, .slice a7 l7 c7, .int .i64 z6] 34)
        have HM5 := Lib.hid ((H.out.go hr4 hk4).step bn)
        have HX5 := Lib.hid (hx.step bn)
        have H65 : Hid (SixR (w4.alloc (.cells #[.int .i64 k6, .string t6, .int .u64 n6, .slice a6 l6 c6, .slice a7 l7 c7, .int .i64 z6] 34)) w4.heap.size (.int .i64 k6) (.string t6) (.int .u64 n6) (.slice a6 l6 c6) (.slice a7 l7 c7) (.int .i64 z6)) := Lib.hid (heap_alloc_new w4 _)
        obtain ⟨c0, c1, c2⟩ := HM5.out.rd.cells
        have HBX : Hid ((wr).heap.size ≤ w4.heap.size ∧ q < (wr).heap.size) := Lib.hid ⟨hk4.size, H.out.box.lt⟩
        have HVL := Lib.hid (fun r (e : Value.ownBlock (.slice va vs.length vc) = some r) => (H.out.own.lt r e).2)
        have HVK := Lib.hid (fun r e => (H.out.kown.lt r e).2)
        clear bn hx hr4 hk4 H HV
        go_wp2_with fail
        generalize w4.alloc (.cells #[.int .i64 k6, .string t6, .int .u64 n6, .slice a6 l6 c6, .slice a7 l7 c7, .int .i64 z6] 34) = w5 at *
        generalize w4.heap.size = bx at *
        have bd := (Below.refl w5.heap.size w5).drew
        have hM4 := HM5.out.step bd
        have h64 := H65.out.step bd
        obtain ⟨s0, s1, s2, s3, s4, s5⟩ := h64.cells
        obtain ⟨p0, p1, p2, p3, p4, p5⟩ := H65.out.cells
        have lc := hM4.box.cells.2.2.2.1
        have lf := hM4.box.fz 3
        have lc' := HM5.out.box.cells.2.2.2.1
        have hix : (vs.length : Int) < (vs.length : Int) + 1 := by omega
        have hqw : q + 1 ≤ w5.heap.size := HM5.out.box.lt
        have hq3 : bx < w5.heap.size := H65.out.lt
        have hL3 : q < w5.heap.size := HM5.out.box.lt
        have hvb : vs.length ≤ 100000 := by have := HL.out; omega
        have bz := sbelow_new w5.drew (.cells #[.int .i64 0, .string ⟨#[]⟩, .int .u64 0, .slice none 0 0, .slice none 0 0, .int .i64 0] 34)
        have HM6 := Lib.hid (hM4.step bz)
        have H66 := Lib.hid (h64.step bz)
        have HX6 := Lib.hid ((HX5.out.step bd).step bz)
        have hbq : Hid (q < bx) := Lib.hid (by have := HBX.out; omega)
        clear c0 c1 c2 bd bz h64
        go_region_law (first
          | (refine step_append_lies _ rfl _ _ 32 rfl (q + 1) 34 i0 (.agg #[.int .i64 0, .string ⟨#[]⟩, .int .u64 0, .slice none 0 0, .slice none 0 0, .int .i64 0]) 6 88 Tryz.underlying32 hi hz0 hz1 hz2 rfl (by decide) _ _ _ rfl (hM4.own.alloc _) ⟨w5.heap.size, 0, none⟩ 1 1 zeros6 rfl rfl (World.news_of_block (heap_alloc_new _ _)) zeros6_one (by decide) (by unfold maxLen; omega) (by omega) (Nat.le_trans hqw (by simp)) _ rfl ?_; intro g cap w6 hown6 hgrow6 hat6 hlt6; obtain ⟨t0, t1, t2, t3, t4, t5, tf⟩ := own_tail hown6 HM6.out.own.1; have h67 := H66.out.grown hgrow6 (fun e => by have := HVL.out _ e; have := HBX.out; omega); obtain ⟨s0, s1, s2, s3, s4, s5⟩ := h67.cells; have lb5 := HM6.out.box.grown hgrow6 (HM6.out.neL (Nat.le_refl q)); have lc5 := lb5.cells.2.2.2.1; have hgL : g ≠ q := (by have := (hown6.lt g rfl).1; omega); have hLg := hgL.symm; have lf5 := lb5.fz 3; clear lb5))
        all_goals
          have hpush := HM6.out.pushV rfl hown6 hgrow6 hat6 HX6.out (fun r hr _ => ⟨by have := HBX.out; omega, fun e => by have := HVL.out r e; omega, fun e => by have := HVK.out r e; omega⟩)
          obtain ⟨wF, hwF⟩ : ∃ wF, wF = (set6 w6 g (vs.length * 6) (.int .i64 k6) (.string t6) (.int .u64 n6) (.slice a6 l6 c6) (.slice a7 l7 c7) (.int .i64 z6)).setCell ⟨q, 3, none⟩ (.slice (some ⟨g, 0, none⟩) (vs.length + 1) cap) := ⟨_, rfl⟩
          rw [← hwF] at hpush
          have hwF' := hwF.trans (set6_farT w6 g (vs.length * 6) q 3 (.int .i64 k6) (.string t6) (.int .u64 n6) (.slice a6 l6 c6) (.slice a7 l7 c7) (.int .i64 z6) (.slice (some ⟨g, 0, none⟩) (vs.length + 1) cap) hgL).symm
          unfold set6 at hwF hwF'
          first | rw [← hwF] | rw [← hwF']
          have HF := Lib.hid hpush
          clear hpush hwF hwF' t0 t1 t2 t3 t4 t5 tf s0 s1 s2 s3 s4 s5 lc5 lf5 hown6 hgrow6 hat6 hlt6 h67 lc lf lc' p0 p1 p2 p3 p4 p5 hM4
          go_wp2_with fail
          refine (HSK.out j 0 HFI.out.2 _ HF.out.rd).mono ?_
          rintro e w7 ⟨rfl, hr7, hk7⟩
          have H7 := Lib.hid (HF.out.go hr7 hk7)
          have hjl := sk_le s j HFI.out.2
          have HJ : Hid ((j ≤ sk s j ∧ sk s j ≤ s.size) ∧ q' < j ∧ j ≤ s.size) := Lib.hid ⟨hjl, HFI.out⟩
          clear hr7 hk7 HF
          have hct : (byteI s (sk s j) = 93 ∧ o = .ok (sk s j + 1) [x] [⟨#[]⟩]) ∨ (byteI s (sk s j) ≠ 93 ∧ byteI s (sk s j) ≠ 44 ∧ o = .er (missC s (sk s j)) (sk s j)) ∨ (byteI s (sk s j) ≠ 93 ∧ byteI s (sk s j) = 44 ∧ ∃ o', I s (d + 1) 91 (sk s (sk s j + 1)) (ks ++ [⟨#[]⟩]) o' ∧ o = o'.cons x ⟨#[]⟩) := HCT.out
          have HCT' := Lib.hid hct
          clear hct HCT
          generalize sk s j = jj at *
          have hjb : (jj : Int) ≤ 100000 := by omega
          go_wp2_with fail
          refine (HIS.out jj 0 93 (by decide) hjl.2 _ H7.out.rd).mono ?_
          rintro e w8 ⟨rfl, b8⟩
          have H8 := Lib.hid (H7.out.step b8)
          clear b8 H7
          rcases HCT'.out with ⟨h1, ho⟩ | ⟨h1, h2, ho⟩ | ⟨h1, h2, o', hI', ho⟩
          · have HRE : Hid (R = .ok (jj + 1) (vs ++ [x]) (ks ++ [⟨#[]⟩])) := Lib.hid (by rw [HRO.out, ho]; rfl)
            rw [decide_eq_true h1]
            have f1 := H8.out.rd.fz 1
            obtain ⟨c0, c1, c2⟩ := H8.out.rd.cells
            have HE := Lib.hid (H8.out.go (H8.out.rd.at1 (jj + 1)) (keepsT w8 b 1 _))
            clear h1 ho
            go_wp2_with fail
            refine bodyPost_ret (results_none rfl _ _ _) rfl ?_
            rw [HRE.out]
            exact ⟨rfl, _, _, _, HE.out⟩
          · have HRE : Hid (R = .er (missC s jj) jj) := Lib.hid (by rw [HRO.out, ho]; rfl)
            rw [decide_eq_false h1]
            have HN := Lib.hid (HTN.out 44 (by decide) jj hjl.2 h2 _ H8.out.rd)
            have HM0 := Lib.hid (missC_ne s jj)
            generalize missC s jj = mm at *
            clear h1 h2 ho
            go_wp2_with fail
            refine HN.out.mono ?_
            rintro e w9 ⟨rfl, hr9, hk9⟩
            have H9 := Lib.hid (H8.out.go hr9 hk9)
            obtain ⟨c0, c1, c2⟩ := hr9.cells
            have hne2 : (mm == 0) = false := beq_eq_false_iff_ne.2 HM0.out
            clear hr9 hk9 H8
            go_wp2_with fail
            go_roundg 0
            case measure => have := HG.out; omega
            case rel => exact .inr ⟨mm, jj, _, _, _, _, _, HRE.out, HM0.out, rfl, H9.out⟩
          · have HRE : Hid (R = o'.pre (vs ++ [x]) (ks ++ [⟨#[]⟩])) := Lib.hid (by rw [HRO.out, ho, Outs.pre_cons])
            rw [decide_eq_false h1]
            have HY := Lib.hid (HTY.out 44 (by decide) jj hjl.2 h2 _ H8.out.rd)
            have hin := byteT_in h2 (by decide)
            have hk1 := sk_le s (jj + 1) hin
            have HK1 := Lib.hid (And.intro hk1 hin)
            have HI' := Lib.hid hI'
            clear h1 h2 ho hI' hin hk1
            go_wp2_with fail
            refine HY.out.mono ?_
            rintro e w9 ⟨rfl, hr9, hk9⟩
            have H9 := Lib.hid (H8.out.go hr9 hk9)
            obtain ⟨c0, c1, c2⟩ := hr9.cells
            clear hr9 hk9 H8
            go_wp2_with fail
            refine (HSK.out (jj + 1) 0 HK1.out.2 _ H9.out.rd).mono ?_
            rintro e w10 ⟨rfl, hr10, hk10⟩
            have H10 := Lib.hid (H9.out.go hr10 hk10)
            clear hr10 hk10 H9 c0 c1 c2
            go_wp2_with fail
            go_roundg (s.size - sk s (jj + 1) + 1)
            case measure => have h1 := HG.out; have h2 := HJ.out; have h3 := HK1.out; have h4 := HL.out; omega
            case rel =>
              have h2 := HJ.out
              have h3 := HK1.out
              have h4 := HL.out
              exact .inl ⟨_, vs ++ [x], ks ++ [⟨#[]⟩], o', _, _, _, HRE.out, HI'.out, h3.1.2, rfl, by rw [List.length_append, List.length_singleton]; omega, by rw [List.length_append, List.length_singleton]; omega, H10.out⟩
    · have hst2 := hst
      have HRE := Lib.hid hRe
      have HC := Lib.hid hc
      have hne2 : (c == 0) = false := beq_eq_false_iff_ne.2 hc
      have H := Lib.hid hst
      obtain ⟨c0, c1, c2⟩ := hst2.rd.cells
      clear hst hst2 hRe hc
      go_wp2_with fail
      go_end0
      rw [HRE.out]
      exact ⟨rfl, HC.out, _, _, _, _, _, H.out⟩
end Go.Proofs.YtajmlkephefapaaGreatDoor
