/-
  The document's own reader of weights, by contract: any text.
-/
import Derived.Test.YtogbocgjijhmgaaGreatDoorWgJ
namespace Go.Proofs.YtogbocgjijhmgaaGreatDoor
open Go.RowKit Go.Extern.Stop Go.Stop Go.Extern

theorem byteW_eq {s : ByteArray} {k : Nat} (h : k < s.size) {c : Int} (hc : byteI s k = c) : ((s[k].toNat : Int) == c) = true := by rw [byteI_lt h] at hc; simpa using hc
theorem byteW_ne {s : ByteArray} {k : Nat} (h : k < s.size) {c : Int} (hc : ¬ byteI s k = c) : ((s[k].toNat : Int) == c) = false := by rw [byteI_lt h] at hc; simpa using hc
set_option maxRecDepth 100000 in
set_option maxHeartbeats 16000000 in
theorem rgparse_go (s : ByteArray) (hs : s.size ≤ 65536) (hn : noughtB s = false) (w : World) :
    Calls Tryz.prog 27 #[.string s] w (RgOut w (wgR s (s.size + 1) 0 (fun _ => 0) (fun _ => false))) := by
  have HNO := Lib.hid hn
  have H0 := Lib.hid (rg_start w)
  have hlen : ¬ (65536 : Int) < (s.size : Int) := by omega
  obtain ⟨R, hRR⟩ : ∃ R, wgR s (s.size + 1) 0 (fun _ => 0) (fun _ => false) = R := ⟨_, rfl⟩
  have HR0 := Lib.hid hRR
  rw [hRR]
  clear hn hRR
  go_enter Tryz.func27, Tryz.ntmps27
  go_wp2_with fail
  generalize ((w.alloc (.cells #[.int .u64 0, .int .u64 0, .int .u64 0] 58)).alloc (.cells #[.int .u64 0, .int .u64 0, .int .u64 0] 53)).alloc (.cells #[.bool false, .bool false, .bool false] 4) = w1 at *
  go_loopg [7, 8] (s.size + 1) (fun g v7 v8 wr => RgRel w s R g v7 v8 wr)
  case atStart => exact ⟨0, _, _, true, rfl, rfl, HR0.out, Nat.zero_le _, by omega, fun _ => rfl, H0.out⟩
  case round =>
    clear H0 HR0
    obtain ⟨k, p, q, fb, rfl, rfl, hR, hk, hf, hfb, hI⟩ := hrel
    cases gk with
    | zero => omega
    | succ g =>
    rw [wgR] at hR
    have HI := Lib.hid hI
    have hj := skp_le hk
    have HS : Hid (∀ W, Calls Tryz.prog 38 #[.string s, .int .i64 k] W fun e w' => e = .returned (.int .i64 (skp s k)) ∧ W = w') := Lib.hid (fun W => rskip_any s k (by omega) hk W)
    have HRR := Lib.hid hR
    obtain ⟨j, HJ⟩ : ∃ j, Hid (skp s k = j) := ⟨_, Lib.hid rfl⟩
    rw [HJ.out] at hj HS
    have HKF := Lib.hid (show k ≤ s.size ∧ s.size < k + (g + 1) from ⟨hk, hf⟩)
    clear hI hR
    go_wp2_with fail
    refine (HS.out _).mono ?_
    rintro e w' ⟨rfl, rfl⟩
    go_upto_region 10 with (fail)
    go_cut [35] (fun v35 wx => v35 = .bool (isDig (byteI s j)) ∧ wx = wr)
    case first =>
      by_cases hlt : j < s.size
      · have hlti : (j : Int) < (s.size : Int) := by omega
        have ha0 : (0 : Int) ≤ (j : Int) := by omega
        have HD := Lib.hid (fun W => rdigit_any (s[j].toNat : Int) W)
        go_wp2_with fail
        refine (HD.out _).mono ?_
        rintro e w' ⟨rfl, rfl⟩
        go_wp2_with fail
        go_meet
        case rel => exact ⟨by rw [byteI_lt hlt], rfl⟩
      · have hlti : ¬ (j : Int) < (s.size : Int) := by omega
        go_wp2_with fail
        go_meet
        case rel => exact ⟨by rw [byteI_ge hlt]; rfl, rfl⟩
    case rest =>
    obtain ⟨rfl, rfl⟩ := hcut
    go_upto_if 35 with (fail)
    go_cut [7, 9] (fun v7 v9 wx => ∃ m k1, fcR s k = .ok m k1 ∧ v7 = .int .i64 (skp s k1 : Nat) ∧ v9 = .int .u64 m ∧ RpI w p q wx)
    case first =>
      cases hd : isDig (byteI s j) with
      | false =>
        go_wp2_with fail
        go_meet
        case rel => exact ⟨1, k, by unfold fcR; rw [HJ.out, hd]; rfl, by rw [HJ.out], rfl, HI.out⟩
      | true =>
        have hlt := isDig_in hd
        have HN := Lib.hid (fun W => rnumber_any s j (by omega) hj.2 W)
        unfold RefNum at HN
        by_cases hc : numC s j = 0
        · rw [hc] at HN
          by_cases hm : 1000000 < numN s j
          · have HE : Hid (R = .er 7 j) := Lib.hid (by rw [← HRR.out]; unfold tmR fcR; rw [HJ.out, hd, hc, if_pos rfl, if_neg (fun e => e rfl), if_pos hm])
            generalize numN s j = nn at *
            generalize numK s j = e at *
            clear hc hd
            go_wp2_with fail
            refine (HN.out _).mono ?_
            rintro e w2 ⟨rfl, b2⟩
            have H2 := Lib.hid (HI.out.step b2)
            clear b2
            obtain ⟨k0, k1, k2⟩ := H2.out.res.cells
            have f0 := H2.out.res.fz 0
            have f1 := H2.out.res.fz 1
            have f2 := H2.out.res.fz 2
            obtain ⟨q0, q1, q2⟩ := (H2.out.res.put (.int .u64 0) (.int .u64 0) (.int .u64 0)).cells
            go_wp2_with fail
            refine bodyPost_ret (v := .tuple #[.agg #[.int .u64 0, .int .u64 0, .int .u64 0], .int .i64 7, .int .i64 j]) (by simp [results, Tryz.results27, go_sem, q0, q1, q2]) rfl ?_
            rw [HE.out]
            exact ⟨rfl, below_tri H2.out.below _ _ _⟩
          · have hek := numK_le s j hj.2
            have HS2 : Hid (∀ W, Calls Tryz.prog 38 #[.string s, .int .i64 (numK s j)] W fun e w' => e = .returned (.int .i64 (skp s (numK s j))) ∧ W = w') := Lib.hid (fun W => rskip_any s (numK s j) (by omega) hek W)
            have hj2 := skp_le hek
            have HNT := Lib.hid (fun (h : fb = true) (hz : numN s j = 0) (he : skp s (numK s j) = s.size) => show False by
              have h0 := hfb h
              subst h0
              have := (nought_iff s).2 ⟨by rw [HJ.out]; exact hd, by rw [HJ.out]; exact hc, by rw [HJ.out]; exact hz, by rw [HJ.out]; exact he⟩
              rw [HNO.out] at this
              cases this)
            have HE4 := Lib.hid (fun (h42 : ¬ byteI s (skp s (numK s j)) = 42) => show R = .er (missC s (skp s (numK s j))) (skp s (numK s j)) by
              rw [← HRR.out]; unfold tmR fcR; rw [HJ.out, hd, hc, if_pos rfl, if_neg (fun e => e rfl), if_neg hm, if_neg h42])
            have HFC := Lib.hid (fun (h42 : byteI s (skp s (numK s j)) = 42) => show fcR s k = .ok (numN s j) (skp s (numK s j) + 1) by
              unfold fcR; rw [HJ.out, hd, hc, if_pos rfl, if_neg (fun e => e rfl), if_neg hm, if_pos h42])
            have HS3 := Lib.hid (fun (h42 : byteI s (skp s (numK s j)) = 42) W => show Calls Tryz.prog 38 #[.string s, .int .i64 ((skp s (numK s j) : Int) + 1)] W fun e w' => e = .returned (.int .i64 (skp s (skp s (numK s j) + 1))) ∧ W = w' from rskip_any s (skp s (numK s j) + 1) (by omega) (byteI_in h42 (by decide)) W)
            have HMI := Lib.hid (fun W => rfails_any s (skp s (numK s j)) W)
            generalize numN s j = nn at *
            generalize numK s j = e at *
            generalize skp s e = j2 at *
            have hjb : (j2 : Int) ≤ 65536 := by omega
            clear hc hd hek
            go_wp2_with fail
            refine (HN.out _).mono ?_
            rintro e w2 ⟨rfl, b2⟩
            have H2 := Lib.hid (HI.out.step b2)
            clear b2
            go_wp2_with fail
            refine (HS2.out _).mono ?_
            rintro e w' ⟨rfl, rfl⟩
            go_upto_region 18 with (fail)
            go_cut [66] (fun v66 wx => v66 = .bool false ∧ wx = w2)
            case first =>
              cases fb with
              | false =>
                go_wp2_with fail
                go_meet
                case rel => exact ⟨rfl, rfl⟩
              | true =>
                by_cases hz : nn = 0
                · have he : ¬ j2 = s.size := fun e => HNT.out rfl hz e
                  have hei : ((j2 : Int) == (s.size : Int)) = false := beq_eq_false_iff_ne.2 (by omega)
                  subst hz
                  go_wp2_with fail
                  go_meet
                  case rel => exact ⟨rfl, rfl⟩
                · have hzi : (nn == 0) = false := beq_eq_false_iff_ne.2 hz
                  go_wp2_with fail
                  go_meet
                  case rel => exact ⟨rfl, rfl⟩
            case rest =>
            obtain ⟨rfl, rfl⟩ := hcut
            go_upto_region 20 with (fail)
            go_cut [77] (fun v77 wx => v77 = .bool (!decide (byteI s j2 = 42)) ∧ wx = wc)
            case first =>
              by_cases hl2 : j2 < s.size
              · have hei : ((j2 : Int) == (s.size : Int)) = false := beq_eq_false_iff_ne.2 (by omega)
                have hlti : (j2 : Int) < (s.size : Int) := by omega
                have ha0 : (0 : Int) ≤ (j2 : Int) := by omega
                by_cases h42 : byteI s j2 = 42
                · have hb := byteW_eq hl2 h42
                  go_wp2_with fail
                  go_meet
                  case rel => exact ⟨by rw [decide_eq_true h42]; simp [bne, hb], rfl⟩
                · have hb := byteW_ne hl2 h42
                  go_wp2_with fail
                  go_meet
                  case rel => exact ⟨by rw [decide_eq_false h42]; simp [bne, hb], rfl⟩
              · have hei : ((j2 : Int) == (s.size : Int)) = true := beq_iff_eq.2 (by omega)
                go_wp2_with fail
                go_meet
                case rel => exact ⟨by rw [byteI_ge hl2]; rfl, rfl⟩
            case rest =>
            obtain ⟨rfl, rfl⟩ := hcut
            by_cases h42 : byteI s j2 = 42
            · rw [decide_eq_true h42]
              have HSS := Lib.hid (HS3.out h42)
              have HFF := Lib.hid (HFC.out h42)
              clear h42
              go_wp2_with fail
              refine (HSS.out _).mono ?_
              rintro e w' ⟨rfl, rfl⟩
              go_wp2_with fail
              go_meet
              case rel => exact ⟨nn, j2 + 1, HFF.out, rfl, rfl, H2.out⟩
            · rw [decide_eq_false h42]
              have HE := Lib.hid (HE4.out h42)
              clear h42
              go_wp2_with fail
              refine (HMI.out _).mono ?_
              rintro e w' ⟨rfl, rfl⟩
              obtain ⟨k0, k1, k2⟩ := H2.out.res.cells
              have f0 := H2.out.res.fz 0
              have f1 := H2.out.res.fz 1
              have f2 := H2.out.res.fz 2
              obtain ⟨q0, q1, q2⟩ := (H2.out.res.put (.int .u64 0) (.int .u64 0) (.int .u64 0)).cells
              go_wp2_with fail
              refine bodyPost_ret (v := .tuple #[.agg #[.int .u64 0, .int .u64 0, .int .u64 0], .int .i64 (missC s j2), .int .i64 j2]) (by simp [results, Tryz.results27, go_sem, q0, q1, q2]) rfl ?_
              rw [HE.out]
              exact ⟨rfl, below_tri H2.out.below _ _ _⟩
        · have HE : Hid (R = .er (numC s j) j) := Lib.hid (by rw [← HRR.out]; unfold tmR fcR; rw [HJ.out, hd, if_pos rfl, if_pos hc])
          have hci : (numC s j == 0) = false := beq_eq_false_iff_ne.2 hc
          generalize numC s j = cc at *
          generalize numN s j = nn at *
          generalize numK s j = e at *
          clear hc hd
          go_wp2_with fail
          refine (HN.out _).mono ?_
          rintro e w2 ⟨rfl, b2⟩
          have H2 := Lib.hid (HI.out.step b2)
          clear b2
          obtain ⟨k0, k1, k2⟩ := H2.out.res.cells
          have f0 := H2.out.res.fz 0
          have f1 := H2.out.res.fz 1
          have f2 := H2.out.res.fz 2
          obtain ⟨q0, q1, q2⟩ := (H2.out.res.put (.int .u64 0) (.int .u64 0) (.int .u64 0)).cells
          go_wp2_with fail
          refine bodyPost_ret (v := .tuple #[.agg #[.int .u64 0, .int .u64 0, .int .u64 0], .int .i64 cc, .int .i64 j]) (by simp [results, Tryz.results27, go_sem, q0, q1, q2]) rfl ?_
          rw [HE.out]
          exact ⟨rfl, below_tri H2.out.below _ _ _⟩
    case rest =>
    obtain ⟨m, k1, hfc, rfl, rfl, hI2⟩ := hcut
    have H3 := Lib.hid hI2
    have hk1 := fcR_le hk hfc
    have htm : tmR s k q = wdR s k1 m q := by unfold tmR; rw [hfc]
    have hR2 := HRR.out
    rw [htm] at hR2
    have HTL := Lib.hid (fun i m' k' (h : wdR s k1 m q = .ok i m' k') => tmR_le hk (htm.trans h))
    have ha := skp_le hk1.2.1
    have HNM := Lib.hid (fun W => rname_any s (skp s k1) (by omega) ha.2 W)
    unfold RefName at HNM
    unfold wdR at hR2 HTL
    clear hI2 hfc hk1 htm HRR HI HJ HNO hfb hj HS
    generalize skp s k1 = a at *
    by_cases hc : nameC s a = 0
    · rw [if_neg (fun e => e hc)] at hR2 HTL
      rw [hc] at HNM
      have hkn := nameK_le s a ha.2
      have he := skp_le hkn
      have HS4 : Hid (∀ W, Calls Tryz.prog 38 #[.string s, .int .i64 (nameK s a)] W fun e w' => e = .returned (.int .i64 (skp s (nameK s a))) ∧ W = w') := Lib.hid (fun W => rskip_any s (nameK s a) (by omega) hkn W)
      generalize nameT s a = t at *
      generalize nameK s a = kn at *
      obtain ⟨e2, HE2⟩ : ∃ e2, Hid (skp s kn = e2) := ⟨_, Lib.hid rfl⟩
      rw [HE2.out] at HS4 he
      obtain ⟨i, HII⟩ : ∃ i, Hid (wIdx t = i) := ⟨_, Lib.hid rfl⟩
      have hil := wIdx_le t
      rw [HII.out] at hR2 HTL hil
      clear hc ha
      go_wp2_with fail
      refine (HNM.out _).mono ?_
      rintro e w2 ⟨rfl, b2⟩
      have H4 := Lib.hid (H3.out.step b2)
      clear b2
      go_upto_block 2 with fail
      go_cut [16] (fun v16 wx => v16 = .int .i64 i ∧ RpI w p q wx)
      case first =>
        have HW0 := Lib.hid (fun W => rgword_0 W)
        have HW1 := Lib.hid (fun W => rgword_1 W)
        have HW2 := Lib.hid (fun W => rgword_2 W)
        have hid := HII.out
        unfold wIdx at hid
        generalize wordB 0 = x at *
        generalize wordB 1 = y at *
        generalize wordB 2 = z at *
        cases h0 : x.toList == t.toList with
        | true =>
          rw [h0] at hid
          obtain rfl : 0 = i := hid
          go_wp2_with fail
          refine wp_loop_rounds 1 ?_
          rw [rounds_succ]
          go_wp2_with fail
          refine (HW0.out _).mono ?_
          rintro e w5 ⟨rfl, b5⟩
          have H5 := Lib.hid (H4.out.step b5)
          clear b5
          go_wp2_with fail
          go_meet
          case rel => exact ⟨rfl, H5.out⟩
        | false =>
          rw [h0] at hid
          cases h1 : y.toList == t.toList with
          | true =>
            rw [h1] at hid
            obtain rfl : 1 = i := hid
            go_wp2_with fail
            refine wp_loop_rounds 2 ?_
            rw [rounds_succ]
            go_wp2_with fail
            refine (HW0.out _).mono ?_
            rintro e w5 ⟨rfl, b5⟩
            have H5 := Lib.hid (H4.out.step b5)
            clear b5
            go_wp2_with fail
            rw [rounds_succ]
            go_wp2_with fail
            refine (HW1.out _).mono ?_
            rintro e w6 ⟨rfl, b6⟩
            have H6 := Lib.hid (H5.out.step b6)
            clear b6
            go_wp2_with fail
            go_meet
            case rel => exact ⟨rfl, H6.out⟩
          | false =>
            rw [h1] at hid
            cases h2 : z.toList == t.toList with
            | true =>
              rw [h2] at hid
              obtain rfl : 2 = i := hid
              go_wp2_with fail
              refine wp_loop_rounds 3 ?_
              rw [rounds_succ]
              go_wp2_with fail
              refine (HW0.out _).mono ?_
              rintro e w5 ⟨rfl, b5⟩
              have H5 := Lib.hid (H4.out.step b5)
              clear b5
              go_wp2_with fail
              rw [rounds_succ]
              go_wp2_with fail
              refine (HW1.out _).mono ?_
              rintro e w6 ⟨rfl, b6⟩
              have H6 := Lib.hid (H5.out.step b6)
              clear b6
              go_wp2_with fail
              rw [rounds_succ]
              go_wp2_with fail
              refine (HW2.out _).mono ?_
              rintro e w7 ⟨rfl, b7⟩
              have H7 := Lib.hid (H6.out.step b7)
              clear b7
              go_wp2_with fail
              go_meet
              case rel => exact ⟨rfl, H7.out⟩
            | false =>
              rw [h2] at hid
              obtain rfl : 3 = i := hid
              go_wp2_with fail
              refine wp_loop_rounds 4 ?_
              rw [rounds_succ]
              go_wp2_with fail
              refine (HW0.out _).mono ?_
              rintro e w5 ⟨rfl, b5⟩
              have H5 := Lib.hid (H4.out.step b5)
              clear b5
              go_wp2_with fail
              rw [rounds_succ]
              go_wp2_with fail
              refine (HW1.out _).mono ?_
              rintro e w6 ⟨rfl, b6⟩
              have H6 := Lib.hid (H5.out.step b6)
              clear b6
              go_wp2_with fail
              rw [rounds_succ]
              go_wp2_with fail
              refine (HW2.out _).mono ?_
              rintro e w7 ⟨rfl, b7⟩
              have H7 := Lib.hid (H6.out.step b7)
              clear b7
              go_wp2_with fail
              rw [rounds_succ]
              go_wp2_with fail
              go_meet
              case rel => exact ⟨rfl, H7.out⟩
      case rest =>
      obtain ⟨rfl, hI5⟩ := hcut
      have H5 := Lib.hid hI5
      clear hI5 H3 H4 HII HNM
      by_cases h3 : i = 3
      · subst h3
        rw [if_pos rfl] at hR2
        have HE := Lib.hid hR2.symm
        clear hR2 HTL
        obtain ⟨k0, k1, k2⟩ := H5.out.res.cells
        have f0 := H5.out.res.fz 0
        have f1 := H5.out.res.fz 1
        have f2 := H5.out.res.fz 2
        obtain ⟨q0, q1, q2⟩ := (H5.out.res.put (.int .u64 0) (.int .u64 0) (.int .u64 0)).cells
        go_wp2_with fail
        refine bodyPost_ret (v := .tuple #[.agg #[.int .u64 0, .int .u64 0, .int .u64 0], .int .i64 18, .int .i64 a]) (by simp [results, Tryz.results27, go_sem, q0, q1, q2]) rfl ?_
        rw [HE.out]
        exact ⟨rfl, below_tri H5.out.below _ _ _⟩
      · rw [if_neg h3] at hR2 HTL
        have hi3 : i = 0 ∨ i = 1 ∨ i = 2 := by omega
        rcases hi3 with rfl | rfl | rfl
        · obtain ⟨s0, s1, s2⟩ := H5.out.seen.cells
          cases hq : q 0 with
          | true =>
            rw [hq] at s0
            rw [hq, if_pos rfl] at hR2
            have HE := Lib.hid hR2.symm
            clear hR2 HTL
            obtain ⟨k0, k1, k2⟩ := H5.out.res.cells
            have f0 := H5.out.res.fz 0
            have f1 := H5.out.res.fz 1
            have f2 := H5.out.res.fz 2
            obtain ⟨q0, q1, q2⟩ := (H5.out.res.put (.int .u64 0) (.int .u64 0) (.int .u64 0)).cells
            go_wp2_with fail
            refine bodyPost_ret (v := .tuple #[.agg #[.int .u64 0, .int .u64 0, .int .u64 0], .int .i64 10, .int .i64 a]) (by simp [results, Tryz.results27, go_sem, q0, q1, q2]) rfl ?_
            rw [HE.out]
            exact ⟨rfl, below_tri H5.out.below _ _ _⟩
          | false =>
            rw [hq] at s0
            rw [hq, if_neg (by decide)] at hR2 HTL
            have hb := HTL.out 0 m kn rfl
            simp only [HE2.out] at hR2
            have g0 := H5.out.seen.fz 0
            have l0 := H5.out.lst.fz 0
            obtain ⟨m0, m1, m2⟩ := H5.out.lst.cells
            have H6 := Lib.hid (H5.out.put0 m)
            clear HTL h3
            by_cases hend : e2 = s.size
            · rw [if_pos hend] at hR2
              have HE := Lib.hid hR2.symm
              have hei : ((e2 : Int) == (s.size : Int)) = true := beq_iff_eq.2 (by omega)
              clear hR2 hend
              go_upto_region 35 with (fail)
              generalize (wc.setCell ⟨w.heap.size + 2, 0, none⟩ (.bool true)).setCell ⟨w.heap.size + 1, 0, none⟩ (.int .u64 m) = w6 at *
              clear s0 s1 s2 m0 m1 m2 g0 l0
              have H6d := Lib.hid (H6.out.step (Below.refl _ _).drew)
              obtain ⟨n0, n1, n2⟩ := H6d.out.lst.cells
              obtain ⟨k0, k1, k2⟩ := H6d.out.res.cells
              have f0 := H6d.out.res.fz 0
              have f1 := H6d.out.res.fz 1
              have f2 := H6d.out.res.fz 2
              obtain ⟨k3, k4, k5⟩ := H6.out.res.cells
              have f3 := H6.out.res.fz 0
              have f4 := H6.out.res.fz 1
              have f5 := H6.out.res.fz 2
              obtain ⟨n3, n4, n5⟩ := H6.out.lst.cells
              obtain ⟨q0, q1, q2⟩ := ((H6.out.res.put (.int .u64 (upd p 0 m 0)) (.int .u64 (upd p 0 m 1)) (.int .u64 (upd p 0 m 2))).step (Below.refl _ _).drew).cells
              go_wp2_with fail
              refine (HS4.out _).mono ?_
              rintro e w' ⟨rfl, rfl⟩
              go_wp2_with fail
              go_region_held3 (fun W => W.cell? ⟨w.heap.size + 1, 0, none⟩ = some (.int .u64 (upd p 0 m 0)) ∧ W.cell? ⟨w.heap.size + 1, 1, none⟩ = some (.int .u64 (upd p 0 m 1)) ∧ W.cell? ⟨w.heap.size + 1, 2, none⟩ = some (.int .u64 (upd p 0 m 2)))
                (first | go_keep | exact ⟨n0, n1, n2⟩)
                (fail)
              go_wp2
              refine bodyPost_ret (v := .tuple #[.agg #[.int .u64 (upd p 0 m 0), .int .u64 (upd p 0 m 1), .int .u64 (upd p 0 m 2)], .int .i64 0, .int .i64 0]) (by simp [results, Tryz.results27, go_sem, q0, q1, q2]) rfl ?_
              rw [HE.out]
              exact ⟨rfl, below_tri H6d.out.below _ _ _⟩
            · rw [if_neg hend] at hR2
              have hlt : e2 < s.size := by omega
              have hlti : (e2 : Int) < (s.size : Int) := by omega
              have ha0 : (0 : Int) ≤ (e2 : Int) := by omega
              have heb : (e2 : Int) ≤ 65536 := by omega
              have hei : ((e2 : Int) == (s.size : Int)) = false := beq_eq_false_iff_ne.2 (by omega)
              by_cases h43 : byteI s e2 = 43
              · rw [if_pos h43] at hR2
                have hb3 := byteW_eq hlt h43
                have HE := Lib.hid hR2
                have HBD : Hid (e2 + 1 ≤ s.size ∧ s.size < e2 + 1 + g) := Lib.hid (by omega)
                clear hR2 hend h43
                go_upto_region 35 with (fail)
                generalize (wc.setCell ⟨w.heap.size + 2, 0, none⟩ (.bool true)).setCell ⟨w.heap.size + 1, 0, none⟩ (.int .u64 m) = w6 at *
                clear s0 s1 s2 m0 m1 m2 g0 l0
                go_wp2_with fail
                refine (HS4.out _).mono ?_
                rintro e w' ⟨rfl, rfl⟩
                go_wp2_with fail
                go_roundg g
                case measure => omega
                case rel => exact ⟨e2 + 1, _, _, false, rfl, rfl, HE.out, HBD.out.1, HBD.out.2, fun h => (by cases h), H6.out⟩
              · rw [if_neg h43] at hR2
                have hb3 := byteW_ne hlt h43
                have HE : Hid (R = .er 4 e2) := Lib.hid (by rw [← hR2]; unfold missC; rw [if_pos hlt])
                clear hR2 hend h43
                go_upto_region 35 with (fail)
                generalize (wc.setCell ⟨w.heap.size + 2, 0, none⟩ (.bool true)).setCell ⟨w.heap.size + 1, 0, none⟩ (.int .u64 m) = w6 at *
                clear s0 s1 s2 m0 m1 m2 g0 l0
                obtain ⟨k0, k1, k2⟩ := H6.out.res.cells
                have f0 := H6.out.res.fz 0
                have f1 := H6.out.res.fz 1
                have f2 := H6.out.res.fz 2
                obtain ⟨q0, q1, q2⟩ := (H6.out.res.put (.int .u64 0) (.int .u64 0) (.int .u64 0)).cells
                go_wp2_with fail
                refine (HS4.out _).mono ?_
                rintro e w' ⟨rfl, rfl⟩
                go_wp2_with fail
                refine bodyPost_ret (v := .tuple #[.agg #[.int .u64 0, .int .u64 0, .int .u64 0], .int .i64 4, .int .i64 e2]) (by simp [results, Tryz.results27, go_sem, q0, q1, q2]) rfl ?_
                rw [HE.out]
                exact ⟨rfl, below_tri H6.out.below _ _ _⟩
        · obtain ⟨s0, s1, s2⟩ := H5.out.seen.cells
          cases hq : q 1 with
          | true =>
            rw [hq] at s1
            rw [hq, if_pos rfl] at hR2
            have HE := Lib.hid hR2.symm
            clear hR2 HTL
            obtain ⟨k0, k1, k2⟩ := H5.out.res.cells
            have f0 := H5.out.res.fz 0
            have f1 := H5.out.res.fz 1
            have f2 := H5.out.res.fz 2
            obtain ⟨q0, q1, q2⟩ := (H5.out.res.put (.int .u64 0) (.int .u64 0) (.int .u64 0)).cells
            go_wp2_with fail
            refine bodyPost_ret (v := .tuple #[.agg #[.int .u64 0, .int .u64 0, .int .u64 0], .int .i64 10, .int .i64 a]) (by simp [results, Tryz.results27, go_sem, q0, q1, q2]) rfl ?_
            rw [HE.out]
            exact ⟨rfl, below_tri H5.out.below _ _ _⟩
          | false =>
            rw [hq] at s1
            rw [hq, if_neg (by decide)] at hR2 HTL
            have hb := HTL.out 1 m kn rfl
            simp only [HE2.out] at hR2
            have g1 := H5.out.seen.fz 1
            have l1 := H5.out.lst.fz 1
            obtain ⟨m0, m1, m2⟩ := H5.out.lst.cells
            have H6 := Lib.hid (H5.out.put1 m)
            clear HTL h3
            by_cases hend : e2 = s.size
            · rw [if_pos hend] at hR2
              have HE := Lib.hid hR2.symm
              have hei : ((e2 : Int) == (s.size : Int)) = true := beq_iff_eq.2 (by omega)
              clear hR2 hend
              go_upto_region 35 with (fail)
              generalize (wc.setCell ⟨w.heap.size + 2, 1, none⟩ (.bool true)).setCell ⟨w.heap.size + 1, 1, none⟩ (.int .u64 m) = w6 at *
              clear s0 s1 s2 m0 m1 m2 g1 l1
              have H6d := Lib.hid (H6.out.step (Below.refl _ _).drew)
              obtain ⟨n0, n1, n2⟩ := H6d.out.lst.cells
              obtain ⟨k0, k1, k2⟩ := H6d.out.res.cells
              have f0 := H6d.out.res.fz 0
              have f1 := H6d.out.res.fz 1
              have f2 := H6d.out.res.fz 2
              obtain ⟨k3, k4, k5⟩ := H6.out.res.cells
              have f3 := H6.out.res.fz 0
              have f4 := H6.out.res.fz 1
              have f5 := H6.out.res.fz 2
              obtain ⟨n3, n4, n5⟩ := H6.out.lst.cells
              obtain ⟨q0, q1, q2⟩ := ((H6.out.res.put (.int .u64 (upd p 1 m 0)) (.int .u64 (upd p 1 m 1)) (.int .u64 (upd p 1 m 2))).step (Below.refl _ _).drew).cells
              go_wp2_with fail
              refine (HS4.out _).mono ?_
              rintro e w' ⟨rfl, rfl⟩
              go_wp2_with fail
              go_region_held3 (fun W => W.cell? ⟨w.heap.size + 1, 0, none⟩ = some (.int .u64 (upd p 1 m 0)) ∧ W.cell? ⟨w.heap.size + 1, 1, none⟩ = some (.int .u64 (upd p 1 m 1)) ∧ W.cell? ⟨w.heap.size + 1, 2, none⟩ = some (.int .u64 (upd p 1 m 2)))
                (first | go_keep | exact ⟨n0, n1, n2⟩)
                (fail)
              go_wp2
              refine bodyPost_ret (v := .tuple #[.agg #[.int .u64 (upd p 1 m 0), .int .u64 (upd p 1 m 1), .int .u64 (upd p 1 m 2)], .int .i64 0, .int .i64 0]) (by simp [results, Tryz.results27, go_sem, q0, q1, q2]) rfl ?_
              rw [HE.out]
              exact ⟨rfl, below_tri H6d.out.below _ _ _⟩
            · rw [if_neg hend] at hR2
              have hlt : e2 < s.size := by omega
              have hlti : (e2 : Int) < (s.size : Int) := by omega
              have ha0 : (0 : Int) ≤ (e2 : Int) := by omega
              have heb : (e2 : Int) ≤ 65536 := by omega
              have hei : ((e2 : Int) == (s.size : Int)) = false := beq_eq_false_iff_ne.2 (by omega)
              by_cases h43 : byteI s e2 = 43
              · rw [if_pos h43] at hR2
                have hb3 := byteW_eq hlt h43
                have HE := Lib.hid hR2
                have HBD : Hid (e2 + 1 ≤ s.size ∧ s.size < e2 + 1 + g) := Lib.hid (by omega)
                clear hR2 hend h43
                go_upto_region 35 with (fail)
                generalize (wc.setCell ⟨w.heap.size + 2, 1, none⟩ (.bool true)).setCell ⟨w.heap.size + 1, 1, none⟩ (.int .u64 m) = w6 at *
                clear s0 s1 s2 m0 m1 m2 g1 l1
                go_wp2_with fail
                refine (HS4.out _).mono ?_
                rintro e w' ⟨rfl, rfl⟩
                go_wp2_with fail
                go_roundg g
                case measure => omega
                case rel => exact ⟨e2 + 1, _, _, false, rfl, rfl, HE.out, HBD.out.1, HBD.out.2, fun h => (by cases h), H6.out⟩
              · rw [if_neg h43] at hR2
                have hb3 := byteW_ne hlt h43
                have HE : Hid (R = .er 4 e2) := Lib.hid (by rw [← hR2]; unfold missC; rw [if_pos hlt])
                clear hR2 hend h43
                go_upto_region 35 with (fail)
                generalize (wc.setCell ⟨w.heap.size + 2, 1, none⟩ (.bool true)).setCell ⟨w.heap.size + 1, 1, none⟩ (.int .u64 m) = w6 at *
                clear s0 s1 s2 m0 m1 m2 g1 l1
                obtain ⟨k0, k1, k2⟩ := H6.out.res.cells
                have f0 := H6.out.res.fz 0
                have f1 := H6.out.res.fz 1
                have f2 := H6.out.res.fz 2
                obtain ⟨q0, q1, q2⟩ := (H6.out.res.put (.int .u64 0) (.int .u64 0) (.int .u64 0)).cells
                go_wp2_with fail
                refine (HS4.out _).mono ?_
                rintro e w' ⟨rfl, rfl⟩
                go_wp2_with fail
                refine bodyPost_ret (v := .tuple #[.agg #[.int .u64 0, .int .u64 0, .int .u64 0], .int .i64 4, .int .i64 e2]) (by simp [results, Tryz.results27, go_sem, q0, q1, q2]) rfl ?_
                rw [HE.out]
                exact ⟨rfl, below_tri H6.out.below _ _ _⟩
        · obtain ⟨s0, s1, s2⟩ := H5.out.seen.cells
          cases hq : q 2 with
          | true =>
            rw [hq] at s2
            rw [hq, if_pos rfl] at hR2
            have HE := Lib.hid hR2.symm
            clear hR2 HTL
            obtain ⟨k0, k1, k2⟩ := H5.out.res.cells
            have f0 := H5.out.res.fz 0
            have f1 := H5.out.res.fz 1
            have f2 := H5.out.res.fz 2
            obtain ⟨q0, q1, q2⟩ := (H5.out.res.put (.int .u64 0) (.int .u64 0) (.int .u64 0)).cells
            go_wp2_with fail
            refine bodyPost_ret (v := .tuple #[.agg #[.int .u64 0, .int .u64 0, .int .u64 0], .int .i64 10, .int .i64 a]) (by simp [results, Tryz.results27, go_sem, q0, q1, q2]) rfl ?_
            rw [HE.out]
            exact ⟨rfl, below_tri H5.out.below _ _ _⟩
          | false =>
            rw [hq] at s2
            rw [hq, if_neg (by decide)] at hR2 HTL
            have hb := HTL.out 2 m kn rfl
            simp only [HE2.out] at hR2
            have g2 := H5.out.seen.fz 2
            have l2 := H5.out.lst.fz 2
            obtain ⟨m0, m1, m2⟩ := H5.out.lst.cells
            have H6 := Lib.hid (H5.out.put2 m)
            clear HTL h3
            by_cases hend : e2 = s.size
            · rw [if_pos hend] at hR2
              have HE := Lib.hid hR2.symm
              have hei : ((e2 : Int) == (s.size : Int)) = true := beq_iff_eq.2 (by omega)
              clear hR2 hend
              go_upto_region 35 with (fail)
              generalize (wc.setCell ⟨w.heap.size + 2, 2, none⟩ (.bool true)).setCell ⟨w.heap.size + 1, 2, none⟩ (.int .u64 m) = w6 at *
              clear s0 s1 s2 m0 m1 m2 g2 l2
              have H6d := Lib.hid (H6.out.step (Below.refl _ _).drew)
              obtain ⟨n0, n1, n2⟩ := H6d.out.lst.cells
              obtain ⟨k0, k1, k2⟩ := H6d.out.res.cells
              have f0 := H6d.out.res.fz 0
              have f1 := H6d.out.res.fz 1
              have f2 := H6d.out.res.fz 2
              obtain ⟨k3, k4, k5⟩ := H6.out.res.cells
              have f3 := H6.out.res.fz 0
              have f4 := H6.out.res.fz 1
              have f5 := H6.out.res.fz 2
              obtain ⟨n3, n4, n5⟩ := H6.out.lst.cells
              obtain ⟨q0, q1, q2⟩ := ((H6.out.res.put (.int .u64 (upd p 2 m 0)) (.int .u64 (upd p 2 m 1)) (.int .u64 (upd p 2 m 2))).step (Below.refl _ _).drew).cells
              go_wp2_with fail
              refine (HS4.out _).mono ?_
              rintro e w' ⟨rfl, rfl⟩
              go_wp2_with fail
              go_region_held3 (fun W => W.cell? ⟨w.heap.size + 1, 0, none⟩ = some (.int .u64 (upd p 2 m 0)) ∧ W.cell? ⟨w.heap.size + 1, 1, none⟩ = some (.int .u64 (upd p 2 m 1)) ∧ W.cell? ⟨w.heap.size + 1, 2, none⟩ = some (.int .u64 (upd p 2 m 2)))
                (first | go_keep | exact ⟨n0, n1, n2⟩)
                (fail)
              go_wp2
              refine bodyPost_ret (v := .tuple #[.agg #[.int .u64 (upd p 2 m 0), .int .u64 (upd p 2 m 1), .int .u64 (upd p 2 m 2)], .int .i64 0, .int .i64 0]) (by simp [results, Tryz.results27, go_sem, q0, q1, q2]) rfl ?_
              rw [HE.out]
              exact ⟨rfl, below_tri H6d.out.below _ _ _⟩
            · rw [if_neg hend] at hR2
              have hlt : e2 < s.size := by omega
              have hlti : (e2 : Int) < (s.size : Int) := by omega
              have ha0 : (0 : Int) ≤ (e2 : Int) := by omega
              have heb : (e2 : Int) ≤ 65536 := by omega
              have hei : ((e2 : Int) == (s.size : Int)) = false := beq_eq_false_iff_ne.2 (by omega)
              by_cases h43 : byteI s e2 = 43
              · rw [if_pos h43] at hR2
                have hb3 := byteW_eq hlt h43
                have HE := Lib.hid hR2
                have HBD : Hid (e2 + 1 ≤ s.size ∧ s.size < e2 + 1 + g) := Lib.hid (by omega)
                clear hR2 hend h43
                go_upto_region 35 with (fail)
                generalize (wc.setCell ⟨w.heap.size + 2, 2, none⟩ (.bool true)).setCell ⟨w.heap.size + 1, 2, none⟩ (.int .u64 m) = w6 at *
                clear s0 s1 s2 m0 m1 m2 g2 l2
                go_wp2_with fail
                refine (HS4.out _).mono ?_
                rintro e w' ⟨rfl, rfl⟩
                go_wp2_with fail
                go_roundg g
                case measure => omega
                case rel => exact ⟨e2 + 1, _, _, false, rfl, rfl, HE.out, HBD.out.1, HBD.out.2, fun h => (by cases h), H6.out⟩
              · rw [if_neg h43] at hR2
                have hb3 := byteW_ne hlt h43
                have HE : Hid (R = .er 4 e2) := Lib.hid (by rw [← hR2]; unfold missC; rw [if_pos hlt])
                clear hR2 hend h43
                go_upto_region 35 with (fail)
                generalize (wc.setCell ⟨w.heap.size + 2, 2, none⟩ (.bool true)).setCell ⟨w.heap.size + 1, 2, none⟩ (.int .u64 m) = w6 at *
                clear s0 s1 s2 m0 m1 m2 g2 l2
                obtain ⟨k0, k1, k2⟩ := H6.out.res.cells
                have f0 := H6.out.res.fz 0
                have f1 := H6.out.res.fz 1
                have f2 := H6.out.res.fz 2
                obtain ⟨q0, q1, q2⟩ := (H6.out.res.put (.int .u64 0) (.int .u64 0) (.int .u64 0)).cells
                go_wp2_with fail
                refine (HS4.out _).mono ?_
                rintro e w' ⟨rfl, rfl⟩
                go_wp2_with fail
                refine bodyPost_ret (v := .tuple #[.agg #[.int .u64 0, .int .u64 0, .int .u64 0], .int .i64 4, .int .i64 e2]) (by simp [results, Tryz.results27, go_sem, q0, q1, q2]) rfl ?_
                rw [HE.out]
                exact ⟨rfl, below_tri H6.out.below _ _ _⟩
    · rw [if_pos hc] at hR2
      have HE := Lib.hid hR2.symm
      have hci : (nameC s a == 0) = false := beq_eq_false_iff_ne.2 hc
      generalize nameC s a = cc at *
      generalize nameT s a = t at *
      generalize nameK s a = kn at *
      clear hR2 HTL hc
      go_wp2_with fail
      refine (HNM.out _).mono ?_
      rintro e w2 ⟨rfl, b2⟩
      have H4 := Lib.hid (H3.out.step b2)
      clear b2
      obtain ⟨k0, k1, k2⟩ := H4.out.res.cells
      have f0 := H4.out.res.fz 0
      have f1 := H4.out.res.fz 1
      have f2 := H4.out.res.fz 2
      obtain ⟨q0, q1, q2⟩ := (H4.out.res.put (.int .u64 0) (.int .u64 0) (.int .u64 0)).cells
      go_wp2_with fail
      refine bodyPost_ret (v := .tuple #[.agg #[.int .u64 0, .int .u64 0, .int .u64 0], .int .i64 cc, .int .i64 a]) (by simp [results, Tryz.results27, go_sem, q0, q1, q2]) rfl ?_
      rw [HE.out]
      exact ⟨rfl, below_tri H4.out.below _ _ _⟩
end Go.Proofs.YtogbocgjijhmgaaGreatDoor
