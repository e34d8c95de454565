/-
  The document's own reader of values by contracts: what stands between an object's brackets.
-/
import Derived.Test.YtajmlkephefapaaGreatDoorGrd
namespace Go.Proofs.YtajmlkephefapaaGreatDoor
open Go.RowKit Go.Extern.Stop Go.Stop Go.Extern Go.WideMaps

theorem infoStrT : (Tryz.prog.info? 9).map (fun i => (i.zero, i.size, i.bytes)) = some (some (.string ⟨#[]⟩), 1, 16) := by kernel_rfl
theorem noKey {ks : List ByteArray} {key : ByteArray} (h : ∀ i : Nat, i < ks.length → ks[i]? ≠ some key) : ¬ hasKey ks key = true := by
  intro e
  obtain ⟨i, hi, e'⟩ := List.getElem_of_mem ((hasKey_iff ks key).1 e)
  exact h i hi (by rw [List.getElem?_eq_getElem hi, e'])
set_option maxRecDepth 100000 in
set_option maxHeartbeats 16000000 in
theorem t5many_obj (s : ByteArray) (hs : s.size ≤ 100000) (d : Nat) (hd : d < 64) (hsp : T5Spec s (d + 1)) (b q k : Nat) (z : Int) (R : Outs) (hR : RowRel s (d + 1) 123 k R) (hk : k < s.size) (w0 w : World) (h : MnSt w0 b q s k 0 6 z [] [] (.slice none 0 0) (.slice none 0 0) [] w) :
    Calls Tryz.prog 67 #[.pointer (some ⟨b, 0, none⟩), .pointer (some ⟨q, 0, none⟩), .int .i64 d, .int .u8 125] w (T5mOut w0 b q s 6 z true R) := by
  obtain ⟨i0, hi, hz0, hz1, hz2⟩ := info_parts infoRValT
  obtain ⟨i1, hi', hz0', hz1', hz2'⟩ := info_parts infoStrT
  have HTX := Lib.hid (fun k hk W (h : Tn W b s k 0) => t5text_any s b k hs hk W h)
  have HFL := Lib.hid (fun k d W (h : Tn W b s k 0) => t5fail_yes s k b d W h)
  have HID := Lib.hid (fun a c d hc W (h : Tn W b s a c) => t5value_idle s b a c d hc W h)
  have HSP := Lib.hid hsp
  have hdi : ¬ (64 : Int) ≤ (d : Int) := by omega
  have hdw : IntKind.i64.wrap ((d : Int) + 1) = ((d + 1 : Nat) : Int) := by rw [IntKind.wrap_i64]; omega
  have hdb : (d : Int) ≤ 64 := by omega
  have hkb : (k : Int) ≤ 100000 := by omega
  have HRR := Lib.hid hR
  have HSK := Lib.hid (fun k c hk W (h : Tn W b s k c) => t5skip_any s k b c hs hk W h)
  have HIS := Lib.hid (fun k c d hd hk W (h : Tn W b s k c) => t5is_any s k b c d hd hk W h)
  have HTY := Lib.hid (fun d hd k hk he W (h : Tn W b s k 0) => t5take_yes s k b d hs hd hk he W h)
  have HTN := Lib.hid (fun d hd k hk he W (h : Tn W b s k 0) => t5take_no s k b d hd hk he W h)
  have HK := Lib.hid hk
  have H0 := Lib.hid h
  have f1 := h.rd.fz 1
  obtain ⟨c0, c1, c2⟩ := h.rd.cells
  have H1 : Hid (MnSt w0 b q s (k + 1) 0 6 z [] [] (.slice none 0 0) (.slice none 0 0) [] (w.setCell ⟨b, 1, none⟩ (.int .i64 ((k : Int) + 1)))) := Lib.hid (h.go (h.rd.at1 (k + 1)) (keepsT w b 1 _))
  clear hsp hR hk h
  go_enter Tryz.func67, Tryz.ntmps67
  go_upto_region 3 with (fail)
  generalize w.setCell ⟨b, 1, none⟩ (.int .i64 ((k : Int) + 1)) = w1 at *
  clear f1 c0 c1 c2 H0
  go_wp2_with fail
  refine (HSK.out (k + 1) 0 HK.out _ H1.out.rd).mono ?_
  rintro e w2 ⟨rfl, hr2, hk2⟩
  have H2 := Lib.hid (H1.out.go hr2 hk2)
  have hsk := sk_le s (k + 1) HK.out
  have HSL := Lib.hid hsk
  have HR := HRR
  unfold RowRel at HR
  generalize sk s (k + 1) = j at *
  clear hr2 hk2 H1 HRR hsk
  go_wp2_with fail
  refine (HIS.out j 0 125 (by decide) HSL.out.2 _ H2.out.rd).mono ?_
  rintro e w3 ⟨rfl, b3⟩
  have H3 := Lib.hid (H2.out.step b3)
  clear b3 H2
  by_cases hsh : byteI s j = 125
  · have hRe : R = .ok (j + 1) [] [] := by
      rcases HR.out with ⟨-, e⟩ | ⟨e, -⟩
      · exact e
      · exact absurd hsh e
    subst hRe
    rw [decide_eq_true hsh]
    have hjb : (j : Int) ≤ 100000 := by have := HSL.out; omega
    have f1 := H3.out.rd.fz 1
    obtain ⟨c0, c1, c2⟩ := H3.out.rd.cells
    have HE : Hid (MnSt w0 b q s (j + 1) 0 6 z [] [] (.slice none 0 0) (.slice none 0 0) [] (w3.setCell ⟨b, 1, none⟩ (.int .i64 ((j : Int) + 1)))) := Lib.hid (H3.out.go (H3.out.rd.at1 (j + 1)) (keepsT w3 b 1 _))
    go_wp2_with fail
    refine bodyPost_ret (results_none rfl _ _ _) rfl ?_
    exact ⟨rfl, _, _, _, HE.out⟩
  have hI : I s (d + 1) 123 j [] R := by
    rcases HR.out with ⟨e, -⟩ | ⟨-, e⟩
    · exact absurd e hsh
    · exact e
  rw [decide_eq_false hsh]
  have H4 : Hid (MnRel w0 b q s d 123 6 z true R (s.size - j + 1) w3) := Lib.hid (.inl ⟨j, [], [], R, _, _, _, (Outs.pre_nil R).symm, hI, HSL.out.2, rfl, Nat.zero_le _, Nat.zero_le _, H3.out⟩)
  clear hI hsh HR H3 HSL HK
  go_wp2_with fail
  go_loopg [] (s.size - j + 1) (fun g wr => MnRel w0 b q s d 123 6 z true R g wr)
  case atStart => exact H4.out
  case round =>
    clear H4
    rcases hrel with ⟨p, vs, ks, o, vL, vK, xs, hRo, hI, hp, hg, hvl, hkl, hst⟩ | ⟨c, a, vs, ks, vL, vK, xs, hRe, hc, hg, hst⟩
    · obtain ⟨va, vc, vb, vd, rfl, rfl⟩ := hst.lists
      have H := Lib.hid hst
      have HG := Lib.hid hg
      have HRO := Lib.hid hRo
      have HL := Lib.hid (And.intro hp (And.intro hvl hkl))
      have HI := Lib.hid hI
      obtain ⟨c0, c1, c2⟩ := hst.rd.cells
      have hpb : (p : Int) ≤ 100000 := by omega
      clear hst hg hRo hI hvl hkl
      go_wp2_with fail
      refine (HTX.out p HL.out.1 _ H.out.rd).mono ?_
      intro e w4 hout
      have HQA := Lib.hid (quoR_a (s := s) (k := p) hp)
      have HQK := Lib.hid (fun h => quoR_ok (s := s) (k := p) h)
      have HKD : Hid (keyR s 123 p ks = if (quoR s p).c ≠ 0 then .er (quoR s p).c (quoR s p).a else if hasKey ks ⟨(quoR s p).t.toArray⟩ = true then .er 10 p else if byteI s (sk s (quoR s p).k) = 58 then .ok (sk s (sk s (quoR s p).k + 1)) ⟨(quoR s p).t.toArray⟩ else .er (missC s (sk s (quoR s p).k)) (sk s (quoR s p).k)) := Lib.hid (by unfold keyR; rw [if_neg (by decide)])
      rcases hout with ⟨hc, rfl, hr4, hk4⟩ | ⟨hc, rfl, hr4, hk4⟩
      rotate_left
      · have HRE : Hid (R = .er (quoR s p).c (quoR s p).a) := Lib.hid (by
          have hk0 := HKD.out
          rw [if_pos hc] at hk0
          rcases I.split HI.out with ⟨c, a, hkr, ho⟩ | ⟨q', key, ov, hkr, -, -⟩
          · rw [hk0] at hkr
            injection hkr with e1 e2
            rw [HRO.out, ho, ← e1, ← e2]; rfl
          · exact (KOut.er_ok hk0 hkr).elim)
        have H4 := Lib.hid (H.out.go hr4 hk4)
        have HC := Lib.hid hc
        clear HKD HQA HQK HI hr4 hk4 H
        generalize (quoR s p).c = cc at *
        generalize (quoR s p).a = aa at *
        obtain ⟨c0', c1', c2'⟩ := H4.out.rd.cells
        have hne : (cc != 0) = true := bne_iff_ne.2 hc
        clear c0 c1 c2 hc
        go_wp2_with fail
        refine bodyPost_ret (results_none rfl _ _ _) rfl ?_
        rw [HRE.out]
        exact ⟨rfl, HC.out, _, _, _, _, _, H4.out⟩
      have H4 := Lib.hid (H.out.go hr4 hk4)
      have hqk := HQK.out hc
      have HKD2 := Lib.hid (by have h := HKD.out; rwa [if_neg (fun e => e hc)] at h)
      clear hr4 hk4 H HKD HQA HQK hc c0 c1 c2
      generalize hkey : (⟨(quoR s p).t.toArray⟩ : ByteArray) = key at *
      generalize (quoR s p).k = kq at *
      clear hkey
      have HKQ := Lib.hid hqk
      have hkqb : kq ≤ s.size := hqk.2
      obtain ⟨c0, c1, c2⟩ := H4.out.rd.cells
      have lk := H4.out.box.cells.2.2.2.2.1
      clear hqk
      go_wp2_with fail
      go_loopg [59] ks.length (fun g v wr2 => ∃ i : Nat, i ≤ ks.length ∧ g = ks.length - i ∧ v = .int .i64 i ∧ MnSt w0 b q s kq 0 6 z vs ks (.slice va vs.length vc) (.slice vb ks.length vd) xs wr2 ∧ ∀ i' : Nat, i' < i → ks[i']? ≠ some key)
      case atStart => exact ⟨0, Nat.zero_le _, rfl, rfl, H4.out, fun i' h => absurd h (Nat.not_lt_zero _)⟩
      case round =>
        clear H4
        obtain ⟨i, hil, hgi, rfl, hst, hno⟩ := hrel
        have HGI := Lib.hid hgi
        have H4 := Lib.hid hst
        have HNO := Lib.hid hno
        clear hgi hno c0 c1 c2 lk
        by_cases hlt : i < ks.length
        · obtain ⟨y, hy⟩ : ∃ y, ks[i]? = some y := ⟨_, List.getElem?_eq_getElem hlt⟩
          have HY := Lib.hid hy
          obtain ⟨b2, o2, eb, e1⟩ := key_at (RowIn.of_own' (P := fun _ => True) hst.kown (fun _ _ => trivial)) hy (Below.refl _ _)
          subst eb
          have hib : (i : Int) ≤ 100000 := by have := HL.out; omega
          have hii : (i : Int) < (ks.length : Int) := by omega
          have hi0 : (0 : Int) ≤ (i : Int) := by omega
          obtain ⟨c0, c1, c2⟩ := hst.rd.cells
          have f1 := hst.rd.fz 1
          clear hst hy
          by_cases he : y = key
          · subst he
            have heq : (y.toList == y.toList) = true := by simp
            have HRE : Hid (R = .er 10 p) := Lib.hid (by
              have hk0 := HKD2.out
              rw [if_pos ((hasKey_iff ks y).2 (List.mem_of_getElem? HY.out))] at hk0
              rcases I.split HI.out with ⟨c, a, hkr, ho⟩ | ⟨q', key, ov, hkr, -, -⟩
              · rw [hk0] at hkr
                injection hkr with e1 e2
                rw [HRO.out, ho, ← e1, ← e2]; rfl
              · exact (KOut.er_ok hk0 hkr).elim)
            have H5 := Lib.hid (H4.out.go (H4.out.rd.at1 p) (keepsT wr b 1 _))
            clear HKD2 HI
            go_upto_region 16 with (fail)
            generalize wr.setCell ⟨b, 1, none⟩ (.int .i64 (p : Int)) = w6 at *
            clear c0 c1 c2 f1
            go_wp2_with fail
            refine (HFL.out p 10 _ H5.out.rd).mono ?_
            rintro e w7 ⟨rfl, hr7, hk7⟩
            have H7 := Lib.hid (H5.out.go hr7 hk7)
            go_wp2_with fail
            refine bodyPost_ret (results_none rfl _ _ _) rfl ?_
            rw [HRE.out]
            exact ⟨rfl, by decide, _, _, _, _, _, H7.out⟩
          · have heq : (y.toList == key.toList) = false := by
              rw [Go.ByteArray.toList_eq, Go.ByteArray.toList_eq]
              exact beq_eq_false_iff_ne.2 (fun e => he (ByteArray.ext (Array.toList_inj.1 e)))
            have HNY := Lib.hid he
            clear he
            go_wp2_with fail
            go_roundg (ks.length - (i + 1))
            case measure => have := HGI.out; omega
            case rel =>
              refine ⟨i + 1, by omega, rfl, rfl, H4.out, fun i' h e => ?_⟩
              rcases Nat.lt_or_ge i' i with h1 | h1
              · exact HNO.out i' h1 e
              · obtain rfl : i' = i := by omega
                rw [HY.out] at e
                injection e with e
                exact HNY.out e
        · obtain rfl : i = ks.length := by omega
          have hii : ¬ ((ks.length : Nat) : Int) < (ks.length : Int) := by omega
          have hkd := HKD2.out
          rw [if_neg (noKey HNO.out)] at hkd
          have HKD3 := Lib.hid hkd
          obtain ⟨c0, c1, c2⟩ := hst.rd.cells
          have bn := sbelow_new wr (.cells #[.string key] 9)
          have hM5 := hst.step bn
          have hN5 := heap_alloc_new wr (.cells #[.string key] 9)
          have hown5 := hM5.kown
          have lk := hst.box.cells.2.2.2.2.1
          have hkb5 : ks.length ≤ 100000 := by have := HL.out; omega
          have hz5 : q + 1 ≤ (wr.alloc (.cells #[.string key] 9)).heap.size := hM5.box.lt
          have HM5 := Lib.hid hM5
          clear hst bn hM5 hkd HKD2 HNO H4 HGI hil hlt
          go_wp2_with (at_builtin; refine wpList_append_lies _ rfl _ _ 25 rfl (q + 1) 9 i1 (.string ⟨#[]⟩) 1 16 Tryz.underlying25 hi' hz0' hz1' hz2' rfl (by decide) _ _ _ rfl hown5 ⟨wr.heap.size, 0, none⟩ 1 1 [.string key] rfl rfl (World.news_of_block hN5) ?ones5 (by decide) ?len5 ?bytes5 hz5 _ rfl ?main5)
          case ones5 => rfl
          case len5 => unfold maxLen; omega
          case bytes5 => omega
          intro g5 cap5 w6 hown6 hgrow6 hat6 hlt6
          have hP6 := HM5.out.pushK rfl hown6 hgrow6 (by rw [World.size_alloc]; exact hat6)
          have lb := HM5.out.box.grown hgrow6 (HM5.out.neK (Nat.le_refl q))
          have lk6 := lb.cells.2.2.2.2.1
          have lf6 := lb.fz 4
          have HP6 := Lib.hid hP6
          clear hP6 lb hown6 hgrow6 hat6 hlt6 hown5 hN5 hz5 HM5 c0 c1 c2 lk
          go_upto_region 19 with (fail)
          generalize w6.setCell ⟨q, 4, none⟩ (.slice (some ⟨g5, 0, none⟩) (ks.length + 1) cap5) = w7 at *
          clear lk6 lf6
          go_wp2_with fail
          refine (HSK.out kq 0 hkqb _ HP6.out.rd).mono ?_
          rintro e w8 ⟨rfl, hr8, hk8⟩
          have H8 := Lib.hid (HP6.out.go hr8 hk8)
          have hjk := sk_le s kq hkqb
          have HJK := Lib.hid hjk
          clear hr8 hk8 HP6
          generalize sk s kq = j5 at *
          by_cases h58 : byteI s j5 = 58
          · have HY5 := Lib.hid (HTY.out 58 (by decide) j5 hjk.2 h58 _ H8.out.rd)
            have hin := byteT_in h58 (by decide)
            have hk1 := sk_le s (j5 + 1) hin
            have HK5 := Lib.hid (And.intro hk1 hin)
            have hkr0 := HKD3.out
            rw [if_pos h58] at hkr0
            have HKR := Lib.hid hkr0
            clear h58 hin hk1 HKD3 hkr0
            go_wp2_with fail
            refine HY5.out.mono ?_
            rintro e w9 ⟨rfl, hr9, hk9⟩
            have H9 := Lib.hid (H8.out.go hr9 hk9)
            obtain ⟨c0, c1, c2⟩ := hr9.cells
            clear hr9 hk9 H8 HY5
            go_wp2_with fail
            refine (HSK.out (j5 + 1) 0 HK5.out.2 _ H9.out.rd).mono ?_
            rintro e w10 ⟨rfl, hr10, hk10⟩
            have H := Lib.hid (H9.out.go hr10 hk10)
            clear hr10 hk10 H9 c0 c1 c2
            rcases I.split HI.out with ⟨c, a, hkr, -⟩ | ⟨q', key', ov, hkr, hV, hct⟩
            · exact (KOut.er_ok hkr HKR.out).elim
            obtain ⟨rfl, rfl⟩ := KOut.ok_inj HKR.out hkr
            have hq' : sk s (j5 + 1) ≤ s.size := HK5.out.1.2
            have HV := Lib.hid (HSP.out (sk s (j5 + 1)) ov hV hq' _ _ H.out.rd)
            have HFI := Lib.hid (W.fits hV hq')
            have HCT := Lib.hid hct
            have HL0 := HL
            clear HL
            have HL : Hid (sk s (j5 + 1) ≤ s.size ∧ vs.length ≤ sk s (j5 + 1) ∧ ks.length ≤ sk s (j5 + 1) ∧ p ≤ sk s (j5 + 1)) := Lib.hid (by have := HL0.out; have := HK5.out; have := HJK.out; have := HKQ.out; omega)
            clear hV hct HI HKR hq' HKQ HJK HK5 hkqb hjk HL0
            generalize sk s (j5 + 1) = q' at *
            go_wp2_with fail
            refine HV.out.mono ?_
            intro e w4 hout
            cases ov with
            | er ec ea =>
              obtain ⟨k6, t6, n6, a6, l6, c6, a7, l7, c7, z6, rfl, hc, hr4, hk4⟩ := hout
              have HRE : Hid (R = .er ec ea) := Lib.hid (by rw [HRO.out, show o = .er ec ea from HCT.out]; rfl)
              have bn := sbelow_new w4 (.cells #[.int .i64 k6, .string t6, .int .u64 n6, .slice a6 l6 c6, .slice a7 l7 c7, .int .i64 z6] 34)
              have h5 := (H.out.go hr4 hk4).step bn
              obtain ⟨c0, c1, c2⟩ := h5.rd.cells
              have hne : (ec != 0) = true := bne_iff_ne.2 hc
              have hne2 : (ec == 0) = false := beq_eq_false_iff_ne.2 hc
              have HE := Lib.hid h5
              have HC := Lib.hid hc
              clear h5 hc hr4 hk4 bn HCT HFI H HV
              go_wp2_with fail
              refine bodyPost_ret (results_none rfl _ _ _) rfl ?_
              rw [HRE.out]
              exact ⟨rfl, HC.out, _, _, _, _, _, HE.out⟩
            | ok j x =>
              obtain ⟨k6, t6, n6, a6, l6, c6, a7, l7, c7, z6, rfl, hx, hr4, hk4⟩ := hout
              have bn := sbelow_new w4 (.cells #[.int .i64 k6, .string t6, .int .u64 n6, .slice a6 l6 c6, .slice a7 l7 c7, .int .i64 z6] 34)
              have HM5 := Lib.hid ((H.out.go hr4 hk4).step bn)
              have HX5 := Lib.hid (hx.step bn)
              have H65 : Hid (SixR (w4.alloc (.cells #[.int .i64 k6, .string t6, .int .u64 n6, .slice a6 l6 c6, .slice a7 l7 c7, .int .i64 z6] 34)) w4.heap.size (.int .i64 k6) (.string t6) (.int .u64 n6) (.slice a6 l6 c6) (.slice a7 l7 c7) (.int .i64 z6)) := Lib.hid (heap_alloc_new w4 _)
              obtain ⟨c0, c1, c2⟩ := HM5.out.rd.cells
              have HBX : Hid ((w10).heap.size ≤ w4.heap.size ∧ q < (w10).heap.size) := Lib.hid ⟨hk4.size, H.out.box.lt⟩
              have HVL := Lib.hid (fun r (e : Value.ownBlock (.slice va vs.length vc) = some r) => (H.out.own.lt r e).2)
              have HVK := Lib.hid (fun r e => (H.out.kown.lt r e).2)
              clear bn hx hr4 hk4 H HV
              go_wp2_with fail
              generalize w4.alloc (.cells #[.int .i64 k6, .string t6, .int .u64 n6, .slice a6 l6 c6, .slice a7 l7 c7, .int .i64 z6] 34) = w5 at *
              generalize w4.heap.size = bx at *
              have bd := (Below.refl w5.heap.size w5).drew
              have hM4 := HM5.out.step bd
              have h64 := H65.out.step bd
              obtain ⟨s0, s1, s2, s3, s4, s5⟩ := h64.cells
              obtain ⟨p0, p1, p2, p3, p4, p5⟩ := H65.out.cells
              have lc := hM4.box.cells.2.2.2.1
              have lf := hM4.box.fz 3
              have lc' := HM5.out.box.cells.2.2.2.1
              have hix : (vs.length : Int) < (vs.length : Int) + 1 := by omega
              have hqw : q + 1 ≤ w5.heap.size := HM5.out.box.lt
              have hq3 : bx < w5.heap.size := H65.out.lt
              have hL3 : q < w5.heap.size := HM5.out.box.lt
              have hvb : vs.length ≤ 100000 := by have := HL.out; omega
              have bz := sbelow_new w5.drew (.cells #[.int .i64 0, .string ⟨#[]⟩, .int .u64 0, .slice none 0 0, .slice none 0 0, .int .i64 0] 34)
              have HM6 := Lib.hid (hM4.step bz)
              have H66 := Lib.hid (h64.step bz)
              have HX6 := Lib.hid ((HX5.out.step bd).step bz)
              have hbq : Hid (q < bx) := Lib.hid (by have := HBX.out; omega)
              clear c0 c1 c2 bd bz h64
              go_region_law (first
                | (refine step_append_lies _ rfl _ _ 32 rfl (q + 1) 34 i0 (.agg #[.int .i64 0, .string ⟨#[]⟩, .int .u64 0, .slice none 0 0, .slice none 0 0, .int .i64 0]) 6 88 Tryz.underlying32 hi hz0 hz1 hz2 rfl (by decide) _ _ _ rfl (hM4.own.alloc _) ⟨w5.heap.size, 0, none⟩ 1 1 zeros6 rfl rfl (World.news_of_block (heap_alloc_new _ _)) zeros6_one (by decide) (by unfold maxLen; omega) (by omega) (Nat.le_trans hqw (by simp)) _ rfl ?_; intro g cap w6 hown6 hgrow6 hat6 hlt6; obtain ⟨t0, t1, t2, t3, t4, t5, tf⟩ := own_tail hown6 HM6.out.own.1; have h67 := H66.out.grown hgrow6 (fun e => by have := HVL.out _ e; have := HBX.out; omega); obtain ⟨s0, s1, s2, s3, s4, s5⟩ := h67.cells; have lb5 := HM6.out.box.grown hgrow6 (HM6.out.neL (Nat.le_refl q)); have lc5 := lb5.cells.2.2.2.1; have hgL : g ≠ q := (by have := (hown6.lt g rfl).1; omega); have hLg := hgL.symm; have lf5 := lb5.fz 3; clear lb5))
              all_goals
                have hpush := HM6.out.pushV rfl hown6 hgrow6 hat6 HX6.out (fun r hr _ => ⟨by have := HBX.out; omega, fun e => by have := HVL.out r e; omega, fun e => by have := HVK.out r e; omega⟩)
                obtain ⟨wF, hwF⟩ : ∃ wF, wF = (set6 w6 g (vs.length * 6) (.int .i64 k6) (.string t6) (.int .u64 n6) (.slice a6 l6 c6) (.slice a7 l7 c7) (.int .i64 z6)).setCell ⟨q, 3, none⟩ (.slice (some ⟨g, 0, none⟩) (vs.length + 1) cap) := ⟨_, rfl⟩
                rw [← hwF] at hpush
                have hwF' := hwF.trans (set6_farT w6 g (vs.length * 6) q 3 (.int .i64 k6) (.string t6) (.int .u64 n6) (.slice a6 l6 c6) (.slice a7 l7 c7) (.int .i64 z6) (.slice (some ⟨g, 0, none⟩) (vs.length + 1) cap) hgL).symm
                unfold set6 at hwF hwF'
                first | rw [← hwF] | rw [← hwF']
                have HF := Lib.hid hpush
                clear hpush hwF hwF' t0 t1 t2 t3 t4 t5 tf s0 s1 s2 s3 s4 s5 lc5 lf5 hown6 hgrow6 hat6 hlt6 h67 lc lf lc' p0 p1 p2 p3 p4 p5 hM4
                go_wp2_with fail
                refine (HSK.out j 0 HFI.out.2 _ HF.out.rd).mono ?_
                rintro e w7 ⟨rfl, hr7, hk7⟩
                have H7 := Lib.hid (HF.out.go hr7 hk7)
                have hjl := sk_le s j HFI.out.2
                have HJ : Hid ((j ≤ sk s j ∧ sk s j ≤ s.size) ∧ q' < j ∧ j ≤ s.size) := Lib.hid ⟨hjl, HFI.out⟩
                clear hr7 hk7 HF
                have hct : (byteI s (sk s j) = 125 ∧ o = .ok (sk s j + 1) [x] [key']) ∨ (byteI s (sk s j) ≠ 125 ∧ byteI s (sk s j) ≠ 44 ∧ o = .er (missC s (sk s j)) (sk s j)) ∨ (byteI s (sk s j) ≠ 125 ∧ byteI s (sk s j) = 44 ∧ ∃ o', I s (d + 1) 123 (sk s (sk s j + 1)) (ks ++ [key']) o' ∧ o = o'.cons x key') := HCT.out
                have HCT' := Lib.hid hct
                clear hct HCT
                generalize sk s j = jj at *
                have hjb : (jj : Int) ≤ 100000 := by omega
                go_wp2_with fail
                refine (HIS.out jj 0 125 (by decide) hjl.2 _ H7.out.rd).mono ?_
                rintro e w8 ⟨rfl, b8⟩
                have H8 := Lib.hid (H7.out.step b8)
                clear b8 H7
                rcases HCT'.out with ⟨h1, ho⟩ | ⟨h1, h2, ho⟩ | ⟨h1, h2, o', hI', ho⟩
                · have HRE : Hid (R = .ok (jj + 1) (vs ++ [x]) (ks ++ [key'])) := Lib.hid (by rw [HRO.out, ho]; rfl)
                  rw [decide_eq_true h1]
                  have f1 := H8.out.rd.fz 1
                  obtain ⟨c0, c1, c2⟩ := H8.out.rd.cells
                  have HE := Lib.hid (H8.out.go (H8.out.rd.at1 (jj + 1)) (keepsT w8 b 1 _))
                  clear h1 ho
                  go_wp2_with fail
                  refine bodyPost_ret (results_none rfl _ _ _) rfl ?_
                  rw [HRE.out]
                  exact ⟨rfl, _, _, _, HE.out⟩
                · have HRE : Hid (R = .er (missC s jj) jj) := Lib.hid (by rw [HRO.out, ho]; rfl)
                  rw [decide_eq_false h1]
                  have HN := Lib.hid (HTN.out 44 (by decide) jj hjl.2 h2 _ H8.out.rd)
                  have HM0 := Lib.hid (missC_ne s jj)
                  generalize missC s jj = mm at *
                  clear h1 h2 ho
                  go_wp2_with fail
                  refine HN.out.mono ?_
                  rintro e w9 ⟨rfl, hr9, hk9⟩
                  have H9 := Lib.hid (H8.out.go hr9 hk9)
                  obtain ⟨c0, c1, c2⟩ := hr9.cells
                  have hne2 : (mm == 0) = false := beq_eq_false_iff_ne.2 HM0.out
                  clear hr9 hk9 H8
                  go_wp2_with fail
                  go_roundg 0
                  case measure => have := HG.out; omega
                  case rel => exact .inr ⟨mm, jj, _, _, _, _, _, HRE.out, HM0.out, rfl, H9.out⟩
                · have HRE : Hid (R = o'.pre (vs ++ [x]) (ks ++ [key'])) := Lib.hid (by rw [HRO.out, ho, Outs.pre_cons])
                  rw [decide_eq_false h1]
                  have HY := Lib.hid (HTY.out 44 (by decide) jj hjl.2 h2 _ H8.out.rd)
                  have hin := byteT_in h2 (by decide)
                  have hk1 := sk_le s (jj + 1) hin
                  have HK1 := Lib.hid (And.intro hk1 hin)
                  have HI' := Lib.hid hI'
                  clear h1 h2 ho hI' hin hk1
                  go_wp2_with fail
                  refine HY.out.mono ?_
                  rintro e w9 ⟨rfl, hr9, hk9⟩
                  have H9 := Lib.hid (H8.out.go hr9 hk9)
                  obtain ⟨c0, c1, c2⟩ := hr9.cells
                  clear hr9 hk9 H8
                  go_wp2_with fail
                  refine (HSK.out (jj + 1) 0 HK1.out.2 _ H9.out.rd).mono ?_
                  rintro e w10 ⟨rfl, hr10, hk10⟩
                  have H10 := Lib.hid (H9.out.go hr10 hk10)
                  clear hr10 hk10 H9 c0 c1 c2
                  go_wp2_with fail
                  go_roundg (s.size - sk s (jj + 1) + 1)
                  case measure => have h1 := HG.out; have h2 := HJ.out; have h3 := HK1.out; have h4 := HL.out; omega
                  case rel =>
                    have h2 := HJ.out
                    have h3 := HK1.out
                    have h4 := HL.out
                    exact .inl ⟨_, vs ++ [x], ks ++ [key'], o', _, _, _, HRE.out, HI'.out, h3.1.2, rfl, by rw [List.length_append, List.length_singleton]; omega, by rw [List.length_append, List.length_singleton]; omega, H10.out⟩
          · have HN5 := Lib.hid (HTN.out 58 (by decide) j5 hjk.2 h58 _ H8.out.rd)
            have hkr0 := HKD3.out
            rw [if_neg h58] at hkr0
            have HRE : Hid (R = .er (missC s j5) j5) := Lib.hid (by
              rcases I.split HI.out with ⟨c, a, hkr, ho⟩ | ⟨q', key', ov, hkr, -, -⟩
              · rw [hkr0] at hkr
                injection hkr with e1 e2
                rw [HRO.out, ho, ← e1, ← e2]; rfl
              · exact (KOut.er_ok hkr0 hkr).elim)
            have HM0 := Lib.hid (missC_ne s j5)
            clear h58 HKD3 hkr0 HI
            generalize missC s j5 = mm at *
            go_wp2_with fail
            refine HN5.out.mono ?_
            rintro e w9 ⟨rfl, hr9, hk9⟩
            have H9 := Lib.hid (H8.out.go hr9 hk9)
            obtain ⟨c0, c1, c2⟩ := hr9.cells
            have hne2 : (mm == 0) = false := beq_eq_false_iff_ne.2 HM0.out
            have hne : (mm != 0) = true := bne_iff_ne.2 HM0.out
            clear hr9 hk9 H8 HN5
            go_wp2_with fail
            refine (HID.out j5 mm _ HM0.out _ H9.out.rd).mono ?_
            rintro e w10 ⟨rfl, hr10, hk10⟩
            have h11 := (H9.out.go hr10 hk10).step (sbelow_new w10 (.cells #[.int .i64 0, .string ⟨#[]⟩, .int .u64 0, .slice none 0 0, .slice none 0 0, .int .i64 j5] 34))
            have H11 := Lib.hid h11
            clear c0 c1 c2
            obtain ⟨c0, c1, c2⟩ := h11.rd.cells
            clear h11 hr10 hk10 H9
            go_wp2_with fail
            refine bodyPost_ret (results_none rfl _ _ _) rfl ?_
            rw [HRE.out]
            exact ⟨rfl, HM0.out, _, _, _, _, _, H11.out⟩
    · have HRE := Lib.hid hRe
      have HC := Lib.hid hc
      have hne2 : (c == 0) = false := beq_eq_false_iff_ne.2 hc
      have H := Lib.hid hst
      obtain ⟨c0, c1, c2⟩ := hst.rd.cells
      clear hst hRe hc
      go_wp2_with fail
      go_end0
      rw [HRE.out]
      exact ⟨rfl, HC.out, _, _, _, _, _, H.out⟩
end Go.Proofs.YtajmlkephefapaaGreatDoor
