/-
  The document's own reader of expressions by contracts: alternatives, and all of them by the brackets that may still be opened.
  The document's own reader of expressions by contracts: Read.
  The document's own reader of expressions by contracts: Parse.
-/
import Derived.Test.YtpccdhkghlbhkaaGreatDoorGj
namespace Go.Proofs.YtpccdhkghlbhkaaGreatDoor
open Go.RowKit Go.Extern.Stop Go.Stop Go.Extern

theorem rwR_skp (s : ByteArray) (sub : Option (Nat → Nat → RO Rx)) (k n : Nat) : rwR s sub (skp s k) n = rwR s sub k n := by
  unfold rwR jnR ptR bsR
  simp only [skp_idem]
theorem alR_skp (s : ByteArray) (e k n : Nat) : alR s e (skp s k) n = alR s e k n := by
  rw [alR_eq]
  unfold jnR
  rw [rwR_skp]
set_option maxRecDepth 100000 in
set_option maxHeartbeats 16000000 in
theorem qalt_any (s : ByteArray) (sub : Option (Nat → Nat → RO Rx)) (deep k0 n0 b : Nat) (hs : s.size ≤ 100000) (hk : k0 ≤ s.size) (hn : n0 ≤ 100) (hsub : QSub s sub deep) (hgs : ∀ f, sub = some f → GoodR s f) (w : World) (h : Qn w b s k0 n0 0) :
    Calls Tryz.prog 32 #[.pointer (some ⟨b, 0, none⟩), .int .i64 deep] w (QxOut w b s (jnR s 3 (rwR s sub) (alM s) k0 n0)) := by
  obtain ⟨i0, hi, hz0, hz1, hz2⟩ := info_parts infoRExpr
  have hq1 := quad_new w 33 (.int .i64 0) (.bool false) (.slice none 0 0) (.slice none 0 0)
  have hb1 := sbelow_new w (.cells #[.int .i64 0, .bool false, .slice none 0 0, .slice none 0 0] 33)
  have hr1 := h.step hb1
  have hz1' : (w.alloc (.cells #[.int .i64 0, .bool false, .slice none 0 0, .slice none 0 0] 33)).heap.size = w.heap.size + 1 := World.size_alloc _ _
  have HRB := Lib.hid h.lt
  obtain ⟨tot, HTOT⟩ : ∃ tot, Hid (jnR s 3 (rwR s sub) (alM s) k0 n0 = tot) := ⟨_, Lib.hid rfl⟩
  rw [HTOT.out]
  generalize hw1 : w.alloc (.cells #[.int .i64 0, .bool false, .slice none 0 0, .slice none 0 0] 33) = w1 at *
  have HR1 := Lib.hid hr1
  have HR01 := Lib.hid (qrow_any s sub deep k0 n0 b hs hk hn hsub hgs w1 hr1)
  have HROW : Hid (∀ (p n : Nat), p ≤ s.size → n ≤ 100 → ∀ W, Qn W b s (skp s p) n 0 → Calls Tryz.prog 45 #[.pointer (some ⟨b, 0, none⟩), .int .i64 deep] W (QxOut W b s (rwR s sub p n))) := Lib.hid (fun p n hp hn W h => by have := qrow_any s sub deep (skp s p) n b hs (skp_le hp).2 hn hsub hgs W h; rwa [rwR_skp] at this)
  have HSY := Lib.hid (fun (p n : Nat) (hp : p ≤ s.size) W (h : Qn W b s p n 0) => qskip_yes s p n b hs hp W h)
  have HIY := Lib.hid (fun (p n : Nat) (hp : p ≤ s.size) W (h : Qn W b s p n 0) => qis0 s p n b 124 (by decide) hp W h)
  have HIN := Lib.hid (fun (p : Nat) (h : byteI s p = 124) => byteI_in h (by decide))
  have HSZ := Lib.hid hs
  have HCO := Lib.hid (fun (p n : Nat) (hn : n ≤ 100) W (h : Qn W b s p n 0) => qcount_out s p n b p hn W h)
  have HGD := Lib.hid (rwR_good hgs)
  have HQ1 := Lib.hid hq1
  have HB1 := Lib.hid hb1
  have HZ1 := Lib.hid hz1'
  have HK0 := Lib.hid hk
  have HN0 := Lib.hid hn
  clear hq1 hb1 hr1 h hz1' hsub hs hk hn hgs
  go_enter Tryz.func32, Tryz.ntmps32
  go_wp2_with fail
  refine HR01.out.mono ?_
  intro e w3 hout
  clear hw1 HR01
  have HPT : Hid ((match rwR s sub k0 n0 with | .er c a => RO.er c a | .ok k1 n1 x => jnT s 3 (rwR s sub) (alM s) 101 k1 n1 [x]) = tot) := Lib.hid (by rw [← HTOT.out]; rw [jnR_jnT]; generalize rwR s sub k0 n0 = R; cases R <;> rfl)
  have HGR : Hid (∀ k' n' x, rwR s sub k0 n0 = .ok k' n' x → n0 < n') := Lib.hid (fun k' n' x e => (HGD.out k0 n0 k' n' x HK0.out e).1)
  generalize rwR s sub k0 n0 = R at *
  clear HTOT
  obtain ⟨xk, xt, xa1, xl1, xc1, xa2, xl2, xc2, rfl, HREL⟩ : ∃ (xk : Int) (xt : Bool) (xa1 : Option Addr) (xl1 xc1 : Nat) (xa2 : Option Addr) (xl2 xc2 : Nat), e = .returned (.agg #[.int .i64 xk, .bool xt, .slice xa1 xl1 xc1, .slice xa2 xl2 xc2]) ∧
      Hid (∃ g, QjRel w b s 3 (rwR s sub) (alM s) tot g (.slice (some ⟨w3.heap.size, 0, none⟩) 1 1) (w3.alloc (.cells #[.int .i64 xk, .bool xt, .slice xa1 xl1 xc1, .slice xa2 xl2 xc2] 33))) := by
    have mk : ∀ (p n' : Nat) (c : Int) (xk : Int) (xt : Bool) (xa1 : Option Addr) (xl1 xc1 : Nat) (xa2 : Option Addr) (xl2 xc2 : Nat), Qn w3 b s p n' c → Keeps (· = b) w1 w3 → QjSt w b s p n' c 1 (.slice (some ⟨w3.heap.size, 0, none⟩) 1 1) [.int .i64 xk, .bool xt, .slice xa1 xl1 xc1, .slice xa2 xl2 xc2] (w3.alloc (.cells #[.int .i64 xk, .bool xt, .slice xa1 xl1 xc1, .slice xa2 xl2 xc2] 33)) := by
      intro p n' c xk xt xa1 xl1 xc1 xa2 xl2 xc2 hr hkp
      have bn := sbelow_new w3 (.cells #[.int .i64 xk, .bool xt, .slice xa1 xl1 xc1, .slice xa2 xl2 xc2] 33)
      have hkk := hkp
      have hsz := hkk.size
      have hsz1 := HZ1.out
      have hrb := HRB.out
      exact ⟨hr.step bn, (HQ1.out.keeps hkk (by omega)).step bn, World.ownsRow_lit w3 #[.int .i64 xk, .bool xt, .slice xa1 xl1 xc1, .slice xa2 xl2 xc2] 1 (by omega) (by unfold maxLen; omega) rfl, ⟨_, _, _, _, _, _, _, _, [], rfl⟩, Nat.le_refl _, ((Keeps.of_below HB1.out).trans hkk).next bn, hrb⟩
    rcases R with ⟨c, p⟩ | ⟨k', n', x⟩
    · obtain ⟨n', xk, xt, xa1, xl1, xc1, xa2, xl2, xc2, rfl, hr, hc, hp, hkp⟩ := hout
      exact ⟨xk, xt, xa1, xl1, xc1, xa2, xl2, xc2, rfl, Lib.hid ⟨0, .inr ⟨c, p, n', 1, _, rfl, HPT.out.symm, hc, hp, by omega, mk p n' c _ _ _ _ _ _ _ _ hr hkp⟩⟩⟩
    · obtain ⟨xk, xt, xa1, xl1, xc1, xa2, xl2, xc2, rfl, hv, hr, hkl, hnl, hkp⟩ := hout
      refine ⟨xk, xt, xa1, xl1, xc1, xa2, xl2, xc2, rfl, Lib.hid ⟨102, .inl ⟨101, k', n', [x], _, rfl, by omega, hnl, hkl, by have := HGR.out _ _ _ rfl; simp; omega, HPT.out, mk k' n' 0 _ _ _ _ _ _ _ _ hr hkp, ?_⟩⟩⟩
      have bn := sbelow_new w3 (.cells #[.int .i64 xk, .bool xt, .slice xa1 xl1 xc1, .slice xa2 xl2 xc2] 33)
      have hsz2 := hkp.size
      have hsz1 := HZ1.out
      unfold ExsC
      exact ⟨_, [], by simp, hv.move (P' := fun q => w.heap.size < q ∧ (Value.slice (some ⟨w3.heap.size, 0, none⟩) 1 1).ownBlock ≠ some q) bn.size (fun q hq hlt => ⟨⟨by omega, fun e => by injection e with e; have e' : w3.heap.size = q := e; omega⟩, bn.block q hlt⟩), by unfold ExsC; rfl⟩
  clear hout HPT HGR HQ1 HB1 HZ1 HR1
  obtain ⟨g, hrel⟩ := HREL.out
  have HR0 := Lib.hid hrel
  clear hrel HREL
  go_wp2_with fail
  generalize w3.alloc (.cells #[.int .i64 xk, .bool xt, .slice xa1 xl1 xc1, .slice xa2 xl2 xc2] 33) = w4 at *
  generalize w3.heap.size = lb at *
  go_loopg [5, 6] g (fun g v v6 wr => QjRel w b s 3 (rwR s sub) (alM s) tot g v wr)
  case atStart => exact HR0.out
  case round =>
    clear HR0
    rcases hrel with ⟨f, k, n, l, xs, hg, hf, hnn, hkl, hll, htot, hst⟩ | ⟨c, p, n, m, xs, hg, htot, hc, hp, hm, hst⟩
    · obtain ⟨f, rfl⟩ : ∃ f', f = f' + 1 := ⟨f - 1, by omega⟩
      obtain ⟨gb, cap, hv, -, -⟩ := hst.st.own.form hst.st.pos
      have HTT := Lib.hid htot
      have HG := Lib.hid hg
      have HF := Lib.hid hf
      have HN := Lib.hid hnn
      have HK := Lib.hid hkl
      have HLL := Lib.hid hll
      have HL1 := Lib.hid hst.st.pos
      have HLB : Hid (l.length ≤ 100) := Lib.hid (by omega)
      have HJ := Lib.hid (skp_le hkl)
      obtain ⟨bb, hbb⟩ : ∃ bb, decide (byteI s (skp s k) = 124) = bb := ⟨_, rfl⟩
      have HM : Hid (alM s k = if bb then some (skp s k + 1) else none) := Lib.hid (by unfold alM; rw [← hbb]; by_cases h : byteI s (skp s k) = 124 <;> simp [h])
      have HK2 : Hid (bb = true → skp s k + 1 ≤ s.size) := Lib.hid (fun e => by rw [← hbb] at e; have := HIN.out _ (of_decide_eq_true e); omega)
      have HIS := Lib.hid (HIY.out (skp s k) n HJ.out.2)
      rw [hbb] at HIS
      clear htot hg hf hnn hkl hll hbb
      have hjb : ((skp s k : Nat) : Int) ≤ 100000 := by have := HSZ.out; have := HJ.out.2; omega
      have hkb : (k : Int) ≤ 100000 := by have := HSZ.out; have := HK.out; omega
      by_cases hl : l.length = 1
      · have hv' : u5 = .slice (some ⟨gb, 0, none⟩) 1 cap := by rw [hv, hl]
        subst hv'
        have H1 := Lib.hid hst
        have HLE := Lib.hid hl
        clear hv hst hl
        obtain ⟨c0, c1, c2, c3⟩ := H1.out.st.rd.cells
        go_wp2_with fail
        refine (HSY.out _ _ HK.out _ H1.out.st.rd).mono ?_
        rintro e w4' ⟨rfl, hr4, hk4⟩
        have H4 := Lib.hid (H1.out.go hr4 hk4)
        clear hr4 hk4 H1 c0 c1 c2 c3
        go_wp2_with fail
        refine (HIS.out _ H4.out.st.rd).mono ?_
        rintro e w5 ⟨rfl, b5⟩
        have H5 := Lib.hid (H4.out.step b5)
        clear b5 H4 HIS
        cases bb with
        | true =>
          have HM1 : Hid (alM s k = some (skp s k + 1)) := HM
          clear HM
          obtain ⟨c0, c1, c2, c3⟩ := H5.out.st.rd.cells
          have f1 := H5.out.st.rd.fz 1
          have h6 : QkSt w b s (skp s k + 1) n l (.slice (some ⟨gb, 0, none⟩) 1 cap) xs (w5.setCell ⟨b, 1, none⟩ (.int .i64 ((skp s k : Int) + 1))) := H5.out.go (H5.out.st.rd.at1 (skp s k + 1)) (keepsQ w5 b 1 _)
          have HU := Lib.hid h6
          clear h6 H5
          go_upto_region 8 with (fail)
          generalize w5.setCell ⟨b, 1, none⟩ (.int .i64 ((skp s k : Int) + 1)) = w5' at *
          clear c0 c1 c2 c3 f1
          replace HK2 := Lib.hid (HK2.out (by simp))
          generalize skp s k + 1 = k2 at *
          go_wp2_with fail
          refine (HSY.out _ _ HK2.out _ HU.out.st.rd).mono ?_
          rintro e w6 ⟨rfl, hr6, hk6⟩
          have H6 := Lib.hid (HU.out.go hr6 hk6)
          clear hr6 hk6 HU
          obtain ⟨c0, c1, c2, c3⟩ := H6.out.st.rd.cells
          go_wp2_with fail
          refine (HCO.out _ _ HN.out _ H6.out.st.rd).mono ?_
          rintro e w7 ⟨rfl, hr7, hk7⟩
          clear c0 c1 c2 c3
          by_cases hb : 100 < n + 1
          · rw [if_pos hb, if_pos hb] at hr7
            have HE := Lib.hid (HTT.out.symm.trans (jnT_over HLE.out hb HM1.out))
            have H7 := Lib.hid (H6.out.st.go hr7 hk7)
            have HJ2 := Lib.hid (skp_le HK2.out).2
            clear hr7 hk7 H6 hb
            have c3 := H7.out.rd.cells.2.2.2
            go_wp2_with fail
            go_roundg 0
            case measure => have := HG.out; omega
            case rel => exact .inr ⟨6, skp s k2, n + 1, _, xs, rfl, HE.out, by decide, HJ2.out, by have := HLB.out; omega, H7.out⟩
          · rw [if_neg hb, if_neg hb] at hr7
            have HTL := Lib.hid ((jnT_first HLE.out hb HM1.out).symm.trans HTT.out)
            have H7 := Lib.hid (H6.out.go hr7 hk7)
            have HN7 : Hid (n + 1 ≤ 100) := Lib.hid (by omega)
            have HLN : Hid (l.length ≤ n + 1) := Lib.hid (by have := HLL.out; omega)
            clear hr7 hk7 H6 hb
            have c3 := H7.out.st.rd.cells.2.2.2
            go_wp2_with fail
            refine (HROW.out k2 (n + 1) HK2.out HN7.out _ H7.out.st.rd).mono ?_
            intro e w8 hout
            obtain ⟨R, HR⟩ : ∃ R, Hid (rwR s sub k2 (n + 1) = R) := ⟨_, Lib.hid rfl⟩
            rw [HR.out] at hout
            have hwr : w.heap.size < w7.heap.size := H7.out.st.res.lt
            have HVL := Lib.hid H7.out.st.own.lt
            rcases R with ⟨c, p⟩ | ⟨k', n', y⟩
            · obtain ⟨n', yk, yt, ya1, yl1, yc1, ya2, yl2, yc2, rfl, hr8, hc8, hp8, hk8⟩ := hout
              have HE := Lib.hid (HTL.out.symm.trans (jnL_er HR.out))
              have bn := sbelow_new w8 (.cells #[.int .i64 yk, .bool yt, .slice ya1 yl1 yc1, .slice ya2 yl2 yc2] 33)
              have h9 := (H7.out.st.go hr8 hk8).step bn
              have hN9 := heap_alloc_new w8 (.cells #[.int .i64 yk, .bool yt, .slice ya1 yl1 yc1, .slice ya2 yl2 yc2] 33)
              have hown9 := h9.own
              have H9 := Lib.hid h9
              have HC8 := Lib.hid hc8
              have HP8 := Lib.hid hp8
              have hz9 : w.heap.size + 1 ≤ (w8.alloc (.cells #[.int .i64 yk, .bool yt, .slice ya1 yl1 yc1, .slice ya2 yl2 yc2] 33)).heap.size := by have := hk8.size; rw [World.size_alloc]; omega
              have hne9 : (Value.slice (some ⟨gb, 0, none⟩) 1 cap).ownBlock ≠ some w8.heap.size := fun e => by have := (HVL.out _ e).2; have := hk8.size; omega
              clear hr8 hc8 hp8 hk8 bn h9 H7 hwr c3
              go_wp2_with (at_builtin; refine wpList_append_lies _ rfl _ _ 31 rfl (w.heap.size + 1) 33 i0 (.agg #[.int .i64 0, .bool false, .slice none 0 0, .slice none 0 0]) 4 64 Tryz.underlying31 hi hz0 hz1 hz2 rfl (by decide) _ _ _ rfl hown9 ⟨w8.heap.size, 0, none⟩ 1 1 [.int .i64 yk, .bool yt, .slice ya1 yl1 yc1, .slice ya2 yl2 yc2] rfl rfl (World.news_of_block hN9) ?onesqa (by decide) ?lenqa ?bytesqa hz9 _ rfl ?mainqa)
              case onesqa => intro y hy; simp only [List.mem_cons, List.not_mem_nil, or_false] at hy; rcases hy with rfl | rfl | rfl | rfl <;> rfl
              case lenqa => have := HLB.out; unfold maxLen; omega
              case bytesqa => have := HLB.out; omega
              intro g cap w11 hown11 hgrow11 hat11 hlt11
              have H11 := Lib.hid (H9.out.push hown11 hgrow11)
              clear hown11 hgrow11 hat11 hlt11 hown9 hN9 hz9 H9
              go_wp2_with fail
              go_roundg 0
              case measure => have := HG.out; omega
              case rel => exact .inr ⟨c, p, n', _, _, rfl, HE.out, HC8.out, HP8.out, by have := HLB.out; omega, H11.out⟩
            · obtain ⟨yk, yt, ya1, yl1, yc1, ya2, yl2, yc2, rfl, hv8, hr8, hkl8, hnl8, hk8⟩ := hout
              have HE := Lib.hid ((jnL_jnT (s := s) HL1.out HR.out).symm.trans HTL.out)
              have HGR := Lib.hid (HGD.out _ _ _ _ _ HK2.out HR.out)
              have bn := sbelow_new w8 (.cells #[.int .i64 yk, .bool yt, .slice ya1 yl1 yc1, .slice ya2 yl2 yc2] 33)
              have h9 := (H7.out.go hr8 hk8).step bn
              have hN9 := heap_alloc_new w8 (.cells #[.int .i64 yk, .bool yt, .slice ya1 yl1 yc1, .slice ya2 yl2 yc2] 33)
              have hw8 := hk8.size
              have hv9 : ExC (fun q => w.heap.size < q ∧ (Value.slice (some ⟨gb, 0, none⟩) 1 cap).ownBlock ≠ some q ∧ q < (w8.alloc (.cells #[.int .i64 yk, .bool yt, .slice ya1 yl1 yc1, .slice ya2 yl2 yc2] 33)).heap.size) (w8.alloc (.cells #[.int .i64 yk, .bool yt, .slice ya1 yl1 yc1, .slice ya2 yl2 yc2] 33)) [.int .i64 yk, .bool yt, .slice ya1 yl1 yc1, .slice ya2 yl2 yc2] y :=
                (hv8.step bn).move (Nat.le_refl _) (fun q hq hlt => ⟨⟨by omega, fun e => by have := (HVL.out q e).2; omega, hlt⟩, rfl⟩)
              have hown9 := h9.st.own
              have H9 := Lib.hid h9
              have HV9 := Lib.hid hv9
              have hz9 : w.heap.size + 1 ≤ (w8.alloc (.cells #[.int .i64 yk, .bool yt, .slice ya1 yl1 yc1, .slice ya2 yl2 yc2] 33)).heap.size := by rw [World.size_alloc]; omega
              have hne9 : (Value.slice (some ⟨gb, 0, none⟩) 1 cap).ownBlock ≠ some w8.heap.size := fun e => by have := (HVL.out _ e).2; omega
              clear hr8 hkl8 hnl8 hk8 hv8 bn h9 H7 hwr hv9 hw8 c3
              go_wp2_with (at_builtin; refine wpList_append_lies _ rfl _ _ 31 rfl (w.heap.size + 1) 33 i0 (.agg #[.int .i64 0, .bool false, .slice none 0 0, .slice none 0 0]) 4 64 Tryz.underlying31 hi hz0 hz1 hz2 rfl (by decide) _ _ _ rfl hown9 ⟨w8.heap.size, 0, none⟩ 1 1 [.int .i64 yk, .bool yt, .slice ya1 yl1 yc1, .slice ya2 yl2 yc2] rfl rfl (World.news_of_block hN9) ?onesqb (by decide) ?lenqb ?bytesqb hz9 _ rfl ?mainqb)
              case onesqb => intro y hy; simp only [List.mem_cons, List.not_mem_nil, or_false] at hy; rcases hy with rfl | rfl | rfl | rfl <;> rfl
              case lenqb => have := HLB.out; unfold maxLen; omega
              case bytesqb => have := HLB.out; omega
              intro g cap w11 hown11 hgrow11 hat11 hlt11
              have H11 := Lib.hid (H9.out.push HV9.out hown11 hgrow11 (by rw [World.size_alloc]; exact hat11))
              clear hown11 hgrow11 hat11 hlt11 hown9 hN9 hz9 H9 HV9
              go_wp2_with fail
              go_roundg (f + 1)
              case measure => have := HG.out; omega
              case rel =>
                have h1 := HGR.out
                have h2 := HF.out
                have h3 := HLN.out
                exact .inl ⟨f, k', n', _, _, rfl, by omega, h1.2.1, h1.2.2, by rw [List.length_append, List.length_singleton]; omega, HE.out, H11.out⟩
        | false =>
          have HM1 : Hid (alM s k = none) := HM
          obtain ⟨c0, c1, c2, c3⟩ := H5.out.st.rd.cells
          have f1 := H5.out.st.rd.fz 1
          have h6 : QkSt w b s k n l (.slice (some ⟨gb, 0, none⟩) 1 cap) xs (w5.setCell ⟨b, 1, none⟩ (.int .i64 (k : Int))) := H5.out.go (H5.out.st.rd.at1 k) (keepsQ w5 b 1 _)
          clear H5
          have H5 := Lib.hid h6
          clear h6
          go_upto_region 13 with (fail)
          generalize w5.setCell ⟨b, 1, none⟩ (.int .i64 (k : Int)) = w5 at *
          clear c0 c1 c2 c3 f1
          obtain ⟨x, rfl⟩ : ∃ x, l = [x] := List.length_eq_one_iff.1 HLE.out
          have HE := Lib.hid ((jnT_one HM1.out).symm.trans HTT.out)
          obtain ⟨cs, rest, hxs, hvx, hrest⟩ : ∃ cs rest, xs = cs ++ rest ∧ ExC (fun q => w.heap.size < q ∧ (Value.slice (some ⟨gb, 0, none⟩) 1 cap).ownBlock ≠ some q) w5 cs x ∧ ExsC (fun q => w.heap.size < q ∧ (Value.slice (some ⟨gb, 0, none⟩) 1 cap).ownBlock ≠ some q) w5 rest [] := by
            have := H5.out.vals
            unfold ExsC at this
            exact this
          obtain ⟨k1, t, a1, l1, e1, a2, l2, e2, rfl⟩ := hvx.form
          subst hxs
          have HV5 := Lib.hid (hvx.weak (fun q hq => hq.1))
          have y0 : w5.cell? ⟨gb, 0, none⟩ = some (.int .i64 k1) := H5.out.st.own.cells (g := gb) rfl 0 _ rfl
          have y1 : w5.cell? ⟨gb, 1, none⟩ = some (.bool t) := H5.out.st.own.cells (g := gb) rfl 1 _ rfl
          have y2 : w5.cell? ⟨gb, 2, none⟩ = some (.slice a1 l1 e1) := H5.out.st.own.cells (g := gb) rfl 2 _ rfl
          have y3 : w5.cell? ⟨gb, 3, none⟩ = some (.slice a2 l2 e2) := H5.out.st.own.cells (g := gb) rfl 3 _ rfl
          clear hvx hrest HM
          have r0 := H5.out.st.res.cells.1
          have r1 := H5.out.st.res.cells.2.1
          have r2 := H5.out.st.res.cells.2.2.1
          have r3 := H5.out.st.res.cells.2.2.2
          have rf0 := H5.out.st.res.fz 0
          have rf1 := H5.out.st.res.fz 1
          have rf2 := H5.out.st.res.fz 2
          have rf3 := H5.out.st.res.fz 3
          obtain ⟨q0, q1, q2, q3⟩ := (H5.out.st.res.set4 (.int .i64 k1) (.bool t) (.slice a1 l1 e1) (.slice a2 l2 e2)).cells
          have hout := qj_ok H5.out.st HV5.out HK.out HN.out
          unfold set4 at q0 q1 q2 q3 hout
          go_wp2_with fail
          refine bodyPost_ret (v := .agg #[.int .i64 k1, .bool t, .slice a1 l1 e1, .slice a2 l2 e2]) (by simp [results, Tryz.results32, go_sem, q0, q1, q2, q3]) rfl ?_
          rw [← HE.out]
          exact hout
      · subst hv
        have H1 := Lib.hid hst
        have HLE := Lib.hid hl
        have hl1 : ((l.length : Int) == 1) = false := beq_eq_false_iff_ne.2 (by omega)
        clear hst hl
        obtain ⟨c0, c1, c2, c3⟩ := H1.out.st.rd.cells
        go_wp2_with fail
        refine (HSY.out _ _ HK.out _ H1.out.st.rd).mono ?_
        rintro e w4' ⟨rfl, hr4, hk4⟩
        have H4 := Lib.hid (H1.out.go hr4 hk4)
        clear hr4 hk4 H1 c0 c1 c2 c3
        go_wp2_with fail
        refine (HIS.out _ H4.out.st.rd).mono ?_
        rintro e w5 ⟨rfl, b5⟩
        have H5 := Lib.hid (H4.out.step b5)
        clear b5 H4 HIS
        cases bb with
        | true =>
          have HM1 : Hid (alM s k = some (skp s k + 1)) := HM
          obtain ⟨c0, c1, c2, c3⟩ := H5.out.st.rd.cells
          have f1 := H5.out.st.rd.fz 1
          have h6 : QkSt w b s (skp s k + 1) n l (.slice (some ⟨gb, 0, none⟩) l.length cap) xs (w5.setCell ⟨b, 1, none⟩ (.int .i64 ((skp s k : Int) + 1))) := H5.out.go (H5.out.st.rd.at1 (skp s k + 1)) (keepsQ w5 b 1 _)
          have HU := Lib.hid h6
          clear h6 H5
          go_upto_region 8 with (fail)
          generalize w5.setCell ⟨b, 1, none⟩ (.int .i64 ((skp s k : Int) + 1)) = w5' at *
          clear c0 c1 c2 c3 f1
          replace HK2 := Lib.hid (HK2.out (by simp))
          generalize skp s k + 1 = k2 at *
          go_wp2_with fail
          refine (HSY.out _ _ HK2.out _ HU.out.st.rd).mono ?_
          rintro e w7 ⟨rfl, hr6, hk6⟩
          have H7 := Lib.hid (HU.out.go hr6 hk6)
          have HTL := Lib.hid ((jnT_more HLE.out HM1.out).symm.trans HTT.out)
          have HN7 := HN
          have HLN := HLL
          clear hr6 hk6 HU HM
          have c3 := H7.out.st.rd.cells.2.2.2
          go_wp2_with fail
          refine (HROW.out k2 n HK2.out HN7.out _ H7.out.st.rd).mono ?_
          intro e w8 hout
          obtain ⟨R, HR⟩ : ∃ R, Hid (rwR s sub k2 n = R) := ⟨_, Lib.hid rfl⟩
          rw [HR.out] at hout
          have hwr : w.heap.size < w7.heap.size := H7.out.st.res.lt
          have HVL := Lib.hid H7.out.st.own.lt
          rcases R with ⟨c, p⟩ | ⟨k', n', y⟩
          · obtain ⟨n', yk, yt, ya1, yl1, yc1, ya2, yl2, yc2, rfl, hr8, hc8, hp8, hk8⟩ := hout
            have HE := Lib.hid (HTL.out.symm.trans (jnL_er HR.out))
            have bn := sbelow_new w8 (.cells #[.int .i64 yk, .bool yt, .slice ya1 yl1 yc1, .slice ya2 yl2 yc2] 33)
            have h9 := (H7.out.st.go hr8 hk8).step bn
            have hN9 := heap_alloc_new w8 (.cells #[.int .i64 yk, .bool yt, .slice ya1 yl1 yc1, .slice ya2 yl2 yc2] 33)
            have hown9 := h9.own
            have H9 := Lib.hid h9
            have HC8 := Lib.hid hc8
            have HP8 := Lib.hid hp8
            have hz9 : w.heap.size + 1 ≤ (w8.alloc (.cells #[.int .i64 yk, .bool yt, .slice ya1 yl1 yc1, .slice ya2 yl2 yc2] 33)).heap.size := by have := hk8.size; rw [World.size_alloc]; omega
            have hne9 : (Value.slice (some ⟨gb, 0, none⟩) l.length cap).ownBlock ≠ some w8.heap.size := fun e => by have := (HVL.out _ e).2; have := hk8.size; omega
            clear hr8 hc8 hp8 hk8 bn h9 H7 hwr c3
            go_wp2_with (at_builtin; refine wpList_append_lies _ rfl _ _ 31 rfl (w.heap.size + 1) 33 i0 (.agg #[.int .i64 0, .bool false, .slice none 0 0, .slice none 0 0]) 4 64 Tryz.underlying31 hi hz0 hz1 hz2 rfl (by decide) _ _ _ rfl hown9 ⟨w8.heap.size, 0, none⟩ 1 1 [.int .i64 yk, .bool yt, .slice ya1 yl1 yc1, .slice ya2 yl2 yc2] rfl rfl (World.news_of_block hN9) ?onesra (by decide) ?lenra ?bytesra hz9 _ rfl ?mainra)
            case onesra => intro y hy; simp only [List.mem_cons, List.not_mem_nil, or_false] at hy; rcases hy with rfl | rfl | rfl | rfl <;> rfl
            case lenra => have := HLB.out; unfold maxLen; omega
            case bytesra => have := HLB.out; omega
            intro g cap w11 hown11 hgrow11 hat11 hlt11
            have H11 := Lib.hid (H9.out.push hown11 hgrow11)
            clear hown11 hgrow11 hat11 hlt11 hown9 hN9 hz9 H9
            go_wp2_with fail
            go_roundg 0
            case measure => have := HG.out; omega
            case rel => exact .inr ⟨c, p, n', _, _, rfl, HE.out, HC8.out, HP8.out, by have := HLB.out; omega, H11.out⟩
          · obtain ⟨yk, yt, ya1, yl1, yc1, ya2, yl2, yc2, rfl, hv8, hr8, hkl8, hnl8, hk8⟩ := hout
            have HE := Lib.hid ((jnL_jnT (s := s) HL1.out HR.out).symm.trans HTL.out)
            have HGR := Lib.hid (HGD.out _ _ _ _ _ HK2.out HR.out)
            have bn := sbelow_new w8 (.cells #[.int .i64 yk, .bool yt, .slice ya1 yl1 yc1, .slice ya2 yl2 yc2] 33)
            have h9 := (H7.out.go hr8 hk8).step bn
            have hN9 := heap_alloc_new w8 (.cells #[.int .i64 yk, .bool yt, .slice ya1 yl1 yc1, .slice ya2 yl2 yc2] 33)
            have hw8 := hk8.size
            have hv9 : ExC (fun q => w.heap.size < q ∧ (Value.slice (some ⟨gb, 0, none⟩) l.length cap).ownBlock ≠ some q ∧ q < (w8.alloc (.cells #[.int .i64 yk, .bool yt, .slice ya1 yl1 yc1, .slice ya2 yl2 yc2] 33)).heap.size) (w8.alloc (.cells #[.int .i64 yk, .bool yt, .slice ya1 yl1 yc1, .slice ya2 yl2 yc2] 33)) [.int .i64 yk, .bool yt, .slice ya1 yl1 yc1, .slice ya2 yl2 yc2] y :=
              (hv8.step bn).move (Nat.le_refl _) (fun q hq hlt => ⟨⟨by omega, fun e => by have := (HVL.out q e).2; omega, hlt⟩, rfl⟩)
            have hown9 := h9.st.own
            have H9 := Lib.hid h9
            have HV9 := Lib.hid hv9
            have hz9 : w.heap.size + 1 ≤ (w8.alloc (.cells #[.int .i64 yk, .bool yt, .slice ya1 yl1 yc1, .slice ya2 yl2 yc2] 33)).heap.size := by rw [World.size_alloc]; omega
            have hne9 : (Value.slice (some ⟨gb, 0, none⟩) l.length cap).ownBlock ≠ some w8.heap.size := fun e => by have := (HVL.out _ e).2; omega
            clear hr8 hkl8 hnl8 hk8 hv8 bn h9 H7 hwr hv9 hw8 c3
            go_wp2_with (at_builtin; refine wpList_append_lies _ rfl _ _ 31 rfl (w.heap.size + 1) 33 i0 (.agg #[.int .i64 0, .bool false, .slice none 0 0, .slice none 0 0]) 4 64 Tryz.underlying31 hi hz0 hz1 hz2 rfl (by decide) _ _ _ rfl hown9 ⟨w8.heap.size, 0, none⟩ 1 1 [.int .i64 yk, .bool yt, .slice ya1 yl1 yc1, .slice ya2 yl2 yc2] rfl rfl (World.news_of_block hN9) ?onesrb (by decide) ?lenrb ?bytesrb hz9 _ rfl ?mainrb)
            case onesrb => intro y hy; simp only [List.mem_cons, List.not_mem_nil, or_false] at hy; rcases hy with rfl | rfl | rfl | rfl <;> rfl
            case lenrb => have := HLB.out; unfold maxLen; omega
            case bytesrb => have := HLB.out; omega
            intro g cap w11 hown11 hgrow11 hat11 hlt11
            have H11 := Lib.hid (H9.out.push HV9.out hown11 hgrow11 (by rw [World.size_alloc]; exact hat11))
            clear hown11 hgrow11 hat11 hlt11 hown9 hN9 hz9 H9 HV9
            go_wp2_with fail
            go_roundg (f + 1)
            case measure => have := HG.out; omega
            case rel =>
              have h1 := HGR.out
              have h2 := HF.out
              have h3 := HLN.out
              exact .inl ⟨f, k', n', _, _, rfl, by omega, h1.2.1, h1.2.2, by rw [List.length_append, List.length_singleton]; omega, HE.out, H11.out⟩
        | false =>
          have HM1 : Hid (alM s k = none) := HM
          obtain ⟨c0, c1, c2, c3⟩ := H5.out.st.rd.cells
          have f1 := H5.out.st.rd.fz 1
          have h6 : QkSt w b s k n l (.slice (some ⟨gb, 0, none⟩) l.length cap) xs (w5.setCell ⟨b, 1, none⟩ (.int .i64 (k : Int))) := H5.out.go (H5.out.st.rd.at1 k) (keepsQ w5 b 1 _)
          clear H5
          have H5 := Lib.hid h6
          clear h6
          go_upto_region 13 with (fail)
          generalize w5.setCell ⟨b, 1, none⟩ (.int .i64 (k : Int)) = w5 at *
          clear c0 c1 c2 c3 f1
          have HE := Lib.hid ((jnT_end HLE.out HM1.out).symm.trans HTT.out)
          have hvv : ExC (fun q => w.heap.size < q) w5 [.int .i64 3, .bool false, .slice none 0 0, .slice (some ⟨gb, 0, none⟩) l.length cap] (.mk 3 false [] l) := by
            unfold ExC
            exact ⟨_, _, xs, rfl, CapV.nil, RowX.nil _ _, RowX.of_own H5.out.st.own (fun q e => by have := (H5.out.st.own.lt q e).1; show w.heap.size < q; omega), H5.out.vals.move (Nat.le_refl _) (fun q hq _ => ⟨hq.1, rfl⟩)⟩
          have HV5 := Lib.hid hvv
          clear hvv HM
          have r0 := H5.out.st.res.cells.1
          have r1 := H5.out.st.res.cells.2.1
          have r2 := H5.out.st.res.cells.2.2.1
          have r3 := H5.out.st.res.cells.2.2.2
          have rf0 := H5.out.st.res.fz 0
          have rf1 := H5.out.st.res.fz 1
          have rf2 := H5.out.st.res.fz 2
          have rf3 := H5.out.st.res.fz 3
          obtain ⟨q0, q1, q2, q3⟩ := (H5.out.st.res.set4 (.int .i64 3) (.bool false) (.slice none 0 0) (.slice (some ⟨gb, 0, none⟩) l.length cap)).cells
          have hout := qj_ok H5.out.st HV5.out HK.out HN.out
          unfold set4 at q0 q1 q2 q3 hout
          go_wp2_with fail
          refine bodyPost_ret (v := .agg #[.int .i64 3, .bool false, .slice none 0 0, .slice (some ⟨gb, 0, none⟩) l.length cap]) (by simp [results, Tryz.results32, go_sem, q0, q1, q2, q3]) rfl ?_
          rw [← HE.out]
          exact hout
    · obtain ⟨gb, cap, rfl, -, -⟩ := hst.own.form hst.pos
      have HTT := Lib.hid htot
      have HC := Lib.hid hc
      have HP := Lib.hid hp
      have H1 := Lib.hid hst
      have hcz : (c == 0) = false := beq_eq_false_iff_ne.2 hc
      have c3 := hst.rd.cells.2.2.2
      have hmb : (m : Int) ≤ 200 := by omega
      clear htot hg hst hc hp hm
      have H5 := H1
      clear H1
      by_cases hm1 : m = 1
      · subst hm1
        obtain ⟨k1, t, a1, l1, e1, a2, l2, e2, rest, rfl⟩ := H5.out.hd
        have y0 : wr.cell? ⟨gb, 0, none⟩ = some (.int .i64 k1) := H5.out.own.cells (g := gb) rfl 0 _ rfl
        have y1 : wr.cell? ⟨gb, 1, none⟩ = some (.bool t) := H5.out.own.cells (g := gb) rfl 1 _ rfl
        have y2 : wr.cell? ⟨gb, 2, none⟩ = some (.slice a1 l1 e1) := H5.out.own.cells (g := gb) rfl 2 _ rfl
        have y3 : wr.cell? ⟨gb, 3, none⟩ = some (.slice a2 l2 e2) := H5.out.own.cells (g := gb) rfl 3 _ rfl
        have r0 := H5.out.res.cells.1
        have r1 := H5.out.res.cells.2.1
        have r2 := H5.out.res.cells.2.2.1
        have r3 := H5.out.res.cells.2.2.2
        have rf0 := H5.out.res.fz 0
        have rf1 := H5.out.res.fz 1
        have rf2 := H5.out.res.fz 2
        have rf3 := H5.out.res.fz 3
        obtain ⟨q0, q1, q2, q3⟩ := (H5.out.res.set4 (.int .i64 k1) (.bool t) (.slice a1 l1 e1) (.slice a2 l2 e2)).cells
        have hout := qj_er (k := k1) (t := t) (a1 := a1) (l1 := l1) (e1 := e1) (a2 := a2) (l2 := l2) (e2 := e2) H5.out HC.out HP.out
        unfold set4 at q0 q1 q2 q3 hout
        go_wp2_with fail
        refine bodyPost_ret (v := .agg #[.int .i64 k1, .bool t, .slice a1 l1 e1, .slice a2 l2 e2]) (by simp [results, Tryz.results32, go_sem, q0, q1, q2, q3]) rfl ?_
        rw [HTT.out]
        exact hout
      · have hl1 : ((m : Int) == 1) = false := beq_eq_false_iff_ne.2 (by omega)
        clear hm1
        have r0 := H5.out.res.cells.1
        have r1 := H5.out.res.cells.2.1
        have r2 := H5.out.res.cells.2.2.1
        have r3 := H5.out.res.cells.2.2.2
        have rf0 := H5.out.res.fz 0
        have rf1 := H5.out.res.fz 1
        have rf2 := H5.out.res.fz 2
        have rf3 := H5.out.res.fz 3
        obtain ⟨q0, q1, q2, q3⟩ := (H5.out.res.set4 (.int .i64 3) (.bool false) (.slice none 0 0) (.slice (some ⟨gb, 0, none⟩) m cap)).cells
        have hout := qj_er (k := 3) (t := false) (a1 := none) (l1 := 0) (e1 := 0) (a2 := some ⟨gb, 0, none⟩) (l2 := m) (e2 := cap) H5.out HC.out HP.out
        unfold set4 at q0 q1 q2 q3 hout
        go_wp2_with fail
        refine bodyPost_ret (v := .agg #[.int .i64 3, .bool false, .slice none 0 0, .slice (some ⟨gb, 0, none⟩) m cap]) (by simp [results, Tryz.results32, go_sem, q0, q1, q2, q3]) rfl ?_
        rw [HTT.out]
        exact hout
/-- Alternatives, where so many brackets more may be opened. -/
theorem qalt_all (s : ByteArray) (hs : s.size ≤ 100000) : ∀ (e deep : Nat), deep + e = 64 → ∀ (k n b : Nat) (w : World), k ≤ s.size → n ≤ 100 → Qn w b s k n 0 → Calls Tryz.prog 32 #[.pointer (some ⟨b, 0, none⟩), .int .i64 deep] w (QxOut w b s (alR s e k n))
  | 0, deep, hd, k, n, b, w, hk, hn, h => by
    rw [alR_eq]
    exact qalt_any s (subR s 0) deep k n b hs hk hn (show deep = 64 by omega) (subR_good 0) w h
  | e + 1, deep, hd, k, n, b, w, hk, hn, h => by
    rw [alR_eq]
    refine qalt_any s (subR s (e + 1)) deep k n b hs hk hn ⟨by omega, fun W B k' n' hk' hn' h' => ?_⟩ (subR_good (e + 1)) w h
    have := qalt_all s hs e (deep + 1) (by omega) (skp s k') n' B W (skp_le hk').2 hn' h'
    rwa [alR_skp] at this
end Go.Proofs.YtpccdhkghlbhkaaGreatDoor

namespace Go.Proofs.YtpccdhkghlbhkaaGreatDoor
open Go.RowKit Go.Extern.Stop Go.Stop Go.Extern

/-- What the document's Read tells. -/
def QrOut (w : World) (s : ByteArray) : RO Rx → Ending → World → Prop
  | .er c p, e, w' => e = .returned (.tuple #[.int .i64 p, .agg #[.int .i64 0, .bool false, .slice none 0 0, .slice none 0 0], .int .i64 c]) ∧ c ≠ 0 ∧ p ≤ s.size ∧ Below w.heap.size w w'
  | .ok k' _ x, e, w' => ∃ (k : Int) (t : Bool) (a1 : Option Addr) (l1 c1 : Nat) (a2 : Option Addr) (l2 c2 : Nat), e = .returned (.tuple #[.int .i64 k', .agg #[.int .i64 k, .bool t, .slice a1 l1 c1, .slice a2 l2 c2], .int .i64 0]) ∧ ExC (fun q => w.heap.size ≤ q) w' [.int .i64 k, .bool t, .slice a1 l1 c1, .slice a2 l2 c2] x ∧ k' ≤ s.size ∧ Below w.heap.size w w'
theorem below_set4 {w w' : World} (h : Below w.heap.size w w') {q : Nat} (hq : w.heap.size ≤ q) (c0 c1 c2 c3 : Value) : Below w.heap.size w (set4 w' q 0 c0 c1 c2 c3) := by
  unfold set4
  exact (((h.setCell (p := ⟨q, 0, none⟩) hq c0).setCell (p := ⟨q, 0 + 1, none⟩) hq c1).setCell (p := ⟨q, 0 + 2, none⟩) hq c2).setCell (p := ⟨q, 0 + 3, none⟩) hq c3
set_option maxRecDepth 100000 in
set_option maxHeartbeats 8000000 in
theorem qread_any (s : ByteArray) (k : Nat) (hs : s.size ≤ 100000) (hk : k ≤ s.size) (w : World) :
    Calls Tryz.prog 15 #[.string s, .int .i64 k] w (QrOut w s (alR s 64 k 0)) := by
  have hq1 := quad_new w 33 (.int .i64 0) (.bool false) (.slice none 0 0) (.slice none 0 0)
  have hb1 := sbelow_new w (.cells #[.int .i64 0, .bool false, .slice none 0 0, .slice none 0 0] 33)
  have hz1 : (w.alloc (.cells #[.int .i64 0, .bool false, .slice none 0 0, .slice none 0 0] 33)).heap.size = w.heap.size + 1 := World.size_alloc _ _
  generalize hw1 : w.alloc (.cells #[.int .i64 0, .bool false, .slice none 0 0, .slice none 0 0] 33) = w1 at *
  have hqr := quad_new w1 69 (.string s) (.int .i64 k) (.int .i64 0) (.int .i64 0)
  have hbr := sbelow_new w1 (.cells #[.string s, .int .i64 k, .int .i64 0, .int .i64 0] 69)
  have hA := qalt_all s hs 64 0 rfl k 0 w1.heap.size _ hk (by decide) hqr
  rw [show ((0 : Nat) : Int) = 0 from rfl] at hA
  have HA := Lib.hid hA
  have HQ2 := Lib.hid (hq1.step hbr)
  have HB2 := Lib.hid (hb1.trans (hbr.mono (by omega)))
  have HZ1 := Lib.hid hz1
  clear hA hq1 hb1 hbr hqr hz1
  go_enter Tryz.func15, Tryz.ntmps15
  go_wp2_with fail
  clear hw1
  generalize hw2 : w1.alloc (.cells #[.string s, .int .i64 k, .int .i64 0, .int .i64 0] 69) = w2 at *
  have HRB : Hid (w1.heap.size < w2.heap.size ∧ w.heap.size < w1.heap.size) := Lib.hid ⟨by rw [← hw2, World.size_alloc]; omega, by have := HZ1.out; omega⟩
  generalize w1.heap.size = rb at *
  refine HA.out.mono ?_
  intro e w3 hout
  clear hw2 HA HZ1
  have HLB : Hid (∀ (n' : Nat) (p : Nat) (c : Int) (cs : Array Value), Qn w3 rb s p n' c → Keeps (· = rb) w2 w3 → Below w.heap.size w (w3.alloc (.cells cs 33))) := Lib.hid (fun n' p c cs hr hkp => by
    have h1 : Keeps (fun q => q = rb) w2 w3 := hkp
    have hb2 := HB2.out
    have hrb := HRB.out
    have h2 : Keeps (fun q => w.heap.size ≤ q) w w3 := ((Keeps.of_below (D := fun q => w.heap.size ≤ q) hb2)).trans (h1.mono (fun q e => by have : q = rb := e; omega))
    have h3 : Below w.heap.size w w3 := ⟨h2.os, h2.tape, h2.output, h2.size, fun q hq => h2.block q hq (by omega)⟩
    exact h3.trans ((sbelow_new w3 (.cells cs 33)).mono (by have := h2.size; omega)))
  rcases hR : alR s 64 k 0 with ⟨c, p⟩ | ⟨k', n', x⟩
  · rw [hR] at hout
    obtain ⟨n', xk, xt, xa1, xl1, xc1, xa2, xl2, xc2, rfl, hr, hc, hp, hkp⟩ := hout
    have bn := sbelow_new w3 (.cells #[.int .i64 xk, .bool xt, .slice xa1 xl1 xc1, .slice xa2 xl2 xc2] 33)
    have HR4 := Lib.hid (hr.step bn)
    have HQ4 := Lib.hid ((HQ2.out.keeps hkp (by have := HRB.out; omega)).step bn)
    have HB4 := Lib.hid (HLB.out n' p c #[.int .i64 xk, .bool xt, .slice xa1 xl1 xc1, .slice xa2 xl2 xc2] hr hkp)
    have HC := Lib.hid hc
    have HP := Lib.hid hp
    have hcz : (c == 0) = false := beq_eq_false_iff_ne.2 hc
    have hcz2 : (c != 0) = true := by simp [hc]
    clear hr hc hp hkp bn hk hs
    obtain ⟨c0, c1, c2, c3⟩ := HR4.out.cells
    go_upto_region 4 with (fail)
    generalize w3.alloc (.cells #[.int .i64 xk, .bool xt, .slice xa1 xl1 xc1, .slice xa2 xl2 xc2] 33) = w4 at *
    have ar0 := HQ4.out.cells.1
    have ar1 := HQ4.out.cells.2.1
    have ar2 := HQ4.out.cells.2.2.1
    have ar3 := HQ4.out.cells.2.2.2
    have arf0 := HQ4.out.fz 0
    have arf1 := HQ4.out.fz 1
    have arf2 := HQ4.out.fz 2
    have arf3 := HQ4.out.fz 3
    have hne : rb ≠ w.heap.size := by have := HRB.out; omega
    have hne' := hne.symm
    go_region_held3 (fun W => W.cell? ⟨rb, 1, none⟩ = some (.int .i64 p) ∧ W.cell? ⟨rb, 3, none⟩ = some (.int .i64 c))
      (first | go_keep | exact ⟨c1, c3⟩)
      (fail)
    obtain ⟨q0, q1, q2, q3⟩ := ((HQ4.out.set4 (.int .i64 0) (.bool false) (.slice none 0 0) (.slice none 0 0)).step (Below.refl _ _).drew).cells
    have hb5 := (below_set4 HB4.out (Nat.le_refl _) (.int .i64 0) (.bool false) (.slice none 0 0) (.slice none 0 0)).drew
    unfold set4 at q0 q1 q2 q3 hb5
    go_wp2
    refine bodyPost_ret (v := .tuple #[.int .i64 p, .agg #[.int .i64 0, .bool false, .slice none 0 0, .slice none 0 0], .int .i64 c]) (by simp [results, Tryz.results15, go_sem, q0, q1, q2, q3]) rfl ?_
    rw [hR]
    exact ⟨rfl, HC.out, HP.out, hb5⟩
  · rw [hR] at hout
    obtain ⟨xk, xt, xa1, xl1, xc1, xa2, xl2, xc2, rfl, hv, hr, hkl, hnl, hkp⟩ := hout
    have bn := sbelow_new w3 (.cells #[.int .i64 xk, .bool xt, .slice xa1 xl1 xc1, .slice xa2 xl2 xc2] 33)
    have HR4 := Lib.hid (hr.step bn)
    have HQ4 := Lib.hid ((HQ2.out.keeps hkp (by have := HRB.out; omega)).step bn)
    have HX4 := Lib.hid (quad_new w3 33 (.int .i64 xk) (.bool xt) (.slice xa1 xl1 xc1) (.slice xa2 xl2 xc2))
    have HB4 := Lib.hid (HLB.out n' k' 0 #[.int .i64 xk, .bool xt, .slice xa1 xl1 xc1, .slice xa2 xl2 xc2] hr hkp)
    have HV4 := Lib.hid (hv.step bn)
    have HK := Lib.hid hkl
    have HXB : Hid (rb < w3.heap.size ∧ w.heap.size < w3.heap.size) := Lib.hid ⟨hr.lt, by have := hr.lt; have := HRB.out; omega⟩
    clear hr hkl hkp bn hk hs hv hnl
    obtain ⟨c0, c1, c2, c3⟩ := HR4.out.cells
    go_upto_region 5 with (fail)
    generalize w3.alloc (.cells #[.int .i64 xk, .bool xt, .slice xa1 xl1 xc1, .slice xa2 xl2 xc2] 33) = w4 at *
    generalize w3.heap.size = xb at *
    have ar0 := HQ4.out.cells.1
    have ar1 := HQ4.out.cells.2.1
    have ar2 := HQ4.out.cells.2.2.1
    have ar3 := HQ4.out.cells.2.2.2
    have arf0 := HQ4.out.fz 0
    have arf1 := HQ4.out.fz 1
    have arf2 := HQ4.out.fz 2
    have arf3 := HQ4.out.fz 3
    obtain ⟨x0, x1, x2, x3⟩ := HX4.out.cells
    have hne : rb ≠ w.heap.size := by have := HRB.out; omega
    have hne' := hne.symm
    have hne2 : xb ≠ w.heap.size := by have := HXB.out; omega
    have hne2' := hne2.symm
    go_region_held3 (fun W => W.cell? ⟨rb, 1, none⟩ = some (.int .i64 k') ∧ W.cell? ⟨xb, 0, none⟩ = some (.int .i64 xk) ∧ W.cell? ⟨xb, 1, none⟩ = some (.bool xt) ∧ W.cell? ⟨xb, 2, none⟩ = some (.slice xa1 xl1 xc1) ∧ W.cell? ⟨xb, 3, none⟩ = some (.slice xa2 xl2 xc2))
      (first | go_keep | exact ⟨c1, x0, x1, x2, x3⟩)
      (fail)
    obtain ⟨q0, q1, q2, q3⟩ := ((HQ4.out.set4 (.int .i64 xk) (.bool xt) (.slice xa1 xl1 xc1) (.slice xa2 xl2 xc2)).step (Below.refl _ _).drew).cells
    have hb5 := (below_set4 HB4.out (Nat.le_refl _) (.int .i64 xk) (.bool xt) (.slice xa1 xl1 xc1) (.slice xa2 xl2 xc2)).drew
    have hv5 := ((HV4.out.keepsD (keeps_set4 w4 w.heap.size 0 (.int .i64 xk) (.bool xt) (.slice xa1 xl1 xc1) (.slice xa2 xl2 xc2)) (fun q hq e => by have := HRB.out; omega)).step (Below.refl _ _).drew).weak (P' := fun q => w.heap.size ≤ q) (fun q hq => by have := HRB.out; omega)
    unfold set4 at q0 q1 q2 q3 hb5 hv5
    go_wp2
    refine bodyPost_ret (v := .tuple #[.int .i64 k', .agg #[.int .i64 xk, .bool xt, .slice xa1 xl1 xc1, .slice xa2 xl2 xc2], .int .i64 0]) (by simp [results, Tryz.results15, go_sem, q0, q1, q2, q3]) rfl ?_
    rw [hR]
    exact ⟨_, _, _, _, _, _, _, _, rfl, hv5, HK.out, hb5⟩
end Go.Proofs.YtpccdhkghlbhkaaGreatDoor

namespace Go.Proofs.YtpccdhkghlbhkaaGreatDoor
open Go.RowKit Go.Extern.Stop Go.Stop Go.Extern

/-- What the document's Parse tells. -/
def QpaOut (w : World) : RO Rx → Ending → World → Prop
  | .er c p, e, w' => e = .returned (.tuple #[.agg #[.int .i64 0, .bool false, .slice none 0 0, .slice none 0 0], .int .i64 c, .int .i64 p]) ∧ Below w.heap.size w w'
  | .ok _ _ x, e, w' => ∃ (k : Int) (t : Bool) (a1 : Option Addr) (l1 c1 : Nat) (a2 : Option Addr) (l2 c2 : Nat), e = .returned (.tuple #[.agg #[.int .i64 k, .bool t, .slice a1 l1 c1, .slice a2 l2 c2], .int .i64 0, .int .i64 0]) ∧ ExC (fun q => w.heap.size ≤ q) w' [.int .i64 k, .bool t, .slice a1 l1 c1, .slice a2 l2 c2] x ∧ Below w.heap.size w w'
set_option maxRecDepth 100000 in
set_option maxHeartbeats 8000000 in
theorem qparse_any (s : ByteArray) (hs : s.size ≤ 65536) (RR : RO Rx) (hRR : (match alR s 64 0 0 with | .er c a => RO.er c a | .ok k n x => if skp s k = s.size then .ok k n x else .er 4 (skp s k)) = RR) (w : World) :
    Calls Tryz.prog 7 #[.string s] w (QpaOut w RR) := by
  have hq1 := quad_new w 33 (.int .i64 0) (.bool false) (.slice none 0 0) (.slice none 0 0)
  have hb1 := sbelow_new w (.cells #[.int .i64 0, .bool false, .slice none 0 0, .slice none 0 0] 33)
  have hz1 : (w.alloc (.cells #[.int .i64 0, .bool false, .slice none 0 0, .slice none 0 0] 33)).heap.size = w.heap.size + 1 := World.size_alloc _ _
  have hRD := fun W => qread_any s 0 (by omega) (Nat.zero_le _) W
  rw [show ((0 : Nat) : Int) = 0 from rfl] at hRD
  have HSK : Hid (∀ p, p ≤ s.size → ∀ W, Calls Tryz.prog 23 #[.string s, .int .i64 p] W fun e w' => e = .returned (.int .i64 (skp s p)) ∧ W = w') := Lib.hid (fun p hp W => rskip_any s p (by omega) hp W)
  have HKL := Lib.hid (fun (p : Nat) (hp : p ≤ s.size) => (skp_le hp).2)
  have hsz : (s.size : Int) ≤ 65536 := by omega
  generalize alR s 64 0 0 = R at *
  generalize hw1 : w.alloc (.cells #[.int .i64 0, .bool false, .slice none 0 0, .slice none 0 0] 33) = w1 at *
  have HRD := Lib.hid hRD
  have HRR := Lib.hid hRR
  have HQ1 := Lib.hid hq1
  have HB1 := Lib.hid hb1
  have HZ1 := Lib.hid hz1
  clear hRD hRR hq1 hb1 hz1 hs
  go_enter Tryz.func7, Tryz.ntmps7
  go_wp2_with fail
  refine (HRD.out _).mono ?_
  intro e w3 hout
  clear hw1
  rcases R with ⟨c, p⟩ | ⟨k', n', x⟩
  · obtain ⟨rfl, hc, hp, hb⟩ := hout
    have HE : Hid (RO.er c p = RR) := HRR
    have bn := sbelow_new w3 (.cells #[.int .i64 0, .bool false, .slice none 0 0, .slice none 0 0] 33)
    have HQ4 := Lib.hid ((HQ1.out.step hb).step bn)
    have HB4 := Lib.hid ((HB1.out.trans (hb.mono HB1.out.size)).trans (bn.mono (by have := HB1.out.size; have := hb.size; omega)))
    have hcz : (c == 0) = false := beq_eq_false_iff_ne.2 hc
    clear hb hc hp bn HRR
    have ar0 := HQ4.out.cells.1
    have ar1 := HQ4.out.cells.2.1
    have ar2 := HQ4.out.cells.2.2.1
    have ar3 := HQ4.out.cells.2.2.2
    have arf0 := HQ4.out.fz 0
    have arf1 := HQ4.out.fz 1
    have arf2 := HQ4.out.fz 2
    have arf3 := HQ4.out.fz 3
    go_upto_region 5 with (fail)
    generalize w3.alloc (.cells #[.int .i64 0, .bool false, .slice none 0 0, .slice none 0 0] 33) = w4 at *
    obtain ⟨q0, q1, q2, q3⟩ := (HQ4.out.set4 (.int .i64 0) (.bool false) (.slice none 0 0) (.slice none 0 0)).cells
    have hb5 := below_set4 HB4.out (Nat.le_refl _) (.int .i64 0) (.bool false) (.slice none 0 0) (.slice none 0 0)
    unfold set4 at q0 q1 q2 q3 hb5
    go_wp2_with fail
    refine bodyPost_ret (v := .tuple #[.agg #[.int .i64 0, .bool false, .slice none 0 0, .slice none 0 0], .int .i64 c, .int .i64 p]) (by simp [results, Tryz.results7, go_sem, q0, q1, q2, q3]) rfl ?_
    rw [← HE.out]
    exact ⟨rfl, hb5⟩
  · obtain ⟨xk, xt, xa1, xl1, xc1, xa2, xl2, xc2, rfl, hv, hkl, hb⟩ := hout
    have HE : Hid ((if skp s k' = s.size then RO.ok k' n' x else .er 4 (skp s k')) = RR) := HRR
    have bn := sbelow_new w3 (.cells #[.int .i64 xk, .bool xt, .slice xa1 xl1 xc1, .slice xa2 xl2 xc2] 33)
    have HQ4 := Lib.hid ((HQ1.out.step hb).step bn)
    have HX4 := Lib.hid (quad_new w3 33 (.int .i64 xk) (.bool xt) (.slice xa1 xl1 xc1) (.slice xa2 xl2 xc2))
    have HB4 := Lib.hid ((HB1.out.trans (hb.mono HB1.out.size)).trans (bn.mono (by have := HB1.out.size; have := hb.size; omega)))
    have HV4 := Lib.hid (hv.step bn)
    have HXB : Hid (w.heap.size < w3.heap.size ∧ w.heap.size < w1.heap.size) := Lib.hid ⟨by have := HZ1.out; have := hb.size; omega, by have := HZ1.out; omega⟩
    have HK := Lib.hid hkl
    have HS6 := Lib.hid (HSK.out k' hkl)
    have hjl := HKL.out k' hkl
    clear hb hkl bn HRR hv
    go_upto_region 6 with (fail)
    generalize w3.alloc (.cells #[.int .i64 xk, .bool xt, .slice xa1 xl1 xc1, .slice xa2 xl2 xc2] 33) = w4 at *
    generalize w3.heap.size = xb at *
    generalize skp s k' = j at *
    go_wp2_with fail
    refine (HS6.out _).mono ?_
    rintro e w5 ⟨rfl, rfl⟩
    by_cases hj : j = s.size
    · have HE2 := Lib.hid ((if_pos hj).symm.trans HE.out)
      have hnl : ¬ ((j : Int) < (s.size : Int)) := by omega
      clear hj hjl
      have ar0 := HQ4.out.cells.1
      have ar1 := HQ4.out.cells.2.1
      have ar2 := HQ4.out.cells.2.2.1
      have ar3 := HQ4.out.cells.2.2.2
      have arf0 := HQ4.out.fz 0
      have arf1 := HQ4.out.fz 1
      have arf2 := HQ4.out.fz 2
      have arf3 := HQ4.out.fz 3
      obtain ⟨x0, x1, x2, x3⟩ := HX4.out.cells
      obtain ⟨q0, q1, q2, q3⟩ := (HQ4.out.set4 (.int .i64 xk) (.bool xt) (.slice xa1 xl1 xc1) (.slice xa2 xl2 xc2)).cells
      have hb5 := below_set4 HB4.out (Nat.le_refl _) (.int .i64 xk) (.bool xt) (.slice xa1 xl1 xc1) (.slice xa2 xl2 xc2)
      have hv5 := (HV4.out.keepsD (keeps_set4 w4 w.heap.size 0 (.int .i64 xk) (.bool xt) (.slice xa1 xl1 xc1) (.slice xa2 xl2 xc2)) (fun q hq e => by have := HXB.out; omega)).weak (P' := fun q => w.heap.size ≤ q) (fun q hq => by have := HXB.out; omega)
      unfold set4 at q0 q1 q2 q3 hb5 hv5
      go_wp2_with fail
      refine bodyPost_ret (v := .tuple #[.agg #[.int .i64 xk, .bool xt, .slice xa1 xl1 xc1, .slice xa2 xl2 xc2], .int .i64 0, .int .i64 0]) (by simp [results, Tryz.results7, go_sem, q0, q1, q2, q3]) rfl ?_
      rw [← HE2.out]
      exact ⟨_, _, _, _, _, _, _, _, rfl, hv5, hb5⟩
    · have HE2 := Lib.hid ((if_neg hj).symm.trans HE.out)
      have hnl : (j : Int) < (s.size : Int) := by omega
      clear hj hjl
      have ar0 := HQ4.out.cells.1
      have ar1 := HQ4.out.cells.2.1
      have ar2 := HQ4.out.cells.2.2.1
      have ar3 := HQ4.out.cells.2.2.2
      have arf0 := HQ4.out.fz 0
      have arf1 := HQ4.out.fz 1
      have arf2 := HQ4.out.fz 2
      have arf3 := HQ4.out.fz 3
      obtain ⟨q0, q1, q2, q3⟩ := (HQ4.out.set4 (.int .i64 0) (.bool false) (.slice none 0 0) (.slice none 0 0)).cells
      have hb5 := below_set4 HB4.out (Nat.le_refl _) (.int .i64 0) (.bool false) (.slice none 0 0) (.slice none 0 0)
      unfold set4 at q0 q1 q2 q3 hb5
      go_wp2_with fail
      refine bodyPost_ret (v := .tuple #[.agg #[.int .i64 0, .bool false, .slice none 0 0, .slice none 0 0], .int .i64 4, .int .i64 j]) (by simp [results, Tryz.results7, go_sem, q0, q1, q2, q3]) rfl ?_
      rw [← HE2.out]
      exact ⟨rfl, hb5⟩
end Go.Proofs.YtpccdhkghlbhkaaGreatDoor
