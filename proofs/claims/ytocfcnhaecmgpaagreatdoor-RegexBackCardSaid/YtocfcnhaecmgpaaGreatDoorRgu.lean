/-
  slices.Equal of two rows of words, and sameness of two expressions, for rows longer than a thousand words.
  The statement RegexBack as a walk: whatever the expression and the text, the law answers true, and all of old memory stays as it was.
-/
import Derived.Test.YtocfcnhaecmgpaaGreatDoorRxS
import Derived.Test.YtocfcnhaecmgpaaGreatDoorRgt
import Derived.Test.YtocfcnhaecmgpaaGreatDoorRgi
import Derived.Test.YtocfcnhaecmgpaaGreatDoorRgz
namespace Go.Proofs.YtocfcnhaecmgpaaGreatDoor
open Go.RowKit Go.Extern.Stop Go.Stop Go.Extern

set_option maxRecDepth 100000 in
set_option maxHeartbeats 1000000 in
theorem equalSB_same (v1 v2 : Value) (w1 w2 : List ByteArray) (w : World) (h1 : StrsAt w v1 w1) (h2 : StrsAt w v2 w2) (hl : w1.length = w2.length) (hlen : w1.length ≤ 100000) :
    Calls Tryz.prog 52 #[v1, v2] w fun e w' => e = .returned (.bool (decide (w1 = w2))) ∧ ∃ n, w' = w.drewN n := by
  obtain ⟨b1, o1, c1, rfl, H1⟩ : ∃ b o c, v1 = .slice b w1.length c ∧ Hid (∀ i, i < w1.length → ∃ b', b = some ⟨b', o, none⟩ ∧ w.cell? ⟨b', o + i, none⟩ = some (.string (w1.getD i ByteArray.empty))) := by
    rcases h1 with ⟨a, c, e, e'⟩ | ⟨b, o, c, e, _, hc⟩
    · exact ⟨a, 0, c, by rw [e, e']; rfl, fun i hi => by rw [e'] at hi; exact absurd hi (by simp)⟩
    · exact ⟨_, o, c, e, fun i hi => ⟨b, rfl, hc i hi⟩⟩
  obtain ⟨b2, o2, c2, rfl, H2⟩ : ∃ b o c, v2 = .slice b w2.length c ∧ Hid (∀ i, i < w2.length → ∃ b', b = some ⟨b', o, none⟩ ∧ w.cell? ⟨b', o + i, none⟩ = some (.string (w2.getD i ByteArray.empty))) := by
    rcases h2 with ⟨a, c, e, e'⟩ | ⟨b, o, c, e, _, hc⟩
    · exact ⟨a, 0, c, by rw [e, e']; rfl, fun i hi => by rw [e'] at hi; exact absurd hi (by simp)⟩
    · exact ⟨_, o, c, e, fun i hi => ⟨b, rfl, hc i hi⟩⟩
  clear h1 h2
  have H0 : Hid (EqRel w w1 w2 w1.length (.int .i64 0) w) := ⟨⟨0, Nat.zero_le _, rfl, rfl, fun m h => by omega⟩, 0, rfl⟩
  have HL := Lib.hid hl
  have hlb : ((w1.length : Int) != w2.length) = false := by rw [hl]; simp
  clear hl
  go_enter Tryz.func52, Tryz.ntmps52
  go_wp2
  go_loopg [13] w1.length (fun k i wr => EqRel w w1 w2 k i wr)
  case atStart => exact H0.out
  case round =>
    obtain ⟨⟨j, hj, hk, rfl, hall⟩, d, rfl⟩ := hrel
    have HK := Lib.hid hk
    have HA := Lib.hid hall
    clear hk hall
    by_cases hlt : j < w1.length
    · obtain ⟨b1', rfl, k1⟩ := H1.out j hlt
      obtain ⟨b2', rfl, k2⟩ := H2.out j (by rw [← HL.out]; exact hlt)
      have hlt2 : j < w2.length := by rw [← HL.out]; exact hlt
      by_cases he : w1.getD j ByteArray.empty = w2.getD j ByteArray.empty
      · have HE := Lib.hid he
        rw [← he] at k2
        clear he
        obtain ⟨s, hs⟩ : ∃ s, w1.getD j ByteArray.empty = s := ⟨_, rfl⟩
        rw [hs] at k1 k2
        clear hs
        go_wp2
        go_quiet (fail)
        go_wp2
        go_roundg (w1.length - (j + 1))
        case measure => have := HK.out; omega
        case rel =>
          refine ⟨⟨j + 1, by omega, rfl, by go_num, fun m hm => ?_⟩, _, rfl⟩
          by_cases hmj : m < j
          · exact HA.out m hmj
          · obtain rfl : m = j := by omega
            exact HE.out
      · have HE := Lib.hid he
        have hne := bytes_ne he
        have hd : decide (w1 = w2) = false := decide_eq_false (fun h => he (by rw [h]))
        have HD := Lib.hid hd
        clear he hd
        generalize w1.getD j ByteArray.empty = s at *
        generalize w2.getD j ByteArray.empty = t at *
        go_wp2
        go_quiet (fail)
        go_wp2
        go_ret
        exact ⟨by rw [HD.out]; rfl, _, World.drewN_drewN _ _ _⟩
    · obtain rfl : j = w1.length := by omega
      have hd : decide (w1 = w2) = true := decide_eq_true (by
        refine List.ext_getElem HL.out (fun i hi hi' => ?_)
        have := HA.out i hi
        simpa [List.getD, List.getElem?_eq_getElem hi, List.getElem?_eq_getElem hi'] using this)
      have HD := Lib.hid hd
      clear hd
      go_wp2
      go_ret
      exact ⟨by rw [HD.out]; rfl, d, rfl⟩

theorem equalSB_any (v1 v2 : Value) (w1 w2 : List ByteArray) (w : World) (h1 : StrsAt w v1 w1) (h2 : StrsAt w v2 w2) (hlen : w1.length ≤ 100000) :
    Calls Tryz.prog 52 #[v1, v2] w fun e w' => e = .returned (.bool (decide (w1 = w2))) ∧ ∃ n, w' = w.drewN n := by
  by_cases hl : w1.length = w2.length
  · exact equalSB_same v1 v2 w1 w2 w h1 h2 hl hlen
  · rw [decide_eq_false (fun h => hl (by rw [h]))]
    exact equalS_len v1 v2 w1 w2 w h1 h2 hl
set_option maxRecDepth 100000 in
set_option maxHeartbeats 8000000 in
theorem xsameB_go (P P' : Nat → Prop) : ∀ (m : Nat) (x : Rx), SizeOf.sizeOf x < m → rxWt x ≤ 60000 → ∀ (y : Rx) (w : World) (k : Int) (t : Bool) (a : Option Addr) (l c : Nat) (a' : Option Addr) (l' c' : Nat)
    (k4 : Int) (t4 : Bool) (a4 : Option Addr) (l4 c4 : Nat) (a5 : Option Addr) (l5 c5 : Nat),
    ExC P w [.int .i64 k, .bool t, .slice a l c, .slice a' l' c'] x → ExC P' w [.int .i64 k4, .bool t4, .slice a4 l4 c4, .slice a5 l5 c5] y →
    Calls Tryz.prog 29 #[.agg #[.int .i64 k, .bool t, .slice a l c, .slice a' l' c'], .agg #[.int .i64 k4, .bool t4, .slice a4 l4 c4, .slice a5 l5 c5]] w fun e w' => e = .returned (.bool (sameE x y)) ∧ Below w.heap.size w w' := by
  intro m
  induction m with
  | zero => intro x hx; exact absurd hx (Nat.not_lt_zero _)
  | succ m ih =>
    intro x hx hsz y w k t a l c a' l' c' k4 t4 a4 l4 c4 a5 l5 c5 hv hy
    cases x with
    | mk k1 t1 words kids =>
    cases y with
    | mk k2 t2 words2 kids2 =>
      rw [rxWt] at hsz
      obtain ⟨rfl, rfl, hk, xs, hl, hvs⟩ := hv.open
      obtain ⟨rfl, rfl, hk2, xs2, hl2, hvs2⟩ := hy.open
      obtain ⟨_, _, es⟩ := hl.form
      simp only [Value.slice.injEq] at es
      obtain ⟨-, el, -⟩ := es
      subst el
      obtain ⟨_, _, es⟩ := hl2.form
      simp only [Value.slice.injEq] at es
      obtain ⟨-, el, -⟩ := es
      subst el
      obtain ⟨_, _, es⟩ := hk.form
      simp only [Value.slice.injEq] at es
      obtain ⟨-, el, -⟩ := es
      subst el
      obtain ⟨_, _, es⟩ := hk2.form
      simp only [Value.slice.injEq] at es
      obtain ⟨-, el, -⟩ := es
      subst el
      simp only [Rx.mk.sizeOf_spec] at hx
      have hwl : words.length ≤ 100000 := by have := wlen_wt words; omega
      have hkl : kids.length ≤ 1000000 := by have := len_wt kids; omega
      have HQ : Hid (∀ W, Below w.heap.size w W → Calls Tryz.prog 52 #[.slice a words.length c, .slice a4 words2.length c4] W fun e w' => e = .returned (.bool (decide (words = words2))) ∧ ∃ n, w' = W.drewN n) :=
        Lib.hid fun W hb => equalSB_any _ _ words words2 W (hk.step hb).strs (hk2.step hb).strs hwl
      have HF : Hid (∀ W, Below w.heap.size w W → Calls Tryz.prog 53 #[.slice a' kids.length c', .slice a5 kids2.length c5, .func (.func 29) #[] #[]] W fun e w' => e = .returned (.bool (sameEs kids kids2)) ∧ Below W.heap.size W w') :=
        Lib.hid fun W hb => equalFunc_of P P' kids kids2 hkl W a' c' a5 c5 xs xs2 (hl.step hb) (hvs.step hb) (hl2.step hb) (hvs2.step hb) (Lib.hid fun i x y hx' hy' W' hb' k t a l c a' l' c' k4 t4 a4 l4 c4 a5 l5 c5 h1 h2 =>
          ih x (by have := rx_mem hx'; omega) (by have := wt_mem hx'; omega) y W' k t a l c a' l' c' k4 t4 a4 l4 c4 a5 l5 c5 h1 h2)
      have H0 := Lib.hid (TwoX.start w 25 (.int .i64 k) (.bool t) (.slice a words.length c) (.slice a' kids.length c') (.int .i64 k4) (.bool t4) (.slice a4 words2.length c4) (.slice a5 kids2.length c5))
      rw [sameE]
      generalize decide (words = words2) = qw at *
      generalize sameEs kids kids2 = qs at *
      clear hk hl hvs hk2 hl2 hvs2 hv hy hsz ih hx hwl hkl
      obtain ⟨p0, p1, p2, p3⟩ := H0.out.sa.box
      obtain ⟨q0, q1, q2, q3⟩ := H0.out.sb.box
      by_cases e1 : k = k4
      case neg =>
        have hne : (k == k4) = false := beq_eq_false_iff_ne.2 e1
        rw [decide_eq_false e1, Bool.false_and]
        clear e1
        go_enter Tryz.func29, Tryz.ntmps29
        go_wp2_with fail
        go_ret
        exact ⟨rfl, H0.out.below⟩
      subst e1
      rw [decide_eq_true rfl, Bool.true_and]
      by_cases e2 : t = t4
      case neg =>
        rw [decide_eq_false e2, Bool.false_and]
        rcases (by cases t <;> cases t4 <;> simp_all : (t = true ∧ t4 = false) ∨ (t = false ∧ t4 = true)) with ⟨rfl, rfl⟩ | ⟨rfl, rfl⟩
        all_goals
          clear e2
          go_enter Tryz.func29, Tryz.ntmps29
          go_wp2_with fail
          go_ret
          exact ⟨rfl, H0.out.below⟩
      subst e2
      rw [decide_eq_true rfl, Bool.true_and]
      go_enter Tryz.func29, Tryz.ntmps29
      go_wp2_with fail
      refine (HQ.out _ H0.out.below).mono ?_
      rintro e w1 ⟨rfl, nq, rfl⟩
      have H1 := Lib.hid (H0.out.step (below_dr15 _ nq))
      clear p0 p1 p2 p3 q0 q1 q2 q3
      obtain ⟨-, -, -, p3⟩ := H1.out.sa.box
      obtain ⟨-, -, -, q3⟩ := H1.out.sb.box
      generalize World.drewN _ nq = w2 at *
      cases qw with
      | false =>
        go_wp2_with fail
        go_ret
        exact ⟨rfl, H1.out.below⟩
      | true =>
        go_wp2_with fail
        refine (HF.out _ H1.out.below).mono ?_
        rintro e w3 ⟨rfl, b3⟩
        have HB3 := Lib.hid (H1.out.below.trans (b3.mono H1.out.below.size))
        clear p3 q3
        go_wp2_with fail
        go_ret
        exact ⟨rfl, HB3.out⟩
end Go.Proofs.YtocfcnhaecmgpaaGreatDoor

namespace Go.Proofs.YtocfcnhaecmgpaaGreatDoor
open Go.RowKit Go.Extern.Stop Go.Stop Go.Extern Go.WideMaps

/-- An expression and what is known of it: it may be, and its text is read as it. -/
structure Prt (x : Rx) (k n : Nat) : Prop where
  may : checkE x = 0
  wt : rxWt x ≤ 6000
  back : xpR ⟨(textE x).toArray⟩ = .ok k n x
  size : (⟨(textE x).toArray⟩ : ByteArray).size ≤ 65536
theorem prt_of {x : Rx} (h : checkE x = 0) (hw : rxWt x ≤ 6000) : ∃ k n, Prt x k n := by
  obtain ⟨k, n, hb⟩ := xpR_text h
  have hl := textE_len x (by omega)
  exact ⟨k, n, h, hw, hb, by rw [show (⟨(textE x).toArray⟩ : ByteArray).size = (textE x).length by simp [ByteArray.size]]; omega⟩
theorem xp_ok {w w' : World} {k n : Nat} {x : Rx} {e : Ending} (h : XpOut w (.ok k n x) e w') : ∃ k t a1 l1 c1 a2 l2 c2, e = .returned (.tuple #[.agg #[.int .i64 k, .bool t, .slice a1 l1 c1, .slice a2 l2 c2], .nilIface]) ∧ ExC (fun q => w.heap.size ≤ q) w' [.int .i64 k, .bool t, .slice a1 l1 c1, .slice a2 l2 c2] x ∧ Below w.heap.size w w' := by
  obtain ⟨k, t, a1, l1, c1, a2, l2, c2, h1, h2, h3⟩ := h
  exact ⟨k, t, a1, l1, c1, a2, l2, c2, h1, h2, h3⟩

set_option maxRecDepth 100000 in
set_option maxHeartbeats 8000000 in
theorem regexBack_any (x : Rx) (s : ByteArray) (xk : Int) (xt : Bool) (xa1 : Option Addr) (xl1 xc1 : Nat) (xa2 : Option Addr) (xl2 xc2 : Nat) (w : World)
    (hx : ExD (fun _ => True) w [.int .i64 xk, .bool xt, .slice xa1 xl1 xc1, .slice xa2 xl2 xc2] x) (hg : Handle w) :
    Calls Tryz.prog 6 #[.agg #[.int .i64 xk, .bool xt, .slice xa1 xl1 xc1, .slice xa2 xl2 xc2], .string s] w fun e w' => e = .returned (.bool true) ∧ Below w.heap.size w w' := by
  have HL := Lib.hid (fun W (hb : Below w.heap.size w W) => left_go (fun _ => True) _ x (Nat.lt_succ_self _) 600 (by decide) (by decide) W _ _ _ _ _ _ _ _ (hx.step hb).toC)
  have HPO := Lib.hid (fun (hw : rxWt x ≤ 60000) (h0 : checkE x = 0) W (hb : Below w.heap.size w W) => xprint_ok (fun _ => True) x hw h0 W _ _ _ _ _ _ _ _ (hx.step hb))
  have HPN := Lib.hid (fun (hw : rxWt x ≤ 60000) (h0 : checkE x ≠ 0) W (hb : Below w.heap.size w W) => xprint_no (fun _ => True) x hw h0 W _ _ _ _ _ _ _ _ (hx.step hb).toC)
  have HW := Lib.hid (wt_of_left (x := x))
  have HPS0 := Lib.hid (fun (h : s.size ≤ 2000) W => xparse_any s (by omega) W)
  have HPR0 : Hid (s.size ≤ 2000 → ∀ k n Y, xpR s = .ok k n Y → ∃ pk pn, Prt Y pk pn) := Lib.hid (fun h k n Y e => by
    have := xpR_may e
    exact prt_of this.1 (by omega))
  have HG := Lib.hid hg
  have HF0 := Lib.hid (four_new w 25 (.int .i64 xk) (.bool xt) (.slice xa1 xl1 xc1) (.slice xa2 xl2 xc2))
  have HB0 := Lib.hid (sbelow_new w (.cells #[.int .i64 xk, .bool xt, .slice xa1 xl1 xc1, .slice xa2 xl2 xc2] 25))
  have HX := Lib.hid hx
  generalize leftE x 600 = la at *
  generalize xpR s = os at *
  clear hx hg
  go_enter Tryz.func6, Tryz.ntmps6
  go_wp2_with fail
  generalize w.alloc (.cells #[.int .i64 xk, .bool xt, .slice xa1 xl1 xc1, .slice xa2 xl2 xc2] 25) = w1 at *
  refine (awake15_any _ (HG.out.below HB0.out)).mono ?_
  rintro e w2 ⟨rfl, b2⟩
  have HF2 := Lib.hid (HF0.out.step b2)
  have HB2 := Lib.hid (HB0.out.trans (b2.mono HB0.out.size))
  clear b2 HF0 HB0
  obtain ⟨p0, p1, p2, p3⟩ := HF2.out.box
  go_wp2_with fail
  refine (HL.out _ HB2.out).mono ?_
  rintro e w3 ⟨rfl, b3⟩
  have HF3 := Lib.hid (HF2.out.step b3)
  have HB3 := Lib.hid (HB2.out.trans (b3.mono HB2.out.size))
  clear b3 HF2 HB2 p0 p1 p2 p3 HL
  by_cases hla : la < 0
  · go_wp2_with fail
    go_ret
    exact ⟨rfl, HB3.out⟩
  by_cases hs : 2000 < s.size
  · go_wp2_with fail
    go_ret
    exact ⟨rfl, HB3.out⟩
  have hw := HW.out (by omega)
  have HPS := Lib.hid (HPS0.out (by omega))
  have HPR := Lib.hid (HPR0.out (by omega))
  obtain ⟨p0, p1, p2, p3⟩ := HF3.out.box
  clear HW HPS0 HPR0
  by_cases h0 : checkE x = 0
  · obtain ⟨pk, pn, hp⟩ := prt_of h0 (by omega)
    have HP := Lib.hid hp
    have HPO1 := Lib.hid (HPO.out (by omega) h0)
    have HPT := Lib.hid (fun W => xparse_any ⟨(textE x).toArray⟩ HP.out.size W)
    rw [HP.out.back] at HPT
    have HSX1 := Lib.hid (fun (P' : Nat → Prop) W => xsameB_go (fun _ => True) P' _ x (Nat.lt_succ_self _) (by omega) x W)
    rw [sameE_refl] at HSX1
    generalize textE x = tx at *
    clear hp HP HPO HPN h0 hw
    go_wp2_with fail
    refine (HPO1.out _ HB3.out).mono ?_
    rintro e w4 ⟨rfl, b4⟩
    have HF4 := Lib.hid (HF3.out.step b4)
    have HB4 := Lib.hid (HB3.out.trans (b4.mono HB3.out.size))
    clear b4 HF3 HB3 p0 p1 p2 p3 HPO1
    go_wp2_with fail
    refine (HPT.out _).mono ?_
    intro e w5 hz
    obtain ⟨tk, tt, ta1, tl1, tc1, ta2, tl2, tc2, rfl, hts, b5⟩ := xp_ok hz
    have bt := sbelow_new w5 (.cells #[.int .i64 tk, .bool tt, .slice ta1 tl1 tc1, .slice ta2 tl2 tc2] 25)
    have HVT := Lib.hid (hts.step bt)
    have HFT := Lib.hid (four_new w5 25 (.int .i64 tk) (.bool tt) (.slice ta1 tl1 tc1) (.slice ta2 tl2 tc2))
    have HF6 := Lib.hid ((HF4.out.step b5).step bt)
    have HB6 := Lib.hid ((HB4.out.trans (b5.mono HB4.out.size)).trans (bt.mono (HB4.out.trans (b5.mono HB4.out.size)).size))
    clear hz hts bt b5 HPT HF4 HB4
    generalize hw6 : w5.alloc (.cells #[.int .i64 tk, .bool tt, .slice ta1 tl1 tc1, .slice ta2 tl2 tc2] 25) = w6 at *
    obtain ⟨p0, p1, p2, p3⟩ := HF6.out.box
    obtain ⟨q0, q1, q2, q3⟩ := HFT.out.box
    go_wp2_with fail
    refine (HSX1.out _ w6 _ _ _ _ _ _ _ _ _ _ _ _ _ _ _ _ (HX.out.step HB6.out).toC HVT.out).mono ?_
    rintro e w7 ⟨rfl, b7⟩
    have HB7 := Lib.hid (HB6.out.trans (b7.mono HB6.out.size))
    clear b7 HB6 HF6 HFT HVT HSX1 p0 p1 p2 p3 q0 q1 q2 q3 hw6 HX
    go_wp2_with fail
    refine (HPS.out _).mono ?_
    intro e v1 hy
    obtain ⟨yk, yt, ya1, yl1, yc1, ya2, yl2, yc2, ey, rfl, hys, c1⟩ := xp_view hy
    have bn := sbelow_new v1 (.cells #[.int .i64 yk, .bool yt, .slice ya1 yl1 yc1, .slice ya2 yl2 yc2] 25)
    have HY2 := Lib.hid (hys.step bn)
    have HFY2 := Lib.hid (four_new v1 25 (.int .i64 yk) (.bool yt) (.slice ya1 yl1 yc1) (.slice ya2 yl2 yc2))
    have HV2 := Lib.hid ((HB7.out.trans (c1.mono HB7.out.size)).trans (bn.mono (HB7.out.trans (c1.mono HB7.out.size)).size))
    clear hy hys bn c1 HPS
    generalize hv2 : v1.alloc (.cells #[.int .i64 yk, .bool yt, .slice ya1 yl1 yc1, .slice ya2 yl2 yc2] 25) = v2 at *
    cases os with
    | er c a =>
      obtain ⟨fb, rfl, hf⟩ := HY2.out.er c a rfl
      clear hf
      unfold pf
      go_wp2_with fail
      go_ret
      exact ⟨rfl, HV2.out⟩
    | ok sk sn Y =>
      obtain ⟨rfl, hvy⟩ := HY2.out.ok sk sn Y rfl
      obtain ⟨pk, pn, hp⟩ := HPR.out sk sn Y rfl
      have HP := Lib.hid hp
      have HVY := Lib.hid hvy
      obtain ⟨p0, p1, p2, p3⟩ := HFY2.out.box
      have HPY := Lib.hid (xprint_ok _ Y (by have := HP.out.wt; omega) HP.out.may v2 _ _ _ _ _ _ _ _ HVY.out.toD)
      have HPZ := Lib.hid (fun W => xparse_any ⟨(textE Y).toArray⟩ HP.out.size W)
      rw [HP.out.back] at HPZ
      have HPU := Lib.hid (fun (P : Nat → Prop) W (k : Int) (t : Bool) (a : Option Addr) (l c : Nat) (a' : Option Addr) (l' c' : Nat) (h : ExC P W [.int .i64 k, .bool t, .slice a l c, .slice a' l' c'] Y) => xprint_ok P Y (by have := HP.out.wt; omega) HP.out.may W k t a l c a' l' c' h.toD)
      have HSM := Lib.hid (fun (P P' : Nat → Prop) => xsameB_go P P' _ Y (Nat.lt_succ_self _) (by have := HP.out.wt; omega) Y)
      rw [sameE_refl] at HSM
      generalize textE Y = ty at *
      clear hvy hp HY2
      go_wp2_with fail
      refine HPY.out.mono ?_
      rintro e v3 ⟨rfl, c3⟩
      have HVY3 := Lib.hid (HVY.out.step c3)
      have HFY3 := Lib.hid (HFY2.out.step c3)
      have HV3 := Lib.hid (HV2.out.trans (c3.mono HV2.out.size))
      clear c3 HVY HFY2 HV2 p0 p1 p2 p3 HPY
      go_wp2_with fail
      refine (HPZ.out _).mono ?_
      intro e v4 hz
      obtain ⟨zk, zt, za1, zl1, zc1, za2, zl2, zc2, rfl, hzs, c4⟩ := xp_ok hz
      have bz := sbelow_new v4 (.cells #[.int .i64 zk, .bool zt, .slice za1 zl1 zc1, .slice za2 zl2 zc2] 25)
      have HVZ5 := Lib.hid (hzs.step bz)
      have HFZ5 := Lib.hid (four_new v4 25 (.int .i64 zk) (.bool zt) (.slice za1 zl1 zc1) (.slice za2 zl2 zc2))
      have HVY5 := Lib.hid ((HVY3.out.step c4).step bz)
      have HFY5 := Lib.hid ((HFY3.out.step c4).step bz)
      have HV5 := Lib.hid ((HV3.out.trans (c4.mono HV3.out.size)).trans (bz.mono (HV3.out.trans (c4.mono HV3.out.size)).size))
      clear hz hzs bz c4 HPZ HVY3 HFY3 HV3
      generalize hv5 : v4.alloc (.cells #[.int .i64 zk, .bool zt, .slice za1 zl1 zc1, .slice za2 zl2 zc2] 25) = v5 at *
      obtain ⟨r0, r1, r2, r3⟩ := HFZ5.out.box
      go_wp2_with fail
      refine (HPU.out _ _ _ _ _ _ _ _ _ _ HVZ5.out).mono ?_
      rintro e v6 ⟨rfl, c6⟩
      have HVZ6 := Lib.hid (HVZ5.out.step c6)
      have HVY6 := Lib.hid (HVY5.out.step c6)
      have HFZ6 := Lib.hid (HFZ5.out.step c6)
      have HFY6 := Lib.hid (HFY5.out.step c6)
      have HV6 := Lib.hid (HV5.out.trans (c6.mono HV5.out.size))
      clear c6 r0 r1 r2 r3 HVZ5 HVY5 HFZ5 HFY5 HV5 hv5
      obtain ⟨r0, r1, r2, r3⟩ := HFZ6.out.box
      obtain ⟨p0, p1, p2, p3⟩ := HFY6.out.box
      go_wp2_with fail
      refine (HSM.out _ _ v6 _ _ _ _ _ _ _ _ _ _ _ _ _ _ _ _ HVY6.out HVZ6.out).mono ?_
      rintro e v7 ⟨rfl, c7⟩
      go_wp2_with fail
      go_ret
      exact ⟨rfl, HV6.out.trans (c7.mono HV6.out.size)⟩
  · have HPN1 := Lib.hid (HPN.out (by omega) h0)
    generalize checkE x = z at *
    clear HPO HPN h0 hw
    go_wp2_with fail
    refine (HPN1.out _ HB3.out).mono ?_
    rintro e w4 ⟨fb, rfl, hf, b4⟩
    have HB4 := Lib.hid (HB3.out.trans (b4.mono HB3.out.size))
    clear b4 HF3 HB3 p0 p1 p2 p3 HPN1 hf HX
    unfold pf
    go_wp2_with fail
    refine (HPS.out _).mono ?_
    intro e v1 hy
    obtain ⟨yk, yt, ya1, yl1, yc1, ya2, yl2, yc2, ey, rfl, hys, c1⟩ := xp_view hy
    have bn := sbelow_new v1 (.cells #[.int .i64 yk, .bool yt, .slice ya1 yl1 yc1, .slice ya2 yl2 yc2] 25)
    have HY2 := Lib.hid (hys.step bn)
    have HFY2 := Lib.hid (four_new v1 25 (.int .i64 yk) (.bool yt) (.slice ya1 yl1 yc1) (.slice ya2 yl2 yc2))
    have HV2 := Lib.hid ((HB4.out.trans (c1.mono HB4.out.size)).trans (bn.mono (HB4.out.trans (c1.mono HB4.out.size)).size))
    clear hy hys bn c1 HPS
    generalize hv2 : v1.alloc (.cells #[.int .i64 yk, .bool yt, .slice ya1 yl1 yc1, .slice ya2 yl2 yc2] 25) = v2 at *
    cases os with
    | er c a =>
      obtain ⟨fb, rfl, hf⟩ := HY2.out.er c a rfl
      clear hf
      unfold pf
      go_wp2_with fail
      go_ret
      exact ⟨rfl, HV2.out⟩
    | ok sk sn Y =>
      obtain ⟨rfl, hvy⟩ := HY2.out.ok sk sn Y rfl
      obtain ⟨pk, pn, hp⟩ := HPR.out sk sn Y rfl
      have HP := Lib.hid hp
      have HVY := Lib.hid hvy
      obtain ⟨p0, p1, p2, p3⟩ := HFY2.out.box
      have HPY := Lib.hid (xprint_ok _ Y (by have := HP.out.wt; omega) HP.out.may v2 _ _ _ _ _ _ _ _ HVY.out.toD)
      have HPZ := Lib.hid (fun W => xparse_any ⟨(textE Y).toArray⟩ HP.out.size W)
      rw [HP.out.back] at HPZ
      have HPU := Lib.hid (fun (P : Nat → Prop) W (k : Int) (t : Bool) (a : Option Addr) (l c : Nat) (a' : Option Addr) (l' c' : Nat) (h : ExC P W [.int .i64 k, .bool t, .slice a l c, .slice a' l' c'] Y) => xprint_ok P Y (by have := HP.out.wt; omega) HP.out.may W k t a l c a' l' c' h.toD)
      have HSM := Lib.hid (fun (P P' : Nat → Prop) => xsameB_go P P' _ Y (Nat.lt_succ_self _) (by have := HP.out.wt; omega) Y)
      rw [sameE_refl] at HSM
      generalize textE Y = ty at *
      clear hvy hp HY2
      go_wp2_with fail
      refine HPY.out.mono ?_
      rintro e v3 ⟨rfl, c3⟩
      have HVY3 := Lib.hid (HVY.out.step c3)
      have HFY3 := Lib.hid (HFY2.out.step c3)
      have HV3 := Lib.hid (HV2.out.trans (c3.mono HV2.out.size))
      clear c3 HVY HFY2 HV2 p0 p1 p2 p3 HPY
      go_wp2_with fail
      refine (HPZ.out _).mono ?_
      intro e v4 hz
      obtain ⟨zk, zt, za1, zl1, zc1, za2, zl2, zc2, rfl, hzs, c4⟩ := xp_ok hz
      have bz := sbelow_new v4 (.cells #[.int .i64 zk, .bool zt, .slice za1 zl1 zc1, .slice za2 zl2 zc2] 25)
      have HVZ5 := Lib.hid (hzs.step bz)
      have HFZ5 := Lib.hid (four_new v4 25 (.int .i64 zk) (.bool zt) (.slice za1 zl1 zc1) (.slice za2 zl2 zc2))
      have HVY5 := Lib.hid ((HVY3.out.step c4).step bz)
      have HFY5 := Lib.hid ((HFY3.out.step c4).step bz)
      have HV5 := Lib.hid ((HV3.out.trans (c4.mono HV3.out.size)).trans (bz.mono (HV3.out.trans (c4.mono HV3.out.size)).size))
      clear hz hzs bz c4 HPZ HVY3 HFY3 HV3
      generalize hv5 : v4.alloc (.cells #[.int .i64 zk, .bool zt, .slice za1 zl1 zc1, .slice za2 zl2 zc2] 25) = v5 at *
      obtain ⟨r0, r1, r2, r3⟩ := HFZ5.out.box
      go_wp2_with fail
      refine (HPU.out _ _ _ _ _ _ _ _ _ _ HVZ5.out).mono ?_
      rintro e v6 ⟨rfl, c6⟩
      have HVZ6 := Lib.hid (HVZ5.out.step c6)
      have HVY6 := Lib.hid (HVY5.out.step c6)
      have HFZ6 := Lib.hid (HFZ5.out.step c6)
      have HFY6 := Lib.hid (HFY5.out.step c6)
      have HV6 := Lib.hid (HV5.out.trans (c6.mono HV5.out.size))
      clear c6 r0 r1 r2 r3 HVZ5 HVY5 HFZ5 HFY5 HV5 hv5
      obtain ⟨r0, r1, r2, r3⟩ := HFZ6.out.box
      obtain ⟨p0, p1, p2, p3⟩ := HFY6.out.box
      go_wp2_with fail
      refine (HSM.out _ _ v6 _ _ _ _ _ _ _ _ _ _ _ _ _ _ _ _ HVY6.out HVZ6.out).mono ?_
      rintro e v7 ⟨rfl, c7⟩
      go_wp2_with fail
      go_ret
      exact ⟨rfl, HV6.out.trans (c7.mono HV6.out.size)⟩
end Go.Proofs.YtocfcnhaecmgpaaGreatDoor
