/-
  Whether two expressions are the same: the document's answer and package regex's, by contract; how many expressions.
-/
import Derived.Test.YtpccdhkghlbhkaaGreatDoorRxL
import Derived.Deep.RegionHeld3
import Derived.Deep.QuietTactic
import Derived.BigQuiet
namespace Go.Proofs.YtpccdhkghlbhkaaGreatDoor
open Go.RowKit Go.Extern.Stop Go.Stop Go.Extern

theorem below_dr15 (w : World) (n : Nat) : Below w.heap.size w (w.drewN n) := by
  induction n with
  | zero => exact Below.refl _ _
  | succ n ih => exact ⟨ih.os, ih.tape, ih.output, ih.size, ih.block⟩
/-- On the way: the two boxes. -/
structure TwoX (w0 : World) (x0 x1 x2 x3 y0 y1 y2 y3 : Value) (w : World) : Prop where
  sa : Four w w0.heap.size 0 x0 x1 x2 x3
  sb : Four w (w0.heap.size + 1) 0 y0 y1 y2 y3
  below : Below w0.heap.size w0 w
section
variable {w0 w w' : World} {x0 x1 x2 x3 y0 y1 y2 y3 : Value}
theorem TwoX.step (h : TwoX w0 x0 x1 x2 x3 y0 y1 y2 y3 w) (hb : Below w.heap.size w w') : TwoX w0 x0 x1 x2 x3 y0 y1 y2 y3 w' :=
  ⟨h.sa.step hb, h.sb.step hb, h.below.trans (hb.mono h.below.size)⟩
theorem TwoX.start (w : World) (ty : TypeId) (x0 x1 x2 x3 y0 y1 y2 y3 : Value) : TwoX w x0 x1 x2 x3 y0 y1 y2 y3 ((w.alloc (.cells #[x0, x1, x2, x3] ty)).alloc (.cells #[y0, y1, y2, y3] ty)) := by
  have h1 := four_new w ty x0 x1 x2 x3
  have h2 := four_new (w.alloc (.cells #[x0, x1, x2, x3] ty)) ty y0 y1 y2 y3
  rw [World.size_alloc] at h2
  have b1 := sbelow_new w (.cells #[x0, x1, x2, x3] ty)
  have b2 := sbelow_new (w.alloc (.cells #[x0, x1, x2, x3] ty)) (.cells #[y0, y1, y2, y3] ty)
  exact ⟨h1.step b2, h2, b1.trans (b2.mono b1.size)⟩
end
/-- On the way in a round: both elements, and both rows' heads. -/
structure ElX (w0 : World) (b1 o1 : Nat) (x0 x1 x2 x3 : Value) (b2 o2 : Nat) (y0 y1 y2 y3 r1 r2 : Value) (w : World) : Prop where
  e1 : Four w b1 o1 x0 x1 x2 x3
  e2 : Four w b2 o2 y0 y1 y2 y3
  h1 : w.cell? ⟨w0.heap.size, 3, none⟩ = some r1
  h2 : w.cell? ⟨w0.heap.size + 1, 3, none⟩ = some r2
  l1 : w0.heap.size < w.heap.size
  l2 : w0.heap.size + 1 < w.heap.size
section
variable {w0 w w' : World} {b1 o1 b2 o2 : Nat} {x0 x1 x2 x3 y0 y1 y2 y3 r1 r2 : Value}
theorem ElX.step (h : ElX w0 b1 o1 x0 x1 x2 x3 b2 o2 y0 y1 y2 y3 r1 r2 w) (hb : Below w.heap.size w w') : ElX w0 b1 o1 x0 x1 x2 x3 b2 o2 y0 y1 y2 y3 r1 r2 w' :=
  ⟨h.e1.step hb, h.e2.step hb, (hb.cell (p := ⟨w0.heap.size, 3, none⟩) h.l1).trans h.h1, (hb.cell (p := ⟨w0.heap.size + 1, 3, none⟩) h.l2).trans h.h2, Nat.lt_of_lt_of_le h.l1 hb.size, Nat.lt_of_lt_of_le h.l2 hb.size⟩
theorem ElX.cells (h : ElX w0 b1 o1 x0 x1 x2 x3 b2 o2 y0 y1 y2 y3 r1 r2 w) :
    w.cell? ⟨w0.heap.size, 3, none⟩ = some r1 ∧ w.cell? ⟨w0.heap.size + 1, 3, none⟩ = some r2 ∧ w.cell? ⟨b1, o1, none⟩ = some x0 ∧ w.cell? ⟨b1, o1 + 1, none⟩ = some x1 ∧ w.cell? ⟨b1, o1 + 2, none⟩ = some x2 ∧ w.cell? ⟨b1, o1 + 3, none⟩ = some x3 ∧ w.cell? ⟨b2, o2, none⟩ = some y0 ∧ w.cell? ⟨b2, o2 + 1, none⟩ = some y1 ∧ w.cell? ⟨b2, o2 + 2, none⟩ = some y2 ∧ w.cell? ⟨b2, o2 + 3, none⟩ = some y3 := by
  obtain ⟨⟨-, g0, g1, g2, g3⟩, ⟨-, k0, k1, k2, k3⟩, h1, h2, -, -⟩ := h
  exact ⟨h1, h2, g0, g1, g2, g3, k0, k1, k2, k3⟩
end
theorem ret_bx {a b : Bool} (h : a = b) : Ending.returned (.bool a) = .returned (.bool b) := by rw [h]

set_option maxRecDepth 100000 in
set_option maxHeartbeats 8000000 in
theorem rxsame_go (P P' : Nat → Prop) : ∀ (m : Nat) (x : Rx), SizeOf.sizeOf x < m → rxWt x ≤ 1000000 → ∀ (y : Rx) (w : World) (k : Int) (t : Bool) (a : Option Addr) (l c : Nat) (a' : Option Addr) (l' c' : Nat)
    (k4 : Int) (t4 : Bool) (a4 : Option Addr) (l4 c4 : Nat) (a5 : Option Addr) (l5 c5 : Nat),
    ExC P w [.int .i64 k, .bool t, .slice a l c, .slice a' l' c'] x → ExC P' w [.int .i64 k4, .bool t4, .slice a4 l4 c4, .slice a5 l5 c5] y →
    Calls Tryz.prog 9 #[.agg #[.int .i64 k, .bool t, .slice a l c, .slice a' l' c'], .agg #[.int .i64 k4, .bool t4, .slice a4 l4 c4, .slice a5 l5 c5]] w fun e w' => e = .returned (.bool (sameE x y)) ∧ Below w.heap.size w w' := by
  intro m
  induction m with
  | zero => intro x hx; exact absurd hx (Nat.not_lt_zero _)
  | succ m ih =>
    intro x hx hsz y w k t a l c a' l' c' k4 t4 a4 l4 c4 a5 l5 c5 hv hy
    have IH := Lib.hid ih
    clear ih
    cases x with
    | mk k1 t1 words kids =>
    cases y with
    | mk k2 t2 words2 kids2 =>
      rw [rxWt] at hsz
      obtain ⟨rfl, rfl, hk, xs, hl, hvs⟩ := hv.open
      obtain ⟨rfl, rfl, hk2, xs2, hl2, hvs2⟩ := hy.open
      have HROW := Lib.hid hl
      have HVS := Lib.hid hvs
      have HROW2 := Lib.hid hl2
      have HVS2 := Lib.hid hvs2
      have HK := Lib.hid hk
      have HK2 := Lib.hid hk2
      obtain ⟨_, _, es⟩ := hl.form
      simp only [Value.slice.injEq] at es
      obtain ⟨-, el, -⟩ := es
      subst el
      obtain ⟨_, _, es⟩ := hl2.form
      simp only [Value.slice.injEq] at es
      obtain ⟨-, el, -⟩ := es
      subst el
      obtain ⟨_, _, es⟩ := hk.form
      simp only [Value.slice.injEq] at es
      obtain ⟨-, el, -⟩ := es
      subst el
      obtain ⟨_, _, es⟩ := hk2.form
      simp only [Value.slice.injEq] at es
      obtain ⟨-, el, -⟩ := es
      subst el
      have hwl : words.length ≤ 1000000 := by have := wlen_wt words; omega
      have hkl : kids.length ≤ 1000000 := by have := len_wt kids; omega
      have hks : rxsWt kids ≤ 1000000 := by omega
      have HKS := Lib.hid hks
      clear hk hl hvs hk2 hl2 hvs2 hv hy hsz hks
      simp only [Rx.mk.sizeOf_spec] at hx
      have HX := Lib.hid hx
      have H0 := Lib.hid (TwoX.start w 33 (.int .i64 k) (.bool t) (.slice a words.length c) (.slice a' kids.length c') (.int .i64 k4) (.bool t4) (.slice a4 words2.length c4) (.slice a5 kids2.length c5))
      clear hx
      obtain ⟨p0, p1, p2, p3⟩ := H0.out.sa.box
      obtain ⟨q0, q1, q2, q3⟩ := H0.out.sb.box
      by_cases e1 : k = k4
      case neg =>
        have hne : (k != k4) = true := bne_iff_ne.2 e1
        have HE : Hid (sameE (.mk k t words kids) (.mk k4 t4 words2 kids2) = false) := Lib.hid (by rw [sameE, decide_eq_false e1, Bool.false_and])
        clear e1
        go_enter Tryz.func9, Tryz.ntmps9
        go_wp2_with fail
        go_ret
        exact ⟨ret_bx HE.out.symm, H0.out.below⟩
      subst e1
      by_cases e2 : t = t4
      case neg =>
        have HE : Hid (sameE (.mk k t words kids) (.mk k t4 words2 kids2) = false) := Lib.hid (by rw [sameE, decide_eq_false e2, Bool.false_and, Bool.and_false])
        rcases (by cases t <;> cases t4 <;> simp_all : (t = true ∧ t4 = false) ∨ (t = false ∧ t4 = true)) with ⟨rfl, rfl⟩ | ⟨rfl, rfl⟩
        all_goals
          clear e2
          go_enter Tryz.func9, Tryz.ntmps9
          go_wp2_with fail
          go_ret
          exact ⟨ret_bx HE.out.symm, H0.out.below⟩
      subst e2
      by_cases e3 : words.length = words2.length
      case neg =>
        have hne : ((words.length : Int) != words2.length) = true := bne_iff_ne.2 (by omega)
        have HE : Hid (sameE (.mk k t words kids) (.mk k t words2 kids2) = false) := Lib.hid (by rw [sameE, decide_eq_false (fun h => e3 (by rw [h]) : ¬ words = words2), Bool.false_and, Bool.and_false, Bool.and_false])
        clear e3
        go_enter Tryz.func9, Tryz.ntmps9
        go_wp2_with fail
        go_ret
        exact ⟨ret_bx HE.out.symm, H0.out.below⟩
      by_cases e4 : kids.length = kids2.length
      case neg =>
        have hne : ((kids.length : Int) != kids2.length) = true := bne_iff_ne.2 (by omega)
        have hne3 : ((words.length : Int) != words2.length) = false := by rw [e3]; simp
        have HE : Hid (sameE (.mk k t words kids) (.mk k t words2 kids2) = false) := Lib.hid (by rw [sameE, sameEs_len _ _ e4, Bool.and_false, Bool.and_false, Bool.and_false])
        clear e4 e3
        go_enter Tryz.func9, Tryz.ntmps9
        go_wp2_with fail
        go_ret
        exact ⟨ret_bx HE.out.symm, H0.out.below⟩
      have hne3 : ((words.length : Int) != words2.length) = false := by rw [e3]; simp
      have hne4 : ((kids.length : Int) != kids2.length) = false := by rw [e4]; simp
      have HE3 := Lib.hid e3
      have HE4 := Lib.hid e4
      have HS : Hid (sameE (.mk k t words kids) (.mk k t words2 kids2) = (decide (words = words2) && sameEs kids kids2)) := Lib.hid (by rw [sameE, decide_eq_true rfl, Bool.true_and, decide_eq_true rfl, Bool.true_and])
      clear e3 e4
      go_enter Tryz.func9, Tryz.ntmps9
      go_wp2_with fail
      generalize hW0 : ((w.alloc _).alloc _) = W0 at *
      clear hW0
      clear p0 p1 p2 p3 q0 q1 q2 q3
      go_loopg [40] words.length (fun g v wr => ∃ i : Nat, i ≤ words.length ∧ g = words.length - i ∧ v = .int .i64 i ∧ decide (words.drop i = words2.drop i) = decide (words = words2) ∧ TwoX w (.int .i64 k) (.bool t) (.slice a words.length c) (.slice a' kids.length c') (.int .i64 k) (.bool t) (.slice a4 words2.length c4) (.slice a5 kids2.length c5) wr)
      case atStart => exact ⟨0, Nat.zero_le _, by omega, rfl, by rw [List.drop_zero, List.drop_zero], H0.out⟩
      case round =>
        clear H0
        obtain ⟨i, hi, hgk, rfl, hd, hSi⟩ := hrel
        have HD := Lib.hid hd
        have H1 := Lib.hid hSi
        clear hd hSi
        obtain ⟨-, -, p2, p3⟩ := H1.out.sa.box
        obtain ⟨-, -, q2, q3⟩ := H1.out.sb.box
        by_cases hlt : i < words.length
        · have hlt2 : i < words2.length := by rw [← HE3.out]; exact hlt
          obtain ⟨y1, hy1⟩ : ∃ y, words[i]? = some y := ⟨_, List.getElem?_eq_getElem hlt⟩
          obtain ⟨y2, hy2⟩ : ∃ y, words2[i]? = some y := ⟨_, List.getElem?_eq_getElem hlt2⟩
          have hd := HD.out
          rw [words_drop hy1 hy2] at hd
          have HD2 := Lib.hid hd
          obtain ⟨b1, o1, rfl, -, e1⟩ := text_at HK.out hy1 H1.out.below
          obtain ⟨b2, o2, rfl, -, e2⟩ := text_at HK2.out hy2 H1.out.below
          clear hy1 hy2 hd
          by_cases he : y1 = y2
          · subst he
            rw [decide_eq_true rfl, Bool.true_and] at HD2
            clear p3 q3
            go_wp2_with fail
            go_quiet (fail)
            go_wp2_with fail
            go_roundg (words.length - (i + 1))
            case measure => omega
            case rel => exact ⟨i + 1, by omega, rfl, by first | rfl | (rw [w64x _ (by omega)]; rfl), HD2.out, H1.out.step (below_dr15 _ _)⟩
          · have hne := bytes_ne he
            rw [decide_eq_false he, Bool.false_and] at HD2
            clear he p3 q3
            go_wp2_with fail
            go_quiet (fail)
            go_wp2_with fail
            go_ret
            exact ⟨ret_bx (by rw [HS.out, ← HD2.out, Bool.false_and]), (H1.out.step (below_dr15 _ _)).below⟩
        · obtain rfl : i = words.length := by omega
          have hd := HD.out
          rw [List.drop_length, HE3.out, List.drop_length, decide_eq_true rfl] at hd
          have hs := HS.out
          rw [← hd, Bool.true_and] at hs
          have HS2 := Lib.hid hs
          clear hd hs HD HS
          go_wp2_with fail
          clear p2 p3 q2 q3
          generalize wr = wr0 at *
          go_loopg [58] kids.length (fun g v wr => ∃ i : Nat, i ≤ kids.length ∧ g = kids.length - i ∧ v = .int .i64 i ∧ sameEs (kids.drop i) (kids2.drop i) = sameEs kids kids2 ∧ Below wr0.heap.size wr0 wr)
          case atStart => exact ⟨0, Nat.zero_le _, by omega, rfl, by rw [List.drop_zero, List.drop_zero], Below.refl _ _⟩
          case round =>
            obtain ⟨i, hi, hgk, rfl, hd, hbel⟩ := hrel
            have hSi := H1.out.step hbel
            obtain ⟨-, -, -, p3⟩ := hSi.sa.box
            obtain ⟨-, -, -, q3⟩ := hSi.sb.box
            by_cases hlt : i < kids.length
            · have hlt2 : i < kids2.length := by rw [← HE4.out]; exact hlt
              obtain ⟨x, hx⟩ : ∃ x, kids[i]? = some x := ⟨_, List.getElem?_eq_getElem hlt⟩
              obtain ⟨y, hy⟩ : ∃ y, kids2[i]? = some y := ⟨_, List.getElem?_eq_getElem hlt2⟩
              have hwx := wt_mem hx
              have hsx : SizeOf.sizeOf x < m := by have := rx_mem hx; have := HX.out; omega
              have hvsz : rxWt x ≤ 1000000 := by have := HKS.out; omega
              obtain ⟨b1, o1, k6, t6, a6, l6, c6, a7, l7, c7, rfl, hvx, hE1⟩ := ex_at HROW.out HVS.out hx hSi.below
              obtain ⟨b2, o2, k8, t8, a8, l8, c8, a9, l9, c9, rfl, hvy, hE2⟩ := ex_at HROW2.out HVS2.out hy hSi.below
              have HC := Lib.hid (fun W (hb : Below w.heap.size w W) => IH.out x hsx hvsz y W _ _ _ _ _ _ _ _ _ _ _ _ _ _ _ _ (hvx.step hb) (hvy.step hb))
              have hSi2 := hSi.step (Below.refl _ _).drew
              have hI : ElX w b1 (o1 + i * 4) (.int .i64 k6) (.bool t6) (.slice a6 l6 c6) (.slice a7 l7 c7) b2 (o2 + i * 4) (.int .i64 k8) (.bool t8) (.slice a8 l8 c8) (.slice a9 l9 c9)
                  (.slice (some ⟨b1, o1, none⟩) kids.length c') (.slice (some ⟨b2, o2, none⟩) kids2.length c5) wr := ⟨hE1, hE2, hSi.sa.2.2.2.2, hSi.sb.2.2.2.2, hSi.sa.1, hSi.sb.1⟩
              replace hI := hI.step (Below.refl _ _).drew
              have hBW := hSi2.below
              have hBel := hbel.trans ((Below.refl wr.heap.size wr).drew.mono hbel.size)
              rw [sameEs_drop hx hy] at hd
              have HD := Lib.hid hd
              generalize hsb : sameE x y = sb at *
              clear hx hy hwx hsx hvsz hvx hvy hE1 hE2 hSi2 hSi hbel p3 q3 hsb hd
              go_wp2_with fail
              have kk := hI.cells
              go_region_held3 (fun W => W.cell? ⟨w.heap.size, 3, none⟩ = some (.slice (some ⟨b1, o1, none⟩) kids.length c') ∧ W.cell? ⟨w.heap.size + 1, 3, none⟩ = some (.slice (some ⟨b2, o2, none⟩) kids2.length c5) ∧ W.cell? ⟨b1, o1 + i * 4, none⟩ = some (.int .i64 k6) ∧ W.cell? ⟨b1, o1 + i * 4 + 1, none⟩ = some (.bool t6) ∧ W.cell? ⟨b1, o1 + i * 4 + 2, none⟩ = some (.slice a6 l6 c6) ∧ W.cell? ⟨b1, o1 + i * 4 + 3, none⟩ = some (.slice a7 l7 c7) ∧ W.cell? ⟨b2, o2 + i * 4, none⟩ = some (.int .i64 k8) ∧ W.cell? ⟨b2, o2 + i * 4 + 1, none⟩ = some (.bool t8) ∧ W.cell? ⟨b2, o2 + i * 4 + 2, none⟩ = some (.slice a8 l8 c8) ∧ W.cell? ⟨b2, o2 + i * 4 + 3, none⟩ = some (.slice a9 l9 c9))
                (first | exact kk | exact hI.cells)
                ((go_at_call 9; refine (HC.out _ hBW).mono ?_; rintro e w4 ⟨rfl, b4⟩; replace hI := hI.step b4; replace hBW := hBW.trans (b4.mono hBW.size); replace hBel := hBel.trans (b4.mono hBel.size); clear b4))
              cases sb with
              | true =>
                rw [Bool.true_and] at HD
                go_wp2_with fail
                go_roundg (kids.length - (i + 1))
                case measure => omega
                case rel => exact ⟨i + 1, by omega, rfl, by first | rfl | (rw [w64x _ (by omega)]; rfl), HD.out, hBel⟩
              | false =>
                rw [Bool.false_and] at HD
                go_wp2_with fail
                go_ret
                exact ⟨ret_bx (by rw [HS2.out, ← HD.out]), hBW⟩
            · obtain rfl : i = kids.length := by omega
              rw [List.drop_length, HE4.out, List.drop_length, sameEs] at hd
              have HD := Lib.hid hd
              clear hd
              go_wp2_with fail
              go_ret
              exact ⟨ret_bx (by rw [HS2.out, ← HD.out]), hSi.below⟩

/-! ### package regex's -/
end Go.Proofs.YtpccdhkghlbhkaaGreatDoor
