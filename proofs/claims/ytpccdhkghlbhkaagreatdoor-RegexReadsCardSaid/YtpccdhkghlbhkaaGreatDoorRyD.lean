/-
  What is wrong with an expression: package regex's ownFault, fault, Check, by contract.
-/
import Derived.Test.YtpccdhkghlbhkaaGreatDoorGo
import Derived.Test.YtpccdhkghlbhkaaGreatDoorGd
namespace Go.Proofs.YtpccdhkghlbhkaaGreatDoor
open Go.RowKit Go.Extern.Stop Go.Stop Go.Extern

set_option maxRecDepth 100000 in
set_option maxHeartbeats 8000000 in
theorem ownFault_any (P : Nat → Prop) (k : Int) (t : Bool) (ws : List ByteArray) (ks : List Rx) (hwt : wordsWt ws ≤ 60000) (w : World) (a : Option Addr) (l c : Nat) (a' : Option Addr) (l' c' : Nat)
    (hv : ExC P w [.int .i64 k, .bool t, .slice a l c, .slice a' l' c'] (.mk k t ws ks)) :
    Calls Tryz.prog 39 #[.agg #[.int .i64 k, .bool t, .slice a l c, .slice a' l' c']] w fun e w' => e = .returned (.int .i64 (ownF k t ws ks.length)) ∧ Below w.heap.size w w' := by
  obtain ⟨-, -, hk, xs, hl, -⟩ := hv.open
  obtain ⟨_, _, es⟩ := hl.form
  simp only [Value.slice.injEq] at es
  obtain ⟨-, el, -⟩ := es
  subst el
  obtain ⟨_, _, es⟩ := hk.form
  simp only [Value.slice.injEq] at es
  obtain ⟨-, el, -⟩ := es
  subst el
  have HM := Lib.hid (fun W => mayHave_any k ks.length W)
  have HB := Lib.hid (sbelow_new w (.cells #[.int .i64 k, .bool t, .slice a ws.length c, .slice a' ks.length c'] 26))
  have HF := Lib.hid (four_new w 26 (.int .i64 k) (.bool t) (.slice a ws.length c) (.slice a' ks.length c'))
  have HW := Lib.hid (fun W (hb : Below w.heap.size w W) => wordsFault_any P ws hwt W a c (hk.step hb))
  have HO : Hid (ownF k t ws ks.length = if k < 0 ∨ 6 < k then 2 else if mayH k ks.length = false then 4 else if k = 1 then wordsF ws else if t = true ∨ 0 < ws.length then 4 else 0) := Lib.hid rfl
  generalize ownF k t ws ks.length = o at *
  generalize mayH k ks.length = q at *
  generalize wordsF ws = wf at *
  clear hk hl hwt hv
  obtain ⟨p0, p1, p2, p3⟩ := HF.out.box
  by_cases h1 : k < 0
  · have ho := HO.out
    rw [if_pos (.inl h1)] at ho
    subst ho
    go_enter Tryz.func39, Tryz.ntmps39
    go_wp2_with fail
    go_ret
    exact ⟨rfl, HB.out⟩
  by_cases h2 : 6 < k
  · have ho := HO.out
    rw [if_pos (.inr h2)] at ho
    subst ho
    go_enter Tryz.func39, Tryz.ntmps39
    go_wp2_with fail
    go_ret
    exact ⟨rfl, HB.out⟩
  have ho := HO.out
  rw [if_neg (by omega)] at ho
  have HO2 := Lib.hid ho
  clear ho HO
  cases q with
  | false =>
    have ho := HO2.out
    rw [if_pos rfl] at ho
    subst ho
    go_enter Tryz.func39, Tryz.ntmps39
    go_wp2_with fail
    refine (HM.out _).mono ?_
    rintro e w1 ⟨rfl, rfl⟩
    go_wp2_with fail
    go_ret
    exact ⟨rfl, HB.out⟩
  | true =>
    by_cases h3 : k = 1
    · subst h3
      have ho := HO2.out
      rw [if_neg (by decide), if_pos rfl] at ho
      subst ho
      go_enter Tryz.func39, Tryz.ntmps39
      go_wp2_with fail
      refine (HM.out _).mono ?_
      rintro e w1 ⟨rfl, rfl⟩
      go_wp2_with fail
      refine (HW.out _ HB.out).mono ?_
      rintro e w2 ⟨rfl, b2⟩
      go_wp2_with fail
      go_ret
      exact ⟨rfl, HB.out.trans (b2.mono HB.out.size)⟩
    · have hne : (k == 1) = false := beq_eq_false_iff_ne.2 h3
      have ho := HO2.out
      rw [if_neg (by decide), if_neg h3] at ho
      have HO3 := Lib.hid ho
      clear ho HO2 h3
      cases t with
      | true =>
        have ho := HO3.out
        rw [if_pos (.inl rfl)] at ho
        subst ho
        go_enter Tryz.func39, Tryz.ntmps39
        go_wp2_with fail
        refine (HM.out _).mono ?_
        rintro e w1 ⟨rfl, rfl⟩
        go_wp2_with fail
        go_ret
        exact ⟨rfl, HB.out⟩
      | false =>
        by_cases h4 : 0 < ws.length
        · have ho := HO3.out
          rw [if_pos (.inr h4)] at ho
          subst ho
          go_enter Tryz.func39, Tryz.ntmps39
          go_wp2_with fail
          refine (HM.out _).mono ?_
          rintro e w1 ⟨rfl, rfl⟩
          go_wp2_with fail
          go_ret
          exact ⟨rfl, HB.out⟩
        · have ho := HO3.out
          rw [if_neg (fun h => h.elim (fun h => by cases h) h4)] at ho
          subst ho
          go_enter Tryz.func39, Tryz.ntmps39
          go_wp2_with fail
          refine (HM.out _).mono ?_
          rintro e w1 ⟨rfl, rfl⟩
          go_wp2_with fail
          go_ret
          exact ⟨rfl, HB.out⟩

set_option maxRecDepth 100000 in
set_option maxHeartbeats 8000000 in
theorem fault_go (P : Nat → Prop) : ∀ (m : Nat) (x : Rx), SizeOf.sizeOf x < m → rxWt x ≤ 60000 → ∀ (w : World) (k : Int) (t : Bool) (a : Option Addr) (l c : Nat) (a' : Option Addr) (l' c' : Nat),
    ExC P w [.int .i64 k, .bool t, .slice a l c, .slice a' l' c'] x →
    Calls Tryz.prog 27 #[.agg #[.int .i64 k, .bool t, .slice a l c, .slice a' l' c']] w fun e w' => e = .returned (.int .i64 (faultE x)) ∧ Below w.heap.size w w' := by
  intro m
  induction m with
  | zero => intro x hx; exact absurd hx (Nat.not_lt_zero _)
  | succ m ih =>
    intro x hx hsz w k t a l c a' l' c' hv
    have IH := Lib.hid ih
    clear ih
    cases x with
    | mk k1 t1 words kids =>
      have hv0 := hv
      obtain ⟨rfl, rfl, hk, xs, hl, hvs⟩ := hv.open
      obtain ⟨_, _, es⟩ := hl.form
      simp only [Value.slice.injEq] at es
      obtain ⟨-, el, -⟩ := es
      subst el
      have HROW := Lib.hid hl
      have HVS := Lib.hid hvs
      simp only [Rx.mk.sizeOf_spec] at hx
      have HX := Lib.hid hx
      rw [rxWt] at hsz
      have HSZ : Hid (rxsWt kids ≤ 60000) := Lib.hid (by omega)
      have HOW := Lib.hid (fun W (hb : Below w.heap.size w W) => ownFault_any P k t words kids (by omega) W a l c a' kids.length c' (hv0.step hb))
      have HTOT : Hid (faultE (.mk k t words kids) = if ownF k t words kids.length ≠ 0 then ownF k t words kids.length else faultEs kids) := Lib.hid (by rw [faultE])
      generalize faultE (.mk k t words kids) = tot at *
      generalize ownF k t words kids.length = of at *
      have HB0 := Lib.hid (sbelow_new w (.cells #[.int .i64 k, .bool t, .slice a l c, .slice a' kids.length c'] 26))
      have HF := Lib.hid (four_new w 26 (.int .i64 k) (.bool t) (.slice a l c) (.slice a' kids.length c'))
      obtain ⟨p0, p1, p2, p3⟩ := HF.out.box
      clear hk hl hvs hx hv hv0 hsz
      go_enter Tryz.func27, Tryz.ntmps27
      go_wp2_with fail
      generalize w.alloc (.cells #[.int .i64 k, .bool t, .slice a l c, .slice a' kids.length c'] 26) = w1 at *
      refine (HOW.out _ HB0.out).mono ?_
      rintro e w2 ⟨rfl, b2⟩
      have HF2 := Lib.hid (HF.out.step b2)
      have HB2 := Lib.hid (HB0.out.trans (b2.mono HB0.out.size))
      clear p0 p1 p2 p3 b2 HF HB0
      obtain ⟨p0, p1, p2, p3⟩ := HF2.out.box
      go_wp2_with fail
      clear p0 p1 p2 p3
      go_loopg [3, 11] kids.length (fun g u v wr => ∃ (i : Nat) (cc : Int), i ≤ kids.length ∧ g = kids.length - i ∧ v = .int .i64 i ∧ u = .int .i64 cc ∧ (if cc ≠ 0 then cc else faultEs (kids.drop i)) = tot ∧ Below w.heap.size w wr)
      case atStart => exact ⟨0, of, Nat.zero_le _, by omega, rfl, rfl, by rw [List.drop_zero]; exact HTOT.out.symm, HB2.out⟩
      case round =>
        clear HB2 HTOT
        obtain ⟨i, cc, hi, hgk, rfl, rfl, hd, hbel⟩ := hrel
        have HD := Lib.hid hd
        have HB := Lib.hid hbel
        clear hbel hd
        by_cases hlt : i < kids.length
        · obtain ⟨y, hy⟩ : ∃ y, kids[i]? = some y := ⟨_, List.getElem?_eq_getElem hlt⟩
          obtain ⟨b1, o1, k6, t6, a6, l6, c6, a7, l7, c7, rfl, hvx, hE1⟩ := ex_at HROW.out HVS.out hy HB.out
          have bn := sbelow_new wr (.cells #[.int .i64 k6, .bool t6, .slice a6 l6 c6, .slice a7 l7 c7] 26)
          have hsx : SizeOf.sizeOf y < m := by have := rx_mem hy; have := HX.out; omega
          have hys : rxWt y ≤ 60000 := by have := HSZ.out; have := wt_mem hy; omega
          have HBN := Lib.hid (HB.out.trans (bn.mono HB.out.size))
          have HC := Lib.hid (IH.out y hsx hys _ _ _ _ _ _ _ _ _ (hvx.step (HB.out.trans (bn.mono HB.out.size))))
          have hfd := faultEs_drop hy
          have HFD := Lib.hid hfd
          obtain ⟨-, g0, g1, g2, g3⟩ := hE1
          generalize faultE y = z at *
          clear hy bn hsx hvx hys hfd
          by_cases h0 : cc = 0
          · subst h0
            have hd := HD.out
            rw [if_neg (by decide)] at hd
            have HD2 := Lib.hid hd
            clear hd HD
            go_wp2_with fail
            refine HC.out.mono ?_
            rintro e w4 ⟨rfl, b4⟩
            go_wp2_with fail
            go_roundg (kids.length - (i + 1))
            case measure => omega
            case rel => exact ⟨i + 1, z, by omega, rfl, by first | rfl | (rw [w64x _ (by have := len_wt kids; have := HSZ.out; omega)]; rfl), rfl, by rw [← HD2.out, HFD.out], HBN.out.trans (b4.mono HBN.out.size)⟩
          · have hd := HD.out
            rw [if_pos h0] at hd
            subst hd
            have hne : (cc != 0) = true := bne_iff_ne.2 h0
            clear h0
            go_wp2_with fail
            go_ret
            exact ⟨rfl, HBN.out⟩
        · obtain rfl : i = kids.length := by omega
          have hd := HD.out
          rw [List.drop_length, faultEs] at hd
          have hd2 : cc = tot := by
            by_cases h0 : cc = 0
            · rw [if_neg (by simpa using h0)] at hd
              rw [h0, hd]
            · rwa [if_pos h0] at hd
          subst hd2
          clear hd HD
          go_wp2_with fail
          go_ret
          exact ⟨rfl, HB.out⟩

/-! ### Check -/
set_option maxRecDepth 100000 in
set_option maxHeartbeats 4000000 in
theorem xcheck_ok (P : Nat → Prop) (x : Rx) (hwt : rxWt x ≤ 60000) (h0 : checkE x = 0) (w : World) (k : Int) (t : Bool) (a : Option Addr) (l c : Nat) (a' : Option Addr) (l' c' : Nat) (hv : ExC P w [.int .i64 k, .bool t, .slice a l c, .slice a' l' c'] x) :
    Calls Tryz.prog 11 #[.agg #[.int .i64 k, .bool t, .slice a l c, .slice a' l' c']] w fun e w' => e = .returned .nilIface ∧ Below w.heap.size w w' := by
  unfold checkE at h0
  have hle : rxSize x ≤ 100 := by
    by_cases h : 100 < rxSize x
    · rw [if_pos h] at h0; cases h0
    · omega
  rw [if_neg (by omega)] at h0
  have HS := Lib.hid (fun W (hb : Below w.heap.size w W) => xsize_go P _ x (Nat.lt_succ_self _) (by omega) W k t a l c a' l' c' (hv.step hb))
  have HF := Lib.hid (fun W (hb : Below w.heap.size w W) => fault_go P _ x (Nat.lt_succ_self _) hwt W k t a l c a' l' c' (hv.step hb))
  rw [h0] at HF
  have HN := Lib.hid (fun W => new_nil 0 W)
  have HB := Lib.hid (sbelow_new w (.cells #[.int .i64 k, .bool t, .slice a l c, .slice a' l' c'] 26))
  have HQ := Lib.hid (four_new w 26 (.int .i64 k) (.bool t) (.slice a l c) (.slice a' l' c'))
  obtain ⟨p0, p1, p2, p3⟩ := HQ.out.box
  generalize rxSize x = n at *
  clear hv h0 hwt
  go_enter Tryz.func11, Tryz.ntmps11
  go_wp2_with fail
  generalize w.alloc (.cells #[.int .i64 k, .bool t, .slice a l c, .slice a' l' c'] 26) = w1 at *
  refine (HS.out _ HB.out).mono ?_
  rintro e w2 ⟨rfl, b2⟩
  have HQ2 := Lib.hid (HQ.out.step b2)
  have HB2 := Lib.hid (HB.out.trans (b2.mono HB.out.size))
  clear p0 p1 p2 p3 b2
  obtain ⟨p0, p1, p2, p3⟩ := HQ2.out.box
  go_wp2_with fail
  refine (HF.out _ HB2.out).mono ?_
  rintro e w3 ⟨rfl, b3⟩
  have HB3 := Lib.hid (HB2.out.trans (b3.mono HB2.out.size))
  clear p0 p1 p2 p3 b3
  go_wp2_with fail
  refine (HN.out _).mono ?_
  rintro e w4 ⟨rfl, rfl⟩
  go_wp2_with fail
  go_ret
  exact ⟨rfl, HB3.out⟩
set_option maxRecDepth 100000 in
set_option maxHeartbeats 4000000 in
theorem xcheck_no (P : Nat → Prop) (x : Rx) (hwt : rxWt x ≤ 60000) (h0 : checkE x ≠ 0) (w : World) (k : Int) (t : Bool) (a : Option Addr) (l c : Nat) (a' : Option Addr) (l' c' : Nat) (hv : ExC P w [.int .i64 k, .bool t, .slice a l c, .slice a' l' c'] x) :
    Calls Tryz.prog 11 #[.agg #[.int .i64 k, .bool t, .slice a l c, .slice a' l' c']] w (NewErr w (checkE x) 0) := by
  have hsw := size_wt x
  have HS := Lib.hid (fun W (hb : Below w.heap.size w W) => xsize_go P _ x (Nat.lt_succ_self _) (by omega) W k t a l c a' l' c' (hv.step hb))
  have HF := Lib.hid (fun W (hb : Below w.heap.size w W) => fault_go P _ x (Nat.lt_succ_self _) hwt W k t a l c a' l' c' (hv.step hb))
  have HN := Lib.hid (fun W => new_err (checkE x) 0 h0 W)
  have HB := Lib.hid (sbelow_new w (.cells #[.int .i64 k, .bool t, .slice a l c, .slice a' l' c'] 26))
  have HQ := Lib.hid (four_new w 26 (.int .i64 k) (.bool t) (.slice a l c) (.slice a' l' c'))
  obtain ⟨p0, p1, p2, p3⟩ := HQ.out.box
  by_cases h100 : 100 < rxSize x
  · have hc : checkE x = 6 := by unfold checkE; rw [if_pos h100]
    rw [hc] at HN ⊢
    generalize rxSize x = n at *
    clear hv h0 hwt hc hsw
    go_enter Tryz.func11, Tryz.ntmps11
    go_wp2_with fail
    generalize w.alloc (.cells #[.int .i64 k, .bool t, .slice a l c, .slice a' l' c'] 26) = w1 at *
    refine (HS.out _ HB.out).mono ?_
    rintro e w2 ⟨rfl, b2⟩
    have HB2 := Lib.hid (HB.out.trans (b2.mono HB.out.size))
    clear p0 p1 p2 p3 b2
    go_wp2_with fail
    refine (HN.out _).mono ?_
    rintro e w3 ⟨fb, rfl, hf, b3⟩
    have HF3 := Lib.hid hf
    have HB3 := Lib.hid (HB2.out.trans (b3.mono HB2.out.size))
    clear hf b3
    unfold pf
    go_wp2_with fail
    go_ret
    exact ⟨fb, rfl, HF3.out, HB3.out⟩
  · have hc : checkE x = faultE x := by unfold checkE; rw [if_neg h100]
    rw [hc] at HN ⊢
    generalize rxSize x = n at *
    generalize faultE x = z at *
    clear hv h0 hwt hc hsw
    go_enter Tryz.func11, Tryz.ntmps11
    go_wp2_with fail
    generalize w.alloc (.cells #[.int .i64 k, .bool t, .slice a l c, .slice a' l' c'] 26) = w1 at *
    refine (HS.out _ HB.out).mono ?_
    rintro e w2 ⟨rfl, b2⟩
    have HQ2 := Lib.hid (HQ.out.step b2)
    have HB2 := Lib.hid (HB.out.trans (b2.mono HB.out.size))
    clear p0 p1 p2 p3 b2
    obtain ⟨p0, p1, p2, p3⟩ := HQ2.out.box
    go_wp2_with fail
    refine (HF.out _ HB2.out).mono ?_
    rintro e w3 ⟨rfl, b3⟩
    have HB3 := Lib.hid (HB2.out.trans (b3.mono HB2.out.size))
    clear p0 p1 p2 p3 b3
    go_wp2_with fail
    refine (HN.out _).mono ?_
    rintro e w4 ⟨fb, rfl, hf, b4⟩
    have HF4 := Lib.hid hf
    have HB4 := Lib.hid (HB3.out.trans (b4.mono HB3.out.size))
    clear hf b4
    unfold pf
    go_wp2_with fail
    go_ret
    exact ⟨fb, rfl, HF4.out, HB4.out⟩
end Go.Proofs.YtpccdhkghlbhkaaGreatDoor
