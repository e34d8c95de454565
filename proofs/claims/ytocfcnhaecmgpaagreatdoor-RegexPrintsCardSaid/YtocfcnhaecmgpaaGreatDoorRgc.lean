/-
  Package regex's Print, by contract; the document's own Size, own, check, Check.
  The document's own answer to what is wrong with an expression, by contract: own of an Atom, check, Check.
  The document's own answers on an expression, by contract: check, Check, brackets.
-/
import Derived.Test.YtocfcnhaecmgpaaGreatDoorRgb
namespace Go.Proofs.YtocfcnhaecmgpaaGreatDoor
open Go.RowKit Go.Extern.Stop Go.Stop Go.Extern

set_option maxRecDepth 100000 in
set_option maxHeartbeats 4000000 in
theorem xprint_ok (P : Nat → Prop) (x : Rx) (hwt : rxWt x ≤ 60000) (h0 : checkE x = 0) (w : World) (k : Int) (t : Bool) (a : Option Addr) (l c : Nat) (a' : Option Addr) (l' c' : Nat) (hv : ExD P w [.int .i64 k, .bool t, .slice a l c, .slice a' l' c'] x) :
    Calls Tryz.prog 13 #[.agg #[.int .i64 k, .bool t, .slice a l c, .slice a' l' c']] w fun e w' => e = .returned (.tuple #[.string ⟨(textE x).toArray⟩, .nilIface]) ∧ Below w.heap.size w w' := by
  have hf : faultE x = 0 := by
    unfold checkE at h0
    split at h0
    · cases h0
    · exact h0
  have HC := Lib.hid (fun W (hb : Below w.heap.size w W) => xcheck_ok P x hwt h0 W k t a l c a' l' c' (hv.step hb).toC)
  have HT := Lib.hid (fun W (hb : Below w.heap.size w W) => xtext_go P _ x (Nat.lt_succ_self _) hwt hf W k t a l c a' l' c' (hv.step hb))
  have HB := Lib.hid (sbelow_new w (.cells #[.int .i64 k, .bool t, .slice a l c, .slice a' l' c'] 25))
  have HQ := Lib.hid (four_new w 25 (.int .i64 k) (.bool t) (.slice a l c) (.slice a' l' c'))
  obtain ⟨p0, p1, p2, p3⟩ := HQ.out.box
  generalize textE x = tx at *
  clear hv h0 hwt hf
  go_enter Tryz.func13, Tryz.ntmps13
  go_wp2_with fail
  generalize w.alloc (.cells #[.int .i64 k, .bool t, .slice a l c, .slice a' l' c'] 25) = w1 at *
  refine (HC.out _ HB.out).mono ?_
  rintro e w2 ⟨rfl, b2⟩
  have HQ2 := Lib.hid (HQ.out.step b2)
  have HB2 := Lib.hid (HB.out.trans (b2.mono HB.out.size))
  clear p0 p1 p2 p3 b2
  obtain ⟨p0, p1, p2, p3⟩ := HQ2.out.box
  go_wp2_with fail
  refine (HT.out _ HB2.out).mono ?_
  rintro e w3 ⟨rfl, b3⟩
  have HB3 := Lib.hid (HB2.out.trans (b3.mono HB2.out.size))
  go_wp2_with fail
  go_ret2
  exact ⟨rfl, HB3.out⟩
/-- What Print answers where it may not be. -/
def PrErr (w : World) (c : Int) (e : Ending) (w' : World) : Prop := ∃ fb, e = .returned (.tuple #[.string ⟨#[]⟩, pf fb]) ∧ FaultAt w' fb c 0 ∧ Below w.heap.size w w'
set_option maxRecDepth 100000 in
set_option maxHeartbeats 4000000 in
theorem xprint_no (P : Nat → Prop) (x : Rx) (hwt : rxWt x ≤ 60000) (h0 : checkE x ≠ 0) (w : World) (k : Int) (t : Bool) (a : Option Addr) (l c : Nat) (a' : Option Addr) (l' c' : Nat) (hv : ExC P w [.int .i64 k, .bool t, .slice a l c, .slice a' l' c'] x) :
    Calls Tryz.prog 13 #[.agg #[.int .i64 k, .bool t, .slice a l c, .slice a' l' c']] w (PrErr w (checkE x)) := by
  have HC := Lib.hid (fun W (hb : Below w.heap.size w W) => xcheck_no P x hwt h0 W k t a l c a' l' c' (hv.step hb))
  have HB := Lib.hid (sbelow_new w (.cells #[.int .i64 k, .bool t, .slice a l c, .slice a' l' c'] 25))
  have HQ := Lib.hid (four_new w 25 (.int .i64 k) (.bool t) (.slice a l c) (.slice a' l' c'))
  obtain ⟨p0, p1, p2, p3⟩ := HQ.out.box
  generalize checkE x = z at *
  clear hv h0 hwt
  go_enter Tryz.func13, Tryz.ntmps13
  go_wp2_with fail
  generalize w.alloc (.cells #[.int .i64 k, .bool t, .slice a l c, .slice a' l' c'] 25) = w1 at *
  refine (HC.out _ HB.out).mono ?_
  rintro e w2 ⟨fb, rfl, hf, b2⟩
  have HF := Lib.hid hf
  have HB2 := Lib.hid (HB.out.trans (b2.mono HB.out.size))
  clear p0 p1 p2 p3 b2 hf
  unfold pf
  go_wp2_with fail
  go_ret2
  exact ⟨fb, rfl, HF.out, HB2.out⟩

/-! ### The document's own -/
set_option maxRecDepth 100000 in
set_option maxHeartbeats 4000000 in
theorem rsize_go (P : Nat → Prop) : ∀ (m : Nat) (x : Rx), SizeOf.sizeOf x < m → rxSize x ≤ 1000000 → ∀ (left : Int), 0 ≤ left → left ≤ 1000000 → ∀ (w : World) (k : Int) (t : Bool) (a : Option Addr) (l c : Nat) (a' : Option Addr) (l' c' : Nat),
    ExC P w [.int .i64 k, .bool t, .slice a l c, .slice a' l' c'] x →
    Calls Tryz.prog 17 #[.agg #[.int .i64 k, .bool t, .slice a l c, .slice a' l' c'], .int .i64 left] w fun e w' => e = .returned (.int .i64 (rsz x left)) ∧ Below w.heap.size w w' := by
  intro m
  induction m with
  | zero => intro x hx; exact absurd hx (Nat.not_lt_zero _)
  | succ m ih =>
    intro x hx hsz left hl0 hl1 w k t a l c a' l' c' hv
    have IH := Lib.hid ih
    clear ih
    cases x with
    | mk k1 t1 words kids =>
      obtain ⟨rfl, rfl, hk, xs, hl, hvs⟩ := hv.open
      obtain ⟨_, _, es⟩ := hl.form
      simp only [Value.slice.injEq] at es
      obtain ⟨-, el, -⟩ := es
      subst el
      have HROW := Lib.hid hl
      have HVS := Lib.hid hvs
      simp only [Rx.mk.sizeOf_spec] at hx
      have HX := Lib.hid hx
      rw [rxSize] at hsz
      rw [rsz]
      have HSZ := Lib.hid hsz
      obtain ⟨tot, ht⟩ : ∃ z, rszs kids 1 left = z := ⟨_, rfl⟩
      rw [ht]
      have HT := Lib.hid ht
      have HB0 := Lib.hid (sbelow_new w (.cells #[.int .i64 k, .bool t, .slice a l c, .slice a' kids.length c'] 30))
      have HF := Lib.hid (four_new w 30 (.int .i64 k) (.bool t) (.slice a l c) (.slice a' kids.length c'))
      obtain ⟨p0, p1, p2, p3⟩ := HF.out.box
      clear hk hl hvs hx hv hsz ht
      go_enter Tryz.func17, Tryz.ntmps17
      go_wp2_with fail
      generalize w.alloc (.cells #[.int .i64 k, .bool t, .slice a l c, .slice a' kids.length c'] 30) = w1 at *
      clear p0 p1 p2 p3
      go_loopg [5, 11] kids.length (fun g u v wr => ∃ (i : Nat) (n : Int), i ≤ kids.length ∧ g = kids.length - i ∧ v = .int .i64 i ∧ u = .int .i64 n ∧ 1 ≤ n ∧ n ≤ 1 + (rxsSize (kids.take i) : Int) ∧ rszs (kids.drop i) n left = tot ∧ Below w.heap.size w wr)
      case atStart => exact ⟨0, 1, Nat.zero_le _, by omega, rfl, rfl, by omega, by simp [rxsSize], by rw [List.drop_zero]; exact HT.out, HB0.out⟩
      case round =>
        clear HB0 HT
        obtain ⟨i, n, hi, hgk, rfl, rfl, hn1, hn2, hd, hbel⟩ := hrel
        have HD := Lib.hid hd
        have HB := Lib.hid hbel
        have HN2 := Lib.hid hn2
        clear hbel hd hn2
        by_cases hlt : i < kids.length
        · obtain ⟨y, hy⟩ : ∃ y, kids[i]? = some y := ⟨_, List.getElem?_eq_getElem hlt⟩
          obtain ⟨b1, o1, k6, t6, a6, l6, c6, a7, l7, c7, rfl, hvx, hE1⟩ := ex_at HROW.out HVS.out hy HB.out
          have bn := sbelow_new wr (.cells #[.int .i64 k6, .bool t6, .slice a6 l6 c6, .slice a7 l7 c7] 30)
          have hst := rxsSize_take hy
          have hle := rxsSize_le (l := kids) (i + 1)
          have HBN := Lib.hid (HB.out.trans (bn.mono HB.out.size))
          have hup := HD.out
          rw [drop_at hy, rszs] at hup
          by_cases hbig : left < n
          · rw [if_pos hbig] at hup
            subst hup
            obtain ⟨-, g0, g1, g2, g3⟩ := hE1
            clear hy bn hvx hst hle HD
            go_wp2_with fail
            go_ret
            exact ⟨rfl, HBN.out⟩
          · rw [if_neg hbig] at hup
            have hsx : SizeOf.sizeOf y < m := by have := rx_mem hy; have := HX.out; omega
            have hys : rxSize y ≤ 1000000 := by have := HSZ.out; omega
            have HC := Lib.hid (IH.out y hsx hys (left - n) (by omega) (by omega) _ _ _ _ _ _ _ _ _ (hvx.step (HB.out.trans (bn.mono HB.out.size))))
            have hz1 := rsz_pos y (left - n)
            have hz2 := rsz_le y (left - n)
            have HUP := Lib.hid hup
            have HZ2 : Hid (n + rsz y (left - n) ≤ 1 + (rxsSize (kids.take (i + 1)) : Int)) := Lib.hid (by have := HN2.out; omega)
            have hub : n + rsz y (left - n) ≤ 1000001 := by have := HSZ.out; have := HZ2.out; omega
            generalize rsz y (left - n) = z at *
            have hw1 : IntKind.i64.wrap (left - n) = left - n := IntWalk.i64_in _ (by omega)
            obtain ⟨-, g0, g1, g2, g3⟩ := hE1
            clear hy bn hsx hvx hst hle hys hup HD hz2
            go_wp2_with fail
            refine HC.out.mono ?_
            rintro e w4 ⟨rfl, b4⟩
            go_wp2_with fail
            go_roundg (kids.length - (i + 1))
            case measure => omega
            case rel =>
              have h5 := HSZ.out
              have h4 := len_sizes kids
              refine ⟨i + 1, n + z, by omega, rfl, by first | rfl | (rw [w64x _ (by omega)]; rfl), ?_, by omega, HZ2.out, HUP.out, HBN.out.trans (b4.mono HBN.out.size)⟩
              first
                | rfl
                | (rw [w64x _ (by omega)])
        · obtain rfl : i = kids.length := by omega
          have hd := HD.out
          rw [List.drop_length, rszs] at hd
          subst hd
          clear HD
          go_wp2_with fail
          go_ret
          exact ⟨rfl, HB.out⟩

set_option maxRecDepth 100000 in
set_option maxHeartbeats 8000000 in
theorem rown_plain (P : Nat → Prop) (k : Int) (hk1 : k ≠ 1) (t : Bool) (ws : List ByteArray) (ks : List Rx) (hwt : ws.length ≤ 60000) (hkt : ks.length ≤ 60000) (w : World) (a : Option Addr) (l c : Nat) (a' : Option Addr) (l' c' : Nat)
    (hv : ExC P w [.int .i64 k, .bool t, .slice a l c, .slice a' l' c'] (.mk k t ws ks)) :
    Calls Tryz.prog 64 #[.agg #[.int .i64 k, .bool t, .slice a l c, .slice a' l' c']] w fun e w' => e = .returned (.int .i64 (ownF k t ws ks.length)) ∧ Below w.heap.size w w' := by
  obtain ⟨-, -, hk, xs, hl, -⟩ := hv.open
  obtain ⟨_, _, es⟩ := hl.form
  simp only [Value.slice.injEq] at es
  obtain ⟨-, el, -⟩ := es
  subst el
  obtain ⟨_, _, es⟩ := hk.form
  simp only [Value.slice.injEq] at es
  obtain ⟨-, el, -⟩ := es
  subst el
  have HB := Lib.hid (sbelow_new w (.cells #[.int .i64 k, .bool t, .slice a ws.length c, .slice a' ks.length c'] 30))
  have HF := Lib.hid (four_new w 30 (.int .i64 k) (.bool t) (.slice a ws.length c) (.slice a' ks.length c'))
  have HO : Hid (ownF k t ws ks.length = if k < 0 ∨ 6 < k then 2 else if mayH k ks.length = false then 4 else if k = 1 then wordsF ws else if t = true ∨ 0 < ws.length then 4 else 0) := Lib.hid rfl
  generalize ownF k t ws ks.length = o at *
  generalize wordsF ws = wf at *
  generalize ws.length = wl at *
  generalize ks.length = n at *
  clear hk hl hv
  obtain ⟨p0, p1, p2, p3⟩ := HF.out.box
  by_cases h1 : k < 0
  · have ho := HO.out
    rw [if_pos (.inl h1)] at ho
    subst ho
    go_enter Tryz.func64, Tryz.ntmps64
    go_wp2_with fail
    go_ret
    exact ⟨rfl, HB.out⟩
  by_cases h2 : 6 < k
  · have ho := HO.out
    rw [if_pos (.inr h2)] at ho
    subst ho
    go_enter Tryz.func64, Tryz.ntmps64
    go_wp2_with fail
    go_ret
    exact ⟨rfl, HB.out⟩
  obtain rfl | rfl | rfl | rfl | rfl | rfl : k = 0 ∨ k = 2 ∨ k = 3 ∨ k = 4 ∨ k = 5 ∨ k = 6 := by omega
  all_goals
    by_cases ht : t = true
    · subst ht
      go_enter Tryz.func64, Tryz.ntmps64
      go_wp2_with fail
      go_ret
      refine ⟨ret_i ?_, HB.out⟩
      have ho := HO.out
      unfold mayH at ho
      rw [ho]
      first | rfl | (simp; done) | (simp; omega) | (simp_all; done) | (simp_all; omega)
    · have ht' : t = false := by simpa using ht
      subst ht'
      clear ht
      by_cases hw0 : 0 < wl
      · skip
        go_enter Tryz.func64, Tryz.ntmps64
        go_wp2_with fail
        go_ret
        refine ⟨ret_i ?_, HB.out⟩
        have ho := HO.out
        unfold mayH at ho
        rw [ho]
        first | rfl | (simp; done) | (simp; omega) | (simp_all; done) | (simp_all; omega)
      · obtain rfl : wl = 0 := by omega
        by_cases hn0 : n = 0
        · subst hn0
          go_enter Tryz.func64, Tryz.ntmps64
          go_wp2_with fail
          go_ret
          refine ⟨ret_i ?_, HB.out⟩
          have ho := HO.out
          unfold mayH at ho
          rw [ho]
          first | rfl | (simp; done) | (simp; omega) | (simp_all; done) | (simp_all; omega)
        · by_cases hn1 : n = 1
          · subst hn1
            go_enter Tryz.func64, Tryz.ntmps64
            go_wp2_with fail
            go_ret
            refine ⟨ret_i ?_, HB.out⟩
            have ho := HO.out
            unfold mayH at ho
            rw [ho]
            first | rfl | (simp; done) | (simp; omega) | (simp_all; done) | (simp_all; omega)
          · have hn9 : ((n : Int) == 1) = false := beq_eq_false_iff_ne.2 (by omega)
            have hn2 : 2 ≤ n := by omega
            go_enter Tryz.func64, Tryz.ntmps64
            go_wp2_with fail
            go_ret
            refine ⟨ret_i ?_, HB.out⟩
            have ho := HO.out
            unfold mayH at ho
            rw [ho]
            first | rfl | (simp; done) | (simp; omega) | (simp_all; done) | (simp_all; omega)
end Go.Proofs.YtocfcnhaecmgpaaGreatDoor

namespace Go.Proofs.YtocfcnhaecmgpaaGreatDoor
open Go.RowKit Go.Extern.Stop Go.Stop Go.Extern

theorem mayH_one (n : Nat) : mayH 1 n = decide (n = 0) := rfl
/-- On the way through an Atom's words. -/
structure OwSt (w0 : World) (t : Bool) (v2 v3 : Value) (w : World) : Prop where
  box : Four w w0.heap.size 0 (.int .i64 1) (.bool t) v2 v3
  below : Below w0.heap.size w0 w
theorem OwSt.step {w0 w w' : World} {t : Bool} {v2 v3 : Value} (h : OwSt w0 t v2 v3 w) (hb : Below w.heap.size w w') : OwSt w0 t v2 v3 w' := ⟨h.box.step hb, h.below.trans (hb.mono h.below.size)⟩
set_option maxRecDepth 100000 in
set_option maxHeartbeats 8000000 in
theorem rown_atom (P : Nat → Prop) (t : Bool) (ws : List ByteArray) (ks : List Rx) (hwt : wordsWt ws ≤ 60000) (w : World) (a : Option Addr) (l c : Nat) (a' : Option Addr) (l' c' : Nat)
    (hv : ExC P w [.int .i64 1, .bool t, .slice a l c, .slice a' l' c'] (.mk 1 t ws ks)) :
    Calls Tryz.prog 64 #[.agg #[.int .i64 1, .bool t, .slice a l c, .slice a' l' c']] w fun e w' => e = .returned (.int .i64 (ownF 1 t ws ks.length)) ∧ Below w.heap.size w w' := by
  obtain ⟨-, -, hk, xs, hl, -⟩ := hv.open
  obtain ⟨_, _, es⟩ := hl.form
  simp only [Value.slice.injEq] at es
  obtain ⟨-, el, -⟩ := es
  subst el
  obtain ⟨_, _, es⟩ := hk.form
  simp only [Value.slice.injEq] at es
  obtain ⟨-, el, -⟩ := es
  subst el
  have HR := Lib.hid hk
  have HL : Hid (ws.length ≤ 60000) := Lib.hid (by have := wlen_wt ws; omega)
  have HWT := Lib.hid (fun i y h => wt_word (l := ws) (i := i) (y := y) hwt (Nat.le_refl _) h)
  have HF : Hid (ownF 1 t ws ks.length = if 0 < ks.length then 4 else if ws.length = 0 ∨ noneW ws = true then 4 else if risesW ws then 0 else 13) := Lib.hid (by
    unfold ownF
    rw [if_neg (by decide), if_pos rfl, mayH_one]
    by_cases h : ks.length = 0
    · rw [decide_eq_true h, if_neg (by decide), if_neg (by omega)]
      rfl
    · rw [decide_eq_false h, if_pos rfl, if_pos (by omega)])
  generalize ownF 1 t ws ks.length = of at *
  generalize ks.length = n at *
  have H0 : Hid (OwSt w t (.slice a ws.length c) (.slice a' n c') (w.alloc (.cells #[.int .i64 1, .bool t, .slice a ws.length c, .slice a' n c'] 30))) := Lib.hid ⟨four_new w 30 _ _ _ _, sbelow_new w _⟩
  obtain ⟨p0, p1, p2, p3⟩ := H0.out.box.box
  clear hk hl hv hwt
  by_cases hn : 0 < n
  · have hf := HF.out
    rw [if_pos hn] at hf
    subst hf
    by_cases h0 : ws.length = 0
    · have he : ((ws.length : Int) == 0) = true := beq_iff_eq.2 (by omega)
      clear h0
      go_enter Tryz.func64, Tryz.ntmps64
      go_wp2_with fail
      go_ret
      exact ⟨rfl, H0.out.below⟩
    · have he : ((ws.length : Int) == 0) = false := beq_eq_false_iff_ne.2 (by omega)
      clear h0
      go_enter Tryz.func64, Tryz.ntmps64
      go_wp2_with fail
      go_ret
      exact ⟨rfl, H0.out.below⟩
  obtain rfl : n = 0 := by omega
  have hf := HF.out
  rw [if_neg hn] at hf
  have HF2 := Lib.hid hf
  clear hf HF hn
  by_cases h0 : ws.length = 0
  · have hf := HF2.out
    rw [if_pos (.inl h0)] at hf
    subst hf
    have he : ((ws.length : Int) == 0) = true := beq_iff_eq.2 (by omega)
    clear h0
    go_enter Tryz.func64, Tryz.ntmps64
    go_wp2_with fail
    go_ret
    exact ⟨rfl, H0.out.below⟩
  have he : ((ws.length : Int) == 0) = false := beq_eq_false_iff_ne.2 (by omega)
  have HPOS : Hid (1 ≤ ws.length) := Lib.hid (by omega)
  go_enter Tryz.func64, Tryz.ntmps64
  go_wp2_with fail
  generalize w.alloc (.cells #[.int .i64 1, .bool t, .slice a ws.length c, .slice a' 0 c'] 30) = w1 at *
  clear p0 p1 p2 p3
  go_loopg [79] ws.length (fun g v wr => ∃ i : Nat, i ≤ ws.length ∧ g = ws.length - i ∧ v = .int .i64 i ∧ noneW (ws.drop i) = noneW ws ∧ OwSt w t (.slice a ws.length c) (.slice a' 0 c') wr)
  case atStart => exact ⟨0, Nat.zero_le _, by omega, rfl, by rw [List.drop_zero], H0.out⟩
  case round =>
    clear H0
    obtain ⟨i, hi, hgk, rfl, hd, hst⟩ := hrel
    have HD := Lib.hid hd
    have HS := Lib.hid hst
    clear hd hst
    by_cases hlt : i < ws.length
    · obtain ⟨y, hy⟩ : ∃ y, ws[i]? = some y := ⟨_, List.getElem?_eq_getElem hlt⟩
      obtain ⟨b, o, rfl, hbl, e1⟩ := text_at HR.out hy HS.out.below
      have hup := HD.out
      rw [noneW_drop hy] at hup
      have HUP := Lib.hid hup
      have HC := Lib.hid (fun W => rxisWord_any y (by have := HWT.out i y hy; omega) W)
      generalize isWd y = q at *
      clear hy hup HD
      go_wp2_with fail
      refine (HC.out _).mono ?_
      rintro e w2 ⟨rfl, b2⟩
      cases q with
      | false =>
        have hn : noneW ws = true := by have hu := HUP.out; simpa using hu.symm
        have hf := HF2.out
        rw [if_pos (.inr hn)] at hf
        subst hf
        go_wp2_with fail
        go_ret
        exact ⟨rfl, (HS.out.step b2).below⟩
      | true =>
        go_wp2_with fail
        go_roundg (ws.length - (i + 1))
        case measure => omega
        case rel => exact ⟨i + 1, by omega, rfl, by first | rfl | (rw [w64x _ (by have := HL.out; omega)]; rfl), by have hu := HUP.out; simpa using hu, HS.out.step b2⟩
    · obtain rfl : i = ws.length := by omega
      have hu := HD.out
      rw [List.drop_length] at hu
      have hn : noneW ws = false := hu.symm
      have hf := HF2.out
      rw [if_neg (by rw [hn]; simp [h0])] at hf
      have HF3 := Lib.hid hf
      clear hf hn hu HD HF2
      obtain ⟨p0, p1, p2, p3⟩ := HS.out.box.box
      have hpos := HPOS.out
      go_wp2_with fail
      clear p0 p1 p2 p3
      generalize wr = wr0 at *
      go_loopg [6] (ws.length - 1) (fun g v wr => ∃ i j : Nat, j = i + 1 ∧ j ≤ ws.length ∧ g = ws.length - j ∧ v = .int .i64 j ∧ risesW (ws.drop i) = risesW ws ∧ OwSt w t (.slice a ws.length c) (.slice a' 0 c') wr)
      case atStart => exact ⟨0, 1, rfl, by omega, by omega, rfl, by rw [List.drop_zero], HS.out⟩
      case round =>
        clear HS
        obtain ⟨i, j, hij, hi2, hgk2, rfl, hd, hst⟩ := hrel
        have HD := Lib.hid hd
        have HS := Lib.hid hst
        clear hd hst
        obtain ⟨p0, p1, p2, p3⟩ := HS.out.box.box
        by_cases hlt2 : j < ws.length
        · have hlt0 : i < ws.length := by omega
          obtain ⟨x, hx⟩ : ∃ y, ws[i]? = some y := ⟨_, List.getElem?_eq_getElem hlt0⟩
          obtain ⟨y, hy⟩ : ∃ y, ws[j]? = some y := ⟨_, List.getElem?_eq_getElem hlt2⟩
          obtain ⟨b, o, rfl, hbl, e1⟩ := text_at HR.out hx HS.out.below
          obtain ⟨b', o', eb, hbl', e2⟩ := text_at HR.out hy HS.out.below
          simp only [Option.some.injEq, Addr.mk.injEq, and_true] at eb
          obtain ⟨rfl, rfl⟩ := eb
          have hup := HD.out
          rw [rises_at hx (by rw [← hij]; exact hy), ← hij] at hup
          have HUP := Lib.hid hup
          have HIJ := Lib.hid hij
          have hcs : (leB y x = true ∧ Op.bytesLess y.toList x.toList = true) ∨ (leB y x = true ∧ Op.bytesLess y.toList x.toList = false ∧ (y.toList == x.toList) = true) ∨ (leB y x = false ∧ Op.bytesLess y.toList x.toList = false ∧ (y.toList == x.toList) = false) := by
            unfold leB
            cases Op.bytesLess y.toList x.toList <;> cases (y.toList == x.toList) <;> simp
          have hs1 : (j : Int) - 1 = (i : Int) := by omega
          have hs2 : IntKind.i64.wrap ((j : Int) - 1) = (i : Int) := by rw [hs1]; exact IntWalk.i64_in _ (by have := HL.out; omega)
          have hs3 : IntKind.i64.wrap (i : Int) = (i : Int) := IntWalk.i64_in _ (by have := HL.out; omega)
          have hs4 : (0 : Int) ≤ (i : Int) := by omega
          have hs5 : (i : Int) < (ws.length : Int) := by omega
          have HS1 := Lib.hid (HS.out.step (Below.refl wr.heap.size wr).drew)
          have kk : wr.drew.cell? ⟨w.heap.size, 2, none⟩ = some (.slice (some ⟨b, o, none⟩) ws.length c) ∧ wr.drew.cell? ⟨b, o + i, none⟩ = some (.string x) ∧ wr.drew.cell? ⟨b, o + j, none⟩ = some (.string y) := ⟨HS1.out.box.box.2.2.1, e1, e2⟩
          clear hx hy hup HD hbl' hij
          rcases hcs with ⟨hq, hq1⟩ | ⟨hq, hq1, hq2⟩ | ⟨hq, hq1, hq2⟩
          · rw [hq] at HUP
            clear hq
            go_wp2_with fail
            clear e1 e2 p0 p1 p2 p3
            go_region_held3 (fun W => W.cell? ⟨w.heap.size, 2, none⟩ = some (.slice (some ⟨b, o, none⟩) ws.length c) ∧ W.cell? ⟨b, o + i, none⟩ = some (.string x) ∧ W.cell? ⟨b, o + j, none⟩ = some (.string y))
              (first | exact kk | exact ⟨kk.1, kk.2.1, kk.2.2⟩)
              (fail)
            all_goals
              go_wp2_with fail
              first
                | (go_ret
                   have hu := HUP.out
                   simp only [Bool.not_true, Bool.false_and] at hu
                   exact ⟨ret_i (by have hf := HF3.out; rw [← hu, if_neg (by decide)] at hf; exact hf.symm), HS1.out.below⟩)
                | (go_roundg (ws.length - (j + 1))
                   case measure => omega
                   case rel => exact ⟨j, j + 1, rfl, by omega, rfl, by first | rfl | (rw [w64x _ (by have := HL.out; omega)]; rfl), by have hu := HUP.out; simpa using hu, HS1.out⟩)
          · rw [hq] at HUP
            clear hq
            go_wp2_with fail
            clear e1 e2 p0 p1 p2 p3
            go_region_held3 (fun W => W.cell? ⟨w.heap.size, 2, none⟩ = some (.slice (some ⟨b, o, none⟩) ws.length c) ∧ W.cell? ⟨b, o + i, none⟩ = some (.string x) ∧ W.cell? ⟨b, o + j, none⟩ = some (.string y))
              (first | exact kk | exact ⟨kk.1, kk.2.1, kk.2.2⟩)
              (fail)
            all_goals
              go_wp2_with fail
              first
                | (go_ret
                   have hu := HUP.out
                   simp only [Bool.not_true, Bool.false_and] at hu
                   exact ⟨ret_i (by have hf := HF3.out; rw [← hu, if_neg (by decide)] at hf; exact hf.symm), HS1.out.below⟩)
                | (go_roundg (ws.length - (j + 1))
                   case measure => omega
                   case rel => exact ⟨j, j + 1, rfl, by omega, rfl, by first | rfl | (rw [w64x _ (by have := HL.out; omega)]; rfl), by have hu := HUP.out; simpa using hu, HS1.out⟩)
          · rw [hq] at HUP
            clear hq
            go_wp2_with fail
            clear e1 e2 p0 p1 p2 p3
            go_region_held3 (fun W => W.cell? ⟨w.heap.size, 2, none⟩ = some (.slice (some ⟨b, o, none⟩) ws.length c) ∧ W.cell? ⟨b, o + i, none⟩ = some (.string x) ∧ W.cell? ⟨b, o + j, none⟩ = some (.string y))
              (first | exact kk | exact ⟨kk.1, kk.2.1, kk.2.2⟩)
              (fail)
            all_goals
              go_wp2_with fail
              first
                | (go_ret
                   have hu := HUP.out
                   simp only [Bool.not_true, Bool.false_and] at hu
                   exact ⟨ret_i (by have hf := HF3.out; rw [← hu, if_neg (by decide)] at hf; exact hf.symm), HS1.out.below⟩)
                | (go_roundg (ws.length - (j + 1))
                   case measure => omega
                   case rel => exact ⟨j, j + 1, rfl, by omega, rfl, by first | rfl | (rw [w64x _ (by have := HL.out; omega)]; rfl), by have hu := HUP.out; simpa using hu, HS1.out⟩)
        · have hr := HD.out
          rw [rises_last (by omega)] at hr
          have hf := HF3.out
          rw [← hr, if_pos rfl] at hf
          subst hf
          clear hij
          have hj : j = ws.length := by omega
          subst hj
          clear HF3 HD hr
          go_wp2_with fail
          go_ret
          exact ⟨rfl, HS.out.below⟩
end Go.Proofs.YtocfcnhaecmgpaaGreatDoor

namespace Go.Proofs.YtocfcnhaecmgpaaGreatDoor
open Go.RowKit Go.Extern.Stop Go.Stop Go.Extern

theorem rown_any (P : Nat → Prop) (k : Int) (t : Bool) (ws : List ByteArray) (ks : List Rx) (hwt : wordsWt ws ≤ 60000) (hkt : ks.length ≤ 60000) (w : World) (a : Option Addr) (l c : Nat) (a' : Option Addr) (l' c' : Nat)
    (hv : ExC P w [.int .i64 k, .bool t, .slice a l c, .slice a' l' c'] (.mk k t ws ks)) :
    Calls Tryz.prog 64 #[.agg #[.int .i64 k, .bool t, .slice a l c, .slice a' l' c']] w fun e w' => e = .returned (.int .i64 (ownF k t ws ks.length)) ∧ Below w.heap.size w w' := by
  by_cases hk : k = 1
  · subst hk
    exact rown_atom P t ws ks hwt w a l c a' l' c' hv
  · exact rown_plain P k hk t ws ks (by have := wlen_wt ws; omega) hkt w a l c a' l' c' hv
set_option maxRecDepth 100000 in
set_option maxHeartbeats 8000000 in
theorem rcheck_go (P : Nat → Prop) : ∀ (m : Nat) (x : Rx), SizeOf.sizeOf x < m → rxWt x ≤ 60000 → ∀ (w : World) (k : Int) (t : Bool) (a : Option Addr) (l c : Nat) (a' : Option Addr) (l' c' : Nat),
    ExC P w [.int .i64 k, .bool t, .slice a l c, .slice a' l' c'] x →
    Calls Tryz.prog 34 #[.agg #[.int .i64 k, .bool t, .slice a l c, .slice a' l' c']] w fun e w' => e = .returned (.int .i64 (faultE x)) ∧ Below w.heap.size w w' := by
  intro m
  induction m with
  | zero => intro x hx; exact absurd hx (Nat.not_lt_zero _)
  | succ m ih =>
    intro x hx hsz w k t a l c a' l' c' hv
    have IH := Lib.hid ih
    clear ih
    cases x with
    | mk k1 t1 words kids =>
      have hv0 := hv
      obtain ⟨rfl, rfl, hk, xs, hl, hvs⟩ := hv.open
      obtain ⟨_, _, es⟩ := hl.form
      simp only [Value.slice.injEq] at es
      obtain ⟨-, el, -⟩ := es
      subst el
      have HROW := Lib.hid hl
      have HVS := Lib.hid hvs
      simp only [Rx.mk.sizeOf_spec] at hx
      have HX := Lib.hid hx
      rw [rxWt] at hsz
      have hkl := len_wt kids
      have HSZ : Hid (rxsWt kids ≤ 60000) := Lib.hid (by omega)
      have HOW := Lib.hid (fun W (hb : Below w.heap.size w W) => rown_any P k t words kids (by omega) (by omega) W a l c a' kids.length c' (hv0.step hb))
      have HTOT : Hid (faultE (.mk k t words kids) = if ownF k t words kids.length ≠ 0 then ownF k t words kids.length else faultEs kids) := Lib.hid (by rw [faultE])
      generalize faultE (.mk k t words kids) = tot at *
      generalize ownF k t words kids.length = of at *
      have HB0 := Lib.hid (sbelow_new w (.cells #[.int .i64 k, .bool t, .slice a l c, .slice a' kids.length c'] 30))
      have HF := Lib.hid (four_new w 30 (.int .i64 k) (.bool t) (.slice a l c) (.slice a' kids.length c'))
      obtain ⟨p0, p1, p2, p3⟩ := HF.out.box
      clear hk hl hvs hx hv hv0 hsz hkl
      go_enter Tryz.func34, Tryz.ntmps34
      go_wp2_with fail
      generalize w.alloc (.cells #[.int .i64 k, .bool t, .slice a l c, .slice a' kids.length c'] 30) = w1 at *
      refine (HOW.out _ HB0.out).mono ?_
      rintro e w2 ⟨rfl, b2⟩
      have HF2 := Lib.hid (HF.out.step b2)
      have HB2 := Lib.hid (HB0.out.trans (b2.mono HB0.out.size))
      clear p0 p1 p2 p3 b2 HF HB0
      go_wp2_with fail
      go_loopg [3, 4] kids.length (fun g u v wr => ∃ (i : Nat) (cc : Int), i ≤ kids.length ∧ g = kids.length - i ∧ v = .int .i64 i ∧ u = .int .i64 cc ∧ (if cc ≠ 0 then cc else faultEs (kids.drop i)) = tot ∧ Four wr w.heap.size 0 (.int .i64 k) (.bool t) (.slice a l c) (.slice a' kids.length c') ∧ Below w.heap.size w wr)
      case atStart => exact ⟨0, of, Nat.zero_le _, by omega, rfl, rfl, by rw [List.drop_zero]; exact HTOT.out.symm, HF2.out, HB2.out⟩
      case round =>
        clear HB2 HTOT HF2
        obtain ⟨i, cc, hi, hgk, rfl, rfl, hd, hbx, hbel⟩ := hrel
        have HD := Lib.hid hd
        have HB := Lib.hid hbel
        have HBX := Lib.hid hbx
        obtain ⟨p0, p1, p2, p3⟩ := hbx.box
        clear hbel hd hbx
        by_cases h0 : cc = 0
        · subst h0
          have hd := HD.out
          rw [if_neg (by decide)] at hd
          have HD2 := Lib.hid hd
          clear hd HD
          by_cases hlt : i < kids.length
          · obtain ⟨y, hy⟩ : ∃ y, kids[i]? = some y := ⟨_, List.getElem?_eq_getElem hlt⟩
            obtain ⟨b1, o1, k6, t6, a6, l6, c6, a7, l7, c7, rfl, hvx, hE1⟩ := ex_at HROW.out HVS.out hy HB.out
            have hsx : SizeOf.sizeOf y < m := by have := rx_mem hy; have := HX.out; omega
            have hys : rxWt y ≤ 60000 := by have := HSZ.out; have := wt_mem hy; omega
            have HC := Lib.hid (IH.out y hsx hys wr _ _ _ _ _ _ _ _ (hvx.step HB.out))
            have hfd := faultEs_drop hy
            have HFD := Lib.hid hfd
            obtain ⟨-, g0, g1, g2, g3⟩ := hE1
            generalize faultE y = z at *
            clear hy hsx hvx hys hfd
            go_wp2_with fail
            refine HC.out.mono ?_
            rintro e w4 ⟨rfl, b4⟩
            clear p0 p1 p2 p3 g0 g1 g2 g3
            go_wp2_with fail
            go_roundg (kids.length - (i + 1))
            case measure => omega
            case rel => exact ⟨i + 1, z, by omega, rfl, by first | rfl | (rw [w64x _ (by have := len_wt kids; have := HSZ.out; omega)]; rfl), rfl, by rw [← HD2.out, HFD.out], HBX.out.step b4, HB.out.trans (b4.mono HB.out.size)⟩
          · obtain rfl : i = kids.length := by omega
            have hd := HD2.out
            rw [List.drop_length, faultEs] at hd
            subst hd
            clear HD2
            go_wp2_with fail
            go_ret
            exact ⟨rfl, HB.out⟩
        · have hd := HD.out
          rw [if_pos h0] at hd
          subst hd
          have hne : (cc == 0) = false := beq_eq_false_iff_ne.2 h0
          clear h0 HD
          go_wp2_with fail
          go_ret
          exact ⟨rfl, HB.out⟩
set_option maxRecDepth 100000 in
set_option maxHeartbeats 4000000 in
theorem rCheck_any (P : Nat → Prop) (x : Rx) (hwt : rxWt x ≤ 60000) (w : World) (k : Int) (t : Bool) (a : Option Addr) (l c : Nat) (a' : Option Addr) (l' c' : Nat) (hv : ExC P w [.int .i64 k, .bool t, .slice a l c, .slice a' l' c'] x) :
    Calls Tryz.prog 12 #[.agg #[.int .i64 k, .bool t, .slice a l c, .slice a' l' c']] w fun e w' => e = .returned (.int .i64 (checkE x)) ∧ Below w.heap.size w w' := by
  have hsw := size_wt x
  have HS := Lib.hid (fun W (hb : Below w.heap.size w W) => rsize_go P _ x (Nat.lt_succ_self _) (by omega) 100 (by omega) (by omega) W k t a l c a' l' c' (hv.step hb))
  have HF := Lib.hid (fun W (hb : Below w.heap.size w W) => rcheck_go P _ x (Nat.lt_succ_self _) hwt W k t a l c a' l' c' (hv.step hb))
  have HB := Lib.hid (sbelow_new w (.cells #[.int .i64 k, .bool t, .slice a l c, .slice a' l' c'] 30))
  have HQ := Lib.hid (four_new w 30 (.int .i64 k) (.bool t) (.slice a l c) (.slice a' l' c'))
  obtain ⟨p0, p1, p2, p3⟩ := HQ.out.box
  have HO := Lib.hid (rsz_over (x := x) (left := 100))
  unfold checkE
  by_cases h100 : 100 < rxSize x
  · have hgt : (100 : Int) < rsz x 100 := HO.out.2 (by omega)
    rw [if_pos h100]
    generalize rsz x 100 = z at *
    clear hv hwt hsw
    go_enter Tryz.func12, Tryz.ntmps12
    go_wp2_with fail
    generalize w.alloc (.cells #[.int .i64 k, .bool t, .slice a l c, .slice a' l' c'] 30) = w1 at *
    refine (HS.out _ HB.out).mono ?_
    rintro e w2 ⟨rfl, b2⟩
    clear p0 p1 p2 p3
    go_wp2_with fail
    go_ret
    exact ⟨rfl, HB.out.trans (b2.mono HB.out.size)⟩
  · have hgt : ¬ (100 : Int) < rsz x 100 := fun h => h100 (by have := HO.out.1 h; omega)
    rw [if_neg h100]
    generalize rsz x 100 = z at *
    generalize faultE x = q at *
    clear hv hwt hsw
    go_enter Tryz.func12, Tryz.ntmps12
    go_wp2_with fail
    generalize w.alloc (.cells #[.int .i64 k, .bool t, .slice a l c, .slice a' l' c'] 30) = w1 at *
    refine (HS.out _ HB.out).mono ?_
    rintro e w2 ⟨rfl, b2⟩
    have HQ2 := Lib.hid (HQ.out.step b2)
    have HB2 := Lib.hid (HB.out.trans (b2.mono HB.out.size))
    clear p0 p1 p2 p3 b2
    obtain ⟨p0, p1, p2, p3⟩ := HQ2.out.box
    go_wp2_with fail
    refine (HF.out _ HB2.out).mono ?_
    rintro e w3 ⟨rfl, b3⟩
    clear p0 p1 p2 p3
    go_wp2_with fail
    go_ret
    exact ⟨rfl, HB2.out.trans (b3.mono HB2.out.size)⟩

/-! ### brackets -/
/-- What the document's Print answers. -/
def RpSpec (P : Nat → Prop) (w : World) (y : Rx) : Prop := ∀ W, Below w.heap.size w W → ∀ (k : Int) (t : Bool) (a : Option Addr) (l c : Nat) (a' : Option Addr) (l' c' : Nat), ExC P W [.int .i64 k, .bool t, .slice a l c, .slice a' l' c'] y →
  Calls Tryz.prog 20 #[.agg #[.int .i64 k, .bool t, .slice a l c, .slice a' l' c']] W fun e w' => e = .returned (.string ⟨(textE y).toArray⟩) ∧ Below W.heap.size W w'
set_option maxRecDepth 100000 in
set_option maxHeartbeats 8000000 in
theorem rbrackets_of (P : Nat → Prop) (y : Rx) (hyw : rxWt y ≤ 60000) (w : World) (HC : Hid (RpSpec P w y)) (k : Int) (t : Bool) (a1 : Option Addr) (l1 c1 : Nat) (a2 : Option Addr) (l2 c2 : Nat) (k6 : Int) (t6 : Bool) (a6 : Option Addr) (l6 c6 : Nat) (a7 : Option Addr) (n7 c7 : Nat)
    (hy : ExC P w [.int .i64 k6, .bool t6, .slice a6 l6 c6, .slice a7 n7 c7] y) :
    Calls Tryz.prog 44 #[.agg #[.int .i64 k, .bool t, .slice a1 l1 c1, .slice a2 l2 c2], .agg #[.int .i64 k6, .bool t6, .slice a6 l6 c6, .slice a7 n7 c7]] w fun e w' =>
      e = .returned (.string ⟨(brT (brk k y) (textE y)).toArray⟩) ∧ Below w.heap.size w w' := by
  have H0 := Lib.hid (TwoX.start w 30 (.int .i64 k) (.bool t) (.slice a1 l1 c1) (.slice a2 l2 c2) (.int .i64 k6) (.bool t6) (.slice a6 l6 c6) (.slice a7 n7 c7))
  obtain ⟨q0, q1, q2, q3⟩ := H0.out.sb.box
  have HCC := Lib.hid (fun W (hb : Below w.heap.size w W) => HC.out W hb _ _ _ _ _ _ _ _ (hy.step hb))
  have HBR : Hid (brk k y = (if k6 = 2 then decide (0 < n7) && decide (k ≠ 3) else decide (k6 = 3))) := Lib.hid (by
    cases y with
    | mk ky ty wy kyy =>
      obtain ⟨rfl, -, -, xs2, hr2, -⟩ := hy.open
      obtain ⟨_, _, es⟩ := hr2.form
      simp only [Value.slice.injEq] at es
      obtain ⟨-, el, -⟩ := es
      subst el
      rfl)
  have hlen := textE_len y (by omega)
  have HLEN : Hid ((textE y).length ≤ 1000000) := Lib.hid (by omega)
  generalize textE y = ty at *
  generalize brk k y = br at *
  clear hy HC hyw hlen
  go_enter Tryz.func44, Tryz.ntmps44
  go_wp2_with fail
  refine (HCC.out _ H0.out.below).mono ?_
  rintro e w2 ⟨rfl, b2⟩
  have H2 := Lib.hid (H0.out.step b2)
  clear q0 q1 q2 q3 b2
  obtain ⟨p0, p1, p2, p3⟩ := H2.out.sa.box
  obtain ⟨q0, q1, q2, q3⟩ := H2.out.sb.box
  have hl := HLEN.out
  have hsz : (⟨ty.toArray⟩ : ByteArray).size = ty.length := by simp [ByteArray.size]
  by_cases h3 : k6 = 3
  · subst h3
    have hb := HBR.out
    rw [if_neg (by decide), decide_eq_true rfl] at hb
    subst hb
    go_wp2_with fail
    go_ret
    exact ⟨ret_s (cat3 [40] ty [41]), H2.out.below⟩
  · have hne3 : (k6 == 3) = false := beq_eq_false_iff_ne.2 h3
    by_cases h2 : k6 = 2
    · subst h2
      have hb := HBR.out
      rw [if_pos rfl] at hb
      by_cases hn : 0 < n7
      · rw [decide_eq_true hn, Bool.true_and] at hb
        by_cases hk : k = 3
        · subst hk
          rw [decide_eq_false (by decide)] at hb
          subst hb
          go_wp2_with fail
          go_ret
          exact ⟨rfl, H2.out.below⟩
        · rw [decide_eq_true hk] at hb
          subst hb
          have hne : (k != 3) = true := bne_iff_ne.2 hk
          clear hk
          go_wp2_with fail
          go_ret
          exact ⟨ret_s (cat3 [40] ty [41]), H2.out.below⟩
      · rw [decide_eq_false hn, Bool.false_and] at hb
        subst hb
        go_wp2_with fail
        go_ret
        exact ⟨rfl, H2.out.below⟩
    · have hb := HBR.out
      rw [if_neg h2, decide_eq_false h3] at hb
      subst hb
      have hne2 : (k6 == 2) = false := beq_eq_false_iff_ne.2 h2
      clear h2 h3
      go_wp2_with fail
      go_ret
      exact ⟨rfl, H2.out.below⟩
end Go.Proofs.YtocfcnhaecmgpaaGreatDoor
