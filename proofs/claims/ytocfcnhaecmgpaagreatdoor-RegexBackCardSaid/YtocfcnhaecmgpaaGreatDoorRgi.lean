/-
  Package regex's Print, by contract; the document's own Size, own, check, Check.
-/
import Derived.Test.YtocfcnhaecmgpaaGreatDoorRgb
namespace Go.Proofs.YtocfcnhaecmgpaaGreatDoor
open Go.RowKit Go.Extern.Stop Go.Stop Go.Extern

set_option maxRecDepth 100000 in
set_option maxHeartbeats 4000000 in
theorem xprint_ok (P : Nat → Prop) (x : Rx) (hwt : rxWt x ≤ 60000) (h0 : checkE x = 0) (w : World) (k : Int) (t : Bool) (a : Option Addr) (l c : Nat) (a' : Option Addr) (l' c' : Nat) (hv : ExD P w [.int .i64 k, .bool t, .slice a l c, .slice a' l' c'] x) :
    Calls Tryz.prog 13 #[.agg #[.int .i64 k, .bool t, .slice a l c, .slice a' l' c']] w fun e w' => e = .returned (.tuple #[.string ⟨(textE x).toArray⟩, .nilIface]) ∧ Below w.heap.size w w' := by
  have hf : faultE x = 0 := by
    unfold checkE at h0
    split at h0
    · cases h0
    · exact h0
  have HC := Lib.hid (fun W (hb : Below w.heap.size w W) => xcheck_ok P x hwt h0 W k t a l c a' l' c' (hv.step hb).toC)
  have HT := Lib.hid (fun W (hb : Below w.heap.size w W) => xtext_go P _ x (Nat.lt_succ_self _) hwt hf W k t a l c a' l' c' (hv.step hb))
  have HB := Lib.hid (sbelow_new w (.cells #[.int .i64 k, .bool t, .slice a l c, .slice a' l' c'] 25))
  have HQ := Lib.hid (four_new w 25 (.int .i64 k) (.bool t) (.slice a l c) (.slice a' l' c'))
  obtain ⟨p0, p1, p2, p3⟩ := HQ.out.box
  generalize textE x = tx at *
  clear hv h0 hwt hf
  go_enter Tryz.func13, Tryz.ntmps13
  go_wp2_with fail
  generalize w.alloc (.cells #[.int .i64 k, .bool t, .slice a l c, .slice a' l' c'] 25) = w1 at *
  refine (HC.out _ HB.out).mono ?_
  rintro e w2 ⟨rfl, b2⟩
  have HQ2 := Lib.hid (HQ.out.step b2)
  have HB2 := Lib.hid (HB.out.trans (b2.mono HB.out.size))
  clear p0 p1 p2 p3 b2
  obtain ⟨p0, p1, p2, p3⟩ := HQ2.out.box
  go_wp2_with fail
  refine (HT.out _ HB2.out).mono ?_
  rintro e w3 ⟨rfl, b3⟩
  have HB3 := Lib.hid (HB2.out.trans (b3.mono HB2.out.size))
  go_wp2_with fail
  go_ret2
  exact ⟨rfl, HB3.out⟩
/-- What Print answers where it may not be. -/
def PrErr (w : World) (c : Int) (e : Ending) (w' : World) : Prop := ∃ fb, e = .returned (.tuple #[.string ⟨#[]⟩, pf fb]) ∧ FaultAt w' fb c 0 ∧ Below w.heap.size w w'
set_option maxRecDepth 100000 in
set_option maxHeartbeats 4000000 in
theorem xprint_no (P : Nat → Prop) (x : Rx) (hwt : rxWt x ≤ 60000) (h0 : checkE x ≠ 0) (w : World) (k : Int) (t : Bool) (a : Option Addr) (l c : Nat) (a' : Option Addr) (l' c' : Nat) (hv : ExC P w [.int .i64 k, .bool t, .slice a l c, .slice a' l' c'] x) :
    Calls Tryz.prog 13 #[.agg #[.int .i64 k, .bool t, .slice a l c, .slice a' l' c']] w (PrErr w (checkE x)) := by
  have HC := Lib.hid (fun W (hb : Below w.heap.size w W) => xcheck_no P x hwt h0 W k t a l c a' l' c' (hv.step hb))
  have HB := Lib.hid (sbelow_new w (.cells #[.int .i64 k, .bool t, .slice a l c, .slice a' l' c'] 25))
  have HQ := Lib.hid (four_new w 25 (.int .i64 k) (.bool t) (.slice a l c) (.slice a' l' c'))
  obtain ⟨p0, p1, p2, p3⟩ := HQ.out.box
  generalize checkE x = z at *
  clear hv h0 hwt
  go_enter Tryz.func13, Tryz.ntmps13
  go_wp2_with fail
  generalize w.alloc (.cells #[.int .i64 k, .bool t, .slice a l c, .slice a' l' c'] 25) = w1 at *
  refine (HC.out _ HB.out).mono ?_
  rintro e w2 ⟨fb, rfl, hf, b2⟩
  have HF := Lib.hid hf
  have HB2 := Lib.hid (HB.out.trans (b2.mono HB.out.size))
  clear p0 p1 p2 p3 b2 hf
  unfold pf
  go_wp2_with fail
  go_ret2
  exact ⟨fb, rfl, HF.out, HB2.out⟩

/-! ### The document's own -/
set_option maxRecDepth 100000 in
set_option maxHeartbeats 4000000 in
theorem rsize_go (P : Nat → Prop) : ∀ (m : Nat) (x : Rx), SizeOf.sizeOf x < m → rxSize x ≤ 1000000 → ∀ (left : Int), 0 ≤ left → left ≤ 1000000 → ∀ (w : World) (k : Int) (t : Bool) (a : Option Addr) (l c : Nat) (a' : Option Addr) (l' c' : Nat),
    ExC P w [.int .i64 k, .bool t, .slice a l c, .slice a' l' c'] x →
    Calls Tryz.prog 17 #[.agg #[.int .i64 k, .bool t, .slice a l c, .slice a' l' c'], .int .i64 left] w fun e w' => e = .returned (.int .i64 (rsz x left)) ∧ Below w.heap.size w w' := by
  intro m
  induction m with
  | zero => intro x hx; exact absurd hx (Nat.not_lt_zero _)
  | succ m ih =>
    intro x hx hsz left hl0 hl1 w k t a l c a' l' c' hv
    have IH := Lib.hid ih
    clear ih
    cases x with
    | mk k1 t1 words kids =>
      obtain ⟨rfl, rfl, hk, xs, hl, hvs⟩ := hv.open
      obtain ⟨_, _, es⟩ := hl.form
      simp only [Value.slice.injEq] at es
      obtain ⟨-, el, -⟩ := es
      subst el
      have HROW := Lib.hid hl
      have HVS := Lib.hid hvs
      simp only [Rx.mk.sizeOf_spec] at hx
      have HX := Lib.hid hx
      rw [rxSize] at hsz
      rw [rsz]
      have HSZ := Lib.hid hsz
      obtain ⟨tot, ht⟩ : ∃ z, rszs kids 1 left = z := ⟨_, rfl⟩
      rw [ht]
      have HT := Lib.hid ht
      have HB0 := Lib.hid (sbelow_new w (.cells #[.int .i64 k, .bool t, .slice a l c, .slice a' kids.length c'] 30))
      have HF := Lib.hid (four_new w 30 (.int .i64 k) (.bool t) (.slice a l c) (.slice a' kids.length c'))
      obtain ⟨p0, p1, p2, p3⟩ := HF.out.box
      clear hk hl hvs hx hv hsz ht
      go_enter Tryz.func17, Tryz.ntmps17
      go_wp2_with fail
      generalize w.alloc (.cells #[.int .i64 k, .bool t, .slice a l c, .slice a' kids.length c'] 30) = w1 at *
      clear p0 p1 p2 p3
      go_loopg [5, 11] kids.length (fun g u v wr => ∃ (i : Nat) (n : Int), i ≤ kids.length ∧ g = kids.length - i ∧ v = .int .i64 i ∧ u = .int .i64 n ∧ 1 ≤ n ∧ n ≤ 1 + (rxsSize (kids.take i) : Int) ∧ rszs (kids.drop i) n left = tot ∧ Below w.heap.size w wr)
      case atStart => exact ⟨0, 1, Nat.zero_le _, by omega, rfl, rfl, by omega, by simp [rxsSize], by rw [List.drop_zero]; exact HT.out, HB0.out⟩
      case round =>
        clear HB0 HT
        obtain ⟨i, n, hi, hgk, rfl, rfl, hn1, hn2, hd, hbel⟩ := hrel
        have HD := Lib.hid hd
        have HB := Lib.hid hbel
        have HN2 := Lib.hid hn2
        clear hbel hd hn2
        by_cases hlt : i < kids.length
        · obtain ⟨y, hy⟩ : ∃ y, kids[i]? = some y := ⟨_, List.getElem?_eq_getElem hlt⟩
          obtain ⟨b1, o1, k6, t6, a6, l6, c6, a7, l7, c7, rfl, hvx, hE1⟩ := ex_at HROW.out HVS.out hy HB.out
          have bn := sbelow_new wr (.cells #[.int .i64 k6, .bool t6, .slice a6 l6 c6, .slice a7 l7 c7] 30)
          have hst := rxsSize_take hy
          have hle := rxsSize_le (l := kids) (i + 1)
          have HBN := Lib.hid (HB.out.trans (bn.mono HB.out.size))
          have hup := HD.out
          rw [drop_at hy, rszs] at hup
          by_cases hbig : left < n
          · rw [if_pos hbig] at hup
            subst hup
            obtain ⟨-, g0, g1, g2, g3⟩ := hE1
            clear hy bn hvx hst hle HD
            go_wp2_with fail
            go_ret
            exact ⟨rfl, HBN.out⟩
          · rw [if_neg hbig] at hup
            have hsx : SizeOf.sizeOf y < m := by have := rx_mem hy; have := HX.out; omega
            have hys : rxSize y ≤ 1000000 := by have := HSZ.out; omega
            have HC := Lib.hid (IH.out y hsx hys (left - n) (by omega) (by omega) _ _ _ _ _ _ _ _ _ (hvx.step (HB.out.trans (bn.mono HB.out.size))))
            have hz1 := rsz_pos y (left - n)
            have hz2 := rsz_le y (left - n)
            have HUP := Lib.hid hup
            have HZ2 : Hid (n + rsz y (left - n) ≤ 1 + (rxsSize (kids.take (i + 1)) : Int)) := Lib.hid (by have := HN2.out; omega)
            have hub : n + rsz y (left - n) ≤ 1000001 := by have := HSZ.out; have := HZ2.out; omega
            generalize rsz y (left - n) = z at *
            have hw1 : IntKind.i64.wrap (left - n) = left - n := IntWalk.i64_in _ (by omega)
            obtain ⟨-, g0, g1, g2, g3⟩ := hE1
            clear hy bn hsx hvx hst hle hys hup HD hz2
            go_wp2_with fail
            refine HC.out.mono ?_
            rintro e w4 ⟨rfl, b4⟩
            go_wp2_with fail
            go_roundg (kids.length - (i + 1))
            case measure => omega
            case rel =>
              have h5 := HSZ.out
              have h4 := len_sizes kids
              refine ⟨i + 1, n + z, by omega, rfl, by first | rfl | (rw [w64x _ (by omega)]; rfl), ?_, by omega, HZ2.out, HUP.out, HBN.out.trans (b4.mono HBN.out.size)⟩
              first
                | rfl
                | (rw [w64x _ (by omega)])
        · obtain rfl : i = kids.length := by omega
          have hd := HD.out
          rw [List.drop_length, rszs] at hd
          subst hd
          clear HD
          go_wp2_with fail
          go_ret
          exact ⟨rfl, HB.out⟩

set_option maxRecDepth 100000 in
set_option maxHeartbeats 8000000 in
theorem rown_plain (P : Nat → Prop) (k : Int) (hk1 : k ≠ 1) (t : Bool) (ws : List ByteArray) (ks : List Rx) (hwt : ws.length ≤ 60000) (hkt : ks.length ≤ 60000) (w : World) (a : Option Addr) (l c : Nat) (a' : Option Addr) (l' c' : Nat)
    (hv : ExC P w [.int .i64 k, .bool t, .slice a l c, .slice a' l' c'] (.mk k t ws ks)) :
    Calls Tryz.prog 64 #[.agg #[.int .i64 k, .bool t, .slice a l c, .slice a' l' c']] w fun e w' => e = .returned (.int .i64 (ownF k t ws ks.length)) ∧ Below w.heap.size w w' := by
  obtain ⟨-, -, hk, xs, hl, -⟩ := hv.open
  obtain ⟨_, _, es⟩ := hl.form
  simp only [Value.slice.injEq] at es
  obtain ⟨-, el, -⟩ := es
  subst el
  obtain ⟨_, _, es⟩ := hk.form
  simp only [Value.slice.injEq] at es
  obtain ⟨-, el, -⟩ := es
  subst el
  have HB := Lib.hid (sbelow_new w (.cells #[.int .i64 k, .bool t, .slice a ws.length c, .slice a' ks.length c'] 30))
  have HF := Lib.hid (four_new w 30 (.int .i64 k) (.bool t) (.slice a ws.length c) (.slice a' ks.length c'))
  have HO : Hid (ownF k t ws ks.length = if k < 0 ∨ 6 < k then 2 else if mayH k ks.length = false then 4 else if k = 1 then wordsF ws else if t = true ∨ 0 < ws.length then 4 else 0) := Lib.hid rfl
  generalize ownF k t ws ks.length = o at *
  generalize wordsF ws = wf at *
  generalize ws.length = wl at *
  generalize ks.length = n at *
  clear hk hl hv
  obtain ⟨p0, p1, p2, p3⟩ := HF.out.box
  by_cases h1 : k < 0
  · have ho := HO.out
    rw [if_pos (.inl h1)] at ho
    subst ho
    go_enter Tryz.func64, Tryz.ntmps64
    go_wp2_with fail
    go_ret
    exact ⟨rfl, HB.out⟩
  by_cases h2 : 6 < k
  · have ho := HO.out
    rw [if_pos (.inr h2)] at ho
    subst ho
    go_enter Tryz.func64, Tryz.ntmps64
    go_wp2_with fail
    go_ret
    exact ⟨rfl, HB.out⟩
  obtain rfl | rfl | rfl | rfl | rfl | rfl : k = 0 ∨ k = 2 ∨ k = 3 ∨ k = 4 ∨ k = 5 ∨ k = 6 := by omega
  all_goals
    by_cases ht : t = true
    · subst ht
      go_enter Tryz.func64, Tryz.ntmps64
      go_wp2_with fail
      go_ret
      refine ⟨ret_i ?_, HB.out⟩
      have ho := HO.out
      unfold mayH at ho
      rw [ho]
      first | rfl | (simp; done) | (simp; omega) | (simp_all; done) | (simp_all; omega)
    · have ht' : t = false := by simpa using ht
      subst ht'
      clear ht
      by_cases hw0 : 0 < wl
      · skip
        go_enter Tryz.func64, Tryz.ntmps64
        go_wp2_with fail
        go_ret
        refine ⟨ret_i ?_, HB.out⟩
        have ho := HO.out
        unfold mayH at ho
        rw [ho]
        first | rfl | (simp; done) | (simp; omega) | (simp_all; done) | (simp_all; omega)
      · obtain rfl : wl = 0 := by omega
        by_cases hn0 : n = 0
        · subst hn0
          go_enter Tryz.func64, Tryz.ntmps64
          go_wp2_with fail
          go_ret
          refine ⟨ret_i ?_, HB.out⟩
          have ho := HO.out
          unfold mayH at ho
          rw [ho]
          first | rfl | (simp; done) | (simp; omega) | (simp_all; done) | (simp_all; omega)
        · by_cases hn1 : n = 1
          · subst hn1
            go_enter Tryz.func64, Tryz.ntmps64
            go_wp2_with fail
            go_ret
            refine ⟨ret_i ?_, HB.out⟩
            have ho := HO.out
            unfold mayH at ho
            rw [ho]
            first | rfl | (simp; done) | (simp; omega) | (simp_all; done) | (simp_all; omega)
          · have hn9 : ((n : Int) == 1) = false := beq_eq_false_iff_ne.2 (by omega)
            have hn2 : 2 ≤ n := by omega
            go_enter Tryz.func64, Tryz.ntmps64
            go_wp2_with fail
            go_ret
            refine ⟨ret_i ?_, HB.out⟩
            have ho := HO.out
            unfold mayH at ho
            rw [ho]
            first | rfl | (simp; done) | (simp; omega) | (simp_all; done) | (simp_all; omega)
end Go.Proofs.YtocfcnhaecmgpaaGreatDoor
