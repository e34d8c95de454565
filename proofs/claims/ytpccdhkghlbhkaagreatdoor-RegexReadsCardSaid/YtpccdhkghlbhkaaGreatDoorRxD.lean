/-
  Package regex's reader by contracts: a word; whether a part begins.
-/
import Derived.Test.YtpccdhkghlbhkaaGreatDoorRxC
namespace Go.Proofs.YtpccdhkghlbhkaaGreatDoor
open Go.RowKit Go.Extern.Stop Go.Stop Go.Extern

/-- Name's answer, an error or a name. -/
theorem name_cases {s : ByteArray} {k : Nat} {w w' : World} {e : Ending} (h : NameOut w s (nameK s k) (nameT s k) (nameC s k) (nameK s k) e w') :
    (nameC s k = 0 ∧ e = .returned (.tuple #[.agg #[.string s, .int .i64 (nameK s k)], .string (nameT s k), .nilIface]) ∧ Below w.heap.size w w') ∨
    (nameC s k ≠ 0 ∧ nameK s k = k ∧ ∃ fb, e = .returned (.tuple #[.agg #[.string s, .int .i64 k], .string (nameT s k), pf fb]) ∧ FaultAt w' fb (nameC s k) k ∧ Below w.heap.size w w') := by
  obtain ⟨v, rfl, hv, hb⟩ := h
  by_cases h0 : nameC s k = 0
  · rw [h0] at hv
    obtain rfl := hv.nil_of
    exact .inl ⟨h0, rfl, hb⟩
  · obtain ⟨fb, rfl, hf⟩ := hv.fb h0
    have hk : nameK s k = k := by
      unfold nameK
      unfold nameC at h0
      split
      · rename_i h1
        rw [if_pos h1.1, if_pos h1.2] at h0
        exact absurd rfl h0
      · rfl
    exact .inr ⟨h0, hk, fb, by rw [hk], by rw [hk] at hf; exact hf, hb⟩

/-- What a word's reading answers. -/
def WordYes (w : World) (s : ByteArray) (k : Nat) (t : ByteArray) (e : Ending) (w' : World) : Prop :=
  e = .returned (.tuple #[.agg #[.string s, .int .i64 k], .string t, .nilIface]) ∧ Below w.heap.size w w'
def WordNo (w : World) (s : ByteArray) (k : Nat) (c a : Int) (e : Ending) (w' : World) : Prop :=
  ∃ fb, e = .returned (.tuple #[.agg #[.string s, .int .i64 k], .string ⟨#[]⟩, pf fb]) ∧ FaultAt w' fb c a ∧ Below w.heap.size w w'
/-- Within a word's reading: the place, the result's place, and the next one. -/
structure InW (w0 : World) (s : ByteArray) (j nb k : Nat) (w : World) : Prop where
  inn : InScan w0 s j w
  nxt : ScanAt w nb s k
  far : w0.heap.size + 1 < nb
section
variable {w0 w w' : World} {s : ByteArray} {j nb k : Nat}
theorem InW.step (h : InW w0 s j nb k w) (hb : Below w.heap.size w w') : InW w0 s j nb k w' := ⟨h.inn.step hb, h.nxt.step hb, h.far⟩
theorem InW.start (h : InScan w0 s j w) (k : Nat) : InW w0 s j w.heap.size k (w.alloc (.cells #[.string s, .int .i64 k] 42)) :=
  ⟨h.step (sbelow_new _ _), ScanAt.new w s k 42, by have := h.res.1; omega⟩
/-- The next place is stored. -/
theorem InW.put (h : InW w0 s j nb k w) (k' : Nat) : InW w0 s j nb k' ((w.setCell ⟨nb, 0, none⟩ (.string s)).setCell ⟨nb, 1, none⟩ (.int .i64 k')) :=
  ⟨⟨(h.inn.own.far (q := ⟨nb, 0, none⟩) (by show w0.heap.size ≠ nb; have := h.far; omega) _).far (q := ⟨nb, 1, none⟩) (by show w0.heap.size ≠ nb; have := h.far; omega) _, (h.inn.res.far (q := ⟨nb, 0, none⟩) (by show w0.heap.size + 1 ≠ nb; have := h.far; omega) _).far (q := ⟨nb, 1, none⟩) (by show w0.heap.size + 1 ≠ nb; have := h.far; omega) _,
    (h.inn.below.setCell (p := ⟨nb, 0, none⟩) (by show w0.heap.size ≤ nb; have := h.far; omega) _).setCell (p := ⟨nb, 1, none⟩) (by show w0.heap.size ≤ nb; have := h.far; omega) _⟩, h.nxt.set s k', h.far⟩
end
theorem extract_rest (s : ByteArray) (j k : Nat) (h : j ≤ k) (hk : k ≤ s.size) : (restOf s j).extract 0 (k - j) = s.extract j k := by
  unfold restOf
  apply ByteArray.ext
  apply Array.ext
  · simp
    omega
  · intro i h1 h2
    simp


set_option maxRecDepth 100000 in
set_option maxHeartbeats 4000000 in
theorem readWord_any (s : ByteArray) (j : Nat) (hs : s.size ≤ 100000) (hj : j ≤ s.size) (w : World) :
    Calls Tryz.prog 88 #[.agg #[.string s, .int .i64 j]] w fun e w' => (wdC s j = 0 ∧ WordYes w s (wdK s j) (s.extract j (wdK s j)) e w') ∨ (wdC s j ≠ 0 ∧ WordNo w s j (wdC s j) (wdA s j) e w') := by
  have HJ := Lib.hid hj
  have HS := Lib.hid hs
  have h1l := wd1_le hj
  have hkl := nameK_le s _ h1l
  have hge := nameK_ge s _ h1l
  have hj1 : j ≤ wd1 s j := by unfold wd1; split <;> omega
  have HD := Lib.hid (fun W => has_one s j 36 (by decide) hs hj W)
  have HN1 := Lib.hid (fun W => name_any s (wd1 s j) hs h1l W)
  have HP := Lib.hid (fun W => has_one s (nameK s (wd1 s j)) 35 (by decide) hs hkl W)
  have HN2 := Lib.hid (fun (h : byteI s (nameK s (wd1 s j)) = 35) W => name_any s (nameK s (wd1 s j) + 1) hs (by have := byteI_in h (by decide : (35 : Int) ≠ 0); omega) W)
  have HK1 : Hid (j ≤ nameK s (wd1 s j) ∧ nameK s (wd1 s j) ≤ s.size) := Lib.hid ⟨by omega, hkl⟩
  have HK2 : Hid (byteI s (nameK s (wd1 s j)) = 35 → j ≤ nameK s (nameK s (wd1 s j) + 1) ∧ nameK s (nameK s (wd1 s j) + 1) ≤ s.size) := Lib.hid (fun h => by
    have h1 := byteI_in h (by decide : (35 : Int) ≠ 0)
    exact ⟨by have := nameK_ge s (nameK s (wd1 s j) + 1) (by omega); omega, nameK_le s _ (by omega)⟩)
  rw [show (if byteI s j = ((36 : UInt8).toNat : Int) then j + 1 else j) = wd1 s j from rfl] at HD
  have e36 : ((36 : UInt8).toNat : Int) = 36 := rfl
  have e35 : ((35 : UInt8).toNat : Int) = 35 := rfl
  rw [e36] at HD
  rw [e35] at HP
  unfold wdC wdA wdK wd2
  have hp0 : decide (byteI s j ≠ 36) = !decide (byteI s j = 36) := by by_cases h : byteI s j = 36 <;> simp [h]
  rw [hp0]
  generalize decide (byteI s j = 36) = p0 at *
  generalize wd1 s j = k1 at *
  have H0 := Lib.hid (InScan.new w s j 42)
  obtain ⟨-, c0, c1, -⟩ := H0.out.own
  clear hp0 e36 e35 hge hj1 hkl h1l hj
  go_enter Tryz.func88, Tryz.ntmps88
  go_wp2_with fail
  refine (HD.out _).mono ?_
  rintro e w1 ⟨rfl, b1⟩
  have H1 := Lib.hid (InW.start (H0.out.step b1) k1)
  clear c0 c1 b1
  go_wp2_with fail
  refine (HN1.out _).mono ?_
  intro e w2 hN
  rcases name_cases hN with ⟨hc, rfl, b2⟩ | ⟨hc, hk, fb, rfl, hf, b2⟩
  · have H2 := Lib.hid (H1.out.step b2)
    have H3 := Lib.hid (H2.out.put (nameK s k1))
    obtain ⟨-, n0, n1, nf⟩ := H2.out.nxt
    have nf0 := nf 0
    have nf1 := nf 1
    have HC1 := Lib.hid hc
    generalize w1.heap.size = nb at *
    clear hN hc b2 nf H1
    go_wp2_with fail
    generalize (w2.setCell ⟨nb, 0, none⟩ (.string s)).setCell ⟨nb, 1, none⟩ (.int .i64 (nameK s k1)) = w3 at *
    clear n0 n1 nf0 nf1
    by_cases h35 : byteI s (nameK s k1) = 35
    · rw [decide_eq_true h35, if_pos h35] at HP
      have HH := Lib.hid h35
      have HN3 := Lib.hid (HN2.out h35)
      have HKK := Lib.hid (HK2.out h35)
      clear HN2 HK2
      refine (HP.out _).mono ?_
      rintro e w4 ⟨rfl, b4⟩
      have H4 := Lib.hid (H3.out.step b4)
      have H5 := Lib.hid (H4.out.step (sbelow_new w4 (.cells #[.string s, .int .i64 ((nameK s k1 : Int) + 1)] 42)))
      clear b4 h35
      cases p0 with
      | true =>
        obtain ⟨-, m0, m1, -⟩ := H5.out.nxt
        obtain ⟨-, m2, m3, -⟩ := H5.out.inn.own
        go_wp2_with fail
        clear m0 m1 m2 m3
        generalize w4.alloc (.cells #[.string s, .int .i64 ((nameK s k1 : Int) + 1)] 42) = w5 at *
        have HF := H5
        have HB := HK1
        have hI := HF.out.step (Below.refl _ _).drew
        obtain ⟨dd, hd1, hd2, hd3, hd4, hd5, hd6⟩ : ∃ dd : Nat, (((nameK s k1) : Nat) : Int) - (j : Int) = (dd : Int) ∧ IntKind.i64.wrap ((((nameK s k1) : Nat) : Int) - (j : Int)) = (dd : Int) ∧ IntKind.i64.wrap (dd : Int) = (dd : Int) ∧ (0 : Int) ≤ (dd : Int) ∧ (dd : Int) ≤ ((restOf s j).size : Int) ∧ dd ≤ (restOf s j).size := by
          obtain ⟨hb1, hb2⟩ := HB.out
          have hb3 := restOf_size s j HJ.out
          have hb4 := HJ.out
          have h5 := HS.out
          refine ⟨(nameK s k1) - j, by omega, ?_, IntWalk.i64_in _ (by omega), by omega, by omega, by omega⟩
          rw [IntWalk.i64_in _ (by omega)]
          omega
        have HXT : Hid ((restOf s j).extract 0 dd = s.extract j (nameK s k1)) := Lib.hid (by
          obtain ⟨hb1, hb2⟩ := HB.out
          have := extract_rest s j (nameK s k1) hb1 hb2
          rwa [show (nameK s k1) - j = dd by omega] at this)
        have hne : nb ≠ w.heap.size + 1 := by have := hI.far; omega
        have hne' := hne.symm
        have kk0 := hI.inn.own.2.1
        have kk1 := hI.inn.own.2.2.1
        have kk2 := hI.nxt.2.1
        have kk3 := hI.nxt.2.2.1
        have HRS := Lib.hid (fun W => rest_any s j HJ.out W)
        have HAT := Lib.hid (fun (k : Nat) W => at_any s k W)
        go_region_held3 (fun W => W.cell? ⟨w.heap.size, 0, none⟩ = some (.string s) ∧ W.cell? ⟨w.heap.size, 1, none⟩ = some (.int .i64 j) ∧ W.cell? ⟨nb, 0, none⟩ = some (.string s) ∧ W.cell? ⟨nb, 1, none⟩ = some (.int .i64 (nameK s k1)))
          (first | go_keep | exact ⟨hI.inn.own.2.1, hI.inn.own.2.2.1, hI.nxt.2.1, hI.nxt.2.2.1⟩)
          (first
          | (go_at_call 29; refine (HRS.out _).mono ?_; rintro e w' ⟨rfl, hb⟩; replace hI := hI.step hb; have x0 := hI.inn.res.2.1; have x1 := hI.inn.res.2.2.1; have xf := hI.inn.res.2.2.2)
          | (go_at_call 16; refine (HAT.out _ _).mono ?_; rintro e w' ⟨rfl, hb⟩; replace hI := hI.step hb; have x0 := hI.inn.res.2.1; have x1 := hI.inn.res.2.2.1; have xf := hI.inn.res.2.2.2))
        all_goals
          go_wp2
          obtain ⟨⟨q0, q1⟩, hbl⟩ := hI.inn.out (nameK s k1)
          refine bodyPost_ret (v := .tuple #[.agg #[.string s, .int .i64 (nameK s k1)], .string (s.extract j (nameK s k1)), .nilIface]) (by simp [results, Tryz.results88, go_sem, q0, q1, HXT.out]) rfl ?_
          exact ⟨rfl, hbl⟩
      | false =>
        obtain ⟨-, n0, n1, nf⟩ := H5.out.nxt
        go_wp2_with fail
        generalize hw5 : w4.alloc (.cells #[.string s, .int .i64 ((nameK s k1 : Int) + 1)] 42) = w5 at *
        clear hw5
        refine (HN3.out _).mono ?_
        intro e w6 hN
        rcases name_cases hN with ⟨hc, rfl, b6⟩ | ⟨hc, hk, fb, rfl, hf, b6⟩
        · have H6 := Lib.hid (H5.out.step b6)
          have H7 := Lib.hid (H6.out.put (nameK s (nameK s k1 + 1)))
          obtain ⟨-, n0, n1, nf⟩ := H6.out.nxt
          have nf0 := nf 0
          have nf1 := nf 1
          have HC2 := Lib.hid hc
          clear hN hc b6 nf H5
          go_wp2_with fail
          generalize (w6.setCell ⟨nb, 0, none⟩ (.string s)).setCell ⟨nb, 1, none⟩ (.int .i64 (nameK s (nameK s k1 + 1))) = w7 at *
          clear n0 n1 nf0 nf1
          have HF := H7
          have HB := HKK
          have hI := HF.out.step (Below.refl _ _).drew
          obtain ⟨dd, hd1, hd2, hd3, hd4, hd5, hd6⟩ : ∃ dd : Nat, (((nameK s (nameK s k1 + 1)) : Nat) : Int) - (j : Int) = (dd : Int) ∧ IntKind.i64.wrap ((((nameK s (nameK s k1 + 1)) : Nat) : Int) - (j : Int)) = (dd : Int) ∧ IntKind.i64.wrap (dd : Int) = (dd : Int) ∧ (0 : Int) ≤ (dd : Int) ∧ (dd : Int) ≤ ((restOf s j).size : Int) ∧ dd ≤ (restOf s j).size := by
            obtain ⟨hb1, hb2⟩ := HB.out
            have hb3 := restOf_size s j HJ.out
            have hb4 := HJ.out
            have h5 := HS.out
            refine ⟨(nameK s (nameK s k1 + 1)) - j, by omega, ?_, IntWalk.i64_in _ (by omega), by omega, by omega, by omega⟩
            rw [IntWalk.i64_in _ (by omega)]
            omega
          have HXT : Hid ((restOf s j).extract 0 dd = s.extract j (nameK s (nameK s k1 + 1))) := Lib.hid (by
            obtain ⟨hb1, hb2⟩ := HB.out
            have := extract_rest s j (nameK s (nameK s k1 + 1)) hb1 hb2
            rwa [show (nameK s (nameK s k1 + 1)) - j = dd by omega] at this)
          have hne : nb ≠ w.heap.size + 1 := by have := hI.far; omega
          have hne' := hne.symm
          have kk0 := hI.inn.own.2.1
          have kk1 := hI.inn.own.2.2.1
          have kk2 := hI.nxt.2.1
          have kk3 := hI.nxt.2.2.1
          have HRS := Lib.hid (fun W => rest_any s j HJ.out W)
          have HAT := Lib.hid (fun (k : Nat) W => at_any s k W)
          go_region_held3 (fun W => W.cell? ⟨w.heap.size, 0, none⟩ = some (.string s) ∧ W.cell? ⟨w.heap.size, 1, none⟩ = some (.int .i64 j) ∧ W.cell? ⟨nb, 0, none⟩ = some (.string s) ∧ W.cell? ⟨nb, 1, none⟩ = some (.int .i64 (nameK s (nameK s k1 + 1))))
            (first | go_keep | exact ⟨hI.inn.own.2.1, hI.inn.own.2.2.1, hI.nxt.2.1, hI.nxt.2.2.1⟩)
            (first
            | (go_at_call 29; refine (HRS.out _).mono ?_; rintro e w' ⟨rfl, hb⟩; replace hI := hI.step hb; have x0 := hI.inn.res.2.1; have x1 := hI.inn.res.2.2.1; have xf := hI.inn.res.2.2.2)
            | (go_at_call 16; refine (HAT.out _ _).mono ?_; rintro e w' ⟨rfl, hb⟩; replace hI := hI.step hb; have x0 := hI.inn.res.2.1; have x1 := hI.inn.res.2.2.1; have xf := hI.inn.res.2.2.2))
          all_goals
            go_wp2
            obtain ⟨⟨q0, q1⟩, hbl⟩ := hI.inn.out (nameK s (nameK s k1 + 1))
            refine bodyPost_ret (v := .tuple #[.agg #[.string s, .int .i64 (nameK s (nameK s k1 + 1))], .string (s.extract j (nameK s (nameK s k1 + 1))), .nilIface]) (by simp [results, Tryz.results88, go_sem, q0, q1, HXT.out]) rfl ?_
            exact .inl ⟨HC2.out, rfl, hbl⟩
        · have H6 := Lib.hid (H5.out.step b6)
          have H7 : Hid (InW w s j nb (nameK s k1 + 1) ((w6.setCell ⟨nb, 0, none⟩ (.string s)).setCell ⟨nb, 1, none⟩ (.int .i64 ((nameK s k1 : Int) + 1)))) := Lib.hid (H6.out.put (nameK s k1 + 1))
          have hfs : FaultAt ((w6.setCell ⟨nb, 0, none⟩ (.string s)).setCell ⟨nb, 1, none⟩ (.int .i64 ((nameK s k1 : Int) + 1))) fb (nameC s (nameK s k1 + 1)) (nameK s k1 + 1 : Nat) := hf.set H6.out.nxt s (nameK s k1 + 1 : Nat)
          have HF5 := Lib.hid hfs
          obtain ⟨-, n0, n1, nf⟩ := H6.out.nxt
          have nf0 := nf 0
          have nf1 := nf 1
          have HC2 := Lib.hid hc
          clear hN hc hk b6 nf H5 hf hfs
          unfold pf
          go_upto_region 6 with (fail)
          generalize (w6.setCell ⟨nb, 0, none⟩ (.string s)).setCell ⟨nb, 1, none⟩ (.int .i64 ((nameK s k1 : Int) + 1)) = w7 at *
          clear n0 n1 nf0 nf1
          have H5 := H7
          obtain ⟨-, m2, m3, -⟩ := H5.out.inn.own
          obtain ⟨-, r0, r1, rf⟩ := H5.out.inn.res
          go_wp2_with fail
          obtain ⟨⟨q0, q1⟩, hbl⟩ := H5.out.inn.out j
          refine bodyPost_ret (v := .tuple #[.agg #[.string s, .int .i64 j], .string ⟨#[]⟩, pf fb]) (by simp [results, Tryz.results88, go_sem, q0, q1, pf]) rfl ?_
          exact .inr ⟨HC2.out, fb, rfl, HF5.out.set H5.out.inn.res s j, hbl⟩
    · rw [decide_eq_false h35, if_neg h35] at HP
      have HH := Lib.hid h35
      clear HN2 HK2
      refine (HP.out _).mono ?_
      rintro e w4 ⟨rfl, b4⟩
      have H4 := Lib.hid (H3.out.step b4)
      have H5 := Lib.hid (H4.out.step (sbelow_new w4 (.cells #[.string s, .int .i64 (nameK s k1)] 42)))
      clear b4
      go_wp2_with fail
      generalize w4.alloc (.cells #[.string s, .int .i64 (nameK s k1)] 42) = w5 at *
      have HF := H5
      have HB := HK1
      have hI := HF.out.step (Below.refl _ _).drew
      obtain ⟨dd, hd1, hd2, hd3, hd4, hd5, hd6⟩ : ∃ dd : Nat, (((nameK s k1) : Nat) : Int) - (j : Int) = (dd : Int) ∧ IntKind.i64.wrap ((((nameK s k1) : Nat) : Int) - (j : Int)) = (dd : Int) ∧ IntKind.i64.wrap (dd : Int) = (dd : Int) ∧ (0 : Int) ≤ (dd : Int) ∧ (dd : Int) ≤ ((restOf s j).size : Int) ∧ dd ≤ (restOf s j).size := by
        obtain ⟨hb1, hb2⟩ := HB.out
        have hb3 := restOf_size s j HJ.out
        have hb4 := HJ.out
        have h5 := HS.out
        refine ⟨(nameK s k1) - j, by omega, ?_, IntWalk.i64_in _ (by omega), by omega, by omega, by omega⟩
        rw [IntWalk.i64_in _ (by omega)]
        omega
      have HXT : Hid ((restOf s j).extract 0 dd = s.extract j (nameK s k1)) := Lib.hid (by
        obtain ⟨hb1, hb2⟩ := HB.out
        have := extract_rest s j (nameK s k1) hb1 hb2
        rwa [show (nameK s k1) - j = dd by omega] at this)
      have hne : nb ≠ w.heap.size + 1 := by have := hI.far; omega
      have hne' := hne.symm
      have kk0 := hI.inn.own.2.1
      have kk1 := hI.inn.own.2.2.1
      have kk2 := hI.nxt.2.1
      have kk3 := hI.nxt.2.2.1
      have HRS := Lib.hid (fun W => rest_any s j HJ.out W)
      have HAT := Lib.hid (fun (k : Nat) W => at_any s k W)
      go_region_held3 (fun W => W.cell? ⟨w.heap.size, 0, none⟩ = some (.string s) ∧ W.cell? ⟨w.heap.size, 1, none⟩ = some (.int .i64 j) ∧ W.cell? ⟨nb, 0, none⟩ = some (.string s) ∧ W.cell? ⟨nb, 1, none⟩ = some (.int .i64 (nameK s k1)))
        (first | go_keep | exact ⟨hI.inn.own.2.1, hI.inn.own.2.2.1, hI.nxt.2.1, hI.nxt.2.2.1⟩)
        (first
        | (go_at_call 29; refine (HRS.out _).mono ?_; rintro e w' ⟨rfl, hb⟩; replace hI := hI.step hb; have x0 := hI.inn.res.2.1; have x1 := hI.inn.res.2.2.1; have xf := hI.inn.res.2.2.2)
        | (go_at_call 16; refine (HAT.out _ _).mono ?_; rintro e w' ⟨rfl, hb⟩; replace hI := hI.step hb; have x0 := hI.inn.res.2.1; have x1 := hI.inn.res.2.2.1; have xf := hI.inn.res.2.2.2))
      all_goals
        go_wp2
        obtain ⟨⟨q0, q1⟩, hbl⟩ := hI.inn.out (nameK s k1)
        refine bodyPost_ret (v := .tuple #[.agg #[.string s, .int .i64 (nameK s k1)], .string (s.extract j (nameK s k1)), .nilIface]) (by simp [results, Tryz.results88, go_sem, q0, q1, HXT.out]) rfl ?_
        first | exact ⟨rfl, hbl⟩ | exact .inl ⟨fun _ h => absurd h HH.out, rfl, hbl⟩
  · have H2 := Lib.hid (H1.out.step b2)
    have H3 := Lib.hid (H2.out.put k1)
    have hfs := hf.set H2.out.nxt s k1
    have HF3 := Lib.hid hfs
    obtain ⟨-, n0, n1, nf⟩ := H2.out.nxt
    have nf0 := nf 0
    have nf1 := nf 1
    have HC1 := Lib.hid hc
    rw [hk] at HP
    generalize w1.heap.size = nb at *
    clear hN hc b2 nf H1 hf hfs hk
    unfold pf
    go_wp2_with fail
    generalize (w2.setCell ⟨nb, 0, none⟩ (.string s)).setCell ⟨nb, 1, none⟩ (.int .i64 k1) = w3 at *
    clear n0 n1 nf0 nf1
    by_cases h35 : byteI s k1 = 35
    · rw [decide_eq_true h35, if_pos h35] at HP
      clear HN2 HK2 h35
      refine (HP.out _).mono ?_
      rintro e w4 ⟨rfl, b4⟩
      have H4 := Lib.hid (H3.out.step b4)
      have HF5 := Lib.hid ((HF3.out.keep b4).keep (sbelow_new w4 (.cells #[.string s, .int .i64 ((k1 : Int) + 1)] 42)))
      have H5 := Lib.hid (H4.out.step (sbelow_new w4 (.cells #[.string s, .int .i64 ((k1 : Int) + 1)] 42)))
      clear b4
      obtain ⟨-, m2, m3, -⟩ := H5.out.inn.own
      obtain ⟨-, r0, r1, rf⟩ := H5.out.inn.res
      go_wp2_with fail
      obtain ⟨⟨q0, q1⟩, hbl⟩ := H5.out.inn.out j
      refine bodyPost_ret (v := .tuple #[.agg #[.string s, .int .i64 j], .string ⟨#[]⟩, pf fb]) (by simp [results, Tryz.results88, go_sem, q0, q1, pf]) rfl ?_
      exact ⟨fb, rfl, HF5.out.set H5.out.inn.res s j, hbl⟩
    · rw [decide_eq_false h35, if_neg h35] at HP
      clear HN2 HK2 h35
      refine (HP.out _).mono ?_
      rintro e w4 ⟨rfl, b4⟩
      have H4 := Lib.hid (H3.out.step b4)
      have HF5 := Lib.hid ((HF3.out.keep b4).keep (sbelow_new w4 (.cells #[.string s, .int .i64 k1] 42)))
      have H5 := Lib.hid (H4.out.step (sbelow_new w4 (.cells #[.string s, .int .i64 k1] 42)))
      clear b4
      obtain ⟨-, m2, m3, -⟩ := H5.out.inn.own
      obtain ⟨-, r0, r1, rf⟩ := H5.out.inn.res
      go_wp2_with fail
      obtain ⟨⟨q0, q1⟩, hbl⟩ := H5.out.inn.out j
      refine bodyPost_ret (v := .tuple #[.agg #[.string s, .int .i64 j], .string ⟨#[]⟩, pf fb]) (by simp [results, Tryz.results88, go_sem, q0, q1, pf]) rfl ?_
      exact ⟨fb, rfl, HF5.out.set H5.out.inn.res s j, hbl⟩
end Go.Proofs.YtpccdhkghlbhkaaGreatDoor
