/-
  A weight's reader by contracts: term, terms, isNought, Parse.
-/
import Derived.Test.YtogbocgjijhmgaaGreatDoorWgG
namespace Go.Proofs.YtogbocgjijhmgaaGreatDoor
open Go.RowKit Go.Extern.Stop Go.Stop Go.Extern

theorem gword_any (s : ByteArray) (k rb : Nat) (m : Int) (p : Nat → Int) (q : Nat → Bool) (hs : s.size ≤ 100000) (hk : k ≤ s.size) (w : World) (hr : Wr w rb s k p q) (hw : Wds w) :
    Calls Tryz.prog 115 #[.pointer (some ⟨rb, 0, none⟩)] w (WdOut w rb s p q (wdR s k m q)) := by
  unfold wdR
  by_cases hc : nameC s (skp s k) = 0
  · rw [if_neg (fun e => e hc)]
    by_cases ht : wIdx (nameT s (skp s k)) = 3
    · rw [if_pos ht]; exact gword_other s k rb p q hc ht hs hk w hr hw
    · rw [if_neg ht]
      have hl := wIdx_le (nameT s (skp s k))
      have h3 : wIdx (nameT s (skp s k)) = 0 ∨ wIdx (nameT s (skp s k)) = 1 ∨ wIdx (nameT s (skp s k)) = 2 := by omega
      by_cases hq : q (wIdx (nameT s (skp s k))) = true
      · rw [if_pos hq]
        rcases h3 with h | h | h
        · exact gword_twice0 s k rb p q hc h (by rw [← h]; exact hq) hs hk w hr hw
        · exact gword_twice1 s k rb p q hc h (by rw [← h]; exact hq) hs hk w hr hw
        · exact gword_twice2 s k rb p q hc h (by rw [← h]; exact hq) hs hk w hr hw
      · have hq' : q (wIdx (nameT s (skp s k))) = false := by simpa using hq
        rw [if_neg hq]
        rcases h3 with h | h | h
        · have := gword_ok0 s k rb m p q hc h (by rw [← h]; exact hq') hs hk w hr hw
          rw [h]; exact this
        · have := gword_ok1 s k rb m p q hc h (by rw [← h]; exact hq') hs hk w hr hw
          rw [h]; exact this
        · have := gword_ok2 s k rb m p q hc h (by rw [← h]; exact hq') hs hk w hr hw
          rw [h]; exact this
  · rw [if_pos hc]; exact gword_none s k rb p q hc hs hk w hr hw

/-! ### term -/
def TmOut (w : World) (rb : Nat) (s : ByteArray) (p : Nat → Int) (q : Nat → Bool) : TmO → Ending → World → Prop
  | .er c a, e, w' => ErrW w rb c a e w'
  | .ok i m k1, e, w' => e = .returned .nilIface ∧ Wr w' rb s k1 (upd p i m) (upd q i true) ∧ Keeps (· = rb) w w'
theorem Handle.keepsR {rb : Nat} {w w' : World} (h : Handle w) (hk : Keeps (· = rb) w w') (hrb : rb ≠ 1) : Handle w' := by
  have hlt := World.block_lt_of_cell? w _ h
  exact (World.cell?_of_block (a := ⟨1, 0, none⟩) (hk.block 1 hlt (fun e => hrb e.symm))).trans h
theorem Wds.keeps {rb : Nat} {w w' : World} (h : Wds w) (hk : Keeps (· = rb) w w') (hrb : rb ≠ 0) : Wds w' := by
  refine ⟨Nat.lt_of_lt_of_le h.1 hk.size, fun i hi => ?_⟩
  rw [World.cell?_of_block (a := ⟨0, i, none⟩) (hk.block 0 h.1 (fun e => hrb e.symm))]
  exact h.2 i hi
set_option maxRecDepth 100000 in
set_option maxHeartbeats 4000000 in
theorem gRterm_any (s : ByteArray) (k rb : Nat) (p : Nat → Int) (q : Nat → Bool) (hs : s.size ≤ 100000) (hk : k ≤ s.size) (w : World) (hr : Wr w rb s k p q) (hw : Wds w) (hg : Handle w) (hrb : rb ≠ 0) :
    Calls Tryz.prog 87 #[.pointer (some ⟨rb, 0, none⟩)] w (TmOut w rb s p q (tmR s k q)) := by
  have HF := Lib.hid (gfactor_any s k rb p q hs hk w hr hg)
  unfold tmR
  cases hfc : fcR s k with
  | er c a =>
    rw [hfc] at HF
    clear hr hw hg hrb hfc
    go_enter Tryz.func87, Tryz.ntmps87
    go_wp2_with fail
    refine HF.out.mono ?_
    rintro e w1 ⟨z, fb, rfl, hf, hk1⟩
    unfold pf
    go_wp2_with fail
    go_ret
    exact ⟨fb, rfl, hf, hk1⟩
  | ok m k1 =>
    rw [hfc] at HF
    have hk1 := (fcR_le hk hfc).2.1
    have HW := Lib.hid (fun W (h : Wr W rb s k1 p q) (h2 : Wds W) => gword_any s k1 rb m p q hs hk1 W h h2)
    have HWD := Lib.hid (fun W (h : Keeps (· = rb) w W) => hw.keeps h hrb)
    have HLE := Lib.hid (fun i m' k' (h : wdR s k1 m q = .ok i m' k') => show i < 3 ∧ m' = m by
      have ht : tmR s k q = .ok i m' k' := by unfold tmR; rw [hfc]; exact h
      have h1 := tmR_le hk ht
      unfold wdR at h
      split at h
      · cases h
      · split at h
        · cases h
        · split at h
          · cases h
          · injection h with e1 e2 e3
            exact ⟨h1.2.2.1, e2.symm⟩)
    clear hr hw hg hrb hfc hk1
    show Calls Tryz.prog 87 #[.pointer (some ⟨rb, 0, none⟩)] w (TmOut w rb s p q (wdR s k1 m q))
    cases hwd : wdR s k1 m q with
    | er c a =>
      rw [hwd] at HW
      clear HLE hwd
      go_enter Tryz.func87, Tryz.ntmps87
      go_wp2_with fail
      refine HF.out.mono ?_
      rintro e w1 ⟨rfl, hr1, hk1⟩
      have HK1 := Lib.hid hk1
      go_wp2_with fail
      refine (HW.out _ hr1 (HWD.out _ hk1)).mono ?_
      rintro e w2 ⟨z, fb, rfl, hf, hk2⟩
      unfold pf
      go_wp2_with fail
      go_ret
      exact ⟨fb, rfl, hf, HK1.out.trans hk2⟩
    | ok i m' k' =>
      rw [hwd] at HW
      obtain ⟨hi, rfl⟩ := HLE.out i m' k' hwd
      have hi3 : i = 0 ∨ i = 1 ∨ i = 2 := by omega
      clear HLE hwd hi
      rcases hi3 with rfl | rfl | rfl
      · skip
        go_enter Tryz.func87, Tryz.ntmps87
        go_wp2_with fail
        refine HF.out.mono ?_
        rintro e w1 ⟨rfl, hr1, hk1⟩
        have HK1 := Lib.hid hk1
        go_wp2_with fail
        refine (HW.out _ hr1 (HWD.out _ hk1)).mono ?_
        rintro e w2 ⟨rfl, hr2, hk2⟩
        have HR2 := Lib.hid hr2
        have HK2 := Lib.hid (HK1.out.trans hk2)
        have f2 := hr2.fz 2
        obtain ⟨d2, d3, d4⟩ := hr2.parts
        clear hr1 hr2 hk1 hk2 HK1
        go_wp2_with fail
        go_ret
        exact ⟨rfl, HR2.out.putp0 m', HK2.out.trans (keepsW1 _ rb 2 _)⟩
      · skip
        go_enter Tryz.func87, Tryz.ntmps87
        go_wp2_with fail
        refine HF.out.mono ?_
        rintro e w1 ⟨rfl, hr1, hk1⟩
        have HK1 := Lib.hid hk1
        go_wp2_with fail
        refine (HW.out _ hr1 (HWD.out _ hk1)).mono ?_
        rintro e w2 ⟨rfl, hr2, hk2⟩
        have HR2 := Lib.hid hr2
        have HK2 := Lib.hid (HK1.out.trans hk2)
        have f3 := hr2.fz 3
        obtain ⟨d2, d3, d4⟩ := hr2.parts
        clear hr1 hr2 hk1 hk2 HK1
        go_wp2_with fail
        go_ret
        exact ⟨rfl, HR2.out.putp1 m', HK2.out.trans (keepsW1 _ rb 3 _)⟩
      · skip
        go_enter Tryz.func87, Tryz.ntmps87
        go_wp2_with fail
        refine HF.out.mono ?_
        rintro e w1 ⟨rfl, hr1, hk1⟩
        have HK1 := Lib.hid hk1
        go_wp2_with fail
        refine (HW.out _ hr1 (HWD.out _ hk1)).mono ?_
        rintro e w2 ⟨rfl, hr2, hk2⟩
        have HR2 := Lib.hid hr2
        have HK2 := Lib.hid (HK1.out.trans hk2)
        have f4 := hr2.fz 4
        obtain ⟨d2, d3, d4⟩ := hr2.parts
        clear hr1 hr2 hk1 hk2 HK1
        go_wp2_with fail
        go_ret
        exact ⟨rfl, HR2.out.putp2 m', HK2.out.trans (keepsW1 _ rb 4 _)⟩

/-! ### terms -/
def TsOut (w : World) (rb : Nat) (s : ByteArray) : WO → Ending → World → Prop
  | .er c a, e, w' => ErrW w rb c a e w'
  | .ok p, e, w' => e = .returned .nilIface ∧ (∃ k q, Wr w' rb s k p q) ∧ Keeps (· = rb) w w'
def TsRel (w : World) (rb : Nat) (s : ByteArray) (R : WO) (g : Nat) (wr : World) : Prop :=
  ∃ k p q, wgR s g k p q = R ∧ k ≤ s.size ∧ s.size < k + g ∧ Wr wr rb s k p q ∧ Keeps (· = rb) w wr
set_option maxRecDepth 100000 in
set_option maxHeartbeats 8000000 in
theorem gRterms_any (s : ByteArray) (k rb f : Nat) (p : Nat → Int) (q : Nat → Bool) (hs : s.size ≤ 100000) (hk : k ≤ s.size) (hf : s.size < k + f) (w : World) (hr : Wr w rb s k p q) (hw : Wds w) (hg : Handle w) (hrb : rb ≠ 0) (hre : rb ≠ 1) :
    Calls Tryz.prog 55 #[.pointer (some ⟨rb, 0, none⟩)] w (TsOut w rb s (wgR s f k p q)) := by
  have H0 : Hid (TsRel w rb s (wgR s f k p q) f w) := Lib.hid ⟨k, p, q, rfl, hk, hf, hr, Keeps.refl _ _⟩
  have HWD := Lib.hid (fun W (h : Keeps (· = rb) w W) => hw.keeps h hrb)
  have HHG := Lib.hid (fun W (h : Keeps (· = rb) w W) => hg.keepsR h hre)
  have HRB := Lib.hid hrb
  generalize wgR s f k p q = R at *
  clear hr hw hg hrb hre hf hk
  go_enter Tryz.func55, Tryz.ntmps55
  go_wp2_with fail
  go_loopg [3] f (fun g v wr => TsRel w rb s R g wr)
  case atStart => exact H0.out
  case round =>
    clear H0
    obtain ⟨k, p, q, hR, hk, hf, hr, hkp⟩ := hrel
    cases gk with
    | zero => omega
    | succ g =>
    have HT := Lib.hid (gRterm_any s k rb p q hs hk wr hr (HWD.out _ hkp) (HHG.out _ hkp) HRB.out)
    have HKP := Lib.hid hkp
    rw [wgR] at hR
    cases htm : tmR s k q with
    | er c a =>
      rw [htm] at HT hR
      have HRR : Hid (R = .er c a) := Lib.hid hR.symm
      clear hr hkp hR htm
      go_wp2_with fail
      refine HT.out.mono ?_
      rintro e w1 ⟨fb, rfl, hff, hk1⟩
      unfold pf
      go_wp2_with fail
      go_ret
      rw [HRR.out]
      exact ⟨fb, rfl, hff, HKP.out.trans hk1⟩
    | ok i m k' =>
      rw [htm] at HT hR
      obtain ⟨t1, t2, t3, -, -⟩ := tmR_le hk htm
      have t4 := skp_le t2
      have HS : Hid (∀ W, Calls Tryz.prog 35 #[.agg #[.string s, .int .i64 k']] W fun e w' => e = .returned (.agg #[.string s, .int .i64 (skp s k')]) ∧ Below W.heap.size W w') := Lib.hid (fun W => skip_any s k' hs t2 W)
      have HEN := Lib.hid (fun W => end_any s (skp s k') W)
      have HID := Lib.hid (skp_idem s k')
      simp only at hR
      clear hr hkp htm
      by_cases hend : skp s k' = s.size
      · rw [if_pos hend] at hR
        rw [decide_eq_true hend] at HEN
        have HRR := Lib.hid hR.symm
        generalize skp s k' = j at *
        clear hend hR t4 t1 t2 t3 hf hk
        go_wp2_with fail
        refine HT.out.mono ?_
        rintro e w1 ⟨rfl, hr1, hk1⟩
        have HR1 := Lib.hid hr1
        have HK1 := Lib.hid (HKP.out.trans hk1)
        obtain ⟨c0, c1⟩ := hr1.scan
        clear hr1 hk1 HKP HT
        go_wp2_with fail
        refine (HS.out _).mono ?_
        rintro e w2 ⟨rfl, b2⟩
        have HR2 := Lib.hid ((HR1.out.step b2).putc j)
        have HK2 := Lib.hid ((HK1.out.next b2).trans (keepsW2 w2 rb (.string s) (.int .i64 j)))
        obtain ⟨c0, c1⟩ := (HR1.out.step b2).scan
        have f0 := (HR1.out.step b2).fz 0
        have f1 := (HR1.out.step b2).fz 1
        have d0 := HR2.out.scan.1
        have d1 := HR2.out.scan.2
        clear b2 HR1 HK1
        go_wp2_with fail
        generalize (w2.setCell ⟨rb, 0, none⟩ (.string s)).setCell ⟨rb, 1, none⟩ (.int .i64 j) = w3 at *
        refine (HEN.out _).mono ?_
        rintro e w4 ⟨rfl, b4⟩
        go_wp2_with fail
        go_ret
        rw [HRR.out]
        exact ⟨rfl, ⟨_, _, HR2.out.step b4⟩, HK2.out.next b4⟩
      · rw [if_neg hend] at hR
        rw [decide_eq_false hend] at HEN
        by_cases h43 : byteI s (skp s k') = 43
        · rw [if_pos h43] at hR
          have HSG := Lib.hid (fun W (h : Wr W rb s (skp s k') (upd p i m) (upd q i true)) => gsign_yes s (skp s k') rb (upd p i m) (upd q i true) 43 (by decide) (by rw [skp_idem]; exact h43) hs t4.2 W h)
          rw [skp_idem] at HSG
          have HRR := Lib.hid hR
          have HLT := Lib.hid (byteI_in h43 (by decide))
          have HBD : Hid (k < k' ∧ k' ≤ skp s k' ∧ s.size < k + (g + 1)) := Lib.hid ⟨t1, t4.1, hf⟩
          generalize skp s k' = j at *
          clear hend hR t4 t1 t2 t3 hf hk h43
          go_wp2_with fail
          refine HT.out.mono ?_
          rintro e w1 ⟨rfl, hr1, hk1⟩
          have HR1 := Lib.hid hr1
          have HK1 := Lib.hid (HKP.out.trans hk1)
          obtain ⟨c0, c1⟩ := hr1.scan
          clear hr1 hk1 HKP HT
          go_wp2_with fail
          refine (HS.out _).mono ?_
          rintro e w2 ⟨rfl, b2⟩
          have HR2 := Lib.hid ((HR1.out.step b2).putc j)
          have HK2 := Lib.hid ((HK1.out.next b2).trans (keepsW2 w2 rb (.string s) (.int .i64 j)))
          obtain ⟨c0, c1⟩ := (HR1.out.step b2).scan
          have f0 := (HR1.out.step b2).fz 0
          have f1 := (HR1.out.step b2).fz 1
          have d0 := HR2.out.scan.1
          have d1 := HR2.out.scan.2
          clear b2 HR1 HK1
          go_wp2_with fail
          generalize (w2.setCell ⟨rb, 0, none⟩ (.string s)).setCell ⟨rb, 1, none⟩ (.int .i64 j) = w3 at *
          refine (HEN.out _).mono ?_
          rintro e w4 ⟨rfl, b4⟩
          have HR4 := Lib.hid (HR2.out.step b4)
          have HK4 := Lib.hid (HK2.out.next b4)
          clear b4 HR2 HK2 c0 c1 f0 f1 d0 d1
          go_wp2_with fail
          refine (HSG.out _ HR4.out).mono ?_
          rintro e w5 ⟨rfl, hr5, hk5⟩
          have HR5 := Lib.hid hr5
          have HK5 := Lib.hid (HK4.out.trans hk5)
          clear hr5 hk5 HR4 HK4
          go_wp2_with fail
          go_roundg g
          case measure => omega
          case rel =>
            have h1 := HBD.out
            have h2 := HLT.out
            exact ⟨j + 1, _, _, HRR.out, by omega, by omega, HR5.out, HK5.out⟩
        · rw [if_neg h43] at hR
          have HSG := Lib.hid (fun W (h : Wr W rb s (skp s k') (upd p i m) (upd q i true)) => gsign_no s (skp s k') rb (upd p i m) (upd q i true) 43 (by rw [skp_idem]; exact h43) hs t4.2 W h)
          rw [skp_idem] at HSG
          have HRR := Lib.hid hR.symm
          generalize skp s k' = j at *
          clear hend hR t4 t1 t2 t3 hf hk h43
          go_wp2_with fail
          refine HT.out.mono ?_
          rintro e w1 ⟨rfl, hr1, hk1⟩
          have HR1 := Lib.hid hr1
          have HK1 := Lib.hid (HKP.out.trans hk1)
          obtain ⟨c0, c1⟩ := hr1.scan
          clear hr1 hk1 HKP HT
          go_wp2_with fail
          refine (HS.out _).mono ?_
          rintro e w2 ⟨rfl, b2⟩
          have HR2 := Lib.hid ((HR1.out.step b2).putc j)
          have HK2 := Lib.hid ((HK1.out.next b2).trans (keepsW2 w2 rb (.string s) (.int .i64 j)))
          obtain ⟨c0, c1⟩ := (HR1.out.step b2).scan
          have f0 := (HR1.out.step b2).fz 0
          have f1 := (HR1.out.step b2).fz 1
          have d0 := HR2.out.scan.1
          have d1 := HR2.out.scan.2
          clear b2 HR1 HK1
          go_wp2_with fail
          generalize (w2.setCell ⟨rb, 0, none⟩ (.string s)).setCell ⟨rb, 1, none⟩ (.int .i64 j) = w3 at *
          refine (HEN.out _).mono ?_
          rintro e w4 ⟨rfl, b4⟩
          have HR4 := Lib.hid (HR2.out.step b4)
          have HK4 := Lib.hid (HK2.out.next b4)
          clear b4 HR2 HK2 c0 c1 f0 f1 d0 d1
          go_wp2_with fail
          refine (HSG.out _ HR4.out).mono ?_
          rintro e w5 ⟨fb, rfl, hff, hk5⟩
          unfold pf
          go_wp2_with fail
          go_ret
          rw [HRR.out]
          exact ⟨fb, rfl, hff, HK4.out.trans hk5⟩
end Go.Proofs.YtogbocgjijhmgaaGreatDoor
