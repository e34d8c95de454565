/-
  A weight's reader by contracts: word, term.
-/
import Derived.Test.YtogbocgjijhmgaaGreatDoorWgF
namespace Go.Proofs.YtogbocgjijhmgaaGreatDoor
open Go.RowKit Go.Extern.Stop Go.Stop Go.Extern

theorem nameK_er {s : ByteArray} {k : Nat} (h : nameC s k ≠ 0) : nameK s k = k := by
  unfold nameC at h
  unfold nameK
  by_cases h1 : isLet (byteI s k) = true
  · rw [if_pos h1] at h
    by_cases h2 : runTo isIn s k - k ≤ 32
    · rw [if_pos h2] at h; exact absurd rfl h
    · rw [if_neg (fun e => h2 e.2)]
  · rw [if_neg (fun e => h1 e.1)]
def WdOut (w : World) (rb : Nat) (s : ByteArray) (p : Nat → Int) (q : Nat → Bool) : TmO → Ending → World → Prop
  | .er c a, e, w' => ∃ (z : Int) (fb : Nat), e = .returned (.tuple #[.int .i64 z, pf fb]) ∧ FaultAt w' fb c a ∧ Keeps (· = rb) w w'
  | .ok i _ k1, e, w' => e = .returned (.tuple #[.int .i64 i, .nilIface]) ∧ Wr w' rb s k1 p (upd q i true) ∧ Keeps (· = rb) w w'
set_option maxRecDepth 100000 in
set_option maxHeartbeats 2000000 in
theorem gword_none (s : ByteArray) (k rb : Nat) (p : Nat → Int) (q : Nat → Bool) (hc : nameC s (skp s k) ≠ 0) (hs : s.size ≤ 100000) (hk : k ≤ s.size) (w : World) (hr : Wr w rb s k p q) (hw : Wds w) :
    Calls Tryz.prog 115 #[.pointer (some ⟨rb, 0, none⟩)] w (WdOut w rb s p q (.er (nameC s (skp s k)) (skp s k))) := by
  have HS : Hid (∀ W, Calls Tryz.prog 35 #[.agg #[.string s, .int .i64 k]] W fun e w' => e = .returned (.agg #[.string s, .int .i64 (skp s k)]) ∧ Below W.heap.size W w') := Lib.hid (fun W => skip_any s k hs hk W)
  have HN := Lib.hid (fun W => name_any s (skp s k) hs (skp_le hk).2 W)
  have HPO := Lib.hid (fun W hw => gpartOf_any (nameT s (skp s k)) W hw)
  have HAT := Lib.hid (fun W => at_any s (skp s k) W)
  have HR := Lib.hid hr
  have HW := Lib.hid hw
  obtain ⟨c0, c1⟩ := hr.scan
  rw [nameK_er hc] at HN
  have HC := Lib.hid hc
  generalize nameC s (skp s k) = cc at *
  generalize nameT s (skp s k) = t at *
  generalize skp s k = j at *
  clear hr hw hc
  go_enter Tryz.func115, Tryz.ntmps115
  go_wp2_with fail
  refine (HS.out _).mono ?_
  rintro e w1 ⟨rfl, b1⟩
  have bn := sbelow_new w1 (.cells #[.string s, .int .i64 j] 42)
  have HB1 := Lib.hid (b1.trans (bn.mono b1.size))
  have H1 := Lib.hid ((HR.out.step b1).step bn)
  have HF1 := Lib.hid (ScanAt.new w1 s j 42)
  have HSB : Hid (w.heap.size ≤ w1.heap.size) := Lib.hid b1.size
  clear c0 c1 b1 bn
  go_wp2_with fail
  generalize w1.alloc (.cells #[.string s, .int .i64 j] 42) = w2 at *
  generalize w1.heap.size = sb at *
  refine (HN.out _).mono ?_
  rintro e w3 ⟨v, rfl, hv, b3⟩
  obtain ⟨fb, rfl, hf⟩ := hv.fb HC.out
  have bn := sbelow_new w3 (.cells #[.string s, .int .i64 j] 42)
  have HF := Lib.hid (hf.keep bn)
  have HB4 := Lib.hid ((HB1.out.trans (b3.mono HB1.out.size)).trans (bn.mono (HB1.out.trans (b3.mono HB1.out.size)).size))
  clear hv hf b3 bn
  unfold pf
  go_wp2_with fail
  go_ret2
  exact ⟨_, fb, rfl, HF.out, Keeps.of_below HB4.out⟩
set_option maxRecDepth 100000 in
set_option maxHeartbeats 2000000 in
theorem gword_other (s : ByteArray) (k rb : Nat) (p : Nat → Int) (q : Nat → Bool) (hc : nameC s (skp s k) = 0) (ht : wIdx (nameT s (skp s k)) = 3) (hs : s.size ≤ 100000) (hk : k ≤ s.size) (w : World) (hr : Wr w rb s k p q) (hw : Wds w) :
    Calls Tryz.prog 115 #[.pointer (some ⟨rb, 0, none⟩)] w (WdOut w rb s p q (.er 18 (skp s k))) := by
  have HS : Hid (∀ W, Calls Tryz.prog 35 #[.agg #[.string s, .int .i64 k]] W fun e w' => e = .returned (.agg #[.string s, .int .i64 (skp s k)]) ∧ Below W.heap.size W w') := Lib.hid (fun W => skip_any s k hs hk W)
  have HN := Lib.hid (fun W => name_any s (skp s k) hs (skp_le hk).2 W)
  have HPO := Lib.hid (fun W hw => gpartOf_any (nameT s (skp s k)) W hw)
  have HAT := Lib.hid (fun W => at_any s (skp s k) W)
  have HR := Lib.hid hr
  have HW := Lib.hid hw
  obtain ⟨c0, c1⟩ := hr.scan
  have HNE := Lib.hid (fun W => new_err 18 (skp s k) (by decide) W)
  rw [hc] at HN
  rw [ht, if_pos rfl] at HPO
  generalize nameT s (skp s k) = t at *
  generalize nameK s (skp s k) = e at *
  generalize skp s k = j at *
  clear hr hw hc ht
  go_enter Tryz.func115, Tryz.ntmps115
  go_wp2_with fail
  refine (HS.out _).mono ?_
  rintro e w1 ⟨rfl, b1⟩
  have bn := sbelow_new w1 (.cells #[.string s, .int .i64 j] 42)
  have HB1 := Lib.hid (b1.trans (bn.mono b1.size))
  have H1 := Lib.hid ((HR.out.step b1).step bn)
  have HF1 := Lib.hid (ScanAt.new w1 s j 42)
  have HSB : Hid (w.heap.size ≤ w1.heap.size) := Lib.hid b1.size
  clear c0 c1 b1 bn
  go_wp2_with fail
  generalize w1.alloc (.cells #[.string s, .int .i64 j] 42) = w2 at *
  generalize w1.heap.size = sb at *
  refine (HN.out _).mono ?_
  rintro e w3 ⟨v, rfl, hv, b3⟩
  obtain rfl := hv.nil_of
  have HCB : Hid (w.heap.size ≤ w3.heap.size) := Lib.hid (Nat.le_trans HB1.out.size b3.size)
  have bn := sbelow_new w3 (.cells #[.string s, .int .i64 e] 42)
  have HB4 := Lib.hid ((HB1.out.trans (b3.mono HB1.out.size)).trans (bn.mono (HB1.out.trans (b3.mono HB1.out.size)).size))
  have H4 := Lib.hid ((H1.out.step b3).step bn)
  have HF4 := Lib.hid ((HF1.out.step b3).step bn)
  have HC4 := Lib.hid (ScanAt.new w3 s e 42)
  clear hv b3 bn HB1 H1 HF1
  go_wp2_with fail
  generalize w3.alloc (.cells #[.string s, .int .i64 e] 42) = w4 at *
  generalize w3.heap.size = cb at *
  refine (HPO.out _ (HW.out.below HB4.out)).mono ?_
  rintro e w5 ⟨rfl, rfl⟩
  obtain ⟨-, g0, g1, -⟩ := HF4.out
  go_wp2_with fail
  refine (HAT.out _).mono ?_
  rintro e w6 ⟨rfl, b6⟩
  have HB6 := Lib.hid (HB4.out.trans (b6.mono HB4.out.size))
  clear b6 g0 g1
  go_wp2_with fail
  refine (HNE.out _).mono ?_
  rintro e w7 ⟨fb, rfl, hf, b7⟩
  have HF := Lib.hid hf
  have HB7 := Lib.hid (HB6.out.trans (b7.mono HB6.out.size))
  clear b7 hf
  unfold pf
  go_wp2_with fail
  go_ret2
  exact ⟨_, fb, rfl, HF.out, Keeps.of_below HB7.out⟩
set_option maxRecDepth 100000 in
set_option maxHeartbeats 2000000 in
theorem gword_twice0 (s : ByteArray) (k rb : Nat) (p : Nat → Int) (q : Nat → Bool) (hc : nameC s (skp s k) = 0) (ht : wIdx (nameT s (skp s k)) = 0) (hq : q 0 = true) (hs : s.size ≤ 100000) (hk : k ≤ s.size) (w : World) (hr : Wr w rb s k p q) (hw : Wds w) :
    Calls Tryz.prog 115 #[.pointer (some ⟨rb, 0, none⟩)] w (WdOut w rb s p q (.er 10 (skp s k))) := by
  have HS : Hid (∀ W, Calls Tryz.prog 35 #[.agg #[.string s, .int .i64 k]] W fun e w' => e = .returned (.agg #[.string s, .int .i64 (skp s k)]) ∧ Below W.heap.size W w') := Lib.hid (fun W => skip_any s k hs hk W)
  have HN := Lib.hid (fun W => name_any s (skp s k) hs (skp_le hk).2 W)
  have HPO := Lib.hid (fun W hw => gpartOf_any (nameT s (skp s k)) W hw)
  have HAT := Lib.hid (fun W => at_any s (skp s k) W)
  have HR := Lib.hid hr
  have HW := Lib.hid hw
  obtain ⟨c0, c1⟩ := hr.scan
  have HNE := Lib.hid (fun W => new_err 10 (skp s k) (by decide) W)
  have HQ : Hid (gq q 0 = 1) := Lib.hid (by unfold gq; rw [hq]; rfl)
  rw [hc] at HN
  rw [ht, if_neg (by decide)] at HPO
  generalize nameT s (skp s k) = t at *
  generalize nameK s (skp s k) = e at *
  generalize skp s k = j at *
  clear hr hw hc ht hq
  go_enter Tryz.func115, Tryz.ntmps115
  go_wp2_with fail
  refine (HS.out _).mono ?_
  rintro e w1 ⟨rfl, b1⟩
  have bn := sbelow_new w1 (.cells #[.string s, .int .i64 j] 42)
  have HB1 := Lib.hid (b1.trans (bn.mono b1.size))
  have H1 := Lib.hid ((HR.out.step b1).step bn)
  have HF1 := Lib.hid (ScanAt.new w1 s j 42)
  have HSB : Hid (w.heap.size ≤ w1.heap.size) := Lib.hid b1.size
  clear c0 c1 b1 bn
  go_wp2_with fail
  generalize w1.alloc (.cells #[.string s, .int .i64 j] 42) = w2 at *
  generalize w1.heap.size = sb at *
  refine (HN.out _).mono ?_
  rintro e w3 ⟨v, rfl, hv, b3⟩
  obtain rfl := hv.nil_of
  have HCB : Hid (w.heap.size ≤ w3.heap.size) := Lib.hid (Nat.le_trans HB1.out.size b3.size)
  have bn := sbelow_new w3 (.cells #[.string s, .int .i64 e] 42)
  have HB4 := Lib.hid ((HB1.out.trans (b3.mono HB1.out.size)).trans (bn.mono (HB1.out.trans (b3.mono HB1.out.size)).size))
  have H4 := Lib.hid ((H1.out.step b3).step bn)
  have HF4 := Lib.hid ((HF1.out.step b3).step bn)
  have HC4 := Lib.hid (ScanAt.new w3 s e 42)
  clear hv b3 bn HB1 H1 HF1
  go_wp2_with fail
  generalize w3.alloc (.cells #[.string s, .int .i64 e] 42) = w4 at *
  generalize w3.heap.size = cb at *
  refine (HPO.out _ (HW.out.below HB4.out)).mono ?_
  rintro e w5 ⟨rfl, rfl⟩
  have H4d := Lib.hid (H4.out.step (Below.refl _ _).drew)
  obtain ⟨q0, q1, q2⟩ := H4d.out.seen
  rw [HQ.out] at q0
  have f5 := H4d.out.fz 5
  go_wp2_with fail
  have HK := Lib.hid ((Keeps.of_below (D := (· = rb)) HB4.out).trans (keepsW1 w5 rb 5 (.int .i64 2)).drew)
  have hsr : sb ≠ rb := by have := HSB.out; have := HR.out.lt; omega
  have g0 : (w5.setCell ⟨rb, 5, none⟩ (.int .i64 2)).drew.cell? ⟨sb, 0, none⟩ = some (.string s) := (HF4.out.far (q := ⟨rb, 5, none⟩) hsr (.int .i64 2)).2.1
  have g1 : (w5.setCell ⟨rb, 5, none⟩ (.int .i64 2)).drew.cell? ⟨sb, 1, none⟩ = some (.int .i64 j) := (HF4.out.far (q := ⟨rb, 5, none⟩) hsr (.int .i64 2)).2.2.1
  have e5 : (w5.setCell ⟨rb, 5, none⟩ (.int .i64 2)).drew.cell? ⟨rb, 5, none⟩ = some (.int .i64 2) := World.cell?_setCell_same w5 ⟨rb, 5, none⟩ _ q0
  go_region_with (fail)
  go_wp2_with fail
  refine (HAT.out _).mono ?_
  rintro e w7 ⟨rfl, b7⟩
  have HK7 := Lib.hid (HK.out.trans (Keeps.of_below (D := (· = rb)) b7))
  clear b7 g0 g1 e5
  go_wp2_with fail
  refine (HNE.out _).mono ?_
  rintro e w8 ⟨fb, rfl, hf, b8⟩
  have HF := Lib.hid hf
  have HK8 := Lib.hid (HK7.out.trans (Keeps.of_below (D := (· = rb)) b8))
  clear b8 hf
  unfold pf
  go_wp2_with fail
  go_ret2
  exact ⟨_, fb, rfl, HF.out, HK8.out⟩
set_option maxRecDepth 100000 in
set_option maxHeartbeats 2000000 in
theorem gword_ok0 (s : ByteArray) (k rb : Nat) (m : Int) (p : Nat → Int) (q : Nat → Bool) (hc : nameC s (skp s k) = 0) (ht : wIdx (nameT s (skp s k)) = 0) (hq : q 0 = false) (hs : s.size ≤ 100000) (hk : k ≤ s.size) (w : World) (hr : Wr w rb s k p q) (hw : Wds w) :
    Calls Tryz.prog 115 #[.pointer (some ⟨rb, 0, none⟩)] w (WdOut w rb s p q (.ok 0 m (nameK s (skp s k)))) := by
  have HS : Hid (∀ W, Calls Tryz.prog 35 #[.agg #[.string s, .int .i64 k]] W fun e w' => e = .returned (.agg #[.string s, .int .i64 (skp s k)]) ∧ Below W.heap.size W w') := Lib.hid (fun W => skip_any s k hs hk W)
  have HN := Lib.hid (fun W => name_any s (skp s k) hs (skp_le hk).2 W)
  have HPO := Lib.hid (fun W hw => gpartOf_any (nameT s (skp s k)) W hw)
  have HAT := Lib.hid (fun W => at_any s (skp s k) W)
  have HR := Lib.hid hr
  have HW := Lib.hid hw
  obtain ⟨c0, c1⟩ := hr.scan
  have HQ : Hid (gq q 0 = 0) := Lib.hid (by unfold gq; rw [hq]; rfl)
  rw [hc] at HN
  rw [ht, if_neg (by decide)] at HPO
  generalize nameT s (skp s k) = t at *
  generalize nameK s (skp s k) = e at *
  generalize skp s k = j at *
  clear hr hw hc ht hq
  go_enter Tryz.func115, Tryz.ntmps115
  go_wp2_with fail
  refine (HS.out _).mono ?_
  rintro e w1 ⟨rfl, b1⟩
  have bn := sbelow_new w1 (.cells #[.string s, .int .i64 j] 42)
  have HB1 := Lib.hid (b1.trans (bn.mono b1.size))
  have H1 := Lib.hid ((HR.out.step b1).step bn)
  have HF1 := Lib.hid (ScanAt.new w1 s j 42)
  have HSB : Hid (w.heap.size ≤ w1.heap.size) := Lib.hid b1.size
  clear c0 c1 b1 bn
  go_wp2_with fail
  generalize w1.alloc (.cells #[.string s, .int .i64 j] 42) = w2 at *
  generalize w1.heap.size = sb at *
  refine (HN.out _).mono ?_
  rintro e w3 ⟨v, rfl, hv, b3⟩
  obtain rfl := hv.nil_of
  have HCB : Hid (w.heap.size ≤ w3.heap.size) := Lib.hid (Nat.le_trans HB1.out.size b3.size)
  have bn := sbelow_new w3 (.cells #[.string s, .int .i64 e] 42)
  have HB4 := Lib.hid ((HB1.out.trans (b3.mono HB1.out.size)).trans (bn.mono (HB1.out.trans (b3.mono HB1.out.size)).size))
  have H4 := Lib.hid ((H1.out.step b3).step bn)
  have HF4 := Lib.hid ((HF1.out.step b3).step bn)
  have HC4 := Lib.hid (ScanAt.new w3 s e 42)
  clear hv b3 bn HB1 H1 HF1
  go_wp2_with fail
  generalize w3.alloc (.cells #[.string s, .int .i64 e] 42) = w4 at *
  generalize w3.heap.size = cb at *
  refine (HPO.out _ (HW.out.below HB4.out)).mono ?_
  rintro e w5 ⟨rfl, rfl⟩
  have H4d := Lib.hid (H4.out.step (Below.refl _ _).drew)
  obtain ⟨q0, q1, q2⟩ := H4d.out.seen
  rw [HQ.out] at q0
  have f5 := H4d.out.fz 5
  go_wp2_with fail
  have H6 : Hid (Wr (w5.setCell ⟨rb, 5, none⟩ (.int .i64 1)).drew rb s k p (upd q 0 true)) := Lib.hid ((H4.out.putq0).step (Below.refl _ _).drew)
  have HK : Hid (Keeps (· = rb) w (w5.setCell ⟨rb, 5, none⟩ (.int .i64 1)).drew) := Lib.hid ((Keeps.of_below (D := (· = rb)) HB4.out).trans (keepsW1 w5 rb 5 (.int .i64 1)).drew)
  have hcr : cb ≠ rb := by have := HCB.out; have := HR.out.lt; omega
  have g0 : (w5.setCell ⟨rb, 5, none⟩ (.int .i64 1)).drew.cell? ⟨cb, 0, none⟩ = some (.string s) := (HC4.out.far (q := ⟨rb, 5, none⟩) hcr (.int .i64 1)).2.1
  have g1 : (w5.setCell ⟨rb, 5, none⟩ (.int .i64 1)).drew.cell? ⟨cb, 1, none⟩ = some (.int .i64 e) := (HC4.out.far (q := ⟨rb, 5, none⟩) hcr (.int .i64 1)).2.2.1
  have e5 : (w5.setCell ⟨rb, 5, none⟩ (.int .i64 1)).drew.cell? ⟨rb, 5, none⟩ = some (.int .i64 1) := World.cell?_setCell_same w5 ⟨rb, 5, none⟩ _ q0
  go_region_with (fail)
  go_upto_region 11 with (fail)
  generalize (w5.setCell ⟨rb, 5, none⟩ (.int .i64 1)).drew = w6 at *
  have f0 := H6.out.fz 0
  have f1 := H6.out.fz 1
  obtain ⟨d0, d1⟩ := H6.out.scan
  clear q0 q1 q2 f5
  go_wp2_with fail
  go_ret2
  exact ⟨rfl, H6.out.putc e, HK.out.trans (keepsW2 _ rb _ _)⟩
set_option maxRecDepth 100000 in
set_option maxHeartbeats 2000000 in
theorem gword_twice1 (s : ByteArray) (k rb : Nat) (p : Nat → Int) (q : Nat → Bool) (hc : nameC s (skp s k) = 0) (ht : wIdx (nameT s (skp s k)) = 1) (hq : q 1 = true) (hs : s.size ≤ 100000) (hk : k ≤ s.size) (w : World) (hr : Wr w rb s k p q) (hw : Wds w) :
    Calls Tryz.prog 115 #[.pointer (some ⟨rb, 0, none⟩)] w (WdOut w rb s p q (.er 10 (skp s k))) := by
  have HS : Hid (∀ W, Calls Tryz.prog 35 #[.agg #[.string s, .int .i64 k]] W fun e w' => e = .returned (.agg #[.string s, .int .i64 (skp s k)]) ∧ Below W.heap.size W w') := Lib.hid (fun W => skip_any s k hs hk W)
  have HN := Lib.hid (fun W => name_any s (skp s k) hs (skp_le hk).2 W)
  have HPO := Lib.hid (fun W hw => gpartOf_any (nameT s (skp s k)) W hw)
  have HAT := Lib.hid (fun W => at_any s (skp s k) W)
  have HR := Lib.hid hr
  have HW := Lib.hid hw
  obtain ⟨c0, c1⟩ := hr.scan
  have HNE := Lib.hid (fun W => new_err 10 (skp s k) (by decide) W)
  have HQ : Hid (gq q 1 = 1) := Lib.hid (by unfold gq; rw [hq]; rfl)
  rw [hc] at HN
  rw [ht, if_neg (by decide)] at HPO
  generalize nameT s (skp s k) = t at *
  generalize nameK s (skp s k) = e at *
  generalize skp s k = j at *
  clear hr hw hc ht hq
  go_enter Tryz.func115, Tryz.ntmps115
  go_wp2_with fail
  refine (HS.out _).mono ?_
  rintro e w1 ⟨rfl, b1⟩
  have bn := sbelow_new w1 (.cells #[.string s, .int .i64 j] 42)
  have HB1 := Lib.hid (b1.trans (bn.mono b1.size))
  have H1 := Lib.hid ((HR.out.step b1).step bn)
  have HF1 := Lib.hid (ScanAt.new w1 s j 42)
  have HSB : Hid (w.heap.size ≤ w1.heap.size) := Lib.hid b1.size
  clear c0 c1 b1 bn
  go_wp2_with fail
  generalize w1.alloc (.cells #[.string s, .int .i64 j] 42) = w2 at *
  generalize w1.heap.size = sb at *
  refine (HN.out _).mono ?_
  rintro e w3 ⟨v, rfl, hv, b3⟩
  obtain rfl := hv.nil_of
  have HCB : Hid (w.heap.size ≤ w3.heap.size) := Lib.hid (Nat.le_trans HB1.out.size b3.size)
  have bn := sbelow_new w3 (.cells #[.string s, .int .i64 e] 42)
  have HB4 := Lib.hid ((HB1.out.trans (b3.mono HB1.out.size)).trans (bn.mono (HB1.out.trans (b3.mono HB1.out.size)).size))
  have H4 := Lib.hid ((H1.out.step b3).step bn)
  have HF4 := Lib.hid ((HF1.out.step b3).step bn)
  have HC4 := Lib.hid (ScanAt.new w3 s e 42)
  clear hv b3 bn HB1 H1 HF1
  go_wp2_with fail
  generalize w3.alloc (.cells #[.string s, .int .i64 e] 42) = w4 at *
  generalize w3.heap.size = cb at *
  refine (HPO.out _ (HW.out.below HB4.out)).mono ?_
  rintro e w5 ⟨rfl, rfl⟩
  have H4d := Lib.hid (H4.out.step (Below.refl _ _).drew)
  obtain ⟨q0, q1, q2⟩ := H4d.out.seen
  rw [HQ.out] at q1
  have f6 := H4d.out.fz 6
  go_wp2_with fail
  have HK := Lib.hid ((Keeps.of_below (D := (· = rb)) HB4.out).trans (keepsW1 w5 rb 6 (.int .i64 2)).drew)
  have hsr : sb ≠ rb := by have := HSB.out; have := HR.out.lt; omega
  have g0 : (w5.setCell ⟨rb, 6, none⟩ (.int .i64 2)).drew.cell? ⟨sb, 0, none⟩ = some (.string s) := (HF4.out.far (q := ⟨rb, 6, none⟩) hsr (.int .i64 2)).2.1
  have g1 : (w5.setCell ⟨rb, 6, none⟩ (.int .i64 2)).drew.cell? ⟨sb, 1, none⟩ = some (.int .i64 j) := (HF4.out.far (q := ⟨rb, 6, none⟩) hsr (.int .i64 2)).2.2.1
  have e6 : (w5.setCell ⟨rb, 6, none⟩ (.int .i64 2)).drew.cell? ⟨rb, 6, none⟩ = some (.int .i64 2) := World.cell?_setCell_same w5 ⟨rb, 6, none⟩ _ q1
  go_region_with (fail)
  go_wp2_with fail
  refine (HAT.out _).mono ?_
  rintro e w7 ⟨rfl, b7⟩
  have HK7 := Lib.hid (HK.out.trans (Keeps.of_below (D := (· = rb)) b7))
  clear b7 g0 g1 e6
  go_wp2_with fail
  refine (HNE.out _).mono ?_
  rintro e w8 ⟨fb, rfl, hf, b8⟩
  have HF := Lib.hid hf
  have HK8 := Lib.hid (HK7.out.trans (Keeps.of_below (D := (· = rb)) b8))
  clear b8 hf
  unfold pf
  go_wp2_with fail
  go_ret2
  exact ⟨_, fb, rfl, HF.out, HK8.out⟩
set_option maxRecDepth 100000 in
set_option maxHeartbeats 2000000 in
theorem gword_ok1 (s : ByteArray) (k rb : Nat) (m : Int) (p : Nat → Int) (q : Nat → Bool) (hc : nameC s (skp s k) = 0) (ht : wIdx (nameT s (skp s k)) = 1) (hq : q 1 = false) (hs : s.size ≤ 100000) (hk : k ≤ s.size) (w : World) (hr : Wr w rb s k p q) (hw : Wds w) :
    Calls Tryz.prog 115 #[.pointer (some ⟨rb, 0, none⟩)] w (WdOut w rb s p q (.ok 1 m (nameK s (skp s k)))) := by
  have HS : Hid (∀ W, Calls Tryz.prog 35 #[.agg #[.string s, .int .i64 k]] W fun e w' => e = .returned (.agg #[.string s, .int .i64 (skp s k)]) ∧ Below W.heap.size W w') := Lib.hid (fun W => skip_any s k hs hk W)
  have HN := Lib.hid (fun W => name_any s (skp s k) hs (skp_le hk).2 W)
  have HPO := Lib.hid (fun W hw => gpartOf_any (nameT s (skp s k)) W hw)
  have HAT := Lib.hid (fun W => at_any s (skp s k) W)
  have HR := Lib.hid hr
  have HW := Lib.hid hw
  obtain ⟨c0, c1⟩ := hr.scan
  have HQ : Hid (gq q 1 = 0) := Lib.hid (by unfold gq; rw [hq]; rfl)
  rw [hc] at HN
  rw [ht, if_neg (by decide)] at HPO
  generalize nameT s (skp s k) = t at *
  generalize nameK s (skp s k) = e at *
  generalize skp s k = j at *
  clear hr hw hc ht hq
  go_enter Tryz.func115, Tryz.ntmps115
  go_wp2_with fail
  refine (HS.out _).mono ?_
  rintro e w1 ⟨rfl, b1⟩
  have bn := sbelow_new w1 (.cells #[.string s, .int .i64 j] 42)
  have HB1 := Lib.hid (b1.trans (bn.mono b1.size))
  have H1 := Lib.hid ((HR.out.step b1).step bn)
  have HF1 := Lib.hid (ScanAt.new w1 s j 42)
  have HSB : Hid (w.heap.size ≤ w1.heap.size) := Lib.hid b1.size
  clear c0 c1 b1 bn
  go_wp2_with fail
  generalize w1.alloc (.cells #[.string s, .int .i64 j] 42) = w2 at *
  generalize w1.heap.size = sb at *
  refine (HN.out _).mono ?_
  rintro e w3 ⟨v, rfl, hv, b3⟩
  obtain rfl := hv.nil_of
  have HCB : Hid (w.heap.size ≤ w3.heap.size) := Lib.hid (Nat.le_trans HB1.out.size b3.size)
  have bn := sbelow_new w3 (.cells #[.string s, .int .i64 e] 42)
  have HB4 := Lib.hid ((HB1.out.trans (b3.mono HB1.out.size)).trans (bn.mono (HB1.out.trans (b3.mono HB1.out.size)).size))
  have H4 := Lib.hid ((H1.out.step b3).step bn)
  have HF4 := Lib.hid ((HF1.out.step b3).step bn)
  have HC4 := Lib.hid (ScanAt.new w3 s e 42)
  clear hv b3 bn HB1 H1 HF1
  go_wp2_with fail
  generalize w3.alloc (.cells #[.string s, .int .i64 e] 42) = w4 at *
  generalize w3.heap.size = cb at *
  refine (HPO.out _ (HW.out.below HB4.out)).mono ?_
  rintro e w5 ⟨rfl, rfl⟩
  have H4d := Lib.hid (H4.out.step (Below.refl _ _).drew)
  obtain ⟨q0, q1, q2⟩ := H4d.out.seen
  rw [HQ.out] at q1
  have f6 := H4d.out.fz 6
  go_wp2_with fail
  have H6 : Hid (Wr (w5.setCell ⟨rb, 6, none⟩ (.int .i64 1)).drew rb s k p (upd q 1 true)) := Lib.hid ((H4.out.putq1).step (Below.refl _ _).drew)
  have HK : Hid (Keeps (· = rb) w (w5.setCell ⟨rb, 6, none⟩ (.int .i64 1)).drew) := Lib.hid ((Keeps.of_below (D := (· = rb)) HB4.out).trans (keepsW1 w5 rb 6 (.int .i64 1)).drew)
  have hcr : cb ≠ rb := by have := HCB.out; have := HR.out.lt; omega
  have g0 : (w5.setCell ⟨rb, 6, none⟩ (.int .i64 1)).drew.cell? ⟨cb, 0, none⟩ = some (.string s) := (HC4.out.far (q := ⟨rb, 6, none⟩) hcr (.int .i64 1)).2.1
  have g1 : (w5.setCell ⟨rb, 6, none⟩ (.int .i64 1)).drew.cell? ⟨cb, 1, none⟩ = some (.int .i64 e) := (HC4.out.far (q := ⟨rb, 6, none⟩) hcr (.int .i64 1)).2.2.1
  have e6 : (w5.setCell ⟨rb, 6, none⟩ (.int .i64 1)).drew.cell? ⟨rb, 6, none⟩ = some (.int .i64 1) := World.cell?_setCell_same w5 ⟨rb, 6, none⟩ _ q1
  go_region_with (fail)
  go_upto_region 11 with (fail)
  generalize (w5.setCell ⟨rb, 6, none⟩ (.int .i64 1)).drew = w6 at *
  have f0 := H6.out.fz 0
  have f1 := H6.out.fz 1
  obtain ⟨d0, d1⟩ := H6.out.scan
  clear q0 q1 q2 f6
  go_wp2_with fail
  go_ret2
  exact ⟨rfl, H6.out.putc e, HK.out.trans (keepsW2 _ rb _ _)⟩
set_option maxRecDepth 100000 in
set_option maxHeartbeats 2000000 in
theorem gword_twice2 (s : ByteArray) (k rb : Nat) (p : Nat → Int) (q : Nat → Bool) (hc : nameC s (skp s k) = 0) (ht : wIdx (nameT s (skp s k)) = 2) (hq : q 2 = true) (hs : s.size ≤ 100000) (hk : k ≤ s.size) (w : World) (hr : Wr w rb s k p q) (hw : Wds w) :
    Calls Tryz.prog 115 #[.pointer (some ⟨rb, 0, none⟩)] w (WdOut w rb s p q (.er 10 (skp s k))) := by
  have HS : Hid (∀ W, Calls Tryz.prog 35 #[.agg #[.string s, .int .i64 k]] W fun e w' => e = .returned (.agg #[.string s, .int .i64 (skp s k)]) ∧ Below W.heap.size W w') := Lib.hid (fun W => skip_any s k hs hk W)
  have HN := Lib.hid (fun W => name_any s (skp s k) hs (skp_le hk).2 W)
  have HPO := Lib.hid (fun W hw => gpartOf_any (nameT s (skp s k)) W hw)
  have HAT := Lib.hid (fun W => at_any s (skp s k) W)
  have HR := Lib.hid hr
  have HW := Lib.hid hw
  obtain ⟨c0, c1⟩ := hr.scan
  have HNE := Lib.hid (fun W => new_err 10 (skp s k) (by decide) W)
  have HQ : Hid (gq q 2 = 1) := Lib.hid (by unfold gq; rw [hq]; rfl)
  rw [hc] at HN
  rw [ht, if_neg (by decide)] at HPO
  generalize nameT s (skp s k) = t at *
  generalize nameK s (skp s k) = e at *
  generalize skp s k = j at *
  clear hr hw hc ht hq
  go_enter Tryz.func115, Tryz.ntmps115
  go_wp2_with fail
  refine (HS.out _).mono ?_
  rintro e w1 ⟨rfl, b1⟩
  have bn := sbelow_new w1 (.cells #[.string s, .int .i64 j] 42)
  have HB1 := Lib.hid (b1.trans (bn.mono b1.size))
  have H1 := Lib.hid ((HR.out.step b1).step bn)
  have HF1 := Lib.hid (ScanAt.new w1 s j 42)
  have HSB : Hid (w.heap.size ≤ w1.heap.size) := Lib.hid b1.size
  clear c0 c1 b1 bn
  go_wp2_with fail
  generalize w1.alloc (.cells #[.string s, .int .i64 j] 42) = w2 at *
  generalize w1.heap.size = sb at *
  refine (HN.out _).mono ?_
  rintro e w3 ⟨v, rfl, hv, b3⟩
  obtain rfl := hv.nil_of
  have HCB : Hid (w.heap.size ≤ w3.heap.size) := Lib.hid (Nat.le_trans HB1.out.size b3.size)
  have bn := sbelow_new w3 (.cells #[.string s, .int .i64 e] 42)
  have HB4 := Lib.hid ((HB1.out.trans (b3.mono HB1.out.size)).trans (bn.mono (HB1.out.trans (b3.mono HB1.out.size)).size))
  have H4 := Lib.hid ((H1.out.step b3).step bn)
  have HF4 := Lib.hid ((HF1.out.step b3).step bn)
  have HC4 := Lib.hid (ScanAt.new w3 s e 42)
  clear hv b3 bn HB1 H1 HF1
  go_wp2_with fail
  generalize w3.alloc (.cells #[.string s, .int .i64 e] 42) = w4 at *
  generalize w3.heap.size = cb at *
  refine (HPO.out _ (HW.out.below HB4.out)).mono ?_
  rintro e w5 ⟨rfl, rfl⟩
  have H4d := Lib.hid (H4.out.step (Below.refl _ _).drew)
  obtain ⟨q0, q1, q2⟩ := H4d.out.seen
  rw [HQ.out] at q2
  have f7 := H4d.out.fz 7
  go_wp2_with fail
  have HK := Lib.hid ((Keeps.of_below (D := (· = rb)) HB4.out).trans (keepsW1 w5 rb 7 (.int .i64 2)).drew)
  have hsr : sb ≠ rb := by have := HSB.out; have := HR.out.lt; omega
  have g0 : (w5.setCell ⟨rb, 7, none⟩ (.int .i64 2)).drew.cell? ⟨sb, 0, none⟩ = some (.string s) := (HF4.out.far (q := ⟨rb, 7, none⟩) hsr (.int .i64 2)).2.1
  have g1 : (w5.setCell ⟨rb, 7, none⟩ (.int .i64 2)).drew.cell? ⟨sb, 1, none⟩ = some (.int .i64 j) := (HF4.out.far (q := ⟨rb, 7, none⟩) hsr (.int .i64 2)).2.2.1
  have e7 : (w5.setCell ⟨rb, 7, none⟩ (.int .i64 2)).drew.cell? ⟨rb, 7, none⟩ = some (.int .i64 2) := World.cell?_setCell_same w5 ⟨rb, 7, none⟩ _ q2
  go_region_with (fail)
  go_wp2_with fail
  refine (HAT.out _).mono ?_
  rintro e w7 ⟨rfl, b7⟩
  have HK7 := Lib.hid (HK.out.trans (Keeps.of_below (D := (· = rb)) b7))
  clear b7 g0 g1 e7
  go_wp2_with fail
  refine (HNE.out _).mono ?_
  rintro e w8 ⟨fb, rfl, hf, b8⟩
  have HF := Lib.hid hf
  have HK8 := Lib.hid (HK7.out.trans (Keeps.of_below (D := (· = rb)) b8))
  clear b8 hf
  unfold pf
  go_wp2_with fail
  go_ret2
  exact ⟨_, fb, rfl, HF.out, HK8.out⟩
set_option maxRecDepth 100000 in
set_option maxHeartbeats 2000000 in
theorem gword_ok2 (s : ByteArray) (k rb : Nat) (m : Int) (p : Nat → Int) (q : Nat → Bool) (hc : nameC s (skp s k) = 0) (ht : wIdx (nameT s (skp s k)) = 2) (hq : q 2 = false) (hs : s.size ≤ 100000) (hk : k ≤ s.size) (w : World) (hr : Wr w rb s k p q) (hw : Wds w) :
    Calls Tryz.prog 115 #[.pointer (some ⟨rb, 0, none⟩)] w (WdOut w rb s p q (.ok 2 m (nameK s (skp s k)))) := by
  have HS : Hid (∀ W, Calls Tryz.prog 35 #[.agg #[.string s, .int .i64 k]] W fun e w' => e = .returned (.agg #[.string s, .int .i64 (skp s k)]) ∧ Below W.heap.size W w') := Lib.hid (fun W => skip_any s k hs hk W)
  have HN := Lib.hid (fun W => name_any s (skp s k) hs (skp_le hk).2 W)
  have HPO := Lib.hid (fun W hw => gpartOf_any (nameT s (skp s k)) W hw)
  have HAT := Lib.hid (fun W => at_any s (skp s k) W)
  have HR := Lib.hid hr
  have HW := Lib.hid hw
  obtain ⟨c0, c1⟩ := hr.scan
  have HQ : Hid (gq q 2 = 0) := Lib.hid (by unfold gq; rw [hq]; rfl)
  rw [hc] at HN
  rw [ht, if_neg (by decide)] at HPO
  generalize nameT s (skp s k) = t at *
  generalize nameK s (skp s k) = e at *
  generalize skp s k = j at *
  clear hr hw hc ht hq
  go_enter Tryz.func115, Tryz.ntmps115
  go_wp2_with fail
  refine (HS.out _).mono ?_
  rintro e w1 ⟨rfl, b1⟩
  have bn := sbelow_new w1 (.cells #[.string s, .int .i64 j] 42)
  have HB1 := Lib.hid (b1.trans (bn.mono b1.size))
  have H1 := Lib.hid ((HR.out.step b1).step bn)
  have HF1 := Lib.hid (ScanAt.new w1 s j 42)
  have HSB : Hid (w.heap.size ≤ w1.heap.size) := Lib.hid b1.size
  clear c0 c1 b1 bn
  go_wp2_with fail
  generalize w1.alloc (.cells #[.string s, .int .i64 j] 42) = w2 at *
  generalize w1.heap.size = sb at *
  refine (HN.out _).mono ?_
  rintro e w3 ⟨v, rfl, hv, b3⟩
  obtain rfl := hv.nil_of
  have HCB : Hid (w.heap.size ≤ w3.heap.size) := Lib.hid (Nat.le_trans HB1.out.size b3.size)
  have bn := sbelow_new w3 (.cells #[.string s, .int .i64 e] 42)
  have HB4 := Lib.hid ((HB1.out.trans (b3.mono HB1.out.size)).trans (bn.mono (HB1.out.trans (b3.mono HB1.out.size)).size))
  have H4 := Lib.hid ((H1.out.step b3).step bn)
  have HF4 := Lib.hid ((HF1.out.step b3).step bn)
  have HC4 := Lib.hid (ScanAt.new w3 s e 42)
  clear hv b3 bn HB1 H1 HF1
  go_wp2_with fail
  generalize w3.alloc (.cells #[.string s, .int .i64 e] 42) = w4 at *
  generalize w3.heap.size = cb at *
  refine (HPO.out _ (HW.out.below HB4.out)).mono ?_
  rintro e w5 ⟨rfl, rfl⟩
  have H4d := Lib.hid (H4.out.step (Below.refl _ _).drew)
  obtain ⟨q0, q1, q2⟩ := H4d.out.seen
  rw [HQ.out] at q2
  have f7 := H4d.out.fz 7
  go_wp2_with fail
  have H6 : Hid (Wr (w5.setCell ⟨rb, 7, none⟩ (.int .i64 1)).drew rb s k p (upd q 2 true)) := Lib.hid ((H4.out.putq2).step (Below.refl _ _).drew)
  have HK : Hid (Keeps (· = rb) w (w5.setCell ⟨rb, 7, none⟩ (.int .i64 1)).drew) := Lib.hid ((Keeps.of_below (D := (· = rb)) HB4.out).trans (keepsW1 w5 rb 7 (.int .i64 1)).drew)
  have hcr : cb ≠ rb := by have := HCB.out; have := HR.out.lt; omega
  have g0 : (w5.setCell ⟨rb, 7, none⟩ (.int .i64 1)).drew.cell? ⟨cb, 0, none⟩ = some (.string s) := (HC4.out.far (q := ⟨rb, 7, none⟩) hcr (.int .i64 1)).2.1
  have g1 : (w5.setCell ⟨rb, 7, none⟩ (.int .i64 1)).drew.cell? ⟨cb, 1, none⟩ = some (.int .i64 e) := (HC4.out.far (q := ⟨rb, 7, none⟩) hcr (.int .i64 1)).2.2.1
  have e7 : (w5.setCell ⟨rb, 7, none⟩ (.int .i64 1)).drew.cell? ⟨rb, 7, none⟩ = some (.int .i64 1) := World.cell?_setCell_same w5 ⟨rb, 7, none⟩ _ q2
  go_region_with (fail)
  go_upto_region 11 with (fail)
  generalize (w5.setCell ⟨rb, 7, none⟩ (.int .i64 1)).drew = w6 at *
  have f0 := H6.out.fz 0
  have f1 := H6.out.fz 1
  obtain ⟨d0, d1⟩ := H6.out.scan
  clear q0 q1 q2 f7
  go_wp2_with fail
  go_ret2
  exact ⟨rfl, H6.out.putc e, HK.out.trans (keepsW2 _ rb _ _)⟩
end Go.Proofs.YtogbocgjijhmgaaGreatDoor
