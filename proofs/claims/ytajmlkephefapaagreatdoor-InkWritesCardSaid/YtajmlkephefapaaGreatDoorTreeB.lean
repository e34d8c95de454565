/-
  Package tree by contracts, first part: kinds, words, signs within texts, what stands behind a \.
-/
import Derived.Test.YtajmlkephefapaaGreatDoorTreeA
import Derived.Test.YtajmlkephefapaaGreatDoorBld
import Derived.Test.YtajmlkephefapaaGreatDoorScanF
import Derived.Deep.RegionHeld3
namespace Go.Proofs.YtajmlkephefapaaGreatDoor
open Go.RowKit Go.Extern.Stop Go.Stop Go.Extern

theorem ret_u' {a b : Int} (h : a = b) : Ending.returned (.int .i64 a) = .returned (.int .i64 b) := by rw [h]

set_option maxHeartbeats 1000000 in
theorem kindOf_any (n : Int) (w : World) :
    Calls Tryz.prog 54 #[.int .u8 n] w fun e w' => e = .returned (.int .i64 (kindT n)) ∧ w = w' := by
  go_enter Tryz.func54, Tryz.ntmps54
  go_wp2
  all_goals
    go_ret
    refine ⟨ret_u' ?_, rfl⟩
    go_light
    simp only [beq_iff_eq, beq_eq_false_iff_ne, ne_eq] at *
    unfold kindT
    repeat' split
    all_goals omega

/-! ### escaped -/
/-- What a call answers that tells a place, a byte and no error. -/
def SignYes (w : World) (s : ByteArray) (k : Nat) (b : Int) (e : Ending) (w' : World) : Prop :=
  e = .returned (.tuple #[.agg #[.string s, .int .i64 k], .int .u8 b, .nilIface]) ∧ Below w.heap.size w w'
/-- .. that tells an error. -/
def SignNo (w : World) (s : ByteArray) (k : Nat) (c a : Int) (e : Ending) (w' : World) : Prop :=
  ∃ fb, e = .returned (.tuple #[.agg #[.string s, .int .i64 k], .int .u8 0, pf fb]) ∧ FaultAt w' fb c a ∧ Below w.heap.size w w'

/-- Within a call with a place of its own, a result's place, and one more. -/
structure InTwo (w0 : World) (s : ByteArray) (k : Nat) (b2 : Nat) (k2 : Nat) (w : World) : Prop where
  inn : InScan w0 s k w
  two : ScanAt w b2 s k2
  far : w0.heap.size + 1 < b2
theorem InTwo.step {w0 w w' : World} {s : ByteArray} {k b2 k2 : Nat} (h : InTwo w0 s k b2 k2 w) (hb : Below w.heap.size w w') : InTwo w0 s k b2 k2 w' :=
  ⟨h.inn.step hb, h.two.step hb, h.far⟩
theorem InTwo.drew {w0 w : World} {s : ByteArray} {k b2 k2 : Nat} (h : InTwo w0 s k b2 k2 w) : InTwo w0 s k b2 k2 w.drew := ⟨h.inn.drew, h.two, h.far⟩
theorem InScan.two {w0 w : World} {s : ByteArray} {k : Nat} (h : InScan w0 s k w) (k2 : Nat) : InTwo w0 s k w.heap.size k2 (w.alloc (.cells #[.string s, .int .i64 k2] 58)) :=
  ⟨h.step (sbelow_new _ _), ScanAt.new w s k2 58, by have := h.res.1; omega⟩

set_option maxRecDepth 100000 in
set_option maxHeartbeats 1000000 in
theorem escaped_end (s : ByteArray) (k : Nat) (hs : s.size ≤ 100000) (hk : k ≤ s.size) (hend : ¬ k < s.size) (at' : Int) (w : World) :
    Calls Tryz.prog 120 #[.agg #[.string s, .int .i64 k], .int .i64 at'] w (SignNo w s k 3 k) := by
  have hP := fun w => peek_any s k hk w
  rw [byteI_ge hend] at hP
  have HP := Lib.hid hP
  have hT := fun w => take_not s k hs hk 0 (fun h => hend h.2) w
  have HT := Lib.hid hT
  have HM := Lib.hid (show missC s k = 3 by unfold missC; rw [if_neg hend])
  clear hP hT
  have H0 := Lib.hid (InScan.new w s k 58)
  go_enter Tryz.func120, Tryz.ntmps120
  go_wp2_with fail
  refine (HP.out _).mono ?_
  rintro e w1 ⟨rfl, b1⟩
  have H1 := Lib.hid (H0.out.step b1)
  obtain ⟨-, c0, c1, -⟩ := H1.out.own
  go_wp2_with fail
  refine (HT.out _).mono ?_
  rintro e w2 ⟨fb, rfl, hf, b2⟩
  have H2 := Lib.hid (H1.out.step b2)
  have HF := Lib.hid hf
  clear hf
  obtain ⟨l2, d0, d1, -⟩ := H2.out.own
  obtain ⟨m2, r0, r1, rf⟩ := H2.out.res
  unfold pf
  go_wp2_with fail
  obtain ⟨⟨q0, q1⟩, hb⟩ := H2.out.out k
  have hq := (HF.out.set H2.out.res s k).keep (sbelow_new _ (.cells #[.string s, .int .i64 k] 58))
  rw [HM.out] at hq
  exact bodyPost_ret (v := .tuple #[.agg #[.string s, .int .i64 k], .int .u8 0, pf fb]) (by simp [results, Tryz.results120, go_sem, q0, q1, m2, pf]) rfl ⟨fb, rfl, hq, hb.trans ((sbelow_new _ _).mono hb.size)⟩

set_option maxRecDepth 100000 in
set_option maxHeartbeats 1000000 in
theorem escaped_bad (s : ByteArray) (k : Nat) (hs : s.size ≤ 100000) (hlt : k < s.size) (h1 : byteI s k ≠ 34) (h2 : byteI s k ≠ 92) (h3 : byteI s k ≠ 110) (at' : Int) (w : World) :
    Calls Tryz.prog 120 #[.agg #[.string s, .int .i64 k], .int .i64 at'] w (SignNo w s k 4 at') := by
  have HP := Lib.hid (fun w => peek_any s k (by omega) w)
  have hT := fun w => take_is s k hs hlt (byteI s k) rfl w
  generalize byteI s k = n at *
  generalize k + 1 = j at hT
  have HT := Lib.hid hT
  clear hT
  have e1 : (n == 34) = false := by simpa using h1
  have e2 : (n == 92) = false := by simpa using h2
  have e3 : (n == 110) = false := by simpa using h3
  clear h1 h2 h3
  have H0 := Lib.hid (InScan.new w s k 58)
  go_enter Tryz.func120, Tryz.ntmps120
  go_wp2_with fail
  refine (HP.out _).mono ?_
  rintro e w1 ⟨rfl, b1⟩
  have H1 := Lib.hid (H0.out.step b1)
  obtain ⟨-, c0, c1, -⟩ := H1.out.own
  go_wp2_with fail
  refine (HT.out _).mono ?_
  rintro e w2 ⟨rfl, b2⟩
  have H2 := Lib.hid (H1.out.step b2)
  have H3 := Lib.hid (H2.out.two j)
  obtain ⟨l2, d0, d1, -⟩ := H2.out.own
  obtain ⟨m2, r0, r1, rf⟩ := H2.out.res
  go_wp2_with fail
  generalize w2.alloc (.cells #[.string s, .int .i64 j] 58) = w3 at *
  have hI := H3.out.inn.drew
  have k0 := hI.own.2.1
  have k1 := hI.own.2.2.1
  go_region_held3 (fun w' => w'.cell? ⟨w.heap.size, 0, none⟩ = some (.string s) ∧ w'.cell? ⟨w.heap.size, 1, none⟩ = some (.int .i64 k))
    (first | go_keep | exact ⟨hI.own.2.1, hI.own.2.2.1⟩)
    (first
    | (go_at_call 30; refine (new_err 4 at' (by decide) _).mono ?_; rintro e w' ⟨fb, rfl, hv, hb⟩; replace hI := hI.step hb; have x0 := hI.res.2.1; have x1 := hI.res.2.2.1; have xf := hI.res.2.2.2))
  go_wp2
  obtain ⟨⟨q0, q1⟩, hbl⟩ := hI.out k
  exact bodyPost_ret (v := .tuple #[.agg #[.string s, .int .i64 k], .int .u8 0, pf fb]) (by simp [results, Tryz.results120, go_sem, q0, q1, pf]) rfl ⟨fb, rfl, hv.set hI.res s k, hbl⟩

set_option maxRecDepth 100000 in
set_option maxHeartbeats 1000000 in
theorem escaped_quote (s : ByteArray) (k : Nat) (hs : s.size ≤ 100000) (hn : byteI s k = 34) (at' : Int) (w : World) :
    Calls Tryz.prog 120 #[.agg #[.string s, .int .i64 k], .int .i64 at'] w (SignYes w s (k + 1) 34) := by
  have hlt := byteI_pos (s := s) (k := k) (by rw [hn]; decide)
  have hP := fun w => peek_any s k (by omega) w
  have hT := fun w => take_is s k hs hlt (byteI s k) rfl w
  rw [hn] at hP hT
  generalize k + 1 = j at *
  have HP := Lib.hid hP
  have HT := Lib.hid hT
  clear hP hT hn
  have H0 := Lib.hid (InScan.new w s k 58)
  go_enter Tryz.func120, Tryz.ntmps120
  go_wp2_with fail
  refine (HP.out _).mono ?_
  rintro e w1 ⟨rfl, b1⟩
  have H1 := Lib.hid (H0.out.step b1)
  obtain ⟨-, c0, c1, -⟩ := H1.out.own
  go_wp2_with fail
  refine (HT.out _).mono ?_
  rintro e w2 ⟨rfl, b2⟩
  have H2 := Lib.hid (H1.out.step b2)
  obtain ⟨l2, d0, d1, -⟩ := H2.out.own
  obtain ⟨m2, r0, r1, rf⟩ := H2.out.res
  go_wp2_with fail
  obtain ⟨q0, q1⟩ := H2.out.res.put s j
  have hb := ((H2.out.below.setCell (p := ⟨w.heap.size + 1, 0, none⟩) (by simp) (.string s)).setCell (p := ⟨w.heap.size + 1, 1, none⟩) (by simp) (.int .i64 j))
  exact bodyPost_ret (v := .tuple #[.agg #[.string s, .int .i64 j], .int .u8 34, .nilIface]) (by simp [results, Tryz.results120, go_sem, q0, q1, m2]) rfl ⟨rfl, hb.trans ((sbelow_new _ _).mono hb.size)⟩

set_option maxRecDepth 100000 in
set_option maxHeartbeats 1000000 in
theorem escaped_slash (s : ByteArray) (k : Nat) (hs : s.size ≤ 100000) (hn : byteI s k = 92) (at' : Int) (w : World) :
    Calls Tryz.prog 120 #[.agg #[.string s, .int .i64 k], .int .i64 at'] w (SignYes w s (k + 1) 92) := by
  have hlt := byteI_pos (s := s) (k := k) (by rw [hn]; decide)
  have hP := fun w => peek_any s k (by omega) w
  have hT := fun w => take_is s k hs hlt (byteI s k) rfl w
  rw [hn] at hP hT
  generalize k + 1 = j at *
  have HP := Lib.hid hP
  have HT := Lib.hid hT
  clear hP hT hn
  have H0 := Lib.hid (InScan.new w s k 58)
  go_enter Tryz.func120, Tryz.ntmps120
  go_wp2_with fail
  refine (HP.out _).mono ?_
  rintro e w1 ⟨rfl, b1⟩
  have H1 := Lib.hid (H0.out.step b1)
  obtain ⟨-, c0, c1, -⟩ := H1.out.own
  go_wp2_with fail
  refine (HT.out _).mono ?_
  rintro e w2 ⟨rfl, b2⟩
  have H2 := Lib.hid (H1.out.step b2)
  obtain ⟨l2, d0, d1, -⟩ := H2.out.own
  obtain ⟨m2, r0, r1, rf⟩ := H2.out.res
  go_wp2_with fail
  obtain ⟨q0, q1⟩ := H2.out.res.put s j
  have hb := ((H2.out.below.setCell (p := ⟨w.heap.size + 1, 0, none⟩) (by simp) (.string s)).setCell (p := ⟨w.heap.size + 1, 1, none⟩) (by simp) (.int .i64 j))
  exact bodyPost_ret (v := .tuple #[.agg #[.string s, .int .i64 j], .int .u8 92, .nilIface]) (by simp [results, Tryz.results120, go_sem, q0, q1, m2]) rfl ⟨rfl, hb.trans ((sbelow_new _ _).mono hb.size)⟩

set_option maxRecDepth 100000 in
set_option maxHeartbeats 1000000 in
theorem escaped_feed (s : ByteArray) (k : Nat) (hs : s.size ≤ 100000) (hn : byteI s k = 110) (at' : Int) (w : World) :
    Calls Tryz.prog 120 #[.agg #[.string s, .int .i64 k], .int .i64 at'] w (SignYes w s (k + 1) 10) := by
  have hlt := byteI_pos (s := s) (k := k) (by rw [hn]; decide)
  have hP := fun w => peek_any s k (by omega) w
  have hT := fun w => take_is s k hs hlt (byteI s k) rfl w
  rw [hn] at hP hT
  generalize k + 1 = j at *
  have HP := Lib.hid hP
  have HT := Lib.hid hT
  clear hP hT hn
  have H0 := Lib.hid (InScan.new w s k 58)
  go_enter Tryz.func120, Tryz.ntmps120
  go_wp2_with fail
  refine (HP.out _).mono ?_
  rintro e w1 ⟨rfl, b1⟩
  have H1 := Lib.hid (H0.out.step b1)
  obtain ⟨-, c0, c1, -⟩ := H1.out.own
  go_wp2_with fail
  refine (HT.out _).mono ?_
  rintro e w2 ⟨rfl, b2⟩
  have H2 := Lib.hid (H1.out.step b2)
  obtain ⟨l2, d0, d1, -⟩ := H2.out.own
  obtain ⟨m2, r0, r1, rf⟩ := H2.out.res
  go_wp2_with fail
  obtain ⟨q0, q1⟩ := H2.out.res.put s j
  have hb := ((H2.out.below.setCell (p := ⟨w.heap.size + 1, 0, none⟩) (by simp) (.string s)).setCell (p := ⟨w.heap.size + 1, 1, none⟩) (by simp) (.int .i64 j))
  exact bodyPost_ret (v := .tuple #[.agg #[.string s, .int .i64 j], .int .u8 10, .nilIface]) (by simp [results, Tryz.results120, go_sem, q0, q1, m2]) rfl ⟨rfl, hb.trans ((sbelow_new _ _).mono hb.size)⟩

/-! ### sign -/
set_option maxRecDepth 100000 in
set_option maxHeartbeats 1000000 in
theorem sign_end (s : ByteArray) (k : Nat) (hs : s.size ≤ 100000) (hk : k ≤ s.size) (hend : ¬ k < s.size) (w : World) :
    Calls Tryz.prog 92 #[.agg #[.string s, .int .i64 k]] w (SignNo w s k 3 k) := by
  have hP := fun w => peek_any s k hk w
  rw [byteI_ge hend] at hP
  have HP := Lib.hid hP
  have HT := Lib.hid (fun w => take_not s k hs hk 0 (fun h => hend h.2) w)
  have HM := Lib.hid (show missC s k = 3 by unfold missC; rw [if_neg hend])
  clear hP
  have H0 := Lib.hid (InScan.new w s k 58)
  go_enter Tryz.func92, Tryz.ntmps92
  go_wp2_with fail
  refine (HP.out _).mono ?_
  rintro e w1 ⟨rfl, b1⟩
  have H1 := Lib.hid (H0.out.step b1)
  obtain ⟨-, c0, c1, -⟩ := H1.out.own
  go_wp2_with fail
  refine (HT.out _).mono ?_
  rintro e w2 ⟨fb, rfl, hf, b2⟩
  have H2 := Lib.hid (H1.out.step b2)
  have HF := Lib.hid hf
  clear hf
  obtain ⟨l2, d0, d1, -⟩ := H2.out.own
  obtain ⟨m2, r0, r1, rf⟩ := H2.out.res
  unfold pf
  go_wp2_with fail
  obtain ⟨⟨q0, q1⟩, hb⟩ := H2.out.out k
  have hq := (HF.out.set H2.out.res s k).keep (sbelow_new _ (.cells #[.string s, .int .i64 k] 58))
  rw [HM.out] at hq
  exact bodyPost_ret (v := .tuple #[.agg #[.string s, .int .i64 k], .int .u8 0, pf fb]) (by simp [results, Tryz.results92, go_sem, q0, q1, m2, pf]) rfl ⟨fb, rfl, hq, hb.trans ((sbelow_new _ _).mono hb.size)⟩

set_option maxRecDepth 100000 in
set_option maxHeartbeats 1000000 in
theorem sign_plain (s : ByteArray) (k : Nat) (hs : s.size ≤ 100000) (h1 : byteI s k ≠ 92) (h2 : 32 ≤ byteI s k) (h3 : byteI s k ≤ 126) (w : World) :
    Calls Tryz.prog 92 #[.agg #[.string s, .int .i64 k]] w (SignYes w s (k + 1) (byteI s k)) := by
  have hlt := byteI_pos (s := s) (k := k) (by omega)
  have hP := fun w => peek_any s k (by omega) w
  have hT := fun w => take_is s k hs hlt (byteI s k) rfl w
  generalize k + 1 = j at *
  generalize byteI s k = n at *
  have HP := Lib.hid hP
  have HT := Lib.hid hT
  have e1 : (n == 92) = false := by simpa using h1
  clear hP hT h1
  have H0 := Lib.hid (InScan.new w s k 58)
  go_enter Tryz.func92, Tryz.ntmps92
  go_wp2_with fail
  refine (HP.out _).mono ?_
  rintro e w1 ⟨rfl, b1⟩
  have H1 := Lib.hid (H0.out.step b1)
  obtain ⟨-, c0, c1, -⟩ := H1.out.own
  go_wp2_with fail
  refine (HT.out _).mono ?_
  rintro e w2 ⟨rfl, b2⟩
  have H2 := Lib.hid (H1.out.step b2)
  obtain ⟨l2, d0, d1, -⟩ := H2.out.own
  obtain ⟨m2, r0, r1, rf⟩ := H2.out.res
  go_wp2_with fail
  obtain ⟨q0, q1⟩ := H2.out.res.put s j
  have hb := ((H2.out.below.setCell (p := ⟨w.heap.size + 1, 0, none⟩) (by simp) (.string s)).setCell (p := ⟨w.heap.size + 1, 1, none⟩) (by simp) (.int .i64 j))
  exact bodyPost_ret (v := .tuple #[.agg #[.string s, .int .i64 j], .int .u8 n, .nilIface]) (by simp [results, Tryz.results92, go_sem, q0, q1, m2]) rfl ⟨rfl, hb.trans ((sbelow_new _ _).mono hb.size)⟩

set_option maxRecDepth 100000 in
set_option maxHeartbeats 1000000 in
theorem sign_bad (s : ByteArray) (k : Nat) (hs : s.size ≤ 100000) (hlt : k < s.size) (h1 : byteI s k ≠ 92) (h2 : ¬ (32 ≤ byteI s k ∧ byteI s k ≤ 126)) (w : World) :
    Calls Tryz.prog 92 #[.agg #[.string s, .int .i64 k]] w (SignNo w s k 4 k) := by
  have hP := fun w => peek_any s k (by omega) w
  have hT := fun w => take_is s k hs hlt (byteI s k) rfl w
  generalize k + 1 = j at *
  generalize byteI s k = n at *
  have HP := Lib.hid hP
  have HT := Lib.hid hT
  have e1 : (n == 92) = false := by simpa using h1
  clear hP hT h1
  have H0 := Lib.hid (InScan.new w s k 58)
  have HC : ∀ w2, InScan w s k w2 → ∀ Q : Ending → World → Prop, True := fun _ _ _ => trivial
  clear HC
  rcases (by omega : n < 32 ∨ 32 ≤ n ∧ 126 < n) with hn | ⟨hn, hn'⟩
  all_goals
    go_enter Tryz.func92, Tryz.ntmps92
    go_wp2_with fail
    refine (HP.out _).mono ?_
    rintro e w1 ⟨rfl, b1⟩
    have H1 := Lib.hid (H0.out.step b1)
    obtain ⟨-, c0, c1, -⟩ := H1.out.own
    go_wp2_with fail
    refine (HT.out _).mono ?_
    rintro e w2 ⟨rfl, b2⟩
    have H2 := Lib.hid (H1.out.step b2)
    have H3 := Lib.hid (H2.out.two j)
    obtain ⟨l2, d0, d1, -⟩ := H2.out.own
    obtain ⟨m2, r0, r1, rf⟩ := H2.out.res
    go_wp2_with fail
    generalize w2.alloc (.cells #[.string s, .int .i64 j] 58) = w3 at *
    have hI := H3.out.inn.drew
    have k0 := hI.own.2.1
    have k1 := hI.own.2.2.1
    go_region_held3 (fun w' => w'.cell? ⟨w.heap.size, 0, none⟩ = some (.string s) ∧ w'.cell? ⟨w.heap.size, 1, none⟩ = some (.int .i64 k))
      (first | go_keep | exact ⟨hI.own.2.1, hI.own.2.2.1⟩)
      (first
      | (go_at_call 31; refine (at_any s k _).mono ?_; rintro e w' ⟨rfl, hb⟩; replace hI := hI.step hb)
      | (go_at_call 30; refine (new_err 4 k (by decide) _).mono ?_; rintro e w' ⟨fb, rfl, hv, hb⟩; replace hI := hI.step hb; have x0 := hI.res.2.1; have x1 := hI.res.2.2.1; have xf := hI.res.2.2.2))
    go_wp2
    obtain ⟨⟨q0, q1⟩, hbl⟩ := hI.out k
    exact bodyPost_ret (v := .tuple #[.agg #[.string s, .int .i64 k], .int .u8 0, pf fb]) (by simp [results, Tryz.results92, go_sem, q0, q1, pf]) rfl ⟨fb, rfl, hv.set hI.res s k, hbl⟩

/-- The second place is stored: its own and the result's stay. -/
theorem InTwo.put {w0 w : World} {s : ByteArray} {k b2 k2 : Nat} (h : InTwo w0 s k b2 k2 w) (m : Nat) :
    InTwo w0 s k b2 m ((w.setCell ⟨b2, 0, none⟩ (.string s)).setCell ⟨b2, 1, none⟩ (.int .i64 m)) := by
  have hf := h.far
  exact ⟨⟨h.inn.own.farPut (by omega) s m, h.inn.res.farPut (by omega) s m, (h.inn.below.setCell (by show w0.heap.size ≤ b2; omega) _).setCell (by show w0.heap.size ≤ b2; omega) _⟩, h.two.set s m, hf⟩

set_option maxRecDepth 100000 in
set_option maxHeartbeats 1000000 in
theorem sign_esc (s : ByteArray) (k m : Nat) (b : Int) (hs : s.size ≤ 100000) (hn : byteI s k = 92) (h1 : 32 ≤ b ∨ b = 10) (hE : ∀ w, Calls Tryz.prog 120 #[.agg #[.string s, .int .i64 (k + 1 : Nat)], .int .i64 k] w (SignYes w s m b)) (w : World) :
    Calls Tryz.prog 92 #[.agg #[.string s, .int .i64 k]] w (SignYes w s m b) := by
  have hlt := byteI_pos (s := s) (k := k) (by rw [hn]; decide)
  have hP := fun w => peek_any s k (by omega) w
  have hT := fun w => take_is s k hs hlt (byteI s k) rfl w
  rw [hn] at hP hT
  generalize k + 1 = j at *
  have HP := Lib.hid hP
  have HT := Lib.hid hT
  have HE := Lib.hid hE
  clear hP hT hE hn h1
  have H0 := Lib.hid (InScan.new w s k 58)
  go_enter Tryz.func92, Tryz.ntmps92
  go_wp2_with fail
  refine (HP.out _).mono ?_
  rintro e w1 ⟨rfl, b1⟩
  have H1 := Lib.hid (H0.out.step b1)
  obtain ⟨-, c0, c1, -⟩ := H1.out.own
  go_wp2_with fail
  refine (HT.out _).mono ?_
  rintro e w2 ⟨rfl, b2⟩
  have H2 := Lib.hid (H1.out.step b2)
  have H3 := Lib.hid (H2.out.two j)
  obtain ⟨l2, d0, d1, -⟩ := H2.out.own
  obtain ⟨m2, r0, r1, rf⟩ := H2.out.res
  go_wp2_with fail
  generalize w2.alloc (.cells #[.string s, .int .i64 j] 58) = w3 at *
  generalize w2.heap.size = q at *
  have hI := H3.out.drew
  have k0 := hI.inn.own.2.1
  have k1 := hI.inn.own.2.2.1
  have n0 := hI.two.2.1
  have n1 := hI.two.2.2.1
  have nf := hI.two.2.2.2
  go_region_with (first
    | (go_at_call 31; refine (at_any s k _).mono ?_; rintro e w' ⟨rfl, hb⟩; replace hI := hI.step hb; have y0 := hI.two.2.1; have y1 := hI.two.2.2.1)
    | (go_at_call 120; refine (HE.out _).mono ?_; rintro e w' ⟨rfl, hb⟩; replace hI := hI.step hb; have x0 := hI.two.2.1; have x1 := hI.two.2.2.1; have xf := hI.two.2.2.2))
  all_goals
    have hJ := hI.put m
    obtain ⟨-, g0, g1, gf⟩ := hI.inn.res
    have hfar := hI.far
    go_wp2
    obtain ⟨q0, q1⟩ := hJ.inn.res.put s m
    have hb := ((hJ.inn.below.setCell (p := ⟨w.heap.size + 1, 0, none⟩) (by simp) (.string s)).setCell (p := ⟨w.heap.size + 1, 1, none⟩) (by simp) (.int .i64 m))
    exact bodyPost_ret (v := .tuple #[.agg #[.string s, .int .i64 m], .int .u8 b, .nilIface]) (by simp [results, Tryz.results92, go_sem, q0, q1]) rfl ⟨rfl, hb⟩

set_option maxRecDepth 100000 in
set_option maxHeartbeats 1000000 in
theorem sign_escNo (s : ByteArray) (k : Nat) (c a : Int) (hs : s.size ≤ 100000) (hn : byteI s k = 92) (hE : ∀ w, Calls Tryz.prog 120 #[.agg #[.string s, .int .i64 (k + 1 : Nat)], .int .i64 k] w (SignNo w s (k + 1) c a)) (w : World) :
    Calls Tryz.prog 92 #[.agg #[.string s, .int .i64 k]] w (SignNo w s k c a) := by
  have hlt := byteI_pos (s := s) (k := k) (by rw [hn]; decide)
  have hP := fun w => peek_any s k (by omega) w
  have hT := fun w => take_is s k hs hlt (byteI s k) rfl w
  rw [hn] at hP hT
  generalize k + 1 = j at *
  have HP := Lib.hid hP
  have HT := Lib.hid hT
  have HE := Lib.hid hE
  clear hP hT hE hn
  have H0 := Lib.hid (InScan.new w s k 58)
  go_enter Tryz.func92, Tryz.ntmps92
  go_wp2_with fail
  refine (HP.out _).mono ?_
  rintro e w1 ⟨rfl, b1⟩
  have H1 := Lib.hid (H0.out.step b1)
  obtain ⟨-, c0, c1, -⟩ := H1.out.own
  go_wp2_with fail
  refine (HT.out _).mono ?_
  rintro e w2 ⟨rfl, b2⟩
  have H2 := Lib.hid (H1.out.step b2)
  have H3 := Lib.hid (H2.out.two j)
  obtain ⟨l2, d0, d1, -⟩ := H2.out.own
  obtain ⟨m2, r0, r1, rf⟩ := H2.out.res
  go_wp2_with fail
  generalize w2.alloc (.cells #[.string s, .int .i64 j] 58) = w3 at *
  generalize w2.heap.size = q at *
  have hI := H3.out.drew
  have k0 := hI.inn.own.2.1
  have k1 := hI.inn.own.2.2.1
  have n0 := hI.two.2.1
  have n1 := hI.two.2.2.1
  have nf := hI.two.2.2.2
  go_region_with (first
    | (go_at_call 31; refine (at_any s k _).mono ?_; rintro e w' ⟨rfl, hb⟩; replace hI := hI.step hb; have y0 := hI.two.2.1; have y1 := hI.two.2.2.1)
    | (go_at_call 120; refine (HE.out _).mono ?_; rintro e w' ⟨fb, rfl, hv, hb⟩; unfold pf; replace hI := hI.step hb; have x0 := hI.two.2.1; have x1 := hI.two.2.2.1; have xf := hI.two.2.2.2))
  all_goals
    have hJ := hI.put j
    have HV := Lib.hid (hv.set hI.two s j)
    clear hv
    obtain ⟨-, o0, o1, -⟩ := hI.inn.own
    obtain ⟨-, g0, g1, gf⟩ := hI.inn.res
    have hfar := hI.far
    have hfar' : w.heap.size ≠ q := by omega
    go_wp2
    obtain ⟨q0, q1⟩ := hJ.inn.res.put s k
    have hb := ((hJ.inn.below.setCell (p := ⟨w.heap.size + 1, 0, none⟩) (by simp) (.string s)).setCell (p := ⟨w.heap.size + 1, 1, none⟩) (by simp) (.int .i64 k))
    exact bodyPost_ret (v := .tuple #[.agg #[.string s, .int .i64 k], .int .u8 0, pf fb]) (by simp [results, Tryz.results92, go_sem, q0, q1, pf]) rfl ⟨fb, rfl, HV.out.set hJ.inn.res s k, hb⟩

/-- What a sign's call answers, by the plain sign. -/
def SignOut (w : World) (s : ByteArray) (g : Sg) : Ending → World → Prop := if g.c = 0 then SignYes w s g.k (g.b.toNat : Int) else SignNo w s g.k g.c g.a
theorem sign_any (s : ByteArray) (k : Nat) (hs : s.size ≤ 100000) (hk : k ≤ s.size) (w : World) :
    Calls Tryz.prog 92 #[.agg #[.string s, .int .i64 k]] w (SignOut w s (signR s k)) := by
  unfold signR
  by_cases h0 : byteI s k = 92
  · have hlt := byteI_pos (s := s) (k := k) (by rw [h0]; decide)
    rw [if_pos h0]
    by_cases h1 : byteI s (k + 1) = 34 ∨ byteI s (k + 1) = 92
    · rw [if_pos h1]
      show Calls _ _ _ _ (SignYes w s (k + 2) ((byteU s (k + 1)).toNat : Int))
      rw [byteU_I]
      refine sign_esc s k (k + 2) _ hs h0 (by rcases h1 with h1 | h1 <;> rw [h1] <;> decide) (fun w => ?_) w
      rcases h1 with h1 | h1
      · rw [h1]; exact escaped_quote s (k + 1) hs h1 k w
      · rw [h1]; exact escaped_slash s (k + 1) hs h1 k w
    · rw [if_neg h1]
      by_cases h2 : byteI s (k + 1) = 110
      · rw [if_pos h2]
        show Calls _ _ _ _ (SignYes w s (k + 2) 10)
        exact sign_esc s k (k + 2) _ hs h0 (.inr rfl) (fun w => escaped_feed s (k + 1) hs h2 k w) w
      · rw [if_neg h2]
        by_cases h3 : k + 1 < s.size
        · rw [if_pos h3]
          show Calls _ _ _ _ (SignNo w s k 4 k)
          exact sign_escNo s k 4 k hs h0 (fun w => escaped_bad s (k + 1) hs h3 (fun e => h1 (.inl e)) (fun e => h1 (.inr e)) h2 k w) w
        · rw [if_neg h3]
          show Calls _ _ _ _ (SignNo w s k 3 (k + 1 : Nat))
          exact sign_escNo s k 3 (k + 1 : Nat) hs h0 (fun w => escaped_end s (k + 1) hs (by omega) h3 k w) w
  · rw [if_neg h0]
    by_cases h1 : 32 ≤ byteI s k ∧ byteI s k ≤ 126
    · rw [if_pos h1]
      show Calls _ _ _ _ (SignYes w s (k + 1) ((byteU s k).toNat : Int))
      rw [byteU_I]
      exact sign_plain s k hs h0 h1.1 h1.2 w
    · rw [if_neg h1]
      have e : SignOut w s ⟨k, 0, missC s k, k⟩ = SignNo w s k (missC s k) k := if_neg (missC_ne s k)
      rw [e]
      by_cases hlt : k < s.size
      · rw [show missC s k = 4 by unfold missC; rw [if_pos hlt]]
        exact sign_bad s k hs hlt h0 h1 w
      · rw [show missC s k = 3 by unfold missC; rw [if_neg hlt]]
        exact sign_end s k hs hk hlt w
end Go.Proofs.YtajmlkephefapaaGreatDoor
