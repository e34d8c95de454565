/-
  Weights by contracts: parts, Check, Cost, Link; the document's Check and Cost.
-/
import Derived.Test.YtogbocgjijhmgaaGreatDoorWgA
import Derived.Test.YtogbocgjijhmgaaGreatDoorAwk2
import Derived.Deep.RegionHeld3
import Derived.Deep.RegionWith
namespace Go.Proofs.YtogbocgjijhmgaaGreatDoor
open Go.RowKit Go.Extern.Stop Go.Stop Go.Extern

set_option maxRecDepth 100000 in
set_option maxHeartbeats 1000000 in
theorem gparts_any (h d p : Int) (w : World) :
    Calls Tryz.prog 49 #[.agg #[.int .u64 h, .int .u64 d, .int .u64 p]] w fun e w' => e = .returned (.agg #[.int .u64 h, .int .u64 d, .int .u64 p]) ∧ Below w.heap.size w w' := by
  go_enter Tryz.func49, Tryz.ntmps49
  go_wp2
  exact bodyPost_ret (v := .agg #[.int .u64 h, .int .u64 d, .int .u64 p]) (by simp [results, Tryz.results49, go_sem]) rfl ⟨rfl, ((Below.refl _ _).alloc (Nat.le_refl _) _).alloc (by simp) _⟩

theorem idxU0 (h d p : Int) (w : World) : (Instr.index 93 (.agg #[.int .u64 h, .int .u64 d, .int .u64 p]) (.int .i64 0)).run Tryz.prog w = .ok (.int .u64 h) w := by kernel_rfl
theorem idxU1 (h d p : Int) (w : World) : (Instr.index 93 (.agg #[.int .u64 h, .int .u64 d, .int .u64 p]) (.int .i64 1)).run Tryz.prog w = .ok (.int .u64 d) w := by kernel_rfl
theorem idxU2 (h d p : Int) (w : World) : (Instr.index 93 (.agg #[.int .u64 h, .int .u64 d, .int .u64 p]) (.int .i64 2)).run Tryz.prog w = .ok (.int .u64 p) w := by kernel_rfl

/-! ### Costs -/
set_option maxRecDepth 100000 in
set_option maxHeartbeats 4000000 in
theorem gcost_any (h d p a b c : Int) (hh : 0 ≤ h) (hd : 0 ≤ d) (hp : 0 ≤ p) (ha : 0 ≤ a) (hb : 0 ≤ b) (hc : 0 ≤ c) (w : World) :
    Calls Tryz.prog 28 #[.agg #[.int .u64 h, .int .u64 d, .int .u64 p], .int .u64 a, .int .u64 b, .int .u64 c] w fun e w' => e = .returned (.int .u64 (costI h d p a b c)) ∧ Below w.heap.size w w' := by
  have n1 := mulI_nn hh ha
  have n2 := mulI_nn hd hb
  have n3 := mulI_nn hp hc
  have n0 : (0 : Int) ≤ 0 := by decide
  have n5 := addI_nn n0 n1
  have n6 := addI_nn n5 n2
  have HP := Lib.hid (fun W => gparts_any h d p W)
  have i0 := idxU0 h d p
  have i1 := idxU1 h d p
  have i2 := idxU2 h d p
  have HE : Hid (addI (addI (addI 0 (mulI h a)) (mulI d b)) (mulI p c) = costI h d p a b c) := Lib.hid (by unfold costI; rw [addI_nought _ (mulI_le _ _)])
  go_enter Tryz.func28, Tryz.ntmps28
  go_wp2_with fail
  refine (HP.out _).mono ?_
  rintro e w1 ⟨rfl, b1⟩
  have c0 := (b1.cell (p := ⟨w.heap.size + 1, 0, none⟩) (by simp)).trans (show _ = some (Value.int .u64 a) by simp)
  have c1 := (b1.cell (p := ⟨w.heap.size + 1, 1, none⟩) (by simp)).trans (show _ = some (Value.int .u64 b) by simp)
  have c2 := (b1.cell (p := ⟨w.heap.size + 1, 2, none⟩) (by simp)).trans (show _ = some (Value.int .u64 c) by simp)
  have HB : Hid (Below w.heap.size w w1) := Lib.hid ((((Below.refl _ _).alloc (Nat.le_refl _) _).alloc (by simp) _).trans (b1.mono (by simp; omega)))
  clear b1
  go_wp2_with fail
  refine wp_loop_rounds 4 ?_
  rw [rounds_succ]
  go_wp2_with (first
    | (go_at_call 61; refine (mul_any _ _ (by assumption) (by assumption) _).mono ?_; rintro e w' ⟨rfl, rfl⟩)
    | (go_at_call 30; refine (add_any _ _ (by assumption) (by assumption) _).mono ?_; rintro e w' ⟨rfl, rfl⟩))
  rw [rounds_succ]
  go_wp2_with (first
    | (go_at_call 61; refine (mul_any _ _ (by assumption) (by assumption) _).mono ?_; rintro e w' ⟨rfl, rfl⟩)
    | (go_at_call 30; refine (add_any _ _ (by assumption) (by assumption) _).mono ?_; rintro e w' ⟨rfl, rfl⟩))
  rw [rounds_succ]
  go_wp2_with (first
    | (go_at_call 61; refine (mul_any _ _ (by assumption) (by assumption) _).mono ?_; rintro e w' ⟨rfl, rfl⟩)
    | (go_at_call 30; refine (add_any _ _ (by assumption) (by assumption) _).mono ?_; rintro e w' ⟨rfl, rfl⟩))
  rw [rounds_succ]
  go_wp2_with (first
    | (go_at_call 61; refine (mul_any _ _ (by assumption) (by assumption) _).mono ?_; rintro e w' ⟨rfl, rfl⟩)
    | (go_at_call 30; refine (add_any _ _ (by assumption) (by assumption) _).mono ?_; rintro e w' ⟨rfl, rfl⟩))
  go_ret
  exact ⟨ret_u HE.out, HB.out⟩
set_option maxRecDepth 100000 in
set_option maxHeartbeats 1000000 in
theorem glink_any (h d p b : Int) (hh : 0 ≤ h) (hd : 0 ≤ d) (hp : 0 ≤ p) (hb : 0 ≤ b) (w : World) :
    Calls Tryz.prog 31 #[.agg #[.int .u64 h, .int .u64 d, .int .u64 p], .int .u64 b] w fun e w' => e = .returned (.int .u64 (costI h d p 1 b 0)) ∧ Below w.heap.size w w' := by
  have HC := Lib.hid (fun W => gcost_any h d p 1 b 0 hh hd hp (by decide) hb (by decide) W)
  go_enter Tryz.func31, Tryz.ntmps31
  go_wp2_with fail
  refine (HC.out _).mono ?_
  rintro e w1 ⟨rfl, b1⟩
  go_wp2_with fail
  go_ret
  exact ⟨rfl, (sbelow_new w _).trans (b1.mono (by simp))⟩
set_option maxRecDepth 100000 in
set_option maxHeartbeats 4000000 in
theorem rgcost_any (h d p a b c : Int) (hh : 0 ≤ h) (hd : 0 ≤ d) (hp : 0 ≤ p) (ha : 0 ≤ a) (hb : 0 ≤ b) (hc : 0 ≤ c) (w : World) :
    Calls Tryz.prog 29 #[.agg #[.int .u64 h, .int .u64 d, .int .u64 p], .int .u64 a, .int .u64 b, .int .u64 c] w fun e w' => e = .returned (.int .u64 (costI h d p a b c)) ∧ Below w.heap.size w w' := by
  have n1 := mulI_nn hh ha
  have n2 := mulI_nn hd hb
  have n3 := mulI_nn hp hc
  have n4 := addI_nn n1 n2
  have HM1 := Lib.hid (fun W => rmul_any h a hh ha W)
  have HM2 := Lib.hid (fun W => rmul_any d b hd hb W)
  have HM3 := Lib.hid (fun W => rmul_any p c hp hc W)
  have HA1 := Lib.hid (fun W => radd_any (mulI h a) (mulI d b) n1 n2 W)
  have HA2 := Lib.hid (fun W => radd_any (addI (mulI h a) (mulI d b)) (mulI p c) n4 n3 W)
  unfold costI
  generalize addI (addI (mulI h a) (mulI d b)) (mulI p c) = y2 at *
  generalize addI (mulI h a) (mulI d b) = y1 at *
  generalize mulI h a = x1 at *
  generalize mulI d b = x2 at *
  generalize mulI p c = x3 at *
  clear n1 n2 n3 n4 hh hd hp ha hb hc
  go_enter Tryz.func29, Tryz.ntmps29
  go_wp2_with fail
  have k0 : (w.alloc (.cells #[.int .u64 h, .int .u64 d, .int .u64 p] 58)).drew.cell? ⟨w.heap.size, 0, none⟩ = some (.int .u64 h) := by simp
  have k1 : (w.alloc (.cells #[.int .u64 h, .int .u64 d, .int .u64 p] 58)).drew.cell? ⟨w.heap.size, 1, none⟩ = some (.int .u64 d) := by simp
  have k2 : (w.alloc (.cells #[.int .u64 h, .int .u64 d, .int .u64 p] 58)).drew.cell? ⟨w.heap.size, 2, none⟩ = some (.int .u64 p) := by simp
  go_region_held3 (fun W => W.cell? ⟨w.heap.size, 0, none⟩ = some (.int .u64 h) ∧ W.cell? ⟨w.heap.size, 1, none⟩ = some (.int .u64 d) ∧ W.cell? ⟨w.heap.size, 2, none⟩ = some (.int .u64 p))
    (first | go_keep | exact ⟨k0, k1, k2⟩)
    (first
    | (go_at_call_of 63 (Value.int IntKind.u64 h); refine (HM1.out _).mono ?_; rintro e w' ⟨rfl, rfl⟩)
    | (go_at_call_of 63 (Value.int IntKind.u64 d); refine (HM2.out _).mono ?_; rintro e w' ⟨rfl, rfl⟩)
    | (go_at_call_of 63 (Value.int IntKind.u64 p); refine (HM3.out _).mono ?_; rintro e w' ⟨rfl, rfl⟩)
    | (go_at_call_of 62 (Value.int IntKind.u64 x1); refine (HA1.out _).mono ?_; rintro e w' ⟨rfl, rfl⟩)
    | (go_at_call_of 62 (Value.int IntKind.u64 y1); refine (HA2.out _).mono ?_; rintro e w' ⟨rfl, rfl⟩))
  all_goals
    go_wp2
    go_ret
    exact ⟨rfl, (sbelow_new w _).drew⟩

/-! ### Checks -/
/-- The error's number, and which of the three. -/
def wC (h d p : Int) : Int := if 1000000 < h then 7 else if 1000000 < d then 7 else if 1000000 < p then 7 else 0
def wA (h d p : Int) : Int := if 1000000 < h then 0 else if 1000000 < d then 1 else if 1000000 < p then 2 else 0
set_option maxRecDepth 100000 in
set_option maxHeartbeats 4000000 in
theorem gcheck_any (h d p : Int) (w : World) :
    Calls Tryz.prog 24 #[.agg #[.int .u64 h, .int .u64 d, .int .u64 p]] w (Faults w (wC h d p) (wA h d p)) := by
  have HP := Lib.hid (fun W => gparts_any h d p W)
  have i0 := idxU0 h d p
  have i1 := idxU1 h d p
  have i2 := idxU2 h d p
  have HN := Lib.hid (fun a W => new_faults 7 a (by decide) W)
  have HB0 := Lib.hid (sbelow_new w (.cells #[.int .u64 h, .int .u64 d, .int .u64 p] 55))
  have HF : Hid (∀ w1 a e w2, Below w.heap.size w w1 → Faults w1 7 a e w2 → Faults w 7 a e w2) := Lib.hid (fun w1 a e w2 hb ⟨v, he, hv, hb2⟩ => ⟨v, he, hv, hb.trans (hb2.mono hb.size)⟩)
  by_cases h1 : 1000000 < h
  · rw [show wC h d p = 7 by unfold wC; rw [if_pos h1], show wA h d p = 0 by unfold wA; rw [if_pos h1]]
    go_enter Tryz.func24, Tryz.ntmps24
    go_wp2_with fail
    refine (HP.out _).mono ?_
    rintro e w1 ⟨rfl, b1⟩
    have HB1 := Lib.hid (HB0.out.trans (b1.mono HB0.out.size))
    clear b1
    go_wp2_with fail
    refine wp_loop_rounds 1 ?_
    rw [rounds_succ]
    go_wp2_with fail
    refine (HN.out _ _).mono ?_
    intro e w2 hf
    obtain ⟨v, rfl, hv, b2⟩ := HF.out _ _ _ _ HB1.out hf
    go_wp2_with fail
    go_ret
    exact ⟨v, rfl, hv, b2⟩
  · by_cases h2 : 1000000 < d
    · rw [show wC h d p = 7 by unfold wC; rw [if_neg h1, if_pos h2], show wA h d p = 1 by unfold wA; rw [if_neg h1, if_pos h2]]
      go_enter Tryz.func24, Tryz.ntmps24
      go_wp2_with fail
      refine (HP.out _).mono ?_
      rintro e w1 ⟨rfl, b1⟩
      have HB1 := Lib.hid (HB0.out.trans (b1.mono HB0.out.size))
      clear b1
      go_wp2_with fail
      refine wp_loop_rounds 2 ?_
      rw [rounds_succ]
      go_wp2_with fail
      rw [rounds_succ]
      go_wp2_with fail
      refine (HN.out _ _).mono ?_
      intro e w2 hf
      obtain ⟨v, rfl, hv, b2⟩ := HF.out _ _ _ _ HB1.out hf
      go_wp2_with fail
      go_ret
      exact ⟨v, rfl, hv, b2⟩
    · by_cases h3 : 1000000 < p
      · rw [show wC h d p = 7 by unfold wC; rw [if_neg h1, if_neg h2, if_pos h3], show wA h d p = 2 by unfold wA; rw [if_neg h1, if_neg h2, if_pos h3]]
        go_enter Tryz.func24, Tryz.ntmps24
        go_wp2_with fail
        refine (HP.out _).mono ?_
        rintro e w1 ⟨rfl, b1⟩
        have HB1 := Lib.hid (HB0.out.trans (b1.mono HB0.out.size))
        clear b1
        go_wp2_with fail
        refine wp_loop_rounds 3 ?_
        rw [rounds_succ]
        go_wp2_with fail
        rw [rounds_succ]
        go_wp2_with fail
        rw [rounds_succ]
        go_wp2_with fail
        refine (HN.out _ _).mono ?_
        intro e w2 hf
        obtain ⟨v, rfl, hv, b2⟩ := HF.out _ _ _ _ HB1.out hf
        go_wp2_with fail
        go_ret
        exact ⟨v, rfl, hv, b2⟩
      · rw [show wC h d p = 0 by unfold wC; rw [if_neg h1, if_neg h2, if_neg h3], show wA h d p = 0 by unfold wA; rw [if_neg h1, if_neg h2, if_neg h3]]
        go_enter Tryz.func24, Tryz.ntmps24
        go_wp2_with fail
        refine (HP.out _).mono ?_
        rintro e w1 ⟨rfl, b1⟩
        have HB1 := Lib.hid (HB0.out.trans (b1.mono HB0.out.size))
        clear b1
        go_wp2_with fail
        refine wp_loop_rounds 4 ?_
        rw [rounds_succ]
        go_wp2_with fail
        rw [rounds_succ]
        go_wp2_with fail
        rw [rounds_succ]
        go_wp2_with fail
        rw [rounds_succ]
        go_wp2_with fail
        go_ret
        exact ⟨.nilIface, rfl, .nilE _ _, HB1.out⟩
set_option maxRecDepth 100000 in
set_option maxHeartbeats 4000000 in
theorem rgcheck_any (h d p : Int) (w : World) :
    Calls Tryz.prog 22 #[.agg #[.int .u64 h, .int .u64 d, .int .u64 p]] w fun e w' => e = .returned (.tuple #[.int .i64 (wC h d p), .int .i64 (wA h d p)]) ∧ Below w.heap.size w w' := by
  have HB : Hid (∀ o1 o2, Below w.heap.size w ((w.alloc o1).alloc o2)) := Lib.hid (fun o1 o2 => (sbelow_new w o1).trans ((sbelow_new _ o2).mono (by simp)))
  by_cases h1 : 1000000 < h
  · rw [show wC h d p = 7 by unfold wC; rw [if_pos h1], show wA h d p = 0 by unfold wA; rw [if_pos h1]]
    go_enter Tryz.func22, Tryz.ntmps22
    go_wp2_with fail
    refine wp_loop_rounds 1 ?_
    rw [rounds_succ]
    go_wp2_with fail
    go_ret2
    exact ⟨rfl, HB.out _ _⟩
  · by_cases h2 : 1000000 < d
    · rw [show wC h d p = 7 by unfold wC; rw [if_neg h1, if_pos h2], show wA h d p = 1 by unfold wA; rw [if_neg h1, if_pos h2]]
      go_enter Tryz.func22, Tryz.ntmps22
      go_wp2_with fail
      refine wp_loop_rounds 2 ?_
      rw [rounds_succ]
      go_wp2_with fail
      rw [rounds_succ]
      go_wp2_with fail
      go_ret2
      exact ⟨rfl, HB.out _ _⟩
    · by_cases h3 : 1000000 < p
      · rw [show wC h d p = 7 by unfold wC; rw [if_neg h1, if_neg h2, if_pos h3], show wA h d p = 2 by unfold wA; rw [if_neg h1, if_neg h2, if_pos h3]]
        go_enter Tryz.func22, Tryz.ntmps22
        go_wp2_with fail
        refine wp_loop_rounds 3 ?_
        rw [rounds_succ]
        go_wp2_with fail
        rw [rounds_succ]
        go_wp2_with fail
        rw [rounds_succ]
        go_wp2_with fail
        go_ret2
        exact ⟨rfl, HB.out _ _⟩
      · rw [show wC h d p = 0 by unfold wC; rw [if_neg h1, if_neg h2, if_neg h3], show wA h d p = 0 by unfold wA; rw [if_neg h1, if_neg h2, if_neg h3]]
        go_enter Tryz.func22, Tryz.ntmps22
        go_wp2_with fail
        refine wp_loop_rounds 4 ?_
        rw [rounds_succ]
        go_wp2_with fail
        rw [rounds_succ]
        go_wp2_with fail
        rw [rounds_succ]
        go_wp2_with fail
        rw [rounds_succ]
        go_wp2_with fail
        go_ret2
        exact ⟨rfl, HB.out _ _⟩
end Go.Proofs.YtogbocgjijhmgaaGreatDoor
