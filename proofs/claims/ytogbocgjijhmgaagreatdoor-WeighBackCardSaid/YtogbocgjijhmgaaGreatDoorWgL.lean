/-
  The example of chapter 20, as a walk; two weights compared.
-/
import Derived.Test.YtogbocgjijhmgaaGreatDoorWgI
import Derived.Test.YtogbocgjijhmgaaGreatDoorAwk3
namespace Go.Proofs.YtogbocgjijhmgaaGreatDoor
open Go.RowKit Go.Extern.Stop Go.Stop Go.Extern

theorem size64g : (Tryz.prog.info? 53).map (fun i => (i.zero, i.size, i.bytes)) = some (some (.int .u64 0), 1, 8) := by kernel_rfl
theorem eqdeepWeight (d : Nat) (x y z a b c : Int) (w : World) : (Op.equalIn (d + 2) 55 (.agg #[.int .u64 x, .int .u64 y, .int .u64 z]) (.agg #[.int .u64 a, .int .u64 b, .int .u64 c])).run Tryz.prog w = .ok (x == a && (y == b && z == c)) w := by
  have h26 := Tryz.underlying55
  have h24 := Tryz.underlying53
  obtain ⟨i0, hi, hz0, hz1, hz2⟩ := info_parts size64g
  have hin := fun a b => run_equalIn_int (P := Tryz.prog) (w := w) d 53 .u64 .u64 a b h24
  rw [Op.equalIn]
  have ha : ∀ w : World, (isAgg 53).run Tryz.prog w = .ok false w := fun w => by simp [isAgg, run_underlying h24]
  cases h1 : x == a <;> cases h2 : y == b <;> cases h3 : z == c <;>
    simp [run_underlying h26, sizeOf, typeInfo, hi, hz1, part, ha, hin, h1, h2, h3]
theorem eqWeight (x y z a b c : Int) (w : World) : (Op.equalIn 10000 55 (.agg #[.int .u64 x, .int .u64 y, .int .u64 z]) (.agg #[.int .u64 a, .int .u64 b, .int .u64 c])).run Tryz.prog w = .ok (x == a && (y == b && z == c)) w := eqdeepWeight 9998 x y z a b c w
theorem eqdeepRWeight (d : Nat) (x y z a b c : Int) (w : World) : (Op.equalIn (d + 2) 58 (.agg #[.int .u64 x, .int .u64 y, .int .u64 z]) (.agg #[.int .u64 a, .int .u64 b, .int .u64 c])).run Tryz.prog w = .ok (x == a && (y == b && z == c)) w := by
  have h26 := Tryz.underlying58
  have h24 := Tryz.underlying53
  obtain ⟨i0, hi, hz0, hz1, hz2⟩ := info_parts size64g
  have hin := fun a b => run_equalIn_int (P := Tryz.prog) (w := w) d 53 .u64 .u64 a b h24
  rw [Op.equalIn]
  have ha : ∀ w : World, (isAgg 53).run Tryz.prog w = .ok false w := fun w => by simp [isAgg, run_underlying h24]
  cases h1 : x == a <;> cases h2 : y == b <;> cases h3 : z == c <;>
    simp [run_underlying h26, sizeOf, typeInfo, hi, hz1, part, ha, hin, h1, h2, h3]
theorem eqRWeight (x y z a b c : Int) (w : World) : (Op.equalIn 10000 58 (.agg #[.int .u64 x, .int .u64 y, .int .u64 z]) (.agg #[.int .u64 a, .int .u64 b, .int .u64 c])).run Tryz.prog w = .ok (x == a && (y == b && z == c)) w := eqdeepRWeight 9998 x y z a b c w

/-! ### The example -/
def t20 : ByteArray := ⟨#[112, 117, 115, 104, 101, 115, 32, 43, 32, 50, 32, 42, 32, 104, 111, 112, 115]⟩
def p20 (i : Nat) : Nat := if i = 0 then 2 else if i = 1 then 0 else if i = 2 then 1 else 0
theorem wgP_t20 : (match wgP t20 with | .ok p => decide (p 0 = 2) && (decide (p 1 = 0) && decide (p 2 = 1)) | .er _ _ => false) = true := by decide +kernel
theorem text_p20 : (⟨(textW p20).toArray⟩ : ByteArray) = ⟨#[50, 42, 104, 111, 112, 115, 32, 43, 32, 112, 117, 115, 104, 101, 115]⟩ := by
  have h : textW p20 = [50, 42, 104, 111, 112, 115, 32, 43, 32, 112, 117, 115, 104, 101, 115] := by decide +kernel
  rw [h]
theorem p20_le (i : Nat) : p20 i ≤ 1000000 := by unfold p20; split <;> (try split) <;> (try split) <;> decide
set_option maxRecDepth 100000 in
set_option maxHeartbeats 4000000 in
theorem awake20_any (w : World) (hg : Handle w) (ht : Tab w) (hw : Wds w) : Calls Tryz.prog 21 #[] w fun e w' => e = .returned (.bool true) ∧ Below w.heap.size w w' := by
  have HPR : Hid (∀ W, Tab W → Wds W → Calls Tryz.prog 23 #[.agg #[.int .u64 2, .int .u64 0, .int .u64 1]] W fun e w' => e = .returned (.tuple #[.string ⟨#[50, 42, 104, 111, 112, 115, 32, 43, 32, 112, 117, 115, 104, 101, 115]⟩, .nilIface]) ∧ Below W.heap.size W w') := Lib.hid (fun W ht hw => by
    have := gprint_ok p20 p20_le W ht hw
    rw [text_p20] at this
    exact this)
  have HPA : Hid (∀ W, Wds W → Handle W → Calls Tryz.prog 26 #[.string ⟨#[112, 117, 115, 104, 101, 115, 32, 43, 32, 50, 32, 42, 32, 104, 111, 112, 115]⟩] W fun e w' => e = .returned (.tuple #[.agg #[.int .u64 2, .int .u64 0, .int .u64 1], .nilIface]) ∧ Below W.heap.size W w') := Lib.hid (fun W hw hg => by
    have h := gparse_any t20 (by decide) W hw hg
    have h2 := wgP_t20
    cases hp : wgP t20 with
    | er c a => rw [hp] at h2; cases h2
    | ok p =>
      rw [hp] at h h2
      simp only [Bool.and_eq_true, decide_eq_true_eq] at h2
      refine h.mono ?_
      rintro e w' ⟨rfl, hb⟩
      rw [h2.1, h2.2.1, h2.2.2]
      exact ⟨rfl, hb⟩)
  have HG := Lib.hid hg
  have HT := Lib.hid ht
  have HW := Lib.hid hw
  have heq := eqWeight 2 0 1 2 0 1
  clear hg ht hw
  go_enter Tryz.func21, Tryz.ntmps21
  go_wp2_with fail
  refine (HPR.out _ HT.out HW.out).mono ?_
  rintro e w1 ⟨rfl, b1⟩
  have HB1 := Lib.hid b1
  clear b1
  go_wp2_with fail
  refine (HPA.out _ (HW.out.below HB1.out) (HG.out.below HB1.out)).mono ?_
  rintro e w2 ⟨rfl, b2⟩
  have bn := sbelow_new w2 (.cells #[.int .u64 2, .int .u64 0, .int .u64 1] 55)
  have HB3 := Lib.hid ((HB1.out.trans (b2.mono HB1.out.size)).trans (bn.mono (HB1.out.trans (b2.mono HB1.out.size)).size))
  have HC3 : Hid (TriAt (w2.alloc (.cells #[.int .u64 2, .int .u64 0, .int .u64 1] 55)) w2.heap.size 2 0 1) := Lib.hid (heap_alloc_new w2 _)
  clear b2 bn
  go_wp2_with fail
  generalize w2.alloc (.cells #[.int .u64 2, .int .u64 0, .int .u64 1] 55) = w3 at *
  generalize w2.heap.size = xb at *
  refine (Awake2_any _ (HG.out.below HB3.out)).mono ?_
  rintro e w4 ⟨rfl, b4⟩
  have HB4 := Lib.hid (HB3.out.trans (b4.mono HB3.out.size))
  have HC4 := Lib.hid (HC3.out.step b4)
  clear b4
  go_wp2_with fail
  refine (Awake3_any _ (HG.out.below HB4.out)).mono ?_
  rintro e w5 ⟨rfl, b5⟩
  obtain ⟨c0, c1, c2⟩ := (HC4.out.step b5).cells
  have HB5 := Lib.hid (HB4.out.trans (b5.mono HB4.out.size))
  clear b5
  go_wp2_with fail
  go_ret
  exact ⟨rfl, HB5.out⟩
end Go.Proofs.YtogbocgjijhmgaaGreatDoor
