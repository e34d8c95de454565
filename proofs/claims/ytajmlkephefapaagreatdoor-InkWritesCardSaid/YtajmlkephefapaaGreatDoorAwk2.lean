/-
  Chapter 2's example holds.
-/
import Derived.Test.YtajmlkephefapaaGreatDoorAmtP
namespace Go.Proofs.YtajmlkephefapaaGreatDoor
open Go.RowKit Go.Extern.Stop Go.Stop Go.Extern

theorem parse_05 (w : World) : Calls Tryz.prog 89 #[.string ⟨#[48, 53]⟩] w fun e w' =>
    e = .returned (.tuple #[.int .u64 0, .iface 100 (.pointer (some ⟨w.heap.size, 0, none⟩))]) ∧ w' = w.alloc (.cells #[.int .i64 4, .int .i64 0] 102) := by
  refine (parse_any ⟨#[48, 53]⟩ w (by decide)).mono ?_
  have hR : parseR (ByteArray.mk #[48, 53]).data.toList = (0, 4, 0) := by decide
  rw [hR]
  rintro e w' (⟨h, -⟩ | ⟨-, h⟩)
  · exact absurd h (by decide)
  · exact h
theorem parse_50 (w : World) : Calls Tryz.prog 89 #[.string ⟨#[53, 48]⟩] w fun e w' =>
    e = .returned (.tuple #[.int .u64 50, .nilIface]) ∧ w' = w := by
  refine (parse_any ⟨#[53, 48]⟩ w (by decide)).mono ?_
  have hR : parseR (ByteArray.mk #[53, 48]).data.toList = (50, 0, 0) := by decide
  rw [hR]
  rintro e w' (⟨-, h⟩ | ⟨h, -⟩)
  · exact h
  · exact absurd rfl h

set_option maxRecDepth 100000 in
set_option maxHeartbeats 1600000 in
theorem awake2_any (w : World) (hg : Handle w) :
    Calls Tryz.prog 71 #[] w fun e w' => e = .returned (.bool true) ∧ Below w.heap.size w w' := by
  have b1 := below_alloc w (.cells #[.int .i64 4, .int .i64 0] 102)
  have c1 := new_chain 4 0 w
  have H05 := Lib.hid (parse_05 w)
  obtain ⟨w1, hw1⟩ : ∃ w1, w1 = w.alloc (.cells #[.int .i64 4, .int .i64 0] 102) := ⟨_, rfl⟩
  rw [← hw1] at b1 c1 H05
  have HW := Lib.hid hw1
  clear hw1
  have HC := Lib.hid c1
  clear c1
  have ha : addI 9223372036854775807 5 = 9223372036854775807 := by decide
  go_enter Tryz.func71, Tryz.ntmps71
  go_wp2_with fail
  refine H05.out.mono ?_
  rintro e w' ⟨rfl, rfl⟩
  go_wp2_with fail
  refine (parse_50 _).mono ?_
  rintro e w' ⟨rfl, rfl⟩
  have g1 := hg.below b1
  go_wp2_with fail
  refine (Awake1_any _ g1).mono ?_
  rintro e w2 ⟨rfl, b2⟩
  go_wp2_with fail
  refine (add_any _ _ (by decide) (by decide) _).mono ?_
  rintro e w' ⟨rfl, rfl⟩
  go_wp2_with fail
  refine (lawIs_fault _ 4 0 (by decide) _ _ (HC.out.keep b2) (g1.below b2)).mono ?_
  rintro e w3 ⟨rfl, b3⟩
  go_wp2_with fail
  go_ret
  exact ⟨rfl, b1.trans ((b2.trans (b3.mono b2.size)).mono b1.size)⟩

theorem Awake2_any (w : World) (hg : Handle w) :
    Calls Tryz.prog 41 #[] w fun e w' => e = .returned (.bool true) ∧ Below w.heap.size w w' := by
  go_enter Tryz.func41, Tryz.ntmps41
  go_wp2_with (go_at_call 71; refine (awake2_any _ hg).mono ?_; rintro e w' ⟨rfl, hb⟩)
  go_ret
  exact ⟨rfl, hb⟩
end Go.Proofs.YtajmlkephefapaaGreatDoor
