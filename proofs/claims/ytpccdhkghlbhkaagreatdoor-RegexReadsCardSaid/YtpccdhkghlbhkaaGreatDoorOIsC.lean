/-
  oops.Is, by contract.
-/
import Derived.Test.YtpccdhkghlbhkaaGreatDoorIsC
namespace Go.Proofs.YtpccdhkghlbhkaaGreatDoor
open Go.RowKit Go.Extern.Stop Go.Stop Go.Extern

theorem ret_bo {a b : Bool} (h : a = b) : Ending.returned (.bool a) = .returned (.bool b) := by rw [h]
set_option maxHeartbeats 400000 in
theorem ois_any (B : Nat) (r : Base) (c d : Int) (hr : r.code = some c) (ws : List ByteArray) (v : Value) (w : World) (hch : Chain B w r ws v) :
    Calls Tryz.prog 81 #[v, .int .i64 d] w fun e w' => e = .returned (.bool (decide (c = d))) ∧ w' = w := by
  by_cases h : c = d
  · subst h
    have HC := Lib.hid (is_yes B r c hr ws v w hch)
    clear hr hch
    go_enter Tryz.func81, Tryz.ntmps81
    go_wp2_with fail
    refine HC.out.mono ?_
    rintro e w' ⟨rfl, rfl⟩
    go_wp2_with fail
    go_ret
    exact ⟨ret_bo (by simp), rfl⟩
  · have HC := Lib.hid (is_no B r d (by rw [hr]; intro e; exact h (Option.some.inj e)) ws v w hch)
    have HD := Lib.hid h
    clear hr hch h
    go_enter Tryz.func81, Tryz.ntmps81
    go_wp2_with fail
    refine HC.out.mono ?_
    rintro e w' ⟨rfl, rfl⟩
    go_wp2_with fail
    go_ret
    exact ⟨ret_bo (by simp [HD.out]), rfl⟩

set_option maxHeartbeats 400000 in
theorem ois_nil (d : Int) (w : World) : Calls Tryz.prog 81 #[.nilIface, .int .i64 d] w fun e w' => e = .returned (.bool false) ∧ w' = w := by
  go_enter Tryz.func81, Tryz.ntmps81
  go_wp2_with fail
  refine (is_nil _ _ _).mono ?_
  rintro e w' ⟨rfl, rfl⟩
  go_wp2_with fail
  go_ret
  exact ⟨rfl, rfl⟩
end Go.Proofs.YtpccdhkghlbhkaaGreatDoor
