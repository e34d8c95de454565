/-
  The reference's numbers and names, whole; and chapter 3's example.
-/
import Derived.Test.YtocfcnhaecmgpaaGreatDoorScanD
namespace Go.Proofs.YtocfcnhaecmgpaaGreatDoor
open Go.RowKit Go.Extern.Stop Go.Stop Go.Extern

set_option maxRecDepth 100000 in
set_option maxHeartbeats 1000000 in
theorem risName_any (s : ByteArray) (hs : s.size ≤ 100000) (w : World) :
    Calls Tryz.prog 43 #[.string s] w fun e w' => e = .returned (.bool (isNameR s)) ∧ Below w.heap.size w w' := by
  have HN := Lib.hid (show ∀ w, Calls Tryz.prog 70 #[.string s, .int .i64 0] w _ from fun w => rname_any s 0 hs (Nat.zero_le _) w)
  unfold RefName at HN
  unfold isNameR
  generalize nameK s 0 = k at *
  generalize nameC s 0 = c at *
  generalize nameT s 0 = t at *
  by_cases hc : c = 0
  · subst hc
    go_enter Tryz.func43, Tryz.ntmps43
    go_wp2_with fail
    refine (HN.out _).mono ?_
    rintro e w1 ⟨rfl, b1⟩
    go_wp2_with fail
    go_ret
    exact ⟨ret_b (by rw [Bool.eq_iff_iff]; simp; omega), b1⟩
  · have hcb : (c == 0) = false := by simpa using hc
    rw [hcb, Bool.false_and]
    go_enter Tryz.func43, Tryz.ntmps43
    go_wp2_with fail
    refine (HN.out _).mono ?_
    rintro e w1 ⟨rfl, b1⟩
    go_wp2_with fail
    go_ret
    exact ⟨rfl, b1⟩
end Go.Proofs.YtocfcnhaecmgpaaGreatDoor
