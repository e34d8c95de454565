/-
  The statement ScanNames as a walk: whatever the text, the law answers true, and all of old memory stays as it was.
-/
import Derived.Test.YtcnaffhdiodkhaaDoorAwk3
namespace Go.Proofs.YtcnaffhdiodkhaaDoor
open Go.RowKit Go.Extern.Stop Go.Stop Go.Extern

set_option maxRecDepth 100000 in
set_option maxHeartbeats 1600000 in
theorem scanNames_any (s : ByteArray) (hs : s.size ≤ maxLen) (w : World) (hg : Handle w) :
    Calls Tryd.prog 4 #[.string s] w fun e w' => e = .returned (.bool true) ∧ Below w.heap.size w w' := by
  have HI := Lib.hid (fun w => isName_any s hs w)
  unfold maxLen at hs
  by_cases h : s.size ≤ 200
  · have HE := Lib.hid (isNameB_eq (s := s) (by omega))
    rw [HE.out] at HI
    have HR := Lib.hid (fun w => risName_any s (by omega) w)
    generalize isNameR s = b at *
    have hn : ¬ (200 : Int) < s.size := by omega
    clear HE
    go_enter Tryd.func4, Tryd.ntmps4
    go_wp2_with fail
    refine (awake3_any _ hg).mono ?_
    rintro e w1 ⟨rfl, b1⟩
    go_wp2_with fail
    refine (HI.out _).mono ?_
    rintro e w2 ⟨rfl, b2⟩
    go_wp2_with fail
    refine (HR.out _).mono ?_
    rintro e w3 ⟨rfl, b3⟩
    go_wp2_with fail
    go_ret
    exact ⟨rfl, b1.trans ((b2.trans (b3.mono b2.size)).mono b1.size)⟩
  · have hn : (200 : Int) < s.size := by omega
    go_enter Tryd.func4, Tryd.ntmps4
    go_wp2_with fail
    refine (awake3_any _ hg).mono ?_
    rintro e w1 ⟨rfl, b1⟩
    go_wp2_with fail
    go_ret
    exact ⟨rfl, b1⟩
end Go.Proofs.YtcnaffhdiodkhaaDoor
