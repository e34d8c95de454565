/-
  The statement ScanWalks at texts or rows of steps that are too long, and at all of them.
-/
import Derived.Test.YtcnaffhdiodkhaaDoorLawsW
namespace Go.Proofs.YtcnaffhdiodkhaaDoor
open Go.RowKit Go.Extern.Stop Go.Stop Go.Extern

set_option maxRecDepth 100000 in
set_option maxHeartbeats 1600000 in
theorem scanWalks_far (s : ByteArray) (a : Option Addr) (n c : Nat) (w : World) (h : 500 < s.size ∨ 60 < n) (hs : s.size ≤ maxLen) (hg : Handle w) :
    Calls Tryd.prog 3 #[.string s, .slice a n c] w fun e w' => e = .returned (.bool true) ∧ Below w.heap.size w w' := by
  unfold maxLen at hs
  by_cases h1 : (500 : Int) < s.size
  · go_enter Tryd.func3, Tryd.ntmps3
    go_wp2_with fail
    refine (awake3_any _ hg).mono ?_
    rintro e w1 ⟨rfl, b1⟩
    go_wp2_with fail
    go_ret
    exact ⟨rfl, b1⟩
  · have h2 : (60 : Int) < n := by omega
    go_enter Tryd.func3, Tryd.ntmps3
    go_wp2_with fail
    refine (awake3_any _ hg).mono ?_
    rintro e w1 ⟨rfl, b1⟩
    go_wp2_with fail
    go_ret
    exact ⟨rfl, b1⟩

theorem scanWalks_any (s : ByteArray) (n : Nat) (v : Value) (w : World) (hv : StepsAt w v n) (hs : s.size ≤ maxLen) (hg : Handle w) :
    Calls Tryd.prog 3 #[.string s, v] w fun e w' => e = .returned (.bool true) ∧ Below w.heap.size w w' := by
  by_cases h : 500 < s.size ∨ 60 < n
  · obtain ⟨b, o, c, rfl, -⟩ := hv
    exact scanWalks_far s b n c w h hs hg
  · exact scanWalks_near s n v w hv (by omega) (by omega) hg
end Go.Proofs.YtcnaffhdiodkhaaDoor
