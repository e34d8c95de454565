/-
  RegexParses: for every text.
-/
import Derived.Test.YtpccdhkghlbhkaaGreatDoorQyA
import Derived.Test.YtpccdhkghlbhkaaGreatDoorGd
import Derived.Test.YtpccdhkghlbhkaaGreatDoorRyD
import Derived.Test.YtpccdhkghlbhkaaGreatDoorGm
namespace Go.Proofs.YtpccdhkghlbhkaaGreatDoor
open Go.RowKit Go.Extern.Stop Go.Stop Go.Extern

theorem xpTold_of {w : World} {R : RO Rx} {e : Ending} {w' : World} (h : XpOut w R e w') : XpTold R w e w' := by
  cases R <;> exact h
theorem regexParses_any (s : ByteArray) (w : World) (hg : Handle w) :
    Calls Tryz.prog 3 #[.string s] w fun e w' => e = .returned (.bool true) ∧ Below w.heap.size w w' := by
  refine regexParses_from s (xpR s) rfl (fun W h => awake15_any W h) ?_ ?_ w hg
  · intro hs W
    exact (xparse_any s (by omega) W).mono fun e w' h => xpTold_of h
  · intro hs k n x hx
    obtain ⟨h0, hw⟩ := xpR_may hx
    exact ⟨by omega, fun P W k t a l c a' l' c' hv => xcheck_ok P x (by omega) h0 W k t a l c a' l' c' hv⟩
#print axioms regexParses_any
end Go.Proofs.YtpccdhkghlbhkaaGreatDoor
