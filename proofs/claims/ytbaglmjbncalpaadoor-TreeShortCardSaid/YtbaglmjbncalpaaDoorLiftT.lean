/-
  What a law's row gives a walk of a number of 16 bits.
-/
import Derived.Test.YtbaglmjbncalpaaDoorLiftB
namespace Go.Proofs.YtbaglmjbncalpaaDoor
theorem u16_bd {n : Int} (h : (Lit.int .u16 n).wf = true) : 0 ≤ n ∧ n ≤ 65535 := by
  simp [Lit.wf] at h
  have e : IntKind.u16.min = 0 := rfl
  have e' : IntKind.u16.max = 65535 := rfl
  omega
end Go.Proofs.YtbaglmjbncalpaaDoor
