/-
  Numbers among a law's arguments: a uint64, and a slice of them, as the walks speak of them.
-/
import Derived.Test.YtcjmmiimkedeoaaDoorLift
import Derived.Test.YtcjmmiimkedeoaaDoorAmt
namespace Go.Proofs.YtcjmmiimkedeoaaDoor
open Go.ChangeShapes Go.WideShapes Go.ChangeAt Go.RowKit

theorem u64_nonneg {n : Int} (h : (Lit.int .u64 n).wf = true) : 0 ≤ n := by
  simp [Lit.wf] at h
  have e : IntKind.u64.min = 0 := rfl
  omega

section
variable {H : Type} {enc : TypeId × Value → H}
/-- A slice of uint64 among the arguments. -/
theorem nums_of_trod {W : World} {v : Value} {d : DataW H} {ps : List MemPlace} (hval : ∃ a len cap, v = .slice a len cap) (h : DataW.Trod enc Tryd.prog W 0 (fun _ => true) true 58 v d ps) :
    ∃ zs, (∀ z ∈ zs, (0 : Int) ≤ z) ∧ NumsAt W v zs := by
  obtain ⟨a0, len, cap, rfl⟩ := hval
  obtain ⟨fuel, hf⟩ := h
  rcases open_ints Tryd.underlying58 Tryd.underlying57 Tryd.cellsU64 hf with ⟨hcs, hx⟩ | ⟨a, len', cap', zs, hcs, _, hl, hm, hz, hx, hcell, hws⟩
  · simp [Value.cells] at hcs
    obtain ⟨rfl, rfl, rfl⟩ := hcs
    exact ⟨[], by simp, .inl ⟨none, 0, rfl, rfl⟩⟩
  · simp [Value.cells] at hcs
    obtain ⟨rfl, rfl, rfl⟩ := hcs
    simp only [if_true] at hz
    have hpos : ∀ z ∈ zs.take len, (0 : Int) ≤ z := fun z hz => u64_nonneg (hws z (List.mem_of_mem_take hz))
    by_cases h0 : len = 0
    · subst h0; exact ⟨[], by simp, .inl ⟨some a, cap, rfl, rfl⟩⟩
    · obtain ⟨b, off, spot⟩ := a
      have hspot : spot = none := by simpa [Addr.add] using World.cell?_spot (hcell 0 (by omega))
      subst hspot
      have hl2 : (zs.take len).length = len := by simp; omega
      refine ⟨zs.take len, hpos, .inr ⟨b, off, cap, by rw [hl2], fun i hi => ?_⟩⟩
      have hi' : i < len := by omega
      have hc := hcell i (by omega)
      rw [add_plain] at hc
      rw [hc]
      simp [List.getD, hi']
end
end Go.Proofs.YtcjmmiimkedeoaaDoor
