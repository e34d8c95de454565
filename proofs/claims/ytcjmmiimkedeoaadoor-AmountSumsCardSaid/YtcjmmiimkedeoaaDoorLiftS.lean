/-
  A slice of numbers and a byte among a law's arguments, as the walk of AmountSums speaks of them.
-/
import Derived.Test.YtcjmmiimkedeoaaDoorLiftA
import Derived.Test.YtcjmmiimkedeoaaDoorSumL
namespace Go.Proofs.YtcjmmiimkedeoaaDoor
open Go.ChangeShapes Go.WideShapes Go.ChangeAt Go.RowKit

theorem u8_bd {n : Int} (h : (Lit.int .u8 n).wf = true) : 0 ≤ n ∧ n ≤ 255 := by
  simp [Lit.wf] at h
  have e : IntKind.u8.min = 0 := rfl
  have e' : IntKind.u8.max = 255 := rfl
  omega

section
variable {H : Type} {enc : TypeId × Value → H}
theorem numArg_of_trod {W : World} {v : Value} {d : DataW H} {ps : List MemPlace} (hval : ∃ a len cap, v = .slice a len cap) (h : DataW.Trod enc Tryd.prog W 0 (fun _ => true) true 58 v d ps) :
    ∃ zs, (∀ z ∈ zs, (0 : Int) ≤ z) ∧ NumArg W v zs := by
  obtain ⟨a0, len, cap, rfl⟩ := hval
  obtain ⟨fuel, hf⟩ := h
  rcases open_ints Tryd.underlying58 Tryd.underlying57 Tryd.cellsU64 hf with ⟨hcs, hx⟩ | ⟨a, len', cap', zs, hcs, _, hl, hm, hz, hx, hcell, hws⟩
  · simp [Value.cells] at hcs
    obtain ⟨rfl, rfl, rfl⟩ := hcs
    exact ⟨[], by simp, .inl ⟨rfl, rfl⟩⟩
  · simp [Value.cells] at hcs
    obtain ⟨rfl, rfl, rfl⟩ := hcs
    simp only [if_true] at hz
    have hpos : ∀ z ∈ zs.take len, (0 : Int) ≤ z := fun z hz => u64_nonneg (hws z (List.mem_of_mem_take hz))
    by_cases h0 : len = 0
    · subst h0; exact ⟨[], by simp, .inr (.inl ⟨a, cap, rfl, rfl⟩)⟩
    · obtain ⟨b, off, spot⟩ := a
      have hspot : spot = none := by simpa [Addr.add] using World.cell?_spot (hcell 0 (by omega))
      subst hspot
      have hl2 : (zs.take len).length = len := by simp; omega
      refine ⟨zs.take len, hpos, .inr (.inr ⟨b, off, cap, by rw [hl2], by omega, by omega, fun j u hj => ?_⟩)⟩
      have hj' : j < (zs.take len).length := by
        have := (List.getElem?_eq_some_iff.1 hj).1
        simpa using this
      rw [hcell j (by omega)]
      rw [← hj, List.getElem?_map, List.getElem?_eq_getElem hj']
      simp [List.getD, show j < zs.length by omega]
end
end Go.Proofs.YtcjmmiimkedeoaaDoor
