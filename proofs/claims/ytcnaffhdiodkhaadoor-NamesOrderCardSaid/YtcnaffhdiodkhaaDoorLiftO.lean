/-
  A slice of texts among a law's arguments, as the walk of NamesOrder speaks of it, with its capacity.
-/
import Derived.Test.YtcnaffhdiodkhaaDoorLiftB
import Derived.Test.YtcnaffhdiodkhaaDoorNamesO
namespace Go.Proofs.YtcnaffhdiodkhaaDoor
open Go.ChangeShapes Go.WideShapes Go.ChangeAt Go.RowKit

section
variable {H : Type} {enc : TypeId × Value → H}
theorem textArg_of_trod {W : World} {v : Value} {d : DataW H} {ps : List MemPlace} (hval : ∃ a len cap, v = .slice a len cap) (h : DataW.Trod enc Tryd.prog W 0 (fun _ => true) true 56 v d ps) (hlt : ∀ x ∈ ps, x.block < W.heap.size) :
    ∃ ws, TextArg W v ws ∧ ∀ x ∈ ws, x.size ≤ maxLen := by
  obtain ⟨a0, len, cap, rfl⟩ := hval
  obtain ⟨fuel, hf⟩ := h
  rcases open_strings Tryd.underlying56 Tryd.underlying9 Tryd.cellsStr hf with ⟨hcs, hx⟩ | ⟨a, len', cap', ss, hcs, _, hl, hm, hz, hx, hcell, hws⟩
  · simp [Value.cells] at hcs
    obtain ⟨rfl, rfl, rfl⟩ := hcs
    exact ⟨[], .inl ⟨rfl, rfl⟩, by simp⟩
  · simp [Value.cells] at hcs
    obtain ⟨rfl, rfl, rfl⟩ := hcs
    simp only [Prod.mk.injEq] at hx
    obtain ⟨rfl, rfl⟩ := hx
    simp only [if_true] at hz
    have hbd : ∀ x ∈ ss.take len, x.size ≤ maxLen := fun x hx => hws x (List.mem_of_mem_take hx)
    by_cases h0 : len = 0
    · subst h0; exact ⟨[], .inr (.inl ⟨a, cap, rfl, rfl⟩), by simp⟩
    · obtain ⟨b, off, spot⟩ := a
      have hspot : spot = none := by simpa [Addr.add] using World.cell?_spot (hcell 0 (by omega))
      subst hspot
      have hl2 : (ss.take len).length = len := by simp; omega
      refine ⟨ss.take len, .inr (.inr ⟨b, off, cap, by rw [hl2], by omega, by omega, hlt (.cell b off) (MemPlace.mem_row.2 ⟨0, by omega, by simp⟩), fun j u hj => ?_⟩), hbd⟩
      have hj' : j < (ss.take len).length := by
        have := (List.getElem?_eq_some_iff.1 hj).1
        simpa using this
      rw [hcell j (by omega)]
      rw [← hj, List.getElem?_map, List.getElem?_eq_getElem hj']
      simp [List.getD, show j < ss.length by omega]
end
end Go.Proofs.YtcnaffhdiodkhaaDoor
