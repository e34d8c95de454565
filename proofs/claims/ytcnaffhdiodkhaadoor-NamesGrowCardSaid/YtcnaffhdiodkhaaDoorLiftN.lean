/-
  A slice of texts among a law's arguments, with the bounds of their lengths.
-/
import Derived.Test.YtcnaffhdiodkhaaDoorLiftB
namespace Go.Proofs.YtcnaffhdiodkhaaDoor
open Go.ChangeShapes Go.WideShapes Go.ChangeAt Go.RowKit

section
variable {H : Type} {enc : TypeId × Value → H}
theorem texts_of_trod {W : World} {v : Value} {d : DataW H} {ps : List MemPlace} (hval : ∃ a len cap, v = .slice a len cap) (h : DataW.Trod enc Tryd.prog W 0 (fun _ => true) true 56 v d ps) (hlt : ∀ x ∈ ps, x.block < W.heap.size) :
    ∃ ws, StrsAt W v ws ∧ ∀ x ∈ ws, x.size ≤ maxLen := by
  obtain ⟨a0, len, cap, rfl⟩ := hval
  obtain ⟨fuel, hf⟩ := h
  rcases open_strings Tryd.underlying56 Tryd.underlying9 Tryd.cellsStr hf with ⟨hcs, hx⟩ | ⟨a, len', cap', ss, hcs, _, hl, hm, hz, hx, hcell, hws⟩
  · simp [Value.cells] at hcs
    obtain ⟨rfl, rfl, rfl⟩ := hcs
    exact ⟨[], .inl ⟨none, 0, rfl, rfl⟩, by simp⟩
  · simp [Value.cells] at hcs
    obtain ⟨rfl, rfl, rfl⟩ := hcs
    simp only [Prod.mk.injEq] at hx
    obtain ⟨rfl, rfl⟩ := hx
    simp only [if_true] at hz
    have hbd : ∀ x ∈ ss.take len, x.size ≤ maxLen := fun x hx => hws x (List.mem_of_mem_take hx)
    by_cases h0 : len = 0
    · subst h0; exact ⟨[], .inl ⟨some a, cap, rfl, rfl⟩, by simp⟩
    · obtain ⟨b, off, spot⟩ := a
      have hspot : spot = none := by simpa [Addr.add] using World.cell?_spot (hcell 0 (by omega))
      subst hspot
      have hl2 : (ss.take len).length = len := by simp; omega
      refine ⟨ss.take len, .inr ⟨b, off, cap, by rw [hl2], hlt (.cell b off) (MemPlace.mem_row.2 ⟨0, by omega, by simp⟩), fun i hi => ?_⟩, hbd⟩
      have hi' : i < len := by omega
      have hc := hcell i (by omega)
      rw [add_plain] at hc
      rw [hc]
      simp [List.getD, hi']
end
end Go.Proofs.YtcnaffhdiodkhaaDoor
