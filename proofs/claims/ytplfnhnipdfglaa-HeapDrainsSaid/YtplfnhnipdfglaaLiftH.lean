/-
  A slice of uint64 among a law's arguments, as the walk of HeapDrains speaks of it.
-/
import Derived.Test.YtplfnhnipdfglaaLiftP
import Derived.Test.YtplfnhnipdfglaaHeapG
namespace Go.Proofs.Ytplfnhnipdfglaa
open Go.ChangeShapes Go.WideShapes Go.ChangeAt Go.RowKit

theorem Try.cellsU64 : Try.prog.cellsOf 25 = 1 := by kernel_rfl
theorem u64_nonneg {n : Int} (h : (Lit.int .u64 n).wf = true) : 0 ≤ n := by
  simp [Lit.wf] at h
  have e : IntKind.u64.min = 0 := rfl
  omega

section
variable {H : Type} {enc : TypeId × Value → H}
theorem costs_of_trod {W : World} {v : Value} {d : DataW H} {ps : List MemPlace} (hval : ∃ a len cap, v = .slice a len cap) (h : DataW.Trod enc Try.prog W 0 (fun _ => true) true 39 v d ps) (hlt : ∀ x ∈ ps, x.block < W.heap.size) :
    ∃ zs, (∀ z ∈ zs, (0 : Int) ≤ z) ∧ CostsAt W v zs ∧ zs.length ≤ maxLen := by
  obtain ⟨a0, len, cap, rfl⟩ := hval
  obtain ⟨fuel, hf⟩ := h
  rcases open_ints Try.underlying39 Try.underlying25 Try.cellsU64 hf with ⟨hcs, hx⟩ | ⟨a, len', cap', zs, hcs, _, hl, hm, hz, hx, hcell, hws⟩
  · simp [Value.cells] at hcs
    obtain ⟨rfl, rfl, rfl⟩ := hcs
    exact ⟨[], by simp, .inl ⟨none, 0, rfl, rfl⟩, by simp⟩
  · simp [Value.cells] at hcs
    obtain ⟨rfl, rfl, rfl⟩ := hcs
    simp only [Prod.mk.injEq] at hx
    obtain ⟨rfl, rfl⟩ := hx
    simp only [if_true] at hz
    have hpos : ∀ z ∈ zs.take len, (0 : Int) ≤ z := fun z hz => u64_nonneg (hws z (List.mem_of_mem_take hz))
    by_cases h0 : len = 0
    · subst h0; exact ⟨[], by simp, .inl ⟨some a, cap, rfl, rfl⟩, by simp⟩
    · obtain ⟨b, off, spot⟩ := a
      have hspot : spot = none := by simpa [Addr.add] using World.cell?_spot (hcell 0 (by omega))
      subst hspot
      have hl2 : (zs.take len).length = len := by simp; omega
      refine ⟨zs.take len, hpos, .inr ⟨b, off, cap, by rw [hl2], hlt (.cell b off) (MemPlace.mem_row.2 ⟨0, by omega, by simp⟩), fun i c hi => ?_⟩, by omega⟩
      have hi' : i < len := by
        have := (List.getElem?_eq_some_iff.1 hi).1
        omega
      have hc := hcell i (by omega)
      rw [add_plain] at hc
      rw [hc]
      rw [List.getElem?_take_of_lt hi'] at hi
      rw [List.getD_eq_getElem?_getD, hi]
      rfl
end
end Go.Proofs.Ytplfnhnipdfglaa
