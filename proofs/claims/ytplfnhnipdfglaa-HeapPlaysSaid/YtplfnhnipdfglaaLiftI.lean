/-
  A slice of acts among a law's arguments, as the walk of HeapPlays speaks of it.
-/
import Derived.Test.YtplfnhnipdfglaaLiftP
import Derived.Test.YtplfnhnipdfglaaHeapI
import Derived.Deep.Slices
import Derived.Deep.Strs
namespace Go.Proofs.Ytplfnhnipdfglaa
open Go.ChangeShapes Go.WideShapes Go.ChangeAt Go.RowKit Go.Deep

theorem Try.cellsHAct : Try.prog.cellsOf 30 = 3 := by kernel_rfl
theorem Try.cellsBool : Try.prog.cellsOf 4 = 1 := by kernel_rfl
theorem Try.cellsCost : Try.prog.cellsOf 25 = 1 := by kernel_rfl
theorem Try.cellsText : Try.prog.cellsOf 9 = 1 := by kernel_rfl

section
variable {H : Type} {enc : TypeId × Value → H}
theorem acts_of_trod {W : World} {v : Value} {d : DataW H} {ps : List MemPlace} (hval : ∃ a len cap, v = .slice a len cap) (h : DataW.Trod enc Try.prog W 0 (fun _ => true) true 22 v d ps) :
    ∃ l, ActsAt W v l ∧ l.length ≤ maxLen := by
  obtain ⟨a0, len, cap, rfl⟩ := hval
  obtain ⟨fuel, hf⟩ := h
  rcases open_slice Try.underlying22 hf with ⟨hcs, hx⟩ | ⟨a, len', cap', m, n, D, Pl, hcs, hb, hl, hm, hmm, hx, hi⟩
  · simp [Value.cells] at hcs
    obtain ⟨rfl, rfl, rfl⟩ := hcs
    exact ⟨[], .inl ⟨none, 0, rfl, rfl⟩, by simp⟩
  · simp [Value.cells] at hcs
    obtain ⟨rfl, rfl, rfl⟩ := hcs
    clear hx
    simp only [if_true] at hmm
    by_cases h0 : len = 0
    · subst h0; exact ⟨[], .inl ⟨some a, cap, rfl, rfl⟩, by simp⟩
    · have key : ∀ i, i < len → ∃ x : ActN, W.cell? (a.add (i * 3)) = some (.bool x.take) ∧ W.cell? (a.add (i * 3 + 1)) = some (.int .u64 x.c) ∧ W.cell? (a.add (i * 3 + 2)) = some (.string x.x) := by
        intro i hil
        obtain ⟨cs, hc, ht⟩ := hi i (by omega)
        rw [Try.cellsHAct] at hc
        obtain ⟨_, hcl, hat⟩ := World.cells?_some hc
        obtain ⟨y0, y1, y2, n', -, -, h0, h1, h2⟩ := trod_struct3 Try.underlying30 ht
        rw [Try.cellsBool] at h0
        rw [Try.cellsCost] at h1
        rw [Try.cellsText] at h2
        match cs, hcl with
        | [u0, u1, u2], _ =>
          obtain ⟨d, e0, -⟩ := DataW.trod_bool Try.underlying4 h0
          obtain ⟨b, e1, -, w1⟩ := DataW.trod_int Try.underlying25 h1
          obtain ⟨t, e2, -, w2⟩ := DataW.trod_string Try.underlying9 h2
          simp at e0 e1 e2
          subst e0 e1 e2
          refine ⟨⟨d, b, t⟩, ?_, ?_, ?_⟩
          · have := hat 0 (by omega); rw [Go.Deep.add_add] at this; simpa using this
          · have := hat 1 (by omega); rw [Go.Deep.add_add] at this; simpa using this
          · have := hat 2 (by omega); rw [Go.Deep.add_add] at this; simpa using this
      obtain ⟨b, off, spot⟩ := a
      have hspot : spot = none := by
        obtain ⟨x, hx, -⟩ := key 0 (by omega)
        simpa [Addr.add] using World.cell?_spot hx
      subst hspot
      have hbl : b < W.heap.size := by
        obtain ⟨x, hx, -⟩ := key 0 (by omega)
        have := World.block_lt_of_cell? W _ hx
        simpa [Addr.add] using this
      refine ⟨List.ofFn fun i : Fin len => Classical.choose (key i i.2), .inr ⟨b, off, cap, by simp, hbl, fun i x hx => ?_⟩, by simp; omega⟩
      obtain ⟨hi', e⟩ := List.getElem?_eq_some_iff.1 hx
      simp at hi'
      simp at e
      obtain ⟨k0, k1, k2⟩ := Classical.choose_spec (key i hi')
      rw [e] at k0 k1 k2
      rw [add_plain] at k0 k1 k2
      exact ⟨k0, by simpa [Nat.add_assoc] using k1, by simpa [Nat.add_assoc] using k2⟩
end
end Go.Proofs.Ytplfnhnipdfglaa
