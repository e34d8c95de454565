/-
  A row of bytes among a law's arguments.
-/
import Derived.Test.YtjanbhodikhdeaaDoorLiftB
import Derived.Test.YtjanbhodikhdeaaDoorPdY
import Derived.Deep.Slices
import Derived.Deep.Strs
import Derived.SliceStrings
namespace Go.Proofs.YtjanbhodikhdeaaDoor
open Go.ChangeShapes Go.WideShapes Go.ChangeAt Go.RowKit Go.Deep

theorem Tryd.cellsU8P : Tryd.prog.cellsOf 5 = 1 := by kernel_rfl
section
variable {H : Type} {enc : TypeId × Value → H}
theorem list_ofU {α : Type} {n : Nat} {R : Nat → α → Prop} (h : ∀ i, i < n → ∃ x, R i x) : ∃ l : List α, l.length = n ∧ ∀ i x, l[i]? = some x → R i x := by
  refine ⟨List.ofFn fun i : Fin n => Classical.choose (h i i.2), by simp, fun i x hx => ?_⟩
  obtain ⟨hi', e⟩ := List.getElem?_eq_some_iff.1 hx
  simp at hi' e
  have := Classical.choose_spec (h i hi')
  rwa [e] at this
theorem u64_nn {n : Int} (h : (Lit.int .u64 n).wf = true) : 0 ≤ n := by
  simp [Lit.wf] at h
  have e : IntKind.u64.min = 0 := rfl
  omega
theorem u8s_of_trod {W : World} {v : Value} {d : DataW H} {ps : List MemPlace} (hval : ∃ a len cap, v = .slice a len cap) (h : DataW.Trod enc Tryd.prog W 0 (fun _ => true) true 40 v d ps) :
    ∃ zs, U8sAt W v zs ∧ ∀ x ∈ zs, 0 ≤ x ∧ x ≤ 255 := by
  obtain ⟨a0, len, cap, rfl⟩ := hval
  obtain ⟨fuel, hf⟩ := h
  rcases open_slice Tryd.underlying40 hf with ⟨hcs, hx⟩ | ⟨a, len', cap', m, n, D, Pl, hcs, hb, hl, hm, hmm, hx, hi⟩
  · simp [Value.cells] at hcs
    obtain ⟨rfl, rfl, rfl⟩ := hcs
    exact ⟨[], .inl ⟨none, 0, rfl, rfl⟩, fun x hx => by cases hx⟩
  · simp [Value.cells] at hcs
    obtain ⟨rfl, rfl, rfl⟩ := hcs
    clear hx
    simp only [if_true] at hmm
    by_cases h0 : len = 0
    · subst h0; exact ⟨[], .inl ⟨some a, cap, rfl, rfl⟩, fun x hx => by cases hx⟩
    · have key : ∀ i, i < len → ∃ x : Int, W.cell? (a.add i) = some (.int .u8 x) ∧ 0 ≤ x ∧ x ≤ 255 := by
        intro i hil
        obtain ⟨cs, hc, ht⟩ := hi i (by omega)
        rw [Tryd.cellsU8P] at hc
        obtain ⟨_, hcl, hat⟩ := World.cells?_some hc
        match cs, hcl with
        | [u0], _ =>
          obtain ⟨x, e0, -, w0⟩ := DataW.trod_int Tryd.underlying5 ht
          simp at e0
          subst e0
          refine ⟨x, ?_, (u8_bd w0).1, (u8_bd w0).2⟩
          have := hat 0 (by omega)
          rw [Go.Deep.add_add] at this
          simpa using this
      obtain ⟨b, off, spot⟩ := a
      have hspot : spot = none := by
        obtain ⟨x, hx, -⟩ := key 0 (by omega)
        simpa [Addr.add] using World.cell?_spot hx
      subst hspot
      have hbl : b < W.heap.size := by
        obtain ⟨x, hx, -⟩ := key 0 (by omega)
        have := World.block_lt_of_cell? W _ hx
        simpa [Addr.add] using this
      obtain ⟨zs, hzl, hR⟩ := list_ofU key
      refine ⟨zs, .inr ⟨b, off, cap, by rw [hzl], hbl, fun i x hi' => ?_⟩, fun x hx => ?_⟩
      · have := (hR i x hi').1
        rw [add_plain] at this
        exact this
      · obtain ⟨i, hi'⟩ := List.getElem?_of_mem hx
        exact (hR i x hi').2
end
end Go.Proofs.YtjanbhodikhdeaaDoor
