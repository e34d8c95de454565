/-
  A slice of ops among a law's arguments, as the walks of layer 10 speak of it.
-/
import Derived.Test.YtjlbdjagbbpoaaaDoorLiftF
import Derived.Test.YtjlbdjagbbpoaaaDoorLiftK
import Derived.Test.YtjlbdjagbbpoaaaDoorOpB
import Derived.Deep.Slices
import Derived.Deep.Strs
namespace Go.Proofs.YtjlbdjagbbpoaaaDoor
open Go.ChangeShapes Go.WideShapes Go.ChangeAt Go.RowKit Go.Deep

theorem Tryd.cellsOpT : Tryd.prog.cellsOf 60 = 2 := by kernel_rfl
section
variable {H : Type} {enc : TypeId × Value → H}
theorem ops_of_trod {W : World} {v : Value} {d : DataW H} {ps : List MemPlace} (hval : ∃ a len cap, v = .slice a len cap) (h : DataW.Trod enc Tryd.prog W 0 (fun _ => true) true 41 v d ps) :
    ∃ l, OpsAt W v l := by
  obtain ⟨a0, len, cap, rfl⟩ := hval
  obtain ⟨fuel, hf⟩ := h
  rcases open_slice Tryd.underlying41 hf with ⟨hcs, hx⟩ | ⟨a, len', cap', m, n, D, Pl, hcs, hb, hl, hm, hmm, hx, hi⟩
  · simp [Value.cells] at hcs
    obtain ⟨rfl, rfl, rfl⟩ := hcs
    exact ⟨[], .inl ⟨none, 0, rfl, rfl⟩⟩
  · simp [Value.cells] at hcs
    obtain ⟨rfl, rfl, rfl⟩ := hcs
    clear hx
    simp only [if_true] at hmm
    by_cases h0 : len = 0
    · subst h0; exact ⟨[], .inl ⟨some a, cap, rfl, rfl⟩⟩
    · have key : ∀ i, i < len → ∃ x : Int × Int, W.cell? (a.add (i * 2)) = some (.int .i64 x.1) ∧ W.cell? (a.add (i * 2 + 1)) = some (.int .i64 x.2) := by
        intro i hil
        obtain ⟨cs, hc, ht⟩ := hi i (by omega)
        rw [Tryd.cellsOpT] at hc
        obtain ⟨_, hcl, hat⟩ := World.cells?_some hc
        obtain ⟨y0, y1, n', -, -, h0, h1⟩ := trod_struct2 Tryd.underlying60 ht
        rw [cellsInt] at h0
        rw [cellsInt] at h1
        match cs, hcl with
        | [u0, u1], _ =>
          obtain ⟨b, e0, -, w0⟩ := DataW.trod_int Tryd.underlying3 h0
          obtain ⟨t, e1, -, w1⟩ := DataW.trod_int Tryd.underlying3 h1
          simp at e0 e1
          subst e0 e1
          refine ⟨⟨b, t⟩, ?_, ?_⟩
          · have := hat 0 (by omega); rw [Go.Deep.add_add] at this; simpa using this
          · have := hat 1 (by omega); rw [Go.Deep.add_add] at this; simpa using this
      obtain ⟨b, off, spot⟩ := a
      have hspot : spot = none := by
        obtain ⟨x, hx, -⟩ := key 0 (by omega)
        simpa [Addr.add] using World.cell?_spot hx
      subst hspot
      have hbl : b < W.heap.size := by
        obtain ⟨x, hx, -⟩ := key 0 (by omega)
        have := World.block_lt_of_cell? W _ hx
        simpa [Addr.add] using this
      refine ⟨List.ofFn fun i : Fin len => Classical.choose (key i i.2), .inr ⟨b, off, cap, by simp, hbl, fun i x hx => ?_⟩⟩
      obtain ⟨hi', e⟩ := List.getElem?_eq_some_iff.1 hx
      simp at hi'
      simp at e
      obtain ⟨k0, k1⟩ := Classical.choose_spec (key i hi')
      rw [e] at k0 k1
      rw [add_plain] at k0 k1
      exact ⟨k0, by simpa [Nat.add_assoc] using k1⟩
end
end Go.Proofs.YtjlbdjagbbpoaaaDoor
