/-
  A slice of steps among a law's arguments, as the walk of ScanWalks speaks of it.
-/
import Derived.Test.YtcnaffhdiodkhaaDoorLiftB
import Derived.Test.YtcnaffhdiodkhaaDoorLawsV
import Derived.Deep.Slices
import Derived.Deep.Strs
namespace Go.Proofs.YtcnaffhdiodkhaaDoor
open Go.ChangeShapes Go.WideShapes Go.ChangeAt Go.RowKit Go.Deep

theorem Tryd.cellsAct : Tryd.prog.cellsOf 31 = 3 := by kernel_rfl
theorem Tryd.cellsU8 : Tryd.prog.cellsOf 5 = 1 := by kernel_rfl

section
variable {H : Type} {enc : TypeId × Value → H}
theorem steps_of_trod {W : World} {v : Value} {d : DataW H} {ps : List MemPlace} (hval : ∃ a len cap, v = .slice a len cap) (h : DataW.Trod enc Tryd.prog W 0 (fun _ => true) true 22 v d ps) :
    ∃ n, StepsAt W v n := by
  obtain ⟨a0, len, cap, rfl⟩ := hval
  obtain ⟨fuel, hf⟩ := h
  rcases open_slice Tryd.underlying22 hf with ⟨hcs, hx⟩ | ⟨a, len', cap', m, n, D, Pl, hcs, hb, hl, hm, hmm, hx, hi⟩
  · simp [Value.cells] at hcs
    obtain ⟨rfl, rfl, rfl⟩ := hcs
    exact ⟨0, none, 0, 0, rfl, fun i hi => by omega⟩
  · simp [Value.cells] at hcs
    obtain ⟨rfl, rfl, rfl⟩ := hcs
    clear hx
    simp only [if_true] at hmm
    by_cases h0 : len = 0
    · subst h0; exact ⟨0, some a, 0, cap, rfl, fun i hi => by omega⟩
    · have key : ∀ i, i < len → ∃ x : Step, W.cell? (a.add (i * 3)) = some (.int .u8 x.d) ∧ W.cell? (a.add (i * 3 + 1)) = some (.int .u8 x.b) ∧ W.cell? (a.add (i * 3 + 2)) = some (.string x.t) := by
        intro i hil
        obtain ⟨cs, hc, ht⟩ := hi i (by omega)
        rw [Tryd.cellsAct] at hc
        obtain ⟨_, hcl, hat⟩ := World.cells?_some hc
        obtain ⟨y0, y1, y2, n', -, -, h0, h1, h2⟩ := trod_struct3 Tryd.underlying31 ht
        rw [Tryd.cellsU8] at h0 h1
        rw [Tryd.cellsStr] at h2
        match cs, hcl with
        | [u0, u1, u2], _ =>
          obtain ⟨d, e0, -, w0⟩ := DataW.trod_int Tryd.underlying5 h0
          obtain ⟨b, e1, -, w1⟩ := DataW.trod_int Tryd.underlying5 h1
          obtain ⟨t, e2, -, w2⟩ := DataW.trod_string Tryd.underlying9 h2
          simp at e0 e1 e2
          subst e0 e1 e2
          refine ⟨⟨d, b, t, (u8_bd w0).1, (u8_bd w0).2, (u8_bd w1).1, (u8_bd w1).2, w2⟩, ?_, ?_, ?_⟩
          · have := hat 0 (by omega); rw [Go.Deep.add_add] at this; simpa using this
          · have := hat 1 (by omega); rw [Go.Deep.add_add] at this; simpa using this
          · have := hat 2 (by omega); rw [Go.Deep.add_add] at this; simpa using this
      obtain ⟨b, off, spot⟩ := a
      have hspot : spot = none := by
        obtain ⟨x, hx, -⟩ := key 0 (by omega)
        simpa [Addr.add] using World.cell?_spot hx
      subst hspot
      have hbl : b < W.heap.size := by
        obtain ⟨x, hx, -⟩ := key 0 (by omega)
        have := World.block_lt_of_cell? W _ hx
        simpa [Addr.add] using this
      refine ⟨len, some ⟨b, off, none⟩, off, cap, rfl, fun i hi' => ⟨b, rfl, hbl, ?_⟩⟩
      obtain ⟨x, k0, k1, k2⟩ := key i hi'
      rw [add_plain] at k0 k1 k2
      exact ⟨x, k0, by simpa [Nat.add_assoc] using k1, by simpa [Nat.add_assoc] using k2⟩
end
end Go.Proofs.YtcnaffhdiodkhaaDoor
