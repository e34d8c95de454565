/-
  A topology among a law's arguments, as the walks of layer 11 speak of it.
-/
import Derived.Test.YtlcpbfklnjlgnaaGreatDoorGk
import Derived.Test.YtlcpbfklnjlgnaaGreatDoorGl
import Derived.Deep.Slices
import Derived.Deep.Strs
import Derived.SliceStrings
namespace Go.Proofs.YtlcpbfklnjlgnaaGreatDoor
open Go.ChangeShapes Go.WideShapes Go.ChangeAt Go.RowKit Go.Deep

theorem Tryz.cellsTLink : Tryz.prog.cellsOf 60 = 4 := by kernel_rfl
theorem Tryz.cellsTopo : Tryz.prog.cellsOf 25 = 2 := by kernel_rfl
theorem Tryz.cellsStrT : Tryz.prog.cellsOf 9 = 1 := by kernel_rfl
theorem Tryz.cellsStrsT : Tryz.prog.cellsOf 22 = 1 := by kernel_rfl
theorem Tryz.cellsLinksT : Tryz.prog.cellsOf 23 = 1 := by kernel_rfl

section
variable {H : Type} {enc : TypeId × Value → H}
theorem strs_of_cells {W : World} {fuel : Nat} {cs : List Value} {x : DataW H × List MemPlace} (hf : DataW.trod enc Tryz.prog W 0 (fun _ => true) true fuel 22 cs = some x) : ∃ v ws, cs = [v] ∧ StrsAt W v ws := by
  rcases open_strings Tryz.underlying22 Tryz.underlying9 Tryz.cellsStrT hf with ⟨hcs, -⟩ | ⟨a, len, cap, ss, hcs, _, hl, hm, hz, -, hcell, -⟩
  · exact ⟨_, [], hcs, .inl ⟨none, 0, rfl, rfl⟩⟩
  · simp only [if_true] at hz
    by_cases h0 : len = 0
    · subst h0; exact ⟨_, [], hcs, .inl ⟨some a, cap, rfl, rfl⟩⟩
    · obtain ⟨b, off, spot⟩ := a
      have hspot : spot = none := by simpa [Addr.add] using World.cell?_spot (hcell 0 (by omega))
      subst hspot
      have hl2 : (ss.take len).length = len := by simp; omega
      have hbl : b < W.heap.size := by
        have := World.block_lt_of_cell? W _ (hcell 0 (by omega))
        simpa [Addr.add] using this
      refine ⟨_, ss.take len, hcs, .inr ⟨b, off, cap, by rw [hl2], hbl, fun i hi => ?_⟩⟩
      have hi' : i < len := by omega
      have hc := hcell i (by omega)
      rw [add_plain] at hc
      rw [hc]
      simp [List.getD, hi']
theorem trod_struct4 {P : Program} {W : World} {base : Nat} {spare : Nat → Bool} {held : Bool} {t : TypeId} {f0 f1 f2 f3 : Field} {fuel : Nat} {cs : List Value} {x : DataW H × List MemPlace} (ht : P.underlying t = some (.struct #[f0, f1, f2, f3])) (h : DataW.trod enc P W base spare held fuel t cs = some x) :
    ∃ y0 y1 y2 y3 n, cs.length = P.cellsOf t ∧ DataW.trod enc P W base spare held n f0.type ((cs.drop f0.offset).take (P.cellsOf f0.type)) = some y0 ∧
      DataW.trod enc P W base spare held n f1.type ((cs.drop f1.offset).take (P.cellsOf f1.type)) = some y1 ∧ DataW.trod enc P W base spare held n f2.type ((cs.drop f2.offset).take (P.cellsOf f2.type)) = some y2 ∧
      DataW.trod enc P W base spare held n f3.type ((cs.drop f3.offset).take (P.cellsOf f3.type)) = some y3 := by
  obtain ⟨xs, n, _, rfl, hl, hlen, hf⟩ := DataW.trod_struct ht h
  match xs, hlen with
  | [y0, y1, y2, y3], _ => exact ⟨y0, y1, y2, y3, n, hl, by simpa using hf 0 f0 rfl, by simpa using hf 1 f1 rfl, by simpa using hf 2 f2 rfl, by simpa using hf 3 f3 rfl⟩
theorem lks_of_cells {W : World} {fuel : Nat} {cs : List Value} {x : DataW H × List MemPlace} (hf : DataW.trod enc Tryz.prog W 0 (fun _ => true) true fuel 23 cs = some x) :
    ∃ v ls, cs = [v] ∧ LksAt W v ls ∧ ∀ (i : Nat) (l : Lk), ls[i]? = some l → 0 ≤ l.ds := by
  rcases open_slice Tryz.underlying23 hf with ⟨hcs, hx⟩ | ⟨a, len, cap, m, n, D, Pl, hcs, hb, hl, hm, hmm, hx, hi⟩
  · exact ⟨_, [], hcs, .inl ⟨none, 0, rfl, rfl⟩, fun i l h => by simp at h⟩
  · clear hx
    simp only [if_true] at hmm
    by_cases h0 : len = 0
    · subst h0; exact ⟨_, [], hcs, .inl ⟨some a, cap, rfl, rfl⟩, fun i l h => by simp at h⟩
    · have key : ∀ i, i < len → ∃ x : Lk, W.cell? (a.add (i * 4)) = some (.string x.nm) ∧ W.cell? (a.add (i * 4 + 1)) = some (.int .i64 x.fr) ∧ W.cell? (a.add (i * 4 + 2)) = some (.int .i64 x.to) ∧ W.cell? (a.add (i * 4 + 3)) = some (.int .u64 x.ds) ∧ 0 ≤ x.ds := by
        intro i hil
        obtain ⟨cs, hc, ht⟩ := hi i (by omega)
        rw [Tryz.cellsTLink] at hc
        obtain ⟨_, hcl, hat⟩ := World.cells?_some hc
        obtain ⟨y0, y1, y2, y3, n', -, h0, h1, h2, h3⟩ := trod_struct4 Tryz.underlying60 ht
        rw [Tryz.cellsStrT] at h0
        rw [cellsInt] at h1 h2
        rw [cells64] at h3
        match cs, hcl with
        | [u0, u1, u2, u3], _ =>
          obtain ⟨t, e0, -, w0⟩ := DataW.trod_string Tryz.underlying9 h0
          obtain ⟨b, e1, -, w1⟩ := DataW.trod_int Tryz.underlying3 h1
          obtain ⟨c, e2, -, w2⟩ := DataW.trod_int Tryz.underlying3 h2
          obtain ⟨d, e3, -, w3⟩ := DataW.trod_int Tryz.underlying54 h3
          simp at e0 e1 e2 e3
          subst e0 e1 e2 e3
          refine ⟨⟨t, b, c, d⟩, ?_, ?_, ?_, ?_, (u64_bd w3).1⟩
          · have := hat 0 (by omega); rw [Go.Deep.add_add] at this; simpa using this
          · have := hat 1 (by omega); rw [Go.Deep.add_add] at this; simpa using this
          · have := hat 2 (by omega); rw [Go.Deep.add_add] at this; simpa using this
          · have := hat 3 (by omega); rw [Go.Deep.add_add] at this; simpa using this
      obtain ⟨b, off, spot⟩ := a
      have hspot : spot = none := by
        obtain ⟨x, hx, -⟩ := key 0 (by omega)
        simpa [Addr.add] using World.cell?_spot hx
      subst hspot
      have hbl : b < W.heap.size := by
        obtain ⟨x, hx, -⟩ := key 0 (by omega)
        have := World.block_lt_of_cell? W _ hx
        simpa [Addr.add] using this
      have all : ∀ (i : Nat) (x : Lk), (List.ofFn fun i : Fin len => Classical.choose (key i i.2))[i]? = some x → W.cell? ⟨b, off + i * 4, none⟩ = some (.string x.nm) ∧ W.cell? ⟨b, off + i * 4 + 1, none⟩ = some (.int .i64 x.fr) ∧ W.cell? ⟨b, off + i * 4 + 2, none⟩ = some (.int .i64 x.to) ∧ W.cell? ⟨b, off + i * 4 + 3, none⟩ = some (.int .u64 x.ds) ∧ 0 ≤ x.ds := by
        intro i x hx
        obtain ⟨hi', e⟩ := List.getElem?_eq_some_iff.1 hx
        simp at hi'
        simp at e
        obtain ⟨k0, k1, k2, k3, k4⟩ := Classical.choose_spec (key i hi')
        rw [e] at k0 k1 k2 k3 k4
        rw [add_plain] at k0 k1 k2 k3
        exact ⟨k0, by simpa [Nat.add_assoc] using k1, by simpa [Nat.add_assoc] using k2, by simpa [Nat.add_assoc] using k3, k4⟩
      exact ⟨_, _, hcs, .inr ⟨b, off, cap, by simp, hbl, fun i x hx => ⟨(all i x hx).1, (all i x hx).2.1, (all i x hx).2.2.1, (all i x hx).2.2.2.1⟩⟩, fun i x hx => (all i x hx).2.2.2.2⟩
theorem topo_of_trod {W : World} {v : Value} {d : DataW H} {ps : List MemPlace} (h : DataW.Trod enc Tryz.prog W 0 (fun _ => true) true 25 v d ps) :
    ∃ vr vl rs ls, v = .agg #[vr, vl] ∧ TpAt W vr vl rs ls ∧ ∀ (i : Nat) (l : Lk), ls[i]? = some l → 0 ≤ l.ds := by
  obtain ⟨fuel, hf⟩ := h
  obtain ⟨y0, y1, n', -, hl, h0, h1⟩ := trod_struct2 Tryz.underlying25 hf
  rw [Tryz.cellsStrsT] at h0
  rw [Tryz.cellsLinksT] at h1
  rw [Tryz.cellsTopo] at hl
  obtain ⟨v0, rs, e0, hr⟩ := strs_of_cells h0
  obtain ⟨v1, ls, e1, hls, hds⟩ := lks_of_cells h1
  cases v with
  | agg cs =>
    obtain ⟨l⟩ := cs
    simp only [Value.cells] at hl e0 e1
    match l, hl with
    | [u0, u1], _ =>
      simp at e0 e1
      subst e0 e1
      exact ⟨_, _, rs, ls, rfl, ⟨hr, hls⟩, hds⟩
  | _ => simp [Value.cells] at hl
end
end Go.Proofs.YtlcpbfklnjlgnaaGreatDoor
