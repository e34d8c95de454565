/-
  An expression among a law's arguments.
-/
import Derived.Test.YtocfcnhaecmgpaaGreatDoorLift
import Derived.Test.YtocfcnhaecmgpaaGreatDoorRxA
import Derived.Deep.Slices
import Derived.Deep.Strs
import Derived.SliceStrings
namespace Go.Proofs.YtocfcnhaecmgpaaGreatDoor
open Go.ChangeShapes Go.WideShapes Go.ChangeAt Go.RowKit Go.Deep

theorem Tryz.cellsXExpr : Tryz.prog.cellsOf 25 = 4 := by kernel_rfl
theorem Tryz.cellsXExprs : Tryz.prog.cellsOf 23 = 1 := by kernel_rfl
theorem Tryz.cellsStrX : Tryz.prog.cellsOf 9 = 1 := by kernel_rfl
theorem Tryz.cellsStrsX : Tryz.prog.cellsOf 22 = 1 := by kernel_rfl
theorem Tryz.cellsIntX : Tryz.prog.cellsOf 3 = 1 := by kernel_rfl
theorem Tryz.cellsBoolX : Tryz.prog.cellsOf 4 = 1 := by kernel_rfl

theorem exsC_of {P : Nat → Prop} {W : World} {b : Nat} : ∀ (kids : List Rx) (o : Nat), (∀ i x, kids[i]? = some x → ∃ c0 c1 c2 c3, ExC P W [c0, c1, c2, c3] x ∧ W.cell? ⟨b, o + i * 4, none⟩ = some c0 ∧ W.cell? ⟨b, o + i * 4 + 1, none⟩ = some c1 ∧ W.cell? ⟨b, o + i * 4 + 2, none⟩ = some c2 ∧ W.cell? ⟨b, o + i * 4 + 3, none⟩ = some c3) →
    ∃ xs, ExsC P W xs kids ∧ ∀ j u, xs[j]? = some u → W.cell? ⟨b, o + j, none⟩ = some u
  | [], o, _ => ⟨[], ExsC.nil, fun j u h => by simp at h⟩
  | x :: r, o, h => by
    obtain ⟨c0, c1, c2, c3, hx, h0, h1, h2, h3⟩ := h 0 x rfl
    obtain ⟨xs, hr, hc⟩ := exsC_of r (o + 4) (fun i y hy => by
      obtain ⟨d0, d1, d2, d3, hy', k0, k1, k2, k3⟩ := h (i + 1) y (by simpa using hy)
      rw [show o + (i + 1) * 4 = o + 4 + i * 4 by omega] at k0 k1 k2 k3
      exact ⟨d0, d1, d2, d3, hy', k0, k1, k2, k3⟩)
    refine ⟨[c0, c1, c2, c3] ++ xs, by unfold ExsC; exact ⟨_, _, rfl, hx, hr⟩, fun j u hj => ?_⟩
    simp only [Nat.zero_mul, Nat.add_zero] at h0 h1 h2 h3
    match j, hj with
    | 0, hj => simp at hj; subst hj; simpa using h0
    | 1, hj => simp at hj; subst hj; exact h1
    | 2, hj => simp at hj; subst hj; exact h2
    | 3, hj => simp at hj; subst hj; exact h3
    | j + 4, hj =>
      have := hc j u (by simpa using hj)
      rwa [show o + 4 + j = o + (j + 4) by omega] at this

section
variable {H : Type} {enc : TypeId × Value → H}
theorem listX_of {α : Type} {n : Nat} {R : Nat → α → Prop} (h : ∀ i, i < n → ∃ x, R i x) : ∃ l : List α, l.length = n ∧ ∀ i x, l[i]? = some x → R i x := by
  refine ⟨List.ofFn fun i : Fin n => Classical.choose (h i i.2), by simp, fun i x hx => ?_⟩
  obtain ⟨hi', e⟩ := List.getElem?_eq_some_iff.1 hx
  simp at hi' e
  have := Classical.choose_spec (h i hi')
  rwa [e] at this
theorem strsX_of_cells {W : World} {fuel : Nat} {cs : List Value} {x : DataW H × List MemPlace} (hf : DataW.trod enc Tryz.prog W 0 (fun _ => true) true fuel 22 cs = some x) : ∃ v ws, cs = [v] ∧ CapV v ws.length ∧ StrsAt W v ws := by
  rcases open_strings Tryz.underlying22 Tryz.underlying9 Tryz.cellsStrX hf with ⟨hcs, -⟩ | ⟨a, len, cap, ss, hcs, _, hl, hm, hz, -, hcell, -⟩
  · exact ⟨_, [], hcs, CapV.nil, .inl ⟨none, 0, rfl, rfl⟩⟩
  · simp only [if_true] at hz
    by_cases h0 : len = 0
    · subst h0; exact ⟨_, [], hcs, ⟨_, _, rfl, Nat.zero_le _⟩, .inl ⟨some a, cap, rfl, rfl⟩⟩
    · obtain ⟨b, off, spot⟩ := a
      have hspot : spot = none := by simpa [Addr.add] using World.cell?_spot (hcell 0 (by omega))
      subst hspot
      have hl2 : (ss.take len).length = len := by simp; omega
      have hbl : b < W.heap.size := by
        have := World.block_lt_of_cell? W _ (hcell 0 (by omega))
        simpa [Addr.add] using this
      refine ⟨_, ss.take len, hcs, ⟨_, _, by rw [hl2], by rw [hl2]; exact hl⟩, .inr ⟨b, off, cap, by rw [hl2], hbl, fun i hi => ?_⟩⟩
      have hi' : i < len := by omega
      have hc := hcell i (by omega)
      rw [add_plain] at hc
      rw [hc]
      simp [List.getD, hi']
theorem trod_struct4n {P : Program} {W : World} {base : Nat} {spare : Nat → Bool} {held : Bool} {t : TypeId} {f0 f1 f2 f3 : Field} {fuel : Nat} {cs : List Value} {x : DataW H × List MemPlace} (ht : P.underlying t = some (.struct #[f0, f1, f2, f3])) (h : DataW.trod enc P W base spare held fuel t cs = some x) :
    ∃ y0 y1 y2 y3 n, fuel = n + 1 ∧ cs.length = P.cellsOf t ∧ DataW.trod enc P W base spare held n f0.type ((cs.drop f0.offset).take (P.cellsOf f0.type)) = some y0 ∧
      DataW.trod enc P W base spare held n f1.type ((cs.drop f1.offset).take (P.cellsOf f1.type)) = some y1 ∧ DataW.trod enc P W base spare held n f2.type ((cs.drop f2.offset).take (P.cellsOf f2.type)) = some y2 ∧
      DataW.trod enc P W base spare held n f3.type ((cs.drop f3.offset).take (P.cellsOf f3.type)) = some y3 := by
  obtain ⟨xs, n, hn, rfl, hl, hlen, hf⟩ := DataW.trod_struct ht h
  match xs, hlen with
  | [y0, y1, y2, y3], _ => exact ⟨y0, y1, y2, y3, n, hn, hl, by simpa using hf 0 f0 rfl, by simpa using hf 1 f1 rfl, by simpa using hf 2 f2 rfl, by simpa using hf 3 f3 rfl⟩
theorem ex_of_cells {W : World} : ∀ (fuel : Nat) {cs : List Value} {x : DataW H × List MemPlace}, DataW.trod enc Tryz.prog W 0 (fun _ => true) true fuel 25 cs = some x → ∃ e : Rx, cs.length = 4 ∧ ExC (fun _ => True) W cs e := by
  intro fuel
  induction fuel using Nat.strongRecOn with
  | _ fuel ih =>
    intro cs x hf
    obtain ⟨y0, y1, y2, y3, n, hn, hl, h0, h1, h2, h3⟩ := trod_struct4n Tryz.underlying25 hf
    rw [Tryz.cellsXExpr] at hl
    rw [Tryz.cellsIntX] at h0
    rw [Tryz.cellsBoolX] at h1
    rw [Tryz.cellsStrsX] at h2
    rw [Tryz.cellsXExprs] at h3
    match cs, hl with
    | [u0, u1, u2, u3], _ =>
      obtain ⟨k, e0, -, -⟩ := DataW.trod_int Tryz.underlying3 h0
      obtain ⟨t, e1, -⟩ := DataW.trod_bool Tryz.underlying4 h1
      obtain ⟨v, ws, e2, hcv, hws⟩ := strsX_of_cells h2
      simp at e0 e1 e2
      subst e0 e1 e2
      have hws' := RowX.of_strs hws
      rcases DataW.trod_slice Tryz.underlying23 h3 with ⟨e3, -⟩ | ⟨a, len, cap, elems, rest, m, hm, e3, -, -, -, -, hel, hget, -, -⟩
      · simp at e3
        subst e3
        refine ⟨.mk k t ws [], rfl, ?_⟩
        unfold ExC
        exact ⟨_, _, [], rfl, hcv, hws', RowX.nil _ _, ExsC.nil⟩
      · simp at e3
        subst e3
        by_cases hz : len = 0
        · subst hz
          refine ⟨.mk k t ws [], rfl, ?_⟩
          unfold ExC
          exact ⟨_, _, [], rfl, hcv, hws', .inl ⟨rfl, rfl, _, _, rfl⟩, ExsC.nil⟩
        · rw [Tryz.cellsXExpr] at hget
          have key : ∀ i, i < len → ∃ e : Rx, ∃ c0 c1 c2 c3, ExC (fun _ => True) W [c0, c1, c2, c3] e ∧ W.cell? (a.add (i * 4)) = some c0 ∧ W.cell? (a.add (i * 4 + 1)) = some c1 ∧ W.cell? (a.add (i * 4 + 2)) = some c2 ∧ W.cell? (a.add (i * 4 + 3)) = some c3 := by
            intro i hi
            have hg := hget i hi
            rw [List.getElem?_eq_getElem (by omega : i < elems.length)] at hg
            obtain ⟨cs', hc, ht⟩ := Option.bind_eq_some_iff.1 hg
            obtain ⟨_, hcl, hat⟩ := World.cells?_some hc
            obtain ⟨e, -, he⟩ := ih m (by omega) ht
            match cs', hcl with
            | [c0, c1, c2, c3], _ =>
              refine ⟨e, c0, c1, c2, c3, he, ?_, ?_, ?_, ?_⟩
              · have := hat 0 (by simp); rw [Go.Deep.add_add] at this; simpa using this
              · have := hat 1 (by simp); rw [Go.Deep.add_add] at this; simpa using this
              · have := hat 2 (by simp); rw [Go.Deep.add_add] at this; simpa using this
              · have := hat 3 (by simp); rw [Go.Deep.add_add] at this; simpa using this
          obtain ⟨b, off, spot⟩ := a
          have hspot : spot = none := by
            obtain ⟨_, _, _, _, _, -, hx, -⟩ := key 0 (by omega)
            simpa [Addr.add] using World.cell?_spot hx
          subst hspot
          have hbl : b < W.heap.size := by
            obtain ⟨_, _, _, _, _, -, hx, -⟩ := key 0 (by omega)
            have := World.block_lt_of_cell? W _ hx
            simpa [Addr.add] using this
          obtain ⟨kids, hkl, hR⟩ := listX_of key
          obtain ⟨xs, hxs, hc⟩ := exsC_of (P := fun _ => True) (W := W) (b := b) kids off (fun i y hy => by
            obtain ⟨c0, c1, c2, c3, he, k0, k1, k2, k3⟩ := hR i y hy
            rw [add_plain] at k0 k1 k2 k3
            exact ⟨c0, c1, c2, c3, he, k0, by simpa [Nat.add_assoc] using k1, by simpa [Nat.add_assoc] using k2, by simpa [Nat.add_assoc] using k3⟩)
          refine ⟨.mk k t ws kids, rfl, ?_⟩
          unfold ExC
          exact ⟨_, _, xs, rfl, hcv, hws', .inr ⟨b, off, cap, by rw [hkl], trivial, hbl, hc⟩, hxs⟩
theorem ex_of_trod {W : World} {v : Value} {d : DataW H} {ps : List MemPlace} (h : DataW.Trod enc Tryz.prog W 0 (fun _ => true) true 25 v d ps) :
    ∃ k t a l c a' l' c' e, v = .agg #[.int .i64 k, .bool t, .slice a l c, .slice a' l' c'] ∧ ExC (fun _ => True) W [.int .i64 k, .bool t, .slice a l c, .slice a' l' c'] e := by
  obtain ⟨fuel, hf⟩ := h
  obtain ⟨e, hl, he⟩ := ex_of_cells fuel hf
  cases v with
  | agg cs =>
    obtain ⟨l⟩ := cs
    simp only [Value.cells] at hl he
    obtain ⟨k, t, a, n, c, a', n', c', rfl⟩ := he.form
    exact ⟨_, _, _, _, _, _, _, _, e, rfl, he⟩
  | _ => simp [Value.cells] at hl
end
end Go.Proofs.YtocfcnhaecmgpaaGreatDoor
