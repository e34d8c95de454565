/-
  A system with a stack, a configuration, a row of numbers among a law's arguments.
-/
import Derived.Test.YtjanbhodikhdeaaDoorLift
import Derived.Test.YtjanbhodikhdeaaDoorPdC
import Derived.Deep.Slices
import Derived.Deep.Strs
import Derived.SliceStrings
namespace Go.Proofs.YtjanbhodikhdeaaDoor
open Go.ChangeShapes Go.WideShapes Go.ChangeAt Go.RowKit Go.Deep

theorem Tryd.cellsIntP : Tryd.prog.cellsOf 3 = 1 := by kernel_rfl
theorem Tryd.cellsIntsP : Tryd.prog.cellsOf 25 = 1 := by kernel_rfl
theorem Tryd.cellsU64P : Tryd.prog.cellsOf 30 = 1 := by kernel_rfl
theorem Tryd.cellsPRule : Tryd.prog.cellsOf 46 = 5 := by kernel_rfl
theorem Tryd.cellsPRules : Tryd.prog.cellsOf 22 = 1 := by kernel_rfl
theorem Tryd.cellsPSys : Tryd.prog.cellsOf 24 = 3 := by kernel_rfl
theorem Tryd.cellsPCfg : Tryd.prog.cellsOf 27 = 2 := by kernel_rfl
section
variable {H : Type} {enc : TypeId × Value → H}
theorem list_ofP {α : Type} {n : Nat} {R : Nat → α → Prop} (h : ∀ i, i < n → ∃ x, R i x) : ∃ l : List α, l.length = n ∧ ∀ i x, l[i]? = some x → R i x := by
  refine ⟨List.ofFn fun i : Fin n => Classical.choose (h i i.2), by simp, fun i x hx => ?_⟩
  obtain ⟨hi', e⟩ := List.getElem?_eq_some_iff.1 hx
  simp at hi' e
  have := Classical.choose_spec (h i hi')
  rwa [e] at this
theorem ints_of_cells {W : World} {fuel : Nat} {cs : List Value} {x : DataW H × List MemPlace} (hf : DataW.trod enc Tryd.prog W 0 (fun _ => true) true fuel 25 cs = some x) : ∃ v zs, cs = [v] ∧ IntsAt W v zs := by
  rcases open_ints Tryd.underlying25 Tryd.underlying3 Tryd.cellsIntP hf with ⟨hcs, hx⟩ | ⟨a, len, cap, zs, hcs, _, hl, hm, hz, hx, hcell, -⟩
  · exact ⟨_, [], hcs, .inl ⟨none, 0, rfl, rfl⟩⟩
  · simp only [if_true] at hz
    by_cases h0 : len = 0
    · subst h0; exact ⟨_, [], hcs, .inl ⟨some a, cap, rfl, rfl⟩⟩
    · obtain ⟨b, off, spot⟩ := a
      have hspot : spot = none := by simpa [Addr.add] using World.cell?_spot (hcell 0 (by omega))
      subst hspot
      have hl2 : (zs.take len).length = len := by simp; omega
      have hbl : b < W.heap.size := by
        have := World.block_lt_of_cell? W _ (hcell 0 (by omega))
        simpa [Addr.add] using this
      refine ⟨_, zs.take len, hcs, .inr ⟨b, off, cap, by rw [hl2], hbl, fun i c hi => ?_⟩⟩
      have hi' : i < len := by
        have := (List.getElem?_eq_some_iff.1 hi).1
        omega
      have hc := hcell i (by omega)
      rw [add_plain] at hc
      rw [hc]
      rw [List.getElem?_take_of_lt hi'] at hi
      rw [List.getD_eq_getElem?_getD, hi]
      rfl
theorem intsP_of_trod {W : World} {v : Value} {d : DataW H} {ps : List MemPlace} (hval : ∃ a len cap, v = .slice a len cap) (h : DataW.Trod enc Tryd.prog W 0 (fun _ => true) true 25 v d ps) : ∃ zs, IntsAt W v zs := by
  obtain ⟨a0, len, cap, rfl⟩ := hval
  obtain ⟨fuel, hf⟩ := h
  obtain ⟨u, zs, e, hr⟩ := ints_of_cells hf
  simp only [Value.cells] at e
  injection e with e
  subst e
  exact ⟨zs, hr⟩
theorem trod_struct5p {P : Program} {W : World} {base : Nat} {spare : Nat → Bool} {held : Bool} {t : TypeId} {f0 f1 f2 f3 f4 : Field} {fuel : Nat} {cs : List Value} {x : DataW H × List MemPlace} (ht : P.underlying t = some (.struct #[f0, f1, f2, f3, f4])) (h : DataW.trod enc P W base spare held fuel t cs = some x) :
    ∃ y0 y1 y2 y3 y4 n, cs.length = P.cellsOf t ∧ DataW.trod enc P W base spare held n f0.type ((cs.drop f0.offset).take (P.cellsOf f0.type)) = some y0 ∧
      DataW.trod enc P W base spare held n f1.type ((cs.drop f1.offset).take (P.cellsOf f1.type)) = some y1 ∧ DataW.trod enc P W base spare held n f2.type ((cs.drop f2.offset).take (P.cellsOf f2.type)) = some y2 ∧
      DataW.trod enc P W base spare held n f3.type ((cs.drop f3.offset).take (P.cellsOf f3.type)) = some y3 ∧ DataW.trod enc P W base spare held n f4.type ((cs.drop f4.offset).take (P.cellsOf f4.type)) = some y4 := by
  obtain ⟨xs, n, _, rfl, hl, hlen, hf⟩ := DataW.trod_struct ht h
  match xs, hlen with
  | [y0, y1, y2, y3, y4], _ => exact ⟨y0, y1, y2, y3, y4, n, hl, by simpa using hf 0 f0 rfl, by simpa using hf 1 f1 rfl, by simpa using hf 2 f2 rfl, by simpa using hf 3 f3 rfl, by simpa using hf 4 f4 rfl⟩
theorem trod_struct3p {P : Program} {W : World} {base : Nat} {spare : Nat → Bool} {held : Bool} {t : TypeId} {f0 f1 f2 : Field} {fuel : Nat} {cs : List Value} {x : DataW H × List MemPlace} (ht : P.underlying t = some (.struct #[f0, f1, f2])) (h : DataW.trod enc P W base spare held fuel t cs = some x) :
    ∃ y0 y1 y2 n, cs.length = P.cellsOf t ∧ DataW.trod enc P W base spare held n f0.type ((cs.drop f0.offset).take (P.cellsOf f0.type)) = some y0 ∧
      DataW.trod enc P W base spare held n f1.type ((cs.drop f1.offset).take (P.cellsOf f1.type)) = some y1 ∧ DataW.trod enc P W base spare held n f2.type ((cs.drop f2.offset).take (P.cellsOf f2.type)) = some y2 := by
  obtain ⟨xs, n, _, -, hl, hlen, hf⟩ := DataW.trod_struct ht h
  match xs, hlen with
  | [y0, y1, y2], _ => exact ⟨y0, y1, y2, n, hl, by simpa using hf 0 f0 rfl, by simpa using hf 1 f1 rfl, by simpa using hf 2 f2 rfl⟩
theorem trod_struct2p {P : Program} {W : World} {base : Nat} {spare : Nat → Bool} {held : Bool} {t : TypeId} {f0 f1 : Field} {fuel : Nat} {cs : List Value} {x : DataW H × List MemPlace} (ht : P.underlying t = some (.struct #[f0, f1])) (h : DataW.trod enc P W base spare held fuel t cs = some x) :
    ∃ y0 y1 n, cs.length = P.cellsOf t ∧ DataW.trod enc P W base spare held n f0.type ((cs.drop f0.offset).take (P.cellsOf f0.type)) = some y0 ∧ DataW.trod enc P W base spare held n f1.type ((cs.drop f1.offset).take (P.cellsOf f1.type)) = some y1 := by
  obtain ⟨xs, n, _, -, hl, hlen, hf⟩ := DataW.trod_struct ht h
  match xs, hlen with
  | [y0, y1], _ => exact ⟨y0, y1, n, hl, by simpa using hf 0 f0 rfl, by simpa using hf 1 f1 rfl⟩
theorem u64_bdP {n : Int} (h : (Lit.int .u64 n).wf = true) : 0 ≤ n := by
  simp [Lit.wf] at h
  have e : IntKind.u64.min = 0 := rfl
  omega
theorem rus_of_cells {W : World} {fuel : Nat} {cs : List Value} {x : DataW H × List MemPlace} (hf : DataW.trod enc Tryd.prog W 0 (fun _ => true) true fuel 22 cs = some x) :
    ∃ v rs, cs = [v] ∧ RusAt W v rs ∧ ∀ (i : Nat) (r : Ru), rs[i]? = some r → 0 ≤ r.cost := by
  rcases open_slice Tryd.underlying22 hf with ⟨hcs, hx⟩ | ⟨a, len, cap, m, n, D, Pl, hcs, hb, hl, hm, hmm, hx, hi⟩
  · exact ⟨_, [], hcs, .inl ⟨none, 0, rfl, rfl⟩, fun i r h => by simp at h⟩
  · clear hx
    simp only [if_true] at hmm
    by_cases h0 : len = 0
    · subst h0; exact ⟨_, [], hcs, .inl ⟨some a, cap, rfl, rfl⟩, fun i r h => by simp at h⟩
    · have key : ∀ i, i < len → ∃ r : Ru, (∃ pa pc, W.cell? (a.add (i * 5)) = some (.int .i64 r.fr) ∧ W.cell? (a.add (i * 5 + 1)) = some (.int .i64 r.top) ∧ W.cell? (a.add (i * 5 + 2)) = some (.int .i64 r.to) ∧ W.cell? (a.add (i * 5 + 3)) = some (.slice pa r.push.length pc) ∧ W.cell? (a.add (i * 5 + 4)) = some (.int .u64 r.cost) ∧ IntsAt W (.slice pa r.push.length pc) r.push) ∧ 0 ≤ r.cost := by
        intro i hil
        obtain ⟨cs, hc, ht⟩ := hi i (by omega)
        rw [Tryd.cellsPRule] at hc
        obtain ⟨_, hcl, hat⟩ := World.cells?_some hc
        obtain ⟨y0, y1, y2, y3, y4, n', -, h0, h1, h2, h3, h4⟩ := trod_struct5p Tryd.underlying46 ht
        rw [Tryd.cellsIntP] at h0 h1 h2
        rw [Tryd.cellsIntsP] at h3
        rw [Tryd.cellsU64P] at h4
        match cs, hcl with
        | [u0, u1, u2, u3, u4], _ =>
          obtain ⟨b, e0, -, w0⟩ := DataW.trod_int Tryd.underlying3 h0
          obtain ⟨t, e1, -, w1⟩ := DataW.trod_int Tryd.underlying3 h1
          obtain ⟨o, e2, -, w2⟩ := DataW.trod_int Tryd.underlying3 h2
          obtain ⟨v, zs, e3, hz⟩ := ints_of_cells h3
          obtain ⟨c, e4, -, w4⟩ := DataW.trod_int Tryd.underlying30 h4
          obtain ⟨ga, gc, rfl⟩ := hz.form
          simp at e0 e1 e2 e3 e4
          subst e0 e1 e2 e3 e4
          refine ⟨⟨b, t, o, zs, c⟩, ⟨ga, gc, ?_, ?_, ?_, ?_, ?_, hz⟩, u64_bdP w4⟩
          · have := hat 0 (by omega); rw [Go.Deep.add_add] at this; simpa using this
          · have := hat 1 (by omega); rw [Go.Deep.add_add] at this; simpa using this
          · have := hat 2 (by omega); rw [Go.Deep.add_add] at this; simpa using this
          · have := hat 3 (by omega); rw [Go.Deep.add_add] at this; simpa using this
          · have := hat 4 (by omega); rw [Go.Deep.add_add] at this; simpa using this
      obtain ⟨b, off, spot⟩ := a
      have hspot : spot = none := by
        obtain ⟨x, ⟨_, _, hx, -⟩, -⟩ := key 0 (by omega)
        simpa [Addr.add] using World.cell?_spot hx
      subst hspot
      have hbl : b < W.heap.size := by
        obtain ⟨x, ⟨_, _, hx, -⟩, -⟩ := key 0 (by omega)
        have := World.block_lt_of_cell? W _ hx
        simpa [Addr.add] using this
      obtain ⟨rs, hrl, hR⟩ := list_ofP key
      exact ⟨_, rs, hcs, .inr ⟨b, off, cap, by rw [hrl], hbl, fun i r hir => by
        obtain ⟨⟨pa, pc, k0, k1, k2, k3, k4, k5⟩, -⟩ := hR i r hir
        rw [add_plain] at k0 k1 k2 k3 k4
        exact ⟨pa, pc, k0, by simpa [Nat.add_assoc] using k1, by simpa [Nat.add_assoc] using k2, by simpa [Nat.add_assoc] using k3, by simpa [Nat.add_assoc] using k4, k5⟩⟩, fun i r h => (hR i r h).2⟩
theorem sys_of_trod {W : World} {v : Value} {d : DataW H} {ps : List MemPlace} (h : DataW.Trod enc Tryd.prog W 0 (fun _ => true) true 24 v d ps) :
    ∃ S L u rs, v = sysV S L u ∧ RusAt W u rs ∧ ∀ (i : Nat) (r : Ru), rs[i]? = some r → 0 ≤ r.cost := by
  obtain ⟨fuel, hf⟩ := h
  obtain ⟨y0, y1, y2, n, hl, h0, h1, h2⟩ := trod_struct3p Tryd.underlying24 hf
  rw [Tryd.cellsPSys] at hl
  rw [Tryd.cellsIntP] at h0 h1
  rw [Tryd.cellsPRules] at h2
  cases v with
  | agg cs =>
    obtain ⟨l⟩ := cs
    simp only [Value.cells] at hl h0 h1 h2
    match l, hl with
    | [u0, u1, u2], _ =>
      obtain ⟨a, e0, -, -⟩ := DataW.trod_int Tryd.underlying3 h0
      obtain ⟨b, e1, -, -⟩ := DataW.trod_int Tryd.underlying3 h1
      obtain ⟨u, rs, e2, hr, hc⟩ := rus_of_cells h2
      simp at e0 e1 e2
      subst e0 e1 e2
      exact ⟨a, b, _, rs, rfl, hr, hc⟩
  | _ => simp [Value.cells] at hl
theorem cfg_of_trod {W : World} {v : Value} {d : DataW H} {ps : List MemPlace} (h : DataW.Trod enc Tryd.prog W 0 (fun _ => true) true 27 v d ps) :
    ∃ s u zs, v = .agg #[.int .i64 s, u] ∧ IntsAt W u zs := by
  obtain ⟨fuel, hf⟩ := h
  obtain ⟨y0, y1, n, hl, h0, h1⟩ := trod_struct2p Tryd.underlying27 hf
  rw [Tryd.cellsPCfg] at hl
  rw [Tryd.cellsIntP] at h0
  rw [Tryd.cellsIntsP] at h1
  cases v with
  | agg cs =>
    obtain ⟨l⟩ := cs
    simp only [Value.cells] at hl h0 h1
    match l, hl with
    | [u0, u1], _ =>
      obtain ⟨a, e0, -, -⟩ := DataW.trod_int Tryd.underlying3 h0
      obtain ⟨u, zs, e1, hz⟩ := ints_of_cells h1
      simp at e0 e1
      subst e0 e1
      exact ⟨a, _, zs, rfl, hz⟩
  | _ => simp [Value.cells] at hl
end
end Go.Proofs.YtjanbhodikhdeaaDoor
