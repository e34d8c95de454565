/-
  A row of a table among a law's arguments, as the walks of layer 12 speak of it.
  Rows of a table among a law's arguments.
  The statement TableCheck, proved: for every topology, list of kinds and rows, and in whatever memory, the law answers true and each argument reads afterwards as it did; what it lists of package-level variables is tied to the program's text.
-/
import Derived.Test.YtlcpbfklnjlgnaaGreatDoorGk
import Derived.Test.YtlcpbfklnjlgnaaGreatDoorGw
import Derived.Deep.Slices
import Derived.Deep.Strs
import Derived.Test.YtlcpbfklnjlgnaaGreatDoorGy
import Derived.Test.YtlcpbfklnjlgnaaGreatDoorGt
import Derived.Test.YtlcpbfklnjlgnaaGreatDoorGzb
import Derived.Test.YtlcpbfklnjlgnaaGreatDoorGr
namespace Go.Proofs.YtlcpbfklnjlgnaaGreatDoor
open Go.ChangeShapes Go.WideShapes Go.ChangeAt Go.RowKit Go.Deep

theorem Tryz.cellsOpTb : Tryz.prog.cellsOf 114 = 2 := by kernel_rfl
theorem Tryz.cellsOpTs : Tryz.prog.cellsOf 46 = 1 := by kernel_rfl
theorem Tryz.cellsTEnt : Tryz.prog.cellsOf 48 = 2 := by kernel_rfl
theorem Tryz.cellsTEnts : Tryz.prog.cellsOf 49 = 1 := by kernel_rfl
theorem Tryz.cellsTEntss : Tryz.prog.cellsOf 50 = 1 := by kernel_rfl
theorem Tryz.cellsTRow : Tryz.prog.cellsOf 52 = 3 := by kernel_rfl
section
variable {H : Type} {enc : TypeId × Value → H}
theorem trod_struct3 {P : Program} {W : World} {base : Nat} {spare : Nat → Bool} {held : Bool} {t : TypeId} {f0 f1 f2 : Field} {fuel : Nat} {cs : List Value} {x : DataW H × List MemPlace} (ht : P.underlying t = some (.struct #[f0, f1, f2])) (h : DataW.trod enc P W base spare held fuel t cs = some x) :
    ∃ y0 y1 y2 n, cs.length = P.cellsOf t ∧ DataW.trod enc P W base spare held n f0.type ((cs.drop f0.offset).take (P.cellsOf f0.type)) = some y0 ∧
      DataW.trod enc P W base spare held n f1.type ((cs.drop f1.offset).take (P.cellsOf f1.type)) = some y1 ∧ DataW.trod enc P W base spare held n f2.type ((cs.drop f2.offset).take (P.cellsOf f2.type)) = some y2 := by
  obtain ⟨xs, n, _, rfl, hl, hlen, hf⟩ := DataW.trod_struct ht h
  match xs, hlen with
  | [y0, y1, y2], _ => exact ⟨y0, y1, y2, n, hl, by simpa using hf 0 f0 rfl, by simpa using hf 1 f1 rfl, by simpa using hf 2 f2 rfl⟩
theorem ops_of_cells {W : World} {fuel : Nat} {cs : List Value} {x : DataW H × List MemPlace} (hf : DataW.trod enc Tryz.prog W 0 (fun _ => true) true fuel 46 cs = some x) :
    ∃ a n cap c, cs = [.slice a n cap] ∧ OpsAt W (.slice a n cap) c := by
  rcases open_slice Tryz.underlying46 hf with ⟨hcs, hx⟩ | ⟨a, len, cap, m, n, D, Pl, hcs, hb, hl, hm, hmm, hx, hi⟩
  · exact ⟨_, _, _, [], hcs, .inl ⟨none, 0, rfl, rfl⟩⟩
  · clear hx
    simp only [if_true] at hmm
    by_cases h0 : len = 0
    · subst h0; exact ⟨_, _, _, [], hcs, .inl ⟨some a, cap, rfl, rfl⟩⟩
    · have key : ∀ i, i < len → ∃ x : Int × Int, W.cell? (a.add (i * 2)) = some (.int .i64 x.1) ∧ W.cell? (a.add (i * 2 + 1)) = some (.int .i64 x.2) := by
        intro i hil
        obtain ⟨cs, hc, ht⟩ := hi i (by omega)
        rw [Tryz.cellsOpTb] at hc
        obtain ⟨_, hcl, hat⟩ := World.cells?_some hc
        obtain ⟨y0, y1, n', -, -, h0, h1⟩ := trod_struct2 Tryz.underlying114 ht
        rw [cellsInt] at h0
        rw [cellsInt] at h1
        match cs, hcl with
        | [u0, u1], _ =>
          obtain ⟨b, e0, -, w0⟩ := DataW.trod_int Tryz.underlying3 h0
          obtain ⟨t, e1, -, w1⟩ := DataW.trod_int Tryz.underlying3 h1
          simp at e0 e1
          subst e0 e1
          refine ⟨⟨b, t⟩, ?_, ?_⟩
          · have := hat 0 (by omega); rw [Go.Deep.add_add] at this; simpa using this
          · have := hat 1 (by omega); rw [Go.Deep.add_add] at this; simpa using this
      obtain ⟨b, off, spot⟩ := a
      have hspot : spot = none := by
        obtain ⟨x, hx, -⟩ := key 0 (by omega)
        simpa [Addr.add] using World.cell?_spot hx
      subst hspot
      have hbl : b < W.heap.size := by
        obtain ⟨x, hx, -⟩ := key 0 (by omega)
        have := World.block_lt_of_cell? W _ hx
        simpa [Addr.add] using this
      refine ⟨_, _, _, List.ofFn fun i : Fin len => Classical.choose (key i i.2), hcs, .inr ⟨b, off, cap, by simp, hbl, fun i x hx => ?_⟩⟩
      obtain ⟨hi', e⟩ := List.getElem?_eq_some_iff.1 hx
      simp at hi'
      simp at e
      obtain ⟨k0, k1⟩ := Classical.choose_spec (key i hi')
      rw [e] at k0 k1
      rw [add_plain] at k0 k1
      exact ⟨k0, by simpa [Nat.add_assoc] using k1⟩
theorem ents_of_cells {W : World} {fuel : Nat} {cs : List Value} {x : DataW H × List MemPlace} (hf : DataW.trod enc Tryz.prog W 0 (fun _ => true) true fuel 49 cs = some x) :
    ∃ a cap es, cs = [.slice a es.length cap] ∧ EntsAt W (.slice a es.length cap) es ∧ OpsIn W es := by
  rcases open_slice Tryz.underlying49 hf with ⟨hcs, hx⟩ | ⟨a, len, cap, m, n, D, Pl, hcs, hb, hl, hm, hmm, hx, hi⟩
  · exact ⟨_, _, [], hcs, .inl ⟨none, 0, rfl, rfl⟩, fun i e h => by simp at h⟩
  · clear hx
    simp only [if_true] at hmm
    by_cases h0 : len = 0
    · subst h0; exact ⟨_, _, [], hcs, .inl ⟨some a, cap, rfl, rfl⟩, fun i e h => by simp at h⟩
    · have key : ∀ i, i < len → ∃ x : En, W.cell? (a.add (i * 2)) = some (.int .i64 x.out) ∧ W.cell? (a.add (i * 2 + 1)) = some (.slice x.oa x.on x.oc) ∧ ∃ c, OpsAt W (.slice x.oa x.on x.oc) c := by
        intro i hil
        obtain ⟨cs, hc, ht⟩ := hi i (by omega)
        rw [Tryz.cellsTEnt] at hc
        obtain ⟨_, hcl, hat⟩ := World.cells?_some hc
        obtain ⟨y0, y1, n', -, -, h0, h1⟩ := trod_struct2 Tryz.underlying48 ht
        rw [cellsInt] at h0
        rw [Tryz.cellsOpTs] at h1
        match cs, hcl with
        | [u0, u1], _ =>
          obtain ⟨b, e0, -, w0⟩ := DataW.trod_int Tryz.underlying3 h0
          obtain ⟨oa, on, oc, c, e1, hops⟩ := ops_of_cells h1
          simp at e0 e1
          subst e0 e1
          refine ⟨⟨b, oa, on, oc⟩, ?_, ?_, c, hops⟩
          · have := hat 0 (by omega); rw [Go.Deep.add_add] at this; simpa using this
          · have := hat 1 (by omega); rw [Go.Deep.add_add] at this; simpa using this
      obtain ⟨b, off, spot⟩ := a
      have hspot : spot = none := by
        obtain ⟨x, hx, -⟩ := key 0 (by omega)
        simpa [Addr.add] using World.cell?_spot hx
      subst hspot
      have hbl : b < W.heap.size := by
        obtain ⟨x, hx, -⟩ := key 0 (by omega)
        have := World.block_lt_of_cell? W _ hx
        simpa [Addr.add] using this
      have all : ∀ (i : Nat) (x : En), (List.ofFn fun i : Fin len => Classical.choose (key i i.2))[i]? = some x → W.cell? ⟨b, off + i * 2, none⟩ = some (.int .i64 x.out) ∧ W.cell? ⟨b, off + i * 2 + 1, none⟩ = some (.slice x.oa x.on x.oc) ∧ ∃ c, OpsAt W (.slice x.oa x.on x.oc) c := by
        intro i x hx
        obtain ⟨hi', e⟩ := List.getElem?_eq_some_iff.1 hx
        simp at hi'
        simp at e
        obtain ⟨k0, k1, k2⟩ := Classical.choose_spec (key i hi')
        rw [e] at k0 k1 k2
        rw [add_plain] at k0 k1
        exact ⟨k0, by simpa [Nat.add_assoc] using k1, k2⟩
      have hlen : (List.ofFn fun i : Fin len => Classical.choose (key i i.2)).length = len := by simp
      exact ⟨_, _, _, by rw [hcs, hlen], .inr ⟨b, off, cap, rfl, hbl, fun i x hx => ⟨(all i x hx).1, (all i x hx).2.1⟩⟩, fun i x hx => (all i x hx).2.2⟩
theorem grs_of_cells {W : World} {fuel : Nat} {cs : List Value} {x : DataW H × List MemPlace} (hf : DataW.trod enc Tryz.prog W 0 (fun _ => true) true fuel 50 cs = some x) :
    ∃ v gs, cs = [v] ∧ GrsAt W v gs ∧ OpsG W gs := by
  rcases open_slice Tryz.underlying50 hf with ⟨hcs, hx⟩ | ⟨a, len, cap, m, n, D, Pl, hcs, hb, hl, hm, hmm, hx, hi⟩
  · exact ⟨_, [], hcs, .inl ⟨none, 0, rfl, rfl⟩, fun i e h => by simp at h⟩
  · clear hx
    simp only [if_true] at hmm
    by_cases h0 : len = 0
    · subst h0; exact ⟨_, [], hcs, .inl ⟨some a, cap, rfl, rfl⟩, fun i e h => by simp at h⟩
    · have key : ∀ i, i < len → ∃ x : Gr, W.cell? (a.add i) = some (.slice x.ga x.es.length x.gc) ∧ EntsAt W (.slice x.ga x.es.length x.gc) x.es ∧ OpsIn W x.es := by
        intro i hil
        obtain ⟨cs, hc, ht⟩ := hi i (by omega)
        rw [Tryz.cellsTEnts] at hc
        obtain ⟨_, hcl, hat⟩ := World.cells?_some hc
        obtain ⟨ga, gc, es, e1, he, ho⟩ := ents_of_cells ht
        subst e1
        refine ⟨⟨ga, gc, es⟩, ?_, he, ho⟩
        have := hat 0 (by simp); rw [Go.Deep.add_add] at this; simpa using this
      obtain ⟨b, off, spot⟩ := a
      have hspot : spot = none := by
        obtain ⟨x, hx, -⟩ := key 0 (by omega)
        simpa [Addr.add] using World.cell?_spot hx
      subst hspot
      have hbl : b < W.heap.size := by
        obtain ⟨x, hx, -⟩ := key 0 (by omega)
        have := World.block_lt_of_cell? W _ hx
        simpa [Addr.add] using this
      have all : ∀ (i : Nat) (x : Gr), (List.ofFn fun i : Fin len => Classical.choose (key i i.2))[i]? = some x → W.cell? ⟨b, off + i, none⟩ = some (.slice x.ga x.es.length x.gc) ∧ EntsAt W (.slice x.ga x.es.length x.gc) x.es ∧ OpsIn W x.es := by
        intro i x hx
        obtain ⟨hi', e⟩ := List.getElem?_eq_some_iff.1 hx
        simp at hi'
        simp at e
        obtain ⟨k0, k1, k2⟩ := Classical.choose_spec (key i hi')
        rw [e] at k0 k1 k2
        rw [add_plain] at k0
        exact ⟨k0, k1, k2⟩
      have hlen : (List.ofFn fun i : Fin len => Classical.choose (key i i.2)).length = len := by simp
      exact ⟨_, _, hcs, .inr ⟨b, off, cap, by rw [hlen], hbl, fun i x hx => ⟨(all i x hx).1, (all i x hx).2.1⟩⟩, fun i x hx => (all i x hx).2.2⟩
theorem row_of_trod {W : World} {v : Value} {d : DataW H} {ps : List MemPlace} (h : DataW.Trod enc Tryz.prog W 0 (fun _ => true) true 52 v d ps) :
    ∃ inn top gv gs, v = rowV inn top gv ∧ GrsAt W gv gs ∧ OpsG W gs := by
  obtain ⟨fuel, hf⟩ := h
  obtain ⟨y0, y1, y2, n', hl, h0, h1, h2⟩ := trod_struct3 Tryz.underlying52 hf
  rw [cellsInt] at h0 h1
  rw [Tryz.cellsTEntss] at h2
  rw [Tryz.cellsTRow] at hl
  obtain ⟨b, e0, -, w0⟩ := DataW.trod_int Tryz.underlying3 h0
  obtain ⟨t, e1, -, w1⟩ := DataW.trod_int Tryz.underlying3 h1
  obtain ⟨gv, gs, e2, hg, ho⟩ := grs_of_cells h2
  cases v with
  | agg cs =>
    obtain ⟨l⟩ := cs
    simp only [Value.cells] at hl e0 e1 e2
    match l, hl with
    | [u0, u1, u2], _ =>
      simp at e0 e1 e2
      subst e0 e1 e2
      exact ⟨_, _, _, gs, rfl, hg, ho⟩
  | _ => simp [Value.cells] at hl
end
end Go.Proofs.YtlcpbfklnjlgnaaGreatDoor

namespace Go.Proofs.YtlcpbfklnjlgnaaGreatDoor
open Go.ChangeShapes Go.WideShapes Go.ChangeAt Go.RowKit Go.Deep

section
variable {H : Type} {enc : TypeId × Value → H}
/-- Things one by one make a list. -/
theorem list_of {α : Type} {n : Nat} {R : Nat → α → Prop} (h : ∀ i, i < n → ∃ x, R i x) : ∃ l : List α, l.length = n ∧ ∀ i x, l[i]? = some x → R i x := by
  refine ⟨List.ofFn fun i : Fin n => Classical.choose (h i i.2), by simp, fun i x hx => ?_⟩
  obtain ⟨hi', e⟩ := List.getElem?_eq_some_iff.1 hx
  simp at hi' e
  have := Classical.choose_spec (h i hi')
  rwa [e] at this
theorem esP_of_cells {W : World} {fuel : Nat} {cs : List Value} {x : DataW H × List MemPlace} (hf : DataW.trod enc Tryz.prog W 0 (fun _ => true) true fuel 49 cs = some x) :
    ∃ v l, cs = [v] ∧ EsP OpsAt W v l := by
  obtain ⟨a, cap, es, e, he, ho⟩ := ents_of_cells hf
  rcases he with ⟨a', cap', hv, rfl⟩ | ⟨b, off, cap', hv, hlt, hc⟩
  · exact ⟨_, [], e, .inl ⟨a', cap', hv, rfl⟩⟩
  · obtain ⟨l, hl, hR⟩ := list_of (n := es.length) (R := fun i (p : EnA) => ∃ oa on oc, W.cell? ⟨b, off + i * 2, none⟩ = some (.int .i64 p.1) ∧ W.cell? ⟨b, off + i * 2 + 1, none⟩ = some (.slice oa on oc) ∧ OpsAt W (.slice oa on oc) p.2) (fun i hi => by
      obtain ⟨h0, h1⟩ := hc i es[i] (List.getElem?_eq_getElem hi)
      obtain ⟨c, hops⟩ := ho i es[i] (List.getElem?_eq_getElem hi)
      exact ⟨(es[i].out, c), _, _, _, h0, h1, hops⟩)
    exact ⟨_, l, e, .inr ⟨b, off, cap', by rw [hl]; exact hv, hlt, hR⟩⟩
theorem gsP_of_cells {W : World} {fuel : Nat} {cs : List Value} {x : DataW H × List MemPlace} (hf : DataW.trod enc Tryz.prog W 0 (fun _ => true) true fuel 50 cs = some x) :
    ∃ v gs, cs = [v] ∧ GsP OpsAt W v gs := by
  rcases open_slice Tryz.underlying50 hf with ⟨hcs, hx⟩ | ⟨a, len, cap, m, n, D, Pl, hcs, hb, hl, hm, hmm, hx, hi⟩
  · exact ⟨_, [], hcs, .inl ⟨none, 0, rfl, rfl⟩⟩
  · clear hx
    simp only [if_true] at hmm
    by_cases h0 : len = 0
    · subst h0; exact ⟨_, [], hcs, .inl ⟨some a, cap, rfl, rfl⟩⟩
    · have key : ∀ i, i < len → ∃ l : List EnA, ∃ oa oc, W.cell? (a.add i) = some (.slice oa l.length oc) ∧ EsP OpsAt W (.slice oa l.length oc) l := by
        intro i hil
        obtain ⟨cs, hc, ht⟩ := hi i (by omega)
        rw [Tryz.cellsTEnts] at hc
        obtain ⟨_, hcl, hat⟩ := World.cells?_some hc
        obtain ⟨v, l, e1, he⟩ := esP_of_cells ht
        obtain ⟨ga, gc, rfl⟩ := he.form
        subst e1
        refine ⟨l, ga, gc, ?_, he⟩
        have := hat 0 (by simp); rw [Go.Deep.add_add] at this; simpa using this
      obtain ⟨b, off, spot⟩ := a
      have hspot : spot = none := by
        obtain ⟨x, _, _, hx, -⟩ := key 0 (by omega)
        simpa [Addr.add] using World.cell?_spot hx
      subst hspot
      have hbl : b < W.heap.size := by
        obtain ⟨x, _, _, hx, -⟩ := key 0 (by omega)
        have := World.block_lt_of_cell? W _ hx
        simpa [Addr.add] using this
      obtain ⟨gs, hgl, hR⟩ := list_of key
      exact ⟨_, gs, hcs, .inr ⟨b, off, cap, by rw [hgl], hbl, fun i l hil => by
        obtain ⟨oa, oc, k0, k1⟩ := hR i l hil
        rw [add_plain] at k0
        exact ⟨oa, oc, k0, k1⟩⟩⟩
theorem rsP_of_cells {W : World} {fuel : Nat} {cs : List Value} {x : DataW H × List MemPlace} (hf : DataW.trod enc Tryz.prog W 0 (fun _ => true) true fuel 27 cs = some x) :
    ∃ v rows, cs = [v] ∧ RsP OpsAt W v rows := by
  rcases open_slice Tryz.underlying27 hf with ⟨hcs, hx⟩ | ⟨a, len, cap, m, n, D, Pl, hcs, hb, hl, hm, hmm, hx, hi⟩
  · exact ⟨_, [], hcs, .inl ⟨none, 0, rfl, rfl⟩⟩
  · clear hx
    simp only [if_true] at hmm
    by_cases h0 : len = 0
    · subst h0; exact ⟨_, [], hcs, .inl ⟨some a, cap, rfl, rfl⟩⟩
    · have key : ∀ i, i < len → ∃ r : RwA, ∃ oa oc, W.cell? (a.add (i * 3)) = some (.int .i64 r.inn) ∧ W.cell? (a.add (i * 3 + 1)) = some (.int .i64 r.top) ∧ W.cell? (a.add (i * 3 + 2)) = some (.slice oa r.gs.length oc) ∧ GsP OpsAt W (.slice oa r.gs.length oc) r.gs := by
        intro i hil
        obtain ⟨cs, hc, ht⟩ := hi i (by omega)
        rw [Tryz.cellsTRow] at hc
        obtain ⟨_, hcl, hat⟩ := World.cells?_some hc
        obtain ⟨y0, y1, y2, n', -, h0, h1, h2⟩ := trod_struct3 Tryz.underlying52 ht
        rw [cellsInt] at h0 h1
        rw [Tryz.cellsTEntss] at h2
        match cs, hcl with
        | [u0, u1, u2], _ =>
          obtain ⟨b, e0, -, w0⟩ := DataW.trod_int Tryz.underlying3 h0
          obtain ⟨t, e1, -, w1⟩ := DataW.trod_int Tryz.underlying3 h1
          obtain ⟨v, gs, e2, hg⟩ := gsP_of_cells h2
          obtain ⟨ga, gc, rfl⟩ := hg.form
          simp at e0 e1 e2
          subst e0 e1 e2
          refine ⟨⟨b, t, gs⟩, ga, gc, ?_, ?_, ?_, hg⟩
          · have := hat 0 (by omega); rw [Go.Deep.add_add] at this; simpa using this
          · have := hat 1 (by omega); rw [Go.Deep.add_add] at this; simpa using this
          · have := hat 2 (by omega); rw [Go.Deep.add_add] at this; simpa using this
      obtain ⟨b, off, spot⟩ := a
      have hspot : spot = none := by
        obtain ⟨x, _, _, hx, -⟩ := key 0 (by omega)
        simpa [Addr.add] using World.cell?_spot hx
      subst hspot
      have hbl : b < W.heap.size := by
        obtain ⟨x, _, _, hx, -⟩ := key 0 (by omega)
        have := World.block_lt_of_cell? W _ hx
        simpa [Addr.add] using this
      obtain ⟨rows, hrl, hR⟩ := list_of key
      exact ⟨_, rows, hcs, .inr ⟨b, off, cap, by rw [hrl], hbl, fun i r hir => by
        obtain ⟨oa, oc, k0, k1, k2, k3⟩ := hR i r hir
        rw [add_plain] at k0 k1 k2
        exact ⟨oa, oc, k0, by simpa [Nat.add_assoc] using k1, by simpa [Nat.add_assoc] using k2, k3⟩⟩⟩
theorem rows_of_trod {W : World} {v : Value} {d : DataW H} {ps : List MemPlace} (hval : ∃ a len cap, v = .slice a len cap) (h : DataW.Trod enc Tryz.prog W 0 (fun _ => true) true 27 v d ps) : ∃ rows, RsP OpsAt W v rows := by
  obtain ⟨a0, len, cap, rfl⟩ := hval
  obtain ⟨fuel, hf⟩ := h
  obtain ⟨u, rows, e, hr⟩ := rsP_of_cells hf
  simp only [Value.cells] at e
  injection e with e
  subst e
  exact ⟨rows, hr⟩
end
end Go.Proofs.YtlcpbfklnjlgnaaGreatDoor

namespace Go.Proofs.YtlcpbfklnjlgnaaGreatDoor
open Go.ChangeShapes Go.WideShapes Go.ChangeAt Go.RowKit

set_option maxRecDepth 100000 in
theorem tableCheck_lifted (os : Os) (started : os.Started) (H : Type) (enc : TypeId × Value → H) :
    ReturnsInHanded {} Tryz.checked os 3 .any (fun w args => (Rows.tableCheckSpec.pre enc Tryz.prog Tryz.f3 [] false w args ∧ laidMetH Tryz.prog loneQ w) ∧ sizedMet enc Tryz.prog Tryz.f3 (OpenSpec.ofChange Rows.tableCheckSpec) false w args)
      (Rows.tableCheckSpec.post enc Tryz.prog Tryz.f3 false true false false) := by
  refine returnsInHanded_of_change_and (C := Tryz.checked) (X := fun w _ => laidMetH Tryz.prog loneQ w) (fun _ _ _ hh h => h.of_heap hh) Tryz.own started (by kernel_rfl) Tryz.func3
    (ChangeSpec.witness_shaped (enc := enc) (C := Tryz.checked) (os := os) (X := fun w _ => laidMetH Tryz.prog loneQ w) false (laidWorldT os) #[.agg #[.slice none 0 0, .slice none 0 0], .slice none 0 0, .slice none 0 0] 8 rfl (World.shaped_of_RefB (by kernel_rfl) (by kernel_rfl)) (by kernel_rfl) (by kernel_rfl) (by kernel_rfl) (laidWorldT_metQ os _)) ?_
  intro W base args ds gs before hval0 hW _ _ hL _
  have hval : ∀ (j : Nat) t v, Tryz.f3.params[j]? = some t → args[j]? = some v → Value.okWide Tryz.prog W .any base t v := hval0
  have hW' := hW
  obtain ⟨p, q, hA0, hV, rfl, hfz, hnd⟩ := hW
  have hA : DataW.TrodAll enc Tryz.prog W 0 (fun _ => true) true Tryz.f3.params.toList args.toList ds p := hA0
  rw [Tryz.params3] at hA hval
  obtain ⟨v0, v1, v2, d0, d1, d2, p0, p1, p2, rfl, rfl, rfl, h0, h1, h2⟩ := trodAll_three hA
  obtain ⟨vr, vl, rs, ls, rfl, ht0, hd0⟩ := topo_of_trod h0
  have hlt1 : ∀ x ∈ p1, x.block < W.heap.size := fun x hx => hW'.lt x (by simp [hx])
  obtain ⟨⟨ks, hs1⟩, hc1⟩ := intsC_of_trod (okWide_slice Tryz.underlying26 (hval 1 26 v1 rfl rfl)) h1 hlt1
  obtain ⟨rows, hr2⟩ := rows_of_trod (okWide_slice Tryz.underlying27 (hval 2 27 v2 rfl rfl)) h2
  refine (tableCheck_any vr vl v1 v2 rs ls ks rows W ht0 hd0 hs1 hr2 (handle_of_laidQ hL) (tab_of_laidQ hL) (pow_of_laidQ hL)).mono fun e W' ⟨he, hb⟩ => ?_
  subst he
  exact ⟨_, rfl, law_post (by kernel_rfl) rfl (by rw [Tryz.params3]; decide +kernel) hW' hb (by simp [Rows.tableCheckSpec]) (by simp [Rows.tableCheckSpec]) (by simp [Rows.tableCheckSpec])⟩

theorem tableCheck_holds : Rows.TableCheckSaid :=
  OpenClaim.holds_of_wide 3 Tryz.f3 rfl rfl rfl rfl rfl rfl rfl ⟨rfl, rfl, rfl, rfl, rfl⟩ rfl rfl rfl rfl rfl (by kernel_rfl) Tryz.func3 (by kernel_rfl)
    (of_decide_eq_true (by kernel_rfl)) (by unfold Func.isWrapper; rw [if_neg (of_decide_eq_false (by kernel_rfl))]; exact ⟨rfl, rfl⟩)
    (fun os started H enc _ => tableCheck_lifted os started H enc)

theorem tableCheck_card : Rows.TableCheckCardSaid :=
  Claim7.holds_tied_plain_at .later [] [.data, .data, .data, .handle] true Rows.tableCheckCard.stood.harness true
    tableCheck_holds (fun _ h => by cases h) (by kernel_rfl) (fun _ h => by cases h) tableCheck_row_tie rfl ⟨rfl, rfl⟩ (by kernel_rfl) rfl
    (fun f fn hf hfn => by
      obtain rfl : f = 3 := Option.some.inj ((show Tryz.prog.funcNamed "fairlead/fairleadlaw12.TableCheck" = some 3 by kernel_rfl).symm.trans hf) |>.symm
      obtain rfl : fn = Tryz.f3 := (Option.some.inj (Tryz.func3.symm.trans hfn)).symm
      exact ⟨by kernel_rfl, fun j t ht => by
        have hk : ∀ t ∈ Tryz.f3.params.toList, Tryz.prog.wantsStandIn t = false := by rw [Tryz.params3]; decide +kernel
        exact hk t (by
          obtain ⟨hj, e⟩ := Array.getElem?_eq_some_iff.1 ht
          rw [← e]
          simp)⟩)
    (by kernel_rfl)
#print axioms tableCheck_card
end Go.Proofs.YtlcpbfklnjlgnaaGreatDoor
