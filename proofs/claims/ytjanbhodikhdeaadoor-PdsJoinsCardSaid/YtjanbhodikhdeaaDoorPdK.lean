/-
  The document's own Done of chapter 21, by contract.
-/
import Derived.Test.YtjanbhodikhdeaaDoorPdJ
namespace Go.Proofs.YtjanbhodikhdeaaDoor
open Go.RowKit Go.Extern.Stop Go.Stop Go.Extern

def DnP (s : Int) (l : List Int) (n : Nat) (w : World) (e : Ending) (w' : World) : Prop := ∃ a c, e = .returned (cfV s (.slice a n c)) ∧ w'.ownsRow w.heap.size 3 1 (.slice a n c) n (encI l) ∧ Below w.heap.size w w'
theorem four_boxes (w : World) (T0 T1 T2 T3 : TypeId) (c0 c1 c2 c3 : Array Value) :
    ∃ W, W = (((w.alloc (.cells c0 T0)).alloc (.cells c1 T1)).alloc (.cells c2 T2)).alloc (.cells c3 T3) ∧ W.heap.size = w.heap.size + 4 ∧ W.heap[w.heap.size]? = some (.cells c0 T0 (0, 0)) ∧ W.heap[w.heap.size + 1]? = some (.cells c1 T1 (0, 0)) ∧ W.heap[w.heap.size + 2]? = some (.cells c2 T2 (0, 0)) ∧ W.heap[w.heap.size + 3]? = some (.cells c3 T3 (0, 0)) ∧ Below w.heap.size w W := by
  obtain ⟨h0, h1, hb⟩ := two_boxes w T0 T1 c0 c1
  have hz : ((w.alloc (.cells c0 T0)).alloc (.cells c1 T1)).heap.size = w.heap.size + 2 := by rw [World.size_alloc, World.size_alloc]
  generalize (w.alloc (.cells c0 T0)).alloc (.cells c1 T1) = w2 at *
  obtain ⟨h2, h3, hb2⟩ := two_boxes w2 T2 T3 c2 c3
  have hz2 : ((w2.alloc (.cells c2 T2)).alloc (.cells c3 T3)).heap.size = w2.heap.size + 2 := by rw [World.size_alloc, World.size_alloc]
  rw [hz] at h2 h3
  exact ⟨_, rfl, by omega, blk h0 hb2, blk h1 hb2, h2, h3, hb.trans (hb2.mono hb.size)⟩
theorem tail_at {w : World} {b off cap : Nat} {t : Int} {st : List Int} (h : IntsC w (.slice (some ⟨b, off, none⟩) (st.length + 1) cap) (t :: st)) :
    IntsAt w (.slice (some ⟨b, (if cap = 1 then off else off + 1), none⟩) st.length (cap - 1)) st := by
  obtain ⟨b', off', cap', e, -, -, -, h1, h2⟩ := h.form
  simp only [Value.slice.injEq, Option.some.injEq, Addr.mk.injEq] at e
  obtain ⟨⟨rfl, rfl, -⟩, -, rfl⟩ := e
  by_cases hc : cap = 1
  · rw [if_pos hc, h1 hc]
    exact .inl ⟨_, _, rfl, rfl⟩
  · rw [if_neg hc]
    exact h2
end Go.Proofs.YtjanbhodikhdeaaDoor
