/-
  Rows of the call's own that stand as they stood: behind calls, behind an append to a row of another element type, behind a store into another block.
-/
import Derived.Test.YtjanbhodikhdeaaDoorProg
import Derived.Below
import Derived.Laws.OwnMore
import Derived.Laws.Rows
namespace Go.Proofs.YtjanbhodikhdeaaDoor
open Go.RowKit Go.Extern.Stop Go.Stop Go.Extern

/-- Rows of another element type stand as they stood. -/
def Surv (B : Nat) (T : TypeId) (w w' : World) : Prop := ∀ (k : Nat) (cur : Array Value) (e : TypeId), B ≤ k → w.heap[k]? = some (.cells cur e (0, 0)) → e ≠ T → w'.heap[k]? = some (.cells cur e (0, 0))
theorem Surv.below {B : Nat} {T : TypeId} {w w' : World} (h : Below w.heap.size w w') : Surv B T w w' := fun k _ _ _ hk _ => (h.block k (Array.getElem?_eq_some_iff.1 hk).1).trans hk
theorem Surv.grown {B B0 : Nat} {T : TypeId} {sz n : Nat} {v : Value} {xs : List Value} {w w' : World} (h : w.ownsRow B0 T sz v n xs) (hg : w.grownBy w' v.ownBlock) : Surv B T w w' := by
  intro k cur e _ hk hne
  refine (hg.block k (Array.getElem?_eq_some_iff.1 hk).1 ?_).trans hk
  intro hv
  rcases h.2 with ⟨rfl, -⟩ | ⟨g, cap, cur', rfl, -, h1, -⟩
  · cases hv
  · have e2 : k = g := by injection hv
    subst e2
    rw [hk] at h1
    injection h1 with h1
    injection h1 with _ h1
    exact hne h1
theorem Surv.setCell {B : Nat} {T : TypeId} {w : World} {q : Addr} (hq : q.block < B) (v : Value) : Surv B T w (w.setCell q v) := fun k _ _ hB hk _ => (heap_setCell_other w q k v (by omega)).trans hk
theorem Surv.trans {B : Nat} {T : TypeId} {a b c : World} (h : Surv B T a b) (h' : Surv B T b c) : Surv B T a c := fun k cur e hB hk hne => h' k cur e hB (h k cur e hB hk hne) hne
theorem ownsRow_surv {B : Nat} {T e : TypeId} {sz n : Nat} {v : Value} {xs : List Value} {w w' : World} (h : w.ownsRow B e sz v n xs) (hs : Surv B T w w') (hne : e ≠ T) : w'.ownsRow B e sz v n xs := by
  refine ⟨h.1, ?_⟩
  rcases h.2 with h0 | ⟨g, cap, cur, e1, hB, h1, rest⟩
  · exact .inl h0
  · exact .inr ⟨g, cap, cur, e1, hB, hs g cur e hB h1 hne, rest⟩
theorem ownsRow_lower {B B' : Nat} {e : TypeId} {sz n : Nat} {v : Value} {xs : List Value} {w : World} (h : w.ownsRow B e sz v n xs) (hB : B' ≤ B) : w.ownsRow B' e sz v n xs := by
  refine ⟨h.1, ?_⟩
  rcases h.2 with h0 | ⟨g, cap, cur, e1, hg, rest⟩
  · exact .inl h0
  · exact .inr ⟨g, cap, cur, e1, Nat.le_trans hB hg, rest⟩
end Go.Proofs.YtjanbhodikhdeaaDoor
