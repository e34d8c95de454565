/-
  Chapter 21's laws: a configuration in a box, and the error beside it; two rows side by side; a region that draws where three operations may come first.
-/
import Derived.Test.YtjanbhodikhdeaaDoorPdR
import Derived.Test.YtjanbhodikhdeaaDoorConI
namespace Go.Proofs.YtjanbhodikhdeaaDoor
open Go.RowKit Go.Extern.Stop Go.Stop Go.Extern

/-- A configuration in a box, and the error beside it. -/
structure CfS (Z : Nat) (X : Ans) (v er : Value) (W : World) : Prop where
  box : W.heap[Z]? = some (.cells #[.int .i64 X.c.1, v] 27 (0, 0))
  ii : IntsAt W v X.c.2
  er : ErrIs W er X.code X.at_
theorem CfS.step {Z : Nat} {X : Ans} {v er : Value} {W W' : World} (h : CfS Z X v er W) (hb : Below W.heap.size W W') : CfS Z X v er W' := ⟨blk h.box hb, h.ii.step hb, h.er.keep hb⟩
theorem IntsAt.setNe {w : World} {a : Option Addr} {n k : Nat} {l : List Int} (h : IntsAt w (.slice a n k) l) {q : Nat} (ho : ∀ ad, a = some ad → 0 < n → ad.block ≠ q) (j : Nat) (u : Value) : IntsAt (w.setCell ⟨q, j, none⟩ u) (.slice a n k) l := by
  rcases h with h | ⟨b, off, cap, e, hlt, hc⟩
  · exact .inl h
  · have e2 := e
    injection e2 with e3 e4 e5
    refine .inr ⟨b, off, cap, e, by rw [World.size_setCell]; exact hlt, fun i c hi => ?_⟩
    have hi' := (List.getElem?_eq_some_iff.1 hi).1
    have hb : b ≠ q := ho _ e3 (by omega)
    rw [World.cell?_setCell_other _ _ _ _ (by intro e; injection e with e; omega)]
    exact hc i c hi
theorem sameC_same (s : Int) (l : List Int) : sameC s s l l = true := by unfold sameC; simp
/-- Two rows, side by side, and what they come to. -/
theorem catI_any (z1 z2 : List Int) (v1 v2 : Value) (W : World) (h1 : IntsAt W v1 z1) (h2 : IntsAt W v2 z2) (l1 : z1.length ≤ 400) (l2 : z2.length ≤ 400) :
    Calls Tryd.prog 8 #[.slice (some ⟨W.heap.size, 0, none⟩) 2 2] (W.alloc (.cells #[v1, v2] 25)).drew fun e w' => ∃ a c, e = .returned (.slice a (z1.length + z2.length) c) ∧ IntsAt w' (.slice a (z1.length + z2.length) c) (z1 ++ z2) ∧ Below W.heap.size W w' := by
  have hn : (W.alloc (.cells #[v1, v2] 25)).drew.heap[W.heap.size]? = some (.cells #[v1, v2] 25 (0, 0)) := heap_alloc_new W (.cells #[v1, v2] 25)
  have hbn := (sbelow_new W (.cells #[v1, v2] 25)).drew
  refine (concatI_any W.heap.size v1 v2 z1 z2 _ (blt hn) (cells2 hn).1 (cells2 hn).2 (h1.step hbn) (h2.step hbn) l1 l2).mono ?_
  rintro e w' ⟨sl, rfl, hown, b2⟩
  obtain ⟨a, c, rfl⟩ := row_slice hown
  exact ⟨a, c, rfl, IntsAt.own hown (by rw [List.length_append]), hbn.trans (b2.mono hbn.size)⟩
theorem wpT_three {P : Program} {ops : Array Oper} {Q : Exit → Act → World → Prop} {md : Region.Mode} {S : World → Prop} {n : Nat} {i j k : Nat} {oi oj ok : Oper} {fuel : Nat} {listed : Array Bool} {a : Act} {w : World} (hr : Region.ready md ops listed = [i, j, k]) (hi : ops[i]? = some oi) (hj : ops[j]? = some oj) (hk : ops[k]? = some ok)
    (h : (∀ K : Act → World → Prop, (∀ a' w', ((i < n → S w') ∧ wpT P md ops Q S n fuel (listed.setIfInBounds i true) a' w') → K a' w') → if Region.wanted oi (yielded ops a.tmps) = true then Oper.wp P oi a w K Q else K (a.put oi.dst undef) w))
    (h' : (∀ K : Act → World → Prop, (∀ a' w', ((j < n → S w') ∧ wpT P md ops Q S n fuel (listed.setIfInBounds j true) a' w') → K a' w') → if Region.wanted oj (yielded ops a.tmps) = true then Oper.wp P oj a w K Q else K (a.put oj.dst undef) w))
    (h'' : (∀ K : Act → World → Prop, (∀ a' w', ((k < n → S w') ∧ wpT P md ops Q S n fuel (listed.setIfInBounds k true) a' w') → K a' w') → if Region.wanted ok (yielded ops a.tmps) = true then Oper.wp P ok a w K Q else K (a.put ok.dst undef) w)) :
    wpT P md ops Q S n (fuel + 1) listed a w :=
  ⟨fun h0 => (by rw [hr] at h0; cases h0), fun l hl => by
    rw [hr] at hl
    rcases List.mem_cons.1 hl with rfl | hl
    · exact wpOp_step hi h
    · rcases List.mem_cons.1 hl with rfl | hl
      · exact wpOp_step hj h'
      · obtain rfl := List.mem_singleton.1 hl
        exact wpOp_step hk h''⟩
end Go.Proofs.YtjanbhodikhdeaaDoor
