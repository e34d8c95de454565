/-
  The statement PdsCheck as a walk: whatever the system, the law answers true, and all of old memory stays as it was.
-/
import Derived.Test.YtjanbhodikhdeaaDoorPdR
import Derived.Test.YtjanbhodikhdeaaDoorPdG
namespace Go.Proofs.YtjanbhodikhdeaaDoor
open Go.RowKit Go.Extern.Stop Go.Stop Go.Extern

/-- A system in a law's box, the error's handle at hand. -/
structure LwS (w : World) (C : Nat) (S L : Int) (v : Value) (rs : List Ru) (W : World) : Prop where
  bx : W.heap[C]? = some (.cells #[.int .i64 S, .int .i64 L, v] 24 (0, 0))
  rs : RusAt W v rs
  hg : Handle W
  below : Below w.heap.size w W
theorem LwS.step {w : World} {C : Nat} {S L : Int} {v : Value} {rs : List Ru} {W W' : World} (h : LwS w C S L v rs W) (hb : Below W.heap.size W W') : LwS w C S L v rs W' := ⟨blk h.bx hb, h.rs.step hb, h.hg.below hb, h.below.trans (hb.mono h.below.size)⟩
theorem LwS.start {w : World} (S L : Int) {v : Value} {rs : List Ru} (hr : RusAt w v rs) (hg : Handle w) : LwS w w.heap.size S L v rs (w.alloc (.cells #[.int .i64 S, .int .i64 L, v] 24)) :=
  ⟨heap_alloc_new w _, hr.step (sbelow_new w _), hg.below (sbelow_new w _), sbelow_new w _⟩
theorem Short.mono {rs : List Ru} {a b : Nat} (h : Short rs a) (hab : a ≤ b) : Short rs b := fun i r hr => Nat.le_trans (h i r hr) hab
theorem errIs_any (v : Value) (c a : Int) (w : World) (h : ErrIs w v c a) (hg : Handle w) : Calls Tryd.prog 17 #[v, .int .i64 c, .int .i64 a] w fun e w' => e = .returned (.bool true) ∧ Below w.heap.size w w' := lawIs_err v c a w h hg
end Go.Proofs.YtjanbhodikhdeaaDoor
