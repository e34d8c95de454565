/-
  The document's own run of chapter 21, by contract.
-/
import Derived.Test.YtjanbhodikhdeaaDoorPdO
namespace Go.Proofs.YtjanbhodikhdeaaDoor
open Go.RowKit Go.Extern.Stop Go.Stop Go.Extern

/-- What the document's run answers. -/

def Came (B : Nat) (xa a : Option Addr) (n : Nat) : Prop := ∀ ad, a = some ad → 0 < n → B ≤ ad.block ∨ ∃ a0, xa = some a0 ∧ a0.block = ad.block
def RdOut (xa : Option Addr) (X : Ans) (w : World) (e : Ending) (w' : World) : Prop := ∃ (a : Option Addr) (k : Nat), e = .returned (.tuple #[cfV X.c.1 (.slice a X.c.2.length k), .int .u64 X.n, .int .i64 X.code, .int .i64 X.at_]) ∧ IntsAt w' (.slice a X.c.2.length k) X.c.2 ∧ Came w.heap.size xa a X.c.2.length ∧ Below w.heap.size w w'
/-- A row that lies in old memory, or beyond three blocks. -/
def Off3 (B : Nat) (a : Option Addr) (n : Nat) : Prop := ∀ ad, a = some ad → 0 < n → ad.block < B ∨ B + 3 ≤ ad.block
theorem IntsAt.setOff {w : World} {a : Option Addr} {n k : Nat} {l : List Int} (h : IntsAt w (.slice a n k) l) {B q : Nat} (ho : Off3 B a n) (hq : q = B + 1 ∨ q = B + 2) (j : Nat) (u : Value) : IntsAt (w.setCell ⟨q, j, none⟩ u) (.slice a n k) l := by
  rcases h with h | ⟨b, off, cap, e, hlt, hc⟩
  · exact .inl h
  · by_cases h0 : 0 < l.length
    · have e2 := e
      injection e2 with e3 e4 e5
      have hb := ho _ e3 (by omega)
      have hb' : b < B ∨ B + 3 ≤ b := hb
      refine .inr ⟨b, off, cap, e, by rw [World.size_setCell]; exact hlt, fun i c hi => ?_⟩
      rw [World.cell?_setCell_other _ _ _ _ (by intro e; injection e with e; omega)]
      exact hc i c hi
    · injection e with e3 e4 e5
      exact .inl ⟨a, k, by rw [e4, show l.length = 0 by omega], List.eq_nil_of_length_eq_zero (by omega)⟩
section
variable {w : World} {S L : Int} {xa : Option Addr} {v : Value} {c : Cf} {a : Option Addr} {k : Nat} {W W' : World}
end
end Go.Proofs.YtjanbhodikhdeaaDoor
