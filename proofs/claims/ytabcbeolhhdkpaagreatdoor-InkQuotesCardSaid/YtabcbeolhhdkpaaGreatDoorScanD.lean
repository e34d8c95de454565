/-
  scan.IsName, and the reference of layer 3, by contracts.
-/
import Derived.Test.YtabcbeolhhdkpaaGreatDoorScanC
import Derived.Test.YtabcbeolhhdkpaaGreatDoorRPar
namespace Go.Proofs.YtabcbeolhhdkpaaGreatDoor
open Go.RowKit Go.Extern.Stop Go.Stop Go.Extern

theorem sbelow_drewN (w : World) (n : Nat) : Below w.heap.size w (w.drewN n) := ⟨rfl, rfl, rfl, Nat.le_refl _, fun _ _ => rfl⟩

/-- Is a text a name? -/
def isNameR (s : ByteArray) : Bool := (nameC s 0 == 0) && (nameK s 0 == s.size)
def isNameB (s : ByteArray) : Bool := decide (s.size ≤ 65536) && isNameR s
theorem isNameB_eq {s : ByteArray} (h : s.size ≤ 65536) : isNameB s = isNameR s := by unfold isNameB; rw [decide_eq_true h]; rfl

theorem ErrIs.ptr {w : World} {v : Value} {c a : Int} (h : ErrIs w v c a) (h0 : c ≠ 0) : ∃ fb, v = .iface 68 (.pointer (some ⟨fb, 0, none⟩)) := by
  rcases h with ⟨rfl, -⟩ | ⟨-, fb, e, -⟩
  · exact absurd rfl h0
  · exact ⟨fb, e⟩

/-! ### The reference -/
end Go.Proofs.YtabcbeolhhdkpaaGreatDoor
