/-
  The law's budget of an expression, by contract.
-/
import Derived.Test.YtpccdhkghlbhkaaGreatDoorRxB
namespace Go.Proofs.YtpccdhkghlbhkaaGreatDoor
open Go.RowKit Go.Extern.Stop Go.Stop Go.Extern

theorem w64x (n : Int) (h : -9223372036854775808 ≤ n ∧ n ≤ 9223372036854775807) : wrap64 n = n := by unfold wrap64; omega
theorem drop_at {α : Type} {l : List α} {i : Nat} {x : α} (h : l[i]? = some x) : l.drop i = x :: l.drop (i + 1) := by
  obtain ⟨h1, e1⟩ := List.getElem?_eq_some_iff.1 h
  rw [List.drop_eq_getElem_cons h1, e1]
/-- On the way through the words. -/
def LeftWRel (w : World) (words : List ByteArray) (n0 : Int) (g : Nat) (u v : Value) (wr : World) : Prop :=
  ∃ (i : Nat) (n : Int), i ≤ words.length ∧ g = words.length - i ∧ v = .int .i64 i ∧ u = .int .i64 n ∧ -100001 ≤ n ∧ n ≤ n0 - i ∧ leftW (words.drop i) n = leftW words n0 ∧ Below w.heap.size w wr
/-- On the way through the kids. -/
def LeftERel (w : World) (kids : List Rx) (n0 : Int) (g : Nat) (u v : Value) (wr : World) : Prop :=
  ∃ (i : Nat) (n : Int), i ≤ kids.length ∧ g = kids.length - i ∧ v = .int .i64 i ∧ u = .int .i64 n ∧ -100001 ≤ n ∧ n ≤ n0 - i ∧ leftEs (kids.drop i) n = leftEs kids n0 ∧ Below w.heap.size w wr
end Go.Proofs.YtpccdhkghlbhkaaGreatDoor
