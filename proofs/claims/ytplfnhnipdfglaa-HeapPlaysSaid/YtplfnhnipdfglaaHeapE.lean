/-
  Chapter 8's example holds, by contract; and a heap that is none, and one without things.
-/
import Derived.Test.YtplfnhnipdfglaaHeapD
namespace Go.Proofs.Ytplfnhnipdfglaa
open Go.RowKit Go.Extern.Stop Go.Stop Go.Extern

def sA : ByteArray := ⟨#[97]⟩
def sB : ByteArray := ⟨#[98]⟩
def sC : ByteArray := ⟨#[99]⟩
theorem heap_new (w : World) {α : Type} (enc : α → Value) (TI TH : TypeId) : HpAt enc TI TH w.heap.size (w.alloc (.cells #[.pointer none, .int .i64 0, .int .u64 0] TH)) [] 0 :=
  ⟨none, .nil, heap_alloc_new w _, rfl, Hp.nil, (fun _ h => by cases h), Int.le_refl _⟩
/-- What an own heap turned is new memory alone. -/
theorem below_own {w w1 w2 : World} {B : Nat} (hb : Below w.heap.size w w1) (hB : w.heap.size ≤ B) (hg : w1.grownBy w2 (some B)) : Below w.heap.size w w2 :=
  hb.grown hg hb.size (fun k e => by cases e; exact hB)

set_option maxRecDepth 100000 in
set_option maxHeartbeats 4000000 in
theorem awake8_any (w : World) : Calls Try.prog 6 #[] w fun e w' => e = .returned (.bool true) ∧ Below w.heap.size w w' := by
  have H0 := Lib.hid (heap_new w encS 50 27)
  have B0 := Lib.hid (below_new w (.cells #[.pointer none, .int .i64 0, .int .u64 0] 27))
  have P1 := Lib.hid (fun W h => putS_any (B := w.heap.size) (q := []) (n := 0) 5 sA 0 W h (by decide) (by decide) (fun y hy => by cases hy) (fun y hy => by cases hy))
  have P2 := Lib.hid (fun W h => putS_any (B := w.heap.size) (q := [⟨5, 0, sA⟩]) (n := 0 + 1) 3 sB 0 W h (by decide) (by decide) (fun y hy => by cases hy) (fun y hy => by simp at hy; subst hy; decide))
  have P3 := Lib.hid (fun W h => putS_any (B := w.heap.size) (q := [⟨3, 1, sB⟩, ⟨5, 0, sA⟩]) (n := 1 + 1) 5 sC 2 W h (by decide) (by decide) (fun y hy => by simp at hy; rcases hy with rfl | rfl <;> decide) (fun y hy => by cases hy))
  have T1 := Lib.hid (fun W n h => takeS_some (B := w.heap.size) (e := ⟨3, 1, sB⟩) (q := [⟨5, 0, sA⟩, ⟨5, 2, sC⟩]) (n := n) W h (by decide))
  have T2 := Lib.hid (fun W n h => takeS_some (B := w.heap.size) (e := ⟨5, 0, sA⟩) (q := [⟨5, 2, sC⟩]) (n := n) W h (by decide))
  have L1 := Lib.hid (fun W n h => lenS_any (B := w.heap.size) (q := [⟨5, 2, sC⟩]) (n := n) W h)
  have eA : sA.toList = [97] := by rw [Go.ByteArray.toList_eq]; rfl
  have eB : sB.toList = [98] := by rw [Go.ByteArray.toList_eq]; rfl
  go_enter Try.func6, Try.ntmps6
  go_wp2_with fail
  refine (P1.out _ H0.out).mono ?_
  rintro e w1 ⟨⟨v1, rfl⟩, h1, g1⟩
  have B1 := Lib.hid (below_own B0.out (Nat.le_refl _) g1)
  have H1 := Lib.hid h1
  clear h1 g1 B0 H0 P1
  go_wp2_with fail
  refine (P2.out _ H1.out).mono ?_
  rintro e w2 ⟨⟨v2, rfl⟩, h2, g2⟩
  have B2 := Lib.hid (below_own B1.out (Nat.le_refl _) g2)
  have H2 := Lib.hid h2
  clear h2 g2 B1 H1 P2
  go_wp2_with fail
  refine (P3.out _ H2.out).mono ?_
  rintro e w3 ⟨⟨v3, rfl⟩, h3, g3⟩
  have B3 := Lib.hid (below_own B2.out (Nat.le_refl _) g3)
  have H3 := Lib.hid h3
  clear h3 g3 B2 H2 P3
  go_wp2_with fail
  refine (T1.out _ _ H3.out).mono ?_
  rintro e w4 ⟨rfl, ⟨n4, -, h4⟩, g4⟩
  have B4 := Lib.hid (below_own B3.out (Nat.le_refl _) g4)
  have H4 := Lib.hid h4
  clear h4 g4 B3 H3 T1
  go_wp2_with fail
  refine (T2.out _ _ H4.out).mono ?_
  rintro e w5 ⟨rfl, ⟨n5, -, h5⟩, g5⟩
  have B5 := Lib.hid (below_own B4.out (Nat.le_refl _) g5)
  have H5 := Lib.hid h5
  clear h5 g5 B4 H4 T2
  go_wp2_with fail
  refine (L1.out _ _ H5.out).mono ?_
  rintro e w6 ⟨rfl, rfl⟩
  go_wp2_with fail
  go_ret
  exact ⟨rfl, B5.out⟩

set_option maxRecDepth 100000 in
set_option maxHeartbeats 4000000 in
theorem heapNil_any (w : World) : Calls Try.prog 5 #[] w fun e w' => e = .returned (.bool true) ∧ Below w.heap.size w w' := by
  have HA := Lib.hid (awake8_any w)
  have N1 := Lib.hid (fun W => putS_nil 1 sA W)
  have N2 := Lib.hid (fun W => takeS_nil W)
  have N3 := Lib.hid (fun W => peekS_nil W)
  have N4 := Lib.hid (fun W => lenS_nil W)
  have N5 := Lib.hid (fun B n W h => takeS_none (B := B) (n := n) W h)
  have N6 := Lib.hid (fun B n W h => lenS_any (B := B) (q := []) (n := n) W h)
  go_enter Try.func5, Try.ntmps5
  go_wp2_with fail
  refine HA.out.mono ?_
  rintro e w1 ⟨rfl, b1⟩
  have B1 := Lib.hid b1
  clear b1 HA
  go_wp2_with fail
  refine (N1.out _).mono ?_
  rintro e w2 ⟨⟨v2, rfl⟩, rfl⟩
  go_wp2_with fail
  refine (N2.out _).mono ?_
  rintro e w3 ⟨rfl, rfl⟩
  go_wp2_with fail
  refine (N3.out _).mono ?_
  rintro e w4 ⟨rfl, rfl⟩
  go_wp2_with fail
  have HN := Lib.hid (heap_new w1 encS 50 27)
  refine (N5.out _ _ _ HN.out).mono ?_
  rintro e w5 ⟨rfl, rfl⟩
  go_wp2_with fail
  refine (N4.out _).mono ?_
  rintro e w6 ⟨rfl, rfl⟩
  go_wp2_with fail
  refine (N6.out _ _ _ HN.out).mono ?_
  rintro e w7 ⟨rfl, rfl⟩
  go_wp2_with fail
  go_ret
  exact ⟨rfl, B1.out.trans ((below_new w1 _).mono B1.out.size)⟩
end Go.Proofs.Ytplfnhnipdfglaa
