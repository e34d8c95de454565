/-
  BitsLaws holds, by contract.
-/
import Derived.Test.YtplfnhnipdfglaaDoorBitH
namespace Go.Proofs.YtplfnhnipdfglaaDoor
open Go.RowKit Go.Extern.Stop Go.Stop Go.Extern

/-- Three sets in boxes of the call's own. -/
structure L3 (w0 : World) (B a a' b b' c c' : Nat) (w : World) : Prop where
  sa : SetAt w B a a'
  sb : SetAt w (B + 1) b b'
  sc : SetAt w (B + 1 + 1) c c'
  below : Below w0.heap.size w0 w
theorem L3.step {w0 : World} {B a a' b b' c c' : Nat} {w w' : World} (h : L3 w0 B a a' b b' c c' w) (hb : Below w.heap.size w w') : L3 w0 B a a' b b' c c' w' :=
  ⟨h.sa.step hb, h.sb.step hb, h.sc.step hb, h.below.trans (hb.mono h.below.size)⟩
theorem L3.start (w : World) (a a' b b' c c' : Nat) : L3 w w.heap.size a a' b b' c c' (((w.alloc (.cells #[.int .u64 (a : Int), .int .u64 (a' : Int)] 26)).alloc (.cells #[.int .u64 (b : Int), .int .u64 (b' : Int)] 26)).alloc (.cells #[.int .u64 (c : Int), .int .u64 (c' : Int)] 26)) := by
  refine ⟨?_, ?_, ?_, ((below_new w _).trans ((below_new _ _).mono (below_new w _).size)).trans ((below_new _ _).mono (by simp; omega))⟩
  · exact ((heap_alloc_old _ _ (by simp; omega)).trans (heap_alloc_old _ _ (by simp))).trans (heap_alloc_new w _)
  · have := heap_alloc_new (w.alloc (.cells #[.int .u64 (a : Int), .int .u64 (a' : Int)] 26)) (.cells #[.int .u64 (b : Int), .int .u64 (b' : Int)] 26)
    rw [World.size_alloc] at this
    exact (heap_alloc_old _ _ (by simp)).trans this
  · have := heap_alloc_new ((w.alloc (.cells #[.int .u64 (a : Int), .int .u64 (a' : Int)] 26)).alloc (.cells #[.int .u64 (b : Int), .int .u64 (b' : Int)] 26)) (.cells #[.int .u64 (c : Int), .int .u64 (c' : Int)] 26)
    rwa [World.size_alloc, World.size_alloc] at this
theorem L3.cells {w0 : World} {B a a' b b' c c' : Nat} {w : World} (h : L3 w0 B a a' b b' c c' w) : w.cell? ⟨B, 0, none⟩ = some (.int .u64 (a : Int)) ∧ w.cell? ⟨B, 1, none⟩ = some (.int .u64 (a' : Int)) ∧
  w.cell? ⟨B + 1, 0, none⟩ = some (.int .u64 (b : Int)) ∧ w.cell? ⟨B + 1, 1, none⟩ = some (.int .u64 (b' : Int)) ∧ w.cell? ⟨B + 1 + 1, 0, none⟩ = some (.int .u64 (c : Int)) ∧ w.cell? ⟨B + 1 + 1, 1, none⟩ = some (.int .u64 (c' : Int)) :=
  ⟨h.sa.cells.1, h.sa.cells.2.1, h.sb.cells.1, h.sb.cells.2.1, h.sc.cells.1, h.sc.cells.2.1⟩

/-! ### What sets come to, plain -/
theorem nor_assoc (a b c : Nat) : a ||| (b ||| c) = a ||| b ||| c := (Nat.or_assoc a b c).symm
theorem nand_assoc (a b c : Nat) : a &&& (b &&& c) = a &&& b &&& c := (Nat.and_assoc a b c).symm
theorem nand_or (a b c : Nat) : a &&& (b ||| c) = a &&& b ||| a &&& c := by apply Nat.eq_of_testBit_eq; intro i; simp [Bool.and_or_distrib_left]
theorem nor_and (a b c : Nat) : a ||| b &&& c = (a ||| b) &&& (a ||| c) := by apply Nat.eq_of_testBit_eq; intro i; simp [Bool.or_and_distrib_left]
theorem less_or {a b : Nat} (ha : U64 a) (hb : U64 b) : lessN a b ||| a &&& b = a := by
  apply Nat.eq_of_testBit_eq; intro i
  rw [Nat.testBit_or, testBit_less ha hb, Nat.testBit_and]
  cases a.testBit i <;> cases b.testBit i <;> rfl
theorem and_under (a b : Nat) : a &&& b &&& a = a &&& b := by apply Nat.eq_of_testBit_eq; intro i; simp; intro h _; exact h
theorem under_or (a b : Nat) : a &&& (a ||| b) = a := by apply Nat.eq_of_testBit_eq; intro i; simp; intro h; exact .inl h
theorem less_and {a b : Nat} (ha : U64 a) (hb : U64 b) : lessN a b &&& b = 0 := by
  apply Nat.eq_of_testBit_eq; intro i
  rw [Nat.testBit_and, testBit_less ha hb]
  cases a.testBit i <;> cases b.testBit i <;> simp

set_option maxRecDepth 100000 in
set_option maxHeartbeats 20000000 in
theorem bitsLaws_any (a a' b b' c c' : Nat) (ha : U64 a) (ha' : U64 a') (hb : U64 b) (hb' : U64 b') (hc : U64 c) (hc' : U64 c') (w : World) (ht : TabB w) :
    Calls Tryd.prog 5 #[setV a a', setV b b', setV c c'] w fun e w' => e = .returned (.bool true) ∧ Below w.heap.size w w' := by
  have H0 := L3.start w a a' b b' c c'
  have HA := Lib.hid (awake7_any _ (ht.below ht.lt H0.below))
  have HH := Lib.hid H0
  have heq := eq_set
  have c1 : b ||| a = a ||| b := Nat.or_comm b a
  have c2 : b' ||| a' = a' ||| b' := Nat.or_comm b' a'
  have c3 : b &&& a = a &&& b := Nat.and_comm b a
  have c4 : b' &&& a' = a' &&& b' := Nat.and_comm b' a'
  have c5 := nor_assoc a b c
  have c6 := nor_assoc a' b' c'
  have c7 := nand_assoc a b c
  have c8 := nand_assoc a' b' c'
  clear H0 ht
  go_enter Tryd.func5, Tryd.ntmps5
  go_wp2_with fail
  refine HA.out.mono ?_
  rintro e w1 ⟨rfl, b1⟩
  have hI := (HH.out.step b1).step (Below.refl _ _).drew
  clear b1 HA HH
  go_wp2_with fail
  have kk := hI.cells
  go_region_held3 (fun w' => w'.cell? ⟨w.heap.size, 0, none⟩ = some (.int .u64 (a : Int)) ∧ w'.cell? ⟨w.heap.size, 1, none⟩ = some (.int .u64 (a' : Int)) ∧ w'.cell? ⟨w.heap.size + 1, 0, none⟩ = some (.int .u64 (b : Int)) ∧ w'.cell? ⟨w.heap.size + 1, 1, none⟩ = some (.int .u64 (b' : Int)) ∧ w'.cell? ⟨w.heap.size + 1 + 1, 0, none⟩ = some (.int .u64 (c : Int)) ∧ w'.cell? ⟨w.heap.size + 1 + 1, 1, none⟩ = some (.int .u64 (c' : Int)))
    (first | exact kk | exact hI.cells)
    (first
    | (go_at_call 20; refine (or_any _ _ _ _ (by repeat (first | assumption | apply U64.or | apply U64.and)) (by repeat (first | assumption | apply U64.or | apply U64.and)) (by repeat (first | assumption | apply U64.or | apply U64.and)) (by repeat (first | assumption | apply U64.or | apply U64.and)) _).mono ?_; rintro e w2 ⟨rfl, b2⟩; replace hI := hI.step b2; clear b2)
    | (go_at_call 21; refine (and_any _ _ _ _ (by repeat (first | assumption | apply U64.or | apply U64.and)) (by repeat (first | assumption | apply U64.or | apply U64.and)) (by repeat (first | assumption | apply U64.or | apply U64.and)) (by repeat (first | assumption | apply U64.or | apply U64.and)) _).mono ?_; rintro e w2 ⟨rfl, b2⟩; replace hI := hI.step b2; clear b2))
  clear c5 c6 c7 c8 kk
  have c9 := nand_or a b c
  have c10 := nand_or a' b' c'
  have c11 := nor_and a b c
  have c12 := nor_and a' b' c'
  have c13 := less_or ha hb
  have c14 := less_or ha' hb'
  have U1 : Hid (sameB (a &&& b &&& a) (a' &&& b' &&& a') (a &&& b) (a' &&& b') = true) := Lib.hid (decide_eq_true ⟨and_under a b, and_under a' b'⟩)
  have U2 : Hid (sameB (a &&& (a ||| b)) (a' &&& (a' ||| b')) a a' = true) := Lib.hid (decide_eq_true ⟨under_or a b, under_or a' b'⟩)
  have U3 : Hid (emptyB (lessN a b &&& b) (lessN a' b' &&& b') = true) := Lib.hid (decide_eq_true ⟨less_and ha hb, less_and ha' hb'⟩)
  go_wp2_with fail
  replace hI := hI.step (Below.refl _ _).drew
  have kk := hI.cells
  go_region_held3 (fun w' => w'.cell? ⟨w.heap.size, 0, none⟩ = some (.int .u64 (a : Int)) ∧ w'.cell? ⟨w.heap.size, 1, none⟩ = some (.int .u64 (a' : Int)) ∧ w'.cell? ⟨w.heap.size + 1, 0, none⟩ = some (.int .u64 (b : Int)) ∧ w'.cell? ⟨w.heap.size + 1, 1, none⟩ = some (.int .u64 (b' : Int)) ∧ w'.cell? ⟨w.heap.size + 1 + 1, 0, none⟩ = some (.int .u64 (c : Int)) ∧ w'.cell? ⟨w.heap.size + 1 + 1, 1, none⟩ = some (.int .u64 (c' : Int)))
    (first | exact kk | exact hI.cells)
    (first
    | (go_at_call 20; refine (or_any _ _ _ _ (by repeat (first | assumption | apply U64.or | apply U64.and | apply U64.less)) (by repeat (first | assumption | apply U64.or | apply U64.and | apply U64.less)) (by repeat (first | assumption | apply U64.or | apply U64.and | apply U64.less)) (by repeat (first | assumption | apply U64.or | apply U64.and | apply U64.less)) _).mono ?_; rintro e w2 ⟨rfl, b2⟩; replace hI := hI.step b2; clear b2)
    | (go_at_call 21; refine (and_any _ _ _ _ (by repeat (first | assumption | apply U64.or | apply U64.and | apply U64.less)) (by repeat (first | assumption | apply U64.or | apply U64.and | apply U64.less)) (by repeat (first | assumption | apply U64.or | apply U64.and | apply U64.less)) (by repeat (first | assumption | apply U64.or | apply U64.and | apply U64.less)) _).mono ?_; rintro e w2 ⟨rfl, b2⟩; replace hI := hI.step b2; clear b2)
    | (go_at_call 23; refine (less_any _ _ _ _ (by repeat (first | assumption | apply U64.or | apply U64.and | apply U64.less)) (by repeat (first | assumption | apply U64.or | apply U64.and | apply U64.less)) (by repeat (first | assumption | apply U64.or | apply U64.and | apply U64.less)) (by repeat (first | assumption | apply U64.or | apply U64.and | apply U64.less)) _).mono ?_; rintro e w2 ⟨rfl, b2⟩; replace hI := hI.step b2; clear b2)
    | (go_at_call 24; refine (under_any _ _ _ _ (by repeat (first | assumption | apply U64.or | apply U64.and | apply U64.less)) (by repeat (first | assumption | apply U64.or | apply U64.and | apply U64.less)) (by repeat (first | assumption | apply U64.or | apply U64.and | apply U64.less)) (by repeat (first | assumption | apply U64.or | apply U64.and | apply U64.less)) _).mono ?_; rintro e w2 ⟨rfl, b2⟩; (first | rw [U1.out] | rw [U2.out]); replace hI := hI.step b2; clear b2)
    | (go_at_call 25; refine (empty_any _ _ _).mono ?_; rintro e w2 ⟨rfl, b2⟩; rw [U3.out]; replace hI := hI.step b2; clear b2))
  go_wp2_with fail
  go_ret
  exact ⟨rfl, hI.below⟩
end Go.Proofs.YtplfnhnipdfglaaDoor
