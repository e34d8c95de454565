/-
  Layer 7, plain: the bits of a number, how many they are, the lowest of them; sets of two words, and what they come to. No program in it.
  Package bits by contracts, first part: Or, And, Less, the set of one number, the count of bits.
  Package bits by contracts, second part: Has, With, Without, Under, Empty, Len, Of, Upto.
  Package bits by contracts, third part: Of and Upto.
  Package bits by contracts, fourth part: the lowest bit's number, and what All hands a loop, one by one.
  Package bits by contracts, fifth part: All, First, List.
  Package bits by contracts, sixth part: List.
  Chapter 7's example holds, by contract.
-/
import Derived.Test.YtlcpbfklnjlgnaaGreatDoorProg
import Derived.Below
import Derived.WalkKit
import Derived.WalkLawsBesides
import Derived.Deep.LoopGhost
import Derived.Lib.Hide
import Derived.Outline
import Derived.Laws.BitsAllLaws
import Derived.IntWalk
import Derived.Laws.Bits128
import Derived.Deep.QuietTactic
import Derived.BigQuiet
import Derived.StillTailTactics
import Derived.Deep.RegionHeld3
import Derived.Shelf.Spec.TrailingZeros
import Derived.RangeFuncNested
import Derived.RangeFuncBound
import Derived.RangeFuncCalls
import Derived.RangeFuncLeaves
import Derived.Shelf.Abstract
import Derived.Shelf.RegionOpen
import Derived.OwnWalkIn
import Derived.TacticsInMore
import Derived.LoopNIn
import Derived.LoopIn
import Derived.RangeFuncBox
import Derived.Maps.AppendAt
namespace Go.Proofs.YtlcpbfklnjlgnaaGreatDoor
open Go

theorem and_rec (k q r q' r' : Nat) (h : r < 2 ^ k) (h' : r' < 2 ^ k) : (2 ^ k * q + r) &&& (2 ^ k * q' + r') = 2 ^ k * (q &&& q') + (r &&& r') := by
  apply Nat.eq_of_testBit_eq
  intro i
  rw [Nat.testBit_and, Nat.testBit_two_pow_mul_add _ h, Nat.testBit_two_pow_mul_add _ h', Nat.testBit_two_pow_mul_add _ (Nat.and_lt_two_pow _ h')]
  split <;> simp

/-- The bits of a number below so many, rising. -/
def bitsOf (n x : Nat) : List Nat := (List.range n).filter x.testBit

def mk (B r : Nat) : Nat → Nat
  | 0 => 0
  | n + 1 => B * mk B r n + r
def dsum (B : Nat) : Nat → Nat → Nat
  | 0, _ => 0
  | n + 1, x => x % B + dsum B n (x / B)
def dle (B m : Nat) : Nat → Nat → Prop
  | 0, _ => True
  | n + 1, x => x % B ≤ m ∧ dle B m n (x / B)

theorem dsum_s (B n x : Nat) : dsum B (n + 1) x = x % B + dsum B n (x / B) := rfl
theorem ones_step (n x : Nat) : (bitsOf (n + 1) x).length = x % 2 + (bitsOf n (x / 2)).length := by
  unfold bitsOf
  rw [List.range_succ_eq_map, List.filter_cons]
  have e : ((List.map Nat.succ (List.range n)).filter x.testBit).length = ((List.range n).filter (x / 2).testBit).length := by
    rw [List.filter_map, List.length_map]
    congr 1
    apply List.filter_congr
    intro i _
    simp [Function.comp, Nat.testBit_succ]
  rcases Nat.mod_two_eq_zero_or_one x with h | h
  · have : x.testBit 0 = false := by simp [Nat.testBit_zero, h]
    rw [this]; simp only [Bool.false_eq_true, if_false]; rw [e, h]; omega
  · have : x.testBit 0 = true := by simp [Nat.testBit_zero, h]
    rw [this]; simp only [if_true, List.length_cons]; rw [e, h]; omega

def f1 (n x : Nat) : Nat := (x / 2 &&& mk 4 1 n) + (x &&& mk 4 1 n)
theorem and_one' (r : Nat) : r &&& 1 = r % 2 := by exact Nat.and_two_pow_sub_one_eq_mod r 1
theorem and_three (r : Nat) : r &&& 3 = r % 4 := by have := Nat.and_two_pow_sub_one_eq_mod r 2; simpa using this
theorem and_fifteen (r : Nat) : r &&& 15 = r % 16 := by have := Nat.and_two_pow_sub_one_eq_mod r 4; simpa using this
theorem f1_step (n x : Nat) : f1 (n + 1) x = 4 * f1 n (x / 4) + (x % 4 / 2 + x % 2) := by
  unfold f1
  have e1 : x / 2 = 2 ^ 2 * (x / 4 / 2) + (2 * (x / 4 % 2) + x % 4 / 2) := by omega
  have e2 : x = 2 ^ 2 * (x / 4) + x % 4 := by omega
  have m : mk 4 1 (n + 1) = 2 ^ 2 * mk 4 1 n + 1 := rfl
  have a1 := and_rec 2 (x / 4 / 2) (2 * (x / 4 % 2) + x % 4 / 2) (mk 4 1 n) 1 (by omega) (by omega)
  have a2 := and_rec 2 (x / 4) (x % 4) (mk 4 1 n) 1 (by omega) (by omega)
  rw [← e1, ← m, and_one'] at a1
  rw [← e2, ← m, and_one'] at a2
  rw [a1, a2]
  omega
theorem f1_sum : ∀ n x : Nat, dsum 4 n (f1 n x) = (bitsOf (2 * n) x).length ∧ dle 4 2 n (f1 n x)
  | 0, x => ⟨rfl, trivial⟩
  | n + 1, x => by
    obtain ⟨h1, h2⟩ := f1_sum n (x / 4)
    have e := f1_step n x
    have m : f1 (n + 1) x % 4 = x % 4 / 2 + x % 2 := by omega
    have d : f1 (n + 1) x / 4 = f1 n (x / 4) := by omega
    constructor
    · unfold dsum
      rw [m, d, h1, show 2 * (n + 1) = 2 * n + 1 + 1 by omega, ones_step, ones_step, show x / 2 / 2 = x / 4 by omega]
      omega
    · unfold dle
      rw [m, d]
      exact ⟨by omega, h2⟩

def f2 (n x : Nat) : Nat := (x / 4 &&& mk 16 3 n) + (x &&& mk 16 3 n)
theorem f2_step (n x : Nat) : f2 (n + 1) x = 16 * f2 n (x / 16) + (x % 16 / 4 + x % 4) := by
  unfold f2
  have e1 : x / 4 = 2 ^ 4 * (x / 16 / 4) + (4 * (x / 16 % 4) + x % 16 / 4) := by omega
  have e2 : x = 2 ^ 4 * (x / 16) + x % 16 := by omega
  have m : mk 16 3 (n + 1) = 2 ^ 4 * mk 16 3 n + 3 := rfl
  have a1 := and_rec 4 (x / 16 / 4) (4 * (x / 16 % 4) + x % 16 / 4) (mk 16 3 n) 3 (by omega) (by omega)
  have a2 := and_rec 4 (x / 16) (x % 16) (mk 16 3 n) 3 (by omega) (by omega)
  rw [← e1, ← m, and_three] at a1
  rw [← e2, ← m, and_three] at a2
  rw [a1, a2]
  omega
theorem f2_sum : ∀ n x : Nat, dle 4 2 (2 * n) x → dsum 16 n (f2 n x) = dsum 4 (2 * n) x ∧ dle 16 4 n (f2 n x)
  | 0, x, _ => ⟨rfl, trivial⟩
  | n + 1, x, h => by
    rw [show 2 * (n + 1) = 2 * n + 1 + 1 by omega] at h ⊢
    unfold dle dle at h
    rw [show x / 4 / 4 = x / 16 by omega] at h
    obtain ⟨g1, g2, g3⟩ := h
    obtain ⟨h1, h2⟩ := f2_sum n (x / 16) g3
    have e := f2_step n x
    have m : f2 (n + 1) x % 16 = x % 16 / 4 + x % 4 := by omega
    have d : f2 (n + 1) x / 16 = f2 n (x / 16) := by omega
    constructor
    · rw [dsum_s, m, d, h1, dsum_s, dsum_s, show x / 4 / 4 = x / 16 by omega]
      omega
    · unfold dle
      rw [m, d]
      exact ⟨by omega, h2⟩

def f3 (n x : Nat) : Nat := (x / 16 + x) &&& mk 256 15 n
theorem f3_step (n x : Nat) (h : dle 16 4 (2 * (n + 1)) x) (hx : x < 256 ^ (n + 1)) : f3 (n + 1) x = 256 * f3 n (x / 256) + (x % 256 / 16 + x % 16) := by
  unfold f3
  rw [show 2 * (n + 1) = 2 * n + 1 + 1 by omega] at h
  unfold dle dle at h
  obtain ⟨g1, g2, g3⟩ := h
  rw [show x / 16 / 16 = x / 256 by omega] at g3
  have g4 : x / 256 % 16 ≤ 4 := by
    cases n with
    | zero => omega
    | succ n => rw [show 2 * (n + 1) = 2 * n + 1 + 1 by omega] at g3; unfold dle at g3; exact g3.1
  have e1 : x / 16 + x = 2 ^ 8 * (x / 256 / 16 + x / 256) + (16 * (x / 256 % 16) + x % 256 / 16 + x % 256) := by omega
  have m : mk 256 15 (n + 1) = 2 ^ 8 * mk 256 15 n + 15 := rfl
  have a1 := and_rec 8 (x / 256 / 16 + x / 256) (16 * (x / 256 % 16) + x % 256 / 16 + x % 256) (mk 256 15 n) 15 (by omega) (by omega)
  rw [← e1, ← m, and_fifteen] at a1
  have hh : x % 256 / 16 = x / 16 % 16 := by omega
  have hm : (16 * (x / 256 % 16) + x % 256 / 16 + x % 256) % 16 = x % 256 / 16 + x % 16 := by
    have : x % 256 = 16 * (x % 256 / 16) + x % 16 := by omega
    rw [this]
    omega
  rw [a1, hm]
theorem f3_sum : ∀ n x : Nat, dle 16 4 (2 * n) x → x < 256 ^ n → dsum 256 n (f3 n x) = dsum 16 (2 * n) x ∧ dle 256 8 n (f3 n x)
  | 0, x, _, _ => ⟨rfl, trivial⟩
  | n + 1, x, h, hx => by
    have e := f3_step n x h hx
    rw [show 2 * (n + 1) = 2 * n + 1 + 1 by omega] at h ⊢
    unfold dle dle at h
    rw [show x / 16 / 16 = x / 256 by omega] at h
    obtain ⟨g1, g2, g3⟩ := h
    obtain ⟨h1, h2⟩ := f3_sum n (x / 256) g3 (by rw [Nat.pow_succ] at hx; exact Nat.div_lt_of_lt_mul (by omega))
    have m : f3 (n + 1) x % 256 = x % 256 / 16 + x % 16 := by omega
    have d : f3 (n + 1) x / 256 = f3 n (x / 256) := by omega
    constructor
    · rw [dsum_s, m, d, h1, dsum_s, dsum_s, show x / 16 / 16 = x / 256 by omega]
      omega
    · unfold dle
      rw [m, d]
      exact ⟨by omega, h2⟩

theorem dsum_mk : mk 4 1 32 = 0x5555555555555555 ∧ mk 16 3 16 = 0x3333333333333333 ∧ mk 256 15 8 = 0x0f0f0f0f0f0f0f0f := by decide

theorem last_sum (y : Nat) (h : dle 256 8 8 y) (hy : y ≤ 0x0f0f0f0f0f0f0f0f) : (y + y / 256 + (y + y / 256) / 65536 + (y + y / 256 + (y + y / 256) / 65536) / 4294967296) % 128 = dsum 256 8 y := by
  simp only [dle] at h
  simp only [dsum]
  obtain ⟨c0, c1, c2, c3, c4, c5, c6, c7, -⟩ := h
  generalize f1 : y / 256 = y1 at *
  generalize f2 : y1 / 256 = y2 at *
  generalize f3 : y2 / 256 = y3 at *
  generalize f4 : y3 / 256 = y4 at *
  generalize f5 : y4 / 256 = y5 at *
  generalize f6 : y5 / 256 = y6 at *
  generalize f7 : y6 / 256 = y7 at *
  generalize e0 : y % 256 = d0 at *
  generalize e1 : y1 % 256 = d1 at *
  generalize e2 : y2 % 256 = d2 at *
  generalize e3 : y3 % 256 = d3 at *
  generalize e4 : y4 % 256 = d4 at *
  generalize e5 : y5 % 256 = d5 at *
  generalize e6 : y6 % 256 = d6 at *
  have g0 : y = d0 + 256 * y1 := by omega
  have g1 : y1 = d1 + 256 * y2 := by omega
  have g2 : y2 = d2 + 256 * y3 := by omega
  have g3 : y3 = d3 + 256 * y4 := by omega
  have g4 : y4 = d4 + 256 * y5 := by omega
  have g5 : y5 = d5 + 256 * y6 := by omega
  have g6 : y6 = d6 + 256 * y7 := by omega
  have k7 : y7 % 256 = y7 := Nat.mod_eq_of_lt (by omega)
  rw [k7] at c7 ⊢
  clear e0 e1 e2 e3 e4 e5 e6 f1 f2 f3 f4 f5 f6 f7 k7
  obtain ⟨z, hz⟩ : ∃ z, z = y + y1 := ⟨_, rfl⟩
  rw [← hz]
  have z1 : z / 65536 = (d2 + d3) + 256 * ((d3 + d4) + 256 * ((d4 + d5) + 256 * ((d5 + d6) + 256 * ((d6 + y7) + 256 * y7)))) := by omega
  obtain ⟨t, ht⟩ : ∃ t, t = z + z / 65536 := ⟨_, rfl⟩
  rw [← ht]
  have t1 : t / 4294967296 = (d4 + d5 + d6 + y7) + 256 * ((d5 + d6 + y7) + 256 * ((d6 + y7) + 256 * y7)) := by omega
  omega

/-- The count of bits, as package math/bits reckons it. -/
theorem ones64 (x : Nat) :
    ∃ x1 x2 x3 : Nat, x1 = (x / 2 &&& 0x5555555555555555) + (x &&& 0x5555555555555555) ∧ x2 = (x1 / 4 &&& 0x3333333333333333) + (x1 &&& 0x3333333333333333) ∧ x3 = (x2 / 16 + x2) &&& 0x0f0f0f0f0f0f0f0f ∧
      x1 < 18446744073709551616 ∧ x2 ≤ 0x6666666666666666 ∧ x3 ≤ 0x0f0f0f0f0f0f0f0f ∧
      (x3 + x3 / 256 + (x3 + x3 / 256) / 65536 + (x3 + x3 / 256 + (x3 + x3 / 256) / 65536) / 4294967296) % 128 = (bitsOf 64 x).length := by
  obtain ⟨m1, m2, m3⟩ := dsum_mk
  obtain ⟨a1, b1⟩ := f1_sum 32 x
  obtain ⟨a2, b2⟩ := f2_sum 16 (f1 32 x) b1
  have l2 : f2 16 (f1 32 x) ≤ 0x6666666666666666 := by
    unfold f2; rw [m2]
    have := @Nat.and_le_right (f1 32 x / 4) 0x3333333333333333
    have := @Nat.and_le_right (f1 32 x) 0x3333333333333333
    omega
  obtain ⟨a3, b3⟩ := f3_sum 8 (f2 16 (f1 32 x)) b2 (by omega)
  have e1 : f1 32 x = (x / 2 &&& 0x5555555555555555) + (x &&& 0x5555555555555555) := by unfold f1; rw [m1]
  refine ⟨f1 32 x, f2 16 (f1 32 x), f3 8 (f2 16 (f1 32 x)), e1, by unfold f2; rw [m2], by unfold f3; rw [m3], ?_, l2, ?_, ?_⟩
  · rw [e1]
    have := @Nat.and_le_right (x / 2) 0x5555555555555555
    have := @Nat.and_le_right x 0x5555555555555555
    omega
  · unfold f3; rw [m3]; exact Nat.and_le_right
  · have l3 : f3 8 (f2 16 (f1 32 x)) ≤ 0x0f0f0f0f0f0f0f0f := by unfold f3; rw [m3]; exact Nat.and_le_right
    rw [last_sum _ b3 l3, a3]
    exact a2.trans a1

/-! ### The lowest bit -/
theorem low_and (k m : Nat) : 2 ^ k * (2 * m + 1) &&& (2 ^ k * (2 * m + 1) - 1) = 2 ^ (k + 1) * m := by
  have hp : 0 < 2 ^ k := Nat.two_pow_pos k
  have e1 : 2 ^ k * (2 * m + 1) = 2 ^ (k + 1) * m + 2 ^ k := by rw [Nat.pow_succ, Nat.mul_add, Nat.mul_one, Nat.mul_assoc]
  have e2 : 2 ^ (k + 1) * m + 2 ^ k - 1 = 2 ^ (k + 1) * m + (2 ^ k - 1) := by omega
  have l : 2 ^ k < 2 ^ (k + 1) := by rw [Nat.pow_succ]; omega
  rw [e1, e2, and_rec (k + 1) m (2 ^ k) m (2 ^ k - 1) l (by omega), Nat.and_self, Nat.and_two_pow_sub_one_eq_mod, Nat.mod_self, Nat.add_zero]
theorem low_bit (k m i : Nat) : (2 ^ k * (2 * m + 1)).testBit i = if i < k + 1 then decide (k = i) else m.testBit (i - (k + 1)) := by
  have e1 : 2 ^ k * (2 * m + 1) = 2 ^ (k + 1) * m + 2 ^ k := by rw [Nat.pow_succ, Nat.mul_add, Nat.mul_one, Nat.mul_assoc]
  have l : 2 ^ k < 2 ^ (k + 1) := by have := Nat.two_pow_pos k; rw [Nat.pow_succ]; omega
  rw [e1, Nat.testBit_two_pow_mul_add _ l, Nat.testBit_two_pow]
theorem low_rest (k m i : Nat) : (2 ^ (k + 1) * m).testBit i = if i < k + 1 then false else m.testBit (i - (k + 1)) := by
  have := Nat.testBit_two_pow_mul_add m (Nat.two_pow_pos (k + 1)) i
  rw [Nat.add_zero] at this
  rw [this]
  split <;> simp
theorem bitsOf_zero (n : Nat) : bitsOf n 0 = [] := by
  unfold bitsOf
  rw [List.filter_eq_nil_iff]
  simp
theorem bitsOf_low (n k m : Nat) (h : k < n) : bitsOf n (2 ^ k * (2 * m + 1)) = k :: bitsOf n (2 ^ (k + 1) * m) := by
  obtain ⟨r, rfl⟩ : ∃ r, n = k + (1 + r) := ⟨n - k - 1, by omega⟩
  unfold bitsOf
  rw [List.range_add, List.range_add, List.filter_append, List.filter_append]
  have n1 : (List.range k).filter (2 ^ k * (2 * m + 1)).testBit = [] := by
    rw [List.filter_eq_nil_iff]
    intro i hi
    rw [List.mem_range] at hi
    rw [low_bit, if_pos (by omega)]
    simp; omega
  have n2 : (List.range k).filter (2 ^ (k + 1) * m).testBit = [] := by
    rw [List.filter_eq_nil_iff]
    intro i hi
    rw [List.mem_range] at hi
    rw [low_rest, if_pos (by omega)]
    simp
  rw [n1, n2, List.nil_append, List.nil_append, show List.range 1 = [0] from rfl, List.map_append, List.filter_append, List.filter_append]
  have c1 : (List.map (fun x => k + x) [0]).filter (2 ^ k * (2 * m + 1)).testBit = [k] := by
    simp [low_bit]
  have c2 : (List.map (fun x => k + x) [0]).filter (2 ^ (k + 1) * m).testBit = [] := by
    simp [low_rest]
  rw [c1, c2, List.nil_append, List.singleton_append]
  congr 1
  apply List.filter_congr
  intro i hi
  simp only [List.mem_map, List.mem_range] at hi
  obtain ⟨j, ⟨u, hu, rfl⟩, rfl⟩ := hi
  rw [low_bit, low_rest, if_neg (by omega), if_neg (by omega)]

/-! ### Sets of two words -/
def setL (a b : Nat) : List Nat := bitsOf 64 a ++ (bitsOf 64 b).map (64 + ·)
def hasB (a b : Nat) (i : Nat) : Bool := if i < 64 then a.testBit i else if i < 128 then b.testBit (i - 64) else false
theorem setL_eq (a b : Nat) : setL a b = (List.range 128).filter (hasB a b) := by
  unfold setL bitsOf
  rw [show (128 : Nat) = 64 + 64 from rfl, List.range_add, List.filter_append, List.filter_map]
  congr 1
theorem setL_mem (a b i : Nat) : i ∈ setL a b ↔ hasB a b i = true := by
  rw [setL_eq, List.mem_filter, List.mem_range]
  refine ⟨fun h => h.2, fun h => ⟨?_, h⟩⟩
  by_cases h' : i < 128
  · exact h'
  · unfold hasB at h
    rw [if_neg (by omega), if_neg h'] at h
    cases h
theorem setL_lt {a b i : Nat} (h : i ∈ setL a b) : i < 128 := by
  rw [setL_eq, List.mem_filter, List.mem_range] at h
  exact h.1

def U64 (a : Nat) : Prop := a < 18446744073709551616
def lessN (a b : Nat) : Nat := a &&& (18446744073709551615 - b)
theorem testBit_less {a b : Nat} (ha : U64 a) (hb : U64 b) (i : Nat) : (lessN a b).testBit i = (a.testBit i && !b.testBit i) := by
  unfold lessN U64 at *
  have e := @Nat.testBit_two_pow_sub_succ b 64 (by omega) i
  rw [show 2 ^ 64 - (b + 1) = 18446744073709551615 - b by omega] at e
  rw [Nat.testBit_and, e]
  by_cases h : i < 64
  · simp [h]
  · have : a.testBit i = false := Nat.testBit_lt_two_pow (Nat.lt_of_lt_of_le ha (by have := Nat.pow_le_pow_right (n := 2) (by decide) (show 64 ≤ i by omega); omega))
    simp [this]
theorem U64.and {a : Nat} (b : Nat) (ha : U64 a) : U64 (a &&& b) := Nat.lt_of_le_of_lt Nat.and_le_left ha
theorem U64.or {a b : Nat} (ha : U64 a) (hb : U64 b) : U64 (a ||| b) := Nat.or_lt_two_pow (n := 64) ha hb
theorem U64.less {a : Nat} (b : Nat) (ha : U64 a) : U64 (lessN a b) := ha.and _
theorem hasB_or (a b c d i : Nat) : hasB (a ||| c) (b ||| d) i = (hasB a b i || hasB c d i) := by
  unfold hasB; split
  · simp
  · split <;> simp
theorem hasB_and (a b c d i : Nat) : hasB (a &&& c) (b &&& d) i = (hasB a b i && hasB c d i) := by
  unfold hasB; split
  · simp
  · split <;> simp
theorem hasB_less {a b c d : Nat} (ha : U64 a) (hb : U64 b) (hc : U64 c) (hd : U64 d) (i : Nat) : hasB (lessN a c) (lessN b d) i = (hasB a b i && !hasB c d i) := by
  unfold hasB; split
  · simp [testBit_less ha hc]
  · split <;> simp [testBit_less hb hd]
/-- The set of one number. -/
def oneW (i : Int) : Nat × Nat := if 0 ≤ i ∧ i < 64 then (2 ^ i.toNat, 0) else if 64 ≤ i ∧ i < 128 then (0, 2 ^ (i.toNat - 64)) else (0, 0)
theorem pow_u64 {k : Nat} (h : k < 64) : U64 (2 ^ k) := by
  have := Nat.pow_lt_pow_right (a := 2) (by decide) h
  unfold U64; omega
theorem zero_u64 : U64 0 := by unfold U64; decide
theorem oneW_u64 (i : Int) : U64 (oneW i).1 ∧ U64 (oneW i).2 := by
  unfold oneW
  split
  · exact ⟨pow_u64 (by omega), zero_u64⟩
  · split
    · exact ⟨zero_u64, pow_u64 (by omega)⟩
    · exact ⟨zero_u64, zero_u64⟩
theorem hasB_one (i : Int) (j : Nat) : hasB (oneW i).1 (oneW i).2 j = (decide ((j : Int) = i) && decide (j < 128)) := by
  unfold oneW hasB
  by_cases h1 : j < 64
  · rw [if_pos h1]
    by_cases h : 0 ≤ i ∧ i < 64
    · rw [if_pos h, Nat.testBit_two_pow, Bool.eq_iff_iff]; simp; omega
    · rw [if_neg h]
      by_cases h' : 64 ≤ i ∧ i < 128
      · rw [if_pos h']; simp; omega
      · rw [if_neg h']; simp; omega
  · rw [if_neg h1]
    by_cases h2 : j < 128
    · rw [if_pos h2]
      by_cases h : 0 ≤ i ∧ i < 64
      · rw [if_pos h]; simp; omega
      · rw [if_neg h]
        by_cases h' : 64 ≤ i ∧ i < 128
        · rw [if_pos h', Nat.testBit_two_pow, Bool.eq_iff_iff]; simp; omega
        · rw [if_neg h']; simp; omega
    · rw [if_neg h2]; simp; omega
theorem hasB_ge (a b : Nat) {i : Nat} (h : 128 ≤ i) : hasB a b i = false := by
  unfold hasB; rw [if_neg (by omega), if_neg (by omega)]
/-- Two sets are the same if they have the same. -/
theorem set_ext {a b c d : Nat} (ha : U64 a) (hb : U64 b) (hc : U64 c) (hd : U64 d) (h : ∀ i, hasB a b i = hasB c d i) : a = c ∧ b = d := by
  have out : ∀ {x i : Nat}, U64 x → ¬ i < 64 → x.testBit i = false := fun {x i} hx hi =>
    Nat.testBit_lt_two_pow (Nat.lt_of_lt_of_le hx (by have := Nat.pow_le_pow_right (n := 2) (by decide) (show 64 ≤ i by omega); omega))
  constructor
  · apply Nat.eq_of_testBit_eq
    intro i
    by_cases hi : i < 64
    · have := h i
      simpa [hasB, hi] using this
    · rw [out ha hi, out hc hi]
  · apply Nat.eq_of_testBit_eq
    intro i
    by_cases hi : i < 64
    · have := h (64 + i)
      simpa [hasB, show ¬ 64 + i < 64 by omega, show 64 + i < 128 by omega] using this
    · rw [out hb hi, out hd hi]
end Go.Proofs.YtlcpbfklnjlgnaaGreatDoor

namespace Go.Proofs.YtlcpbfklnjlgnaaGreatDoor
open Go.RowKit Go.Extern.Stop Go.Stop Go.Extern

theorem below_new (w : World) (o : Obj) : Below w.heap.size w (w.alloc o) := (Below.refl _ _).alloc (Nat.le_refl _) _
abbrev setV (a b : Nat) : Value := .agg #[.int .u64 (a : Int), .int .u64 (b : Int)]

theorem or64 (a b : Nat) (ha : U64 a) (hb : U64 b) : bits .or .u64 (a : Int) (b : Int) = ((a ||| b : Nat) : Int) := by
  have := u64_or a b (by omega) (by unfold U64 at ha; omega) (by omega) (by unfold U64 at hb; omega)
  simpa using this
theorem and64 (a b : Nat) (ha : U64 a) (hb : U64 b) : bits .and .u64 (a : Int) (b : Int) = ((a &&& b : Nat) : Int) := by
  have := u64_and a b (by omega) (by unfold U64 at ha; omega) (by omega) (by unfold U64 at hb; omega)
  simpa using this
theorem less64 (a b : Nat) (ha : U64 a) (hb : U64 b) : bits .andNot .u64 (a : Int) (b : Int) = ((lessN a b : Nat) : Int) := by
  have := u64_andNot a b (by omega) (by unfold U64 at ha; omega) (by omega) (by unfold U64 at hb; omega)
  simpa [lessN] using this

set_option maxHeartbeats 400000 in
theorem or_any (a b c d : Nat) (ha : U64 a) (hb : U64 b) (hc : U64 c) (hd : U64 d) (w : World) :
    Calls Tryz.prog 67 #[setV a b, setV c d] w fun e w' => e = .returned (setV (a ||| c) (b ||| d)) ∧ Below w.heap.size w w' := by
  have h1 := or64 a c ha hc
  have h2 := or64 b d hb hd
  go_enter Tryz.func67, Tryz.ntmps67
  go_wp2
  refine bodyPost_ret (v := setV (a ||| c) (b ||| d)) (by simp [results, Tryz.f67, go_sem]) rfl ⟨rfl, ?_⟩
  exact (((Below.refl _ _).alloc (Nat.le_refl _) _).alloc (by simp) _).alloc (by simp; omega) _
set_option maxHeartbeats 400000 in
theorem and_any (a b c d : Nat) (ha : U64 a) (hb : U64 b) (hc : U64 c) (hd : U64 d) (w : World) :
    Calls Tryz.prog 53 #[setV a b, setV c d] w fun e w' => e = .returned (setV (a &&& c) (b &&& d)) ∧ Below w.heap.size w w' := by
  have h1 := and64 a c ha hc
  have h2 := and64 b d hb hd
  go_enter Tryz.func53, Tryz.ntmps53
  go_wp2
  refine bodyPost_ret (v := setV (a &&& c) (b &&& d)) (by simp [results, Tryz.f53, go_sem]) rfl ⟨rfl, ?_⟩
  exact (((Below.refl _ _).alloc (Nat.le_refl _) _).alloc (by simp) _).alloc (by simp; omega) _
set_option maxHeartbeats 400000 in
theorem less_any (a b c d : Nat) (ha : U64 a) (hb : U64 b) (hc : U64 c) (hd : U64 d) (w : World) :
    Calls Tryz.prog 100 #[setV a b, setV c d] w fun e w' => e = .returned (setV (lessN a c) (lessN b d)) ∧ Below w.heap.size w w' := by
  have h1 := less64 a c ha hc
  have h2 := less64 b d hb hd
  go_enter Tryz.func100, Tryz.ntmps100
  go_wp2
  refine bodyPost_ret (v := setV (lessN a c) (lessN b d)) (by simp [results, Tryz.f100, go_sem]) rfl ⟨rfl, ?_⟩
  exact (((Below.refl _ _).alloc (Nat.le_refl _) _).alloc (by simp) _).alloc (by simp; omega) _

theorem wrap_nat {x : Int} (n : Nat) (h : x = (n : Int)) (hn : U64 n) : IntKind.u64.wrap x = (n : Int) := by
  subst h
  unfold U64 at hn
  simp [IntKind.wrap, IntKind.bits, IntKind.signed]
  omega
theorem ret_one {a b c d : Nat} (h : a = c) (h' : b = d) : (setV a b) = setV c d := by rw [h, h']
set_option maxHeartbeats 1000000 in
theorem one_lo (i : Int) (h0 : 0 ≤ i) (h1 : i < 64) (w : World) : Calls Tryz.prog 54 #[.int .i64 i] w fun e w' => e = .returned (setV (2 ^ i.toNat) 0) ∧ Below w.heap.size w w' := by
  have q0 : i / 64 = 0 := by omega
  have q1 : i % 64 = i := by omega
  have hw : IntKind.u64.wrap (2 ^ i.toNat) = ((2 ^ i.toNat : Nat) : Int) := wrap_nat _ (by simp) (pow_u64 (by omega))
  go_enter Tryz.func54, Tryz.ntmps54
  go_wp2
  refine bodyPost_ret (v := setV (2 ^ i.toNat) 0) (by simp [results, Tryz.f54, go_sem]) rfl ⟨rfl, ?_⟩
  exact ((Below.refl _ _).alloc (Nat.le_refl _) _).alloc (by simp) _
set_option maxHeartbeats 1000000 in
theorem one_hi (i : Int) (h0 : 64 ≤ i) (h1 : i < 128) (w : World) : Calls Tryz.prog 54 #[.int .i64 i] w fun e w' => e = .returned (setV 0 (2 ^ (i.toNat - 64))) ∧ Below w.heap.size w w' := by
  have q2 : (0 : Int) ≤ i := by omega
  obtain ⟨j, rfl⟩ : ∃ j : Nat, i = 64 + j := ⟨(i - 64).toNat, by omega⟩
  have q0 : (64 + (j : Int)) / 64 = 1 := by omega
  have q1 : (64 + (j : Int)) % 64 = j := by omega
  have hw : IntKind.u64.wrap (2 ^ j) = ((2 ^ j : Nat) : Int) := wrap_nat _ (by simp) (pow_u64 (by omega))
  have hj : (64 + (j : Int)).toNat - 64 = j := by omega
  rw [hj]
  clear hj
  go_enter Tryz.func54, Tryz.ntmps54
  go_wp2
  refine bodyPost_ret (v := setV 0 (2 ^ j)) (by simp [results, Tryz.f54, go_sem]) rfl ⟨rfl, ?_⟩
  exact ((Below.refl _ _).alloc (Nat.le_refl _) _).alloc (by simp) _
set_option maxHeartbeats 1000000 in
theorem one_out (i : Int) (h : i < 0 ∨ 128 ≤ i) (w : World) : Calls Tryz.prog 54 #[.int .i64 i] w fun e w' => e = .returned (setV 0 0) ∧ Below w.heap.size w w' := by
  rcases h with h | h
  · go_enter Tryz.func54, Tryz.ntmps54
    go_wp2
    refine bodyPost_ret (v := setV 0 0) (by simp [results, Tryz.f54, go_sem]) rfl ⟨rfl, ?_⟩
    exact ((Below.refl _ _).alloc (Nat.le_refl _) _).alloc (by simp) _
  · have h0 : 0 ≤ i := by omega
    go_enter Tryz.func54, Tryz.ntmps54
    go_wp2
    refine bodyPost_ret (v := setV 0 0) (by simp [results, Tryz.f54, go_sem]) rfl ⟨rfl, ?_⟩
    exact ((Below.refl _ _).alloc (Nat.le_refl _) _).alloc (by simp) _
theorem one_any (i : Int) (w : World) : Calls Tryz.prog 54 #[.int .i64 i] w fun e w' => e = .returned (setV (oneW i).1 (oneW i).2) ∧ Below w.heap.size w w' := by
  unfold oneW
  by_cases h : 0 ≤ i ∧ i < 64
  · rw [if_pos h]; exact one_lo i h.1 h.2 w
  · rw [if_neg h]
    by_cases h' : 64 ≤ i ∧ i < 128
    · rw [if_pos h']; exact one_hi i h'.1 h'.2 w
    · rw [if_neg h']; exact one_out i (by omega) w

set_option maxHeartbeats 1000000 in
theorem ones_any (x : Nat) (hx : U64 x) (w : World) : Calls Tryz.prog 157 #[.int .u64 (x : Int)] w fun e w' => e = .returned (.int .i64 (bitsOf 64 x).length) ∧ w = w' := by
  obtain ⟨x1, x2, x3, e1, e2, e3, l1, l2, l3, hs⟩ := ones64 x
  have HX := Lib.hid hx
  unfold U64 at hx
  have g1 : bits .and .u64 ((x : Int) / 2) 6148914691236517205 = ((x / 2 &&& 6148914691236517205 : Nat) : Int) := and64 (x / 2) 6148914691236517205 (by unfold U64; omega) (by unfold U64; decide)
  have g2 : bits .and .u64 (x : Int) 6148914691236517205 = ((x &&& 6148914691236517205 : Nat) : Int) := and64 x 6148914691236517205 HX.out (by unfold U64; decide)
  generalize x / 2 &&& 6148914691236517205 = A at *
  generalize x &&& 6148914691236517205 = A' at *
  have g3 : IntKind.u64.wrap ((A : Int) + A') = (x1 : Int) := wrap_nat x1 (by omega) l1
  have g4 : bits .and .u64 ((x1 : Int) / 4) 3689348814741910323 = ((x1 / 4 &&& 3689348814741910323 : Nat) : Int) := and64 (x1 / 4) 3689348814741910323 (by unfold U64; omega) (by unfold U64; decide)
  have g5 : bits .and .u64 (x1 : Int) 3689348814741910323 = ((x1 &&& 3689348814741910323 : Nat) : Int) := and64 x1 3689348814741910323 l1 (by unfold U64; decide)
  generalize x1 / 4 &&& 3689348814741910323 = C at *
  generalize x1 &&& 3689348814741910323 = C' at *
  have g6 : IntKind.u64.wrap ((C : Int) + C') = (x2 : Int) := wrap_nat x2 (by omega) (by unfold U64; omega)
  obtain ⟨s, es⟩ : ∃ s : Nat, s = x2 / 16 + x2 := ⟨_, rfl⟩
  have g7 : IntKind.u64.wrap ((x2 : Int) / 16 + x2) = (s : Int) := wrap_nat s (by omega) (by unfold U64; omega)
  have g8 : bits .and .u64 (s : Int) 1085102592571150095 = (x3 : Int) := by rw [e3, ← es]; exact and64 s 1085102592571150095 (by unfold U64; omega) (by unfold U64; decide)
  obtain ⟨y1, ey1⟩ : ∃ s : Nat, s = x3 + x3 / 256 := ⟨_, rfl⟩
  have g9 : IntKind.u64.wrap ((x3 : Int) + x3 / 256) = (y1 : Int) := wrap_nat y1 (by omega) (by unfold U64; omega)
  rw [← ey1] at hs
  obtain ⟨y2, ey2⟩ : ∃ s : Nat, s = y1 + y1 / 65536 := ⟨_, rfl⟩
  have g10 : IntKind.u64.wrap ((y1 : Int) + y1 / 65536) = (y2 : Int) := wrap_nat y2 (by omega) (by unfold U64; omega)
  rw [← ey2] at hs
  obtain ⟨y3, ey3⟩ : ∃ s : Nat, s = y2 + y2 / 4294967296 := ⟨_, rfl⟩
  have g11 : IntKind.u64.wrap ((y2 : Int) + y2 / 4294967296) = (y3 : Int) := wrap_nat y3 (by omega) (by unfold U64; omega)
  rw [← ey3] at hs
  have g12 : bits .and .i64 (y3 : Int) 127 = (y3 : Int) % 128 := i64_and127 _
  have g13 : IntKind.i64.wrap (y3 : Int) = y3 := IntWalk.i64_in _ (by omega)
  have HS := Lib.hid hs
  clear hs e1 e2 e3 es ey1 ey2 ey3 l1 l2 l3 HX hx
  go_enter Tryz.func157, Tryz.ntmps157
  go_wp2
  go_ret
  refine ⟨?_, rfl⟩
  rw [← HS.out]
  rfl
end Go.Proofs.YtlcpbfklnjlgnaaGreatDoor

namespace Go.Proofs.YtlcpbfklnjlgnaaGreatDoor
open Go.RowKit Go.Extern.Stop Go.Stop Go.Extern

theorem size64 : (Tryz.prog.info? 54).map (fun i => (i.zero, i.size, i.bytes)) = some (some (.int .u64 0), 1, 8) := by kernel_rfl
theorem eq_deep (d : Nat) (x y c e : Int) (w : World) : (Op.equalIn (d + 2) 56 (.agg #[.int .u64 x, .int .u64 y]) (.agg #[.int .u64 c, .int .u64 e])).run Tryz.prog w = .ok (x == c && y == e) w := by
  have h26 := Tryz.underlying56
  have h24 := Tryz.underlying54
  obtain ⟨i0, hi, hz0, hz1, hz2⟩ := info_parts size64
  have hin := fun a b => run_equalIn_int (P := Tryz.prog) (w := w) d 54 .u64 .u64 a b h24
  rw [Op.equalIn]
  have ha : ∀ w : World, (isAgg 54).run Tryz.prog w = .ok false w := fun w => by simp [isAgg, run_underlying h24]
  cases h1 : x == c <;> cases h2 : y == e <;>
    simp [run_underlying h26, sizeOf, typeInfo, hi, hz1, part, show List.range' 0 2 = [0, 1] from rfl, ha, hin, h1, h2]
theorem eq_set (x y c e : Int) (w : World) : (Op.equalIn 10000 56 (.agg #[.int .u64 x, .int .u64 y]) (.agg #[.int .u64 c, .int .u64 e])).run Tryz.prog w = .ok (x == c && y == e) w := eq_deep 9998 x y c e w
/-- A set in a block of its own. -/
def SetAt (w : World) (b : Nat) (x y : Nat) : Prop := w.heap[b]? = some (.cells #[.int .u64 (x : Int), .int .u64 (y : Int)] 56 (0, 0))
theorem SetAt.lt {w : World} {b x y : Nat} (h : SetAt w b x y) : b < w.heap.size := (Array.getElem?_eq_some_iff.1 h).1
theorem SetAt.cells {w : World} {b x y : Nat} (h : SetAt w b x y) : w.cell? ⟨b, 0, none⟩ = some (.int .u64 (x : Int)) ∧ w.cell? ⟨b, 1, none⟩ = some (.int .u64 (y : Int)) ∧ ∀ i, w.frozen? ⟨b, i, none⟩ = false :=
  ⟨by rw [Lib.cell_of_heap h]; rfl, by rw [Lib.cell_of_heap h]; rfl, fun i => by unfold World.frozen?; rw [h]; simp⟩
theorem SetAt.step {w w' : World} {b x y : Nat} (h : SetAt w b x y) (hb : Below w.heap.size w w') : SetAt w' b x y := (hb.block b h.lt).trans h
/-- On the way: a set of the call's own, the result's block, and old memory. -/
structure SW (w0 : World) (b x y r : Nat) (w : World) : Prop where
  set : SetAt w b x y
  res : SetAt w r 0 0
  below : Below w0.heap.size w0 w
theorem SW.step {w0 : World} {b x y r : Nat} {w w' : World} (h : SW w0 b x y r w) (hb : Below w.heap.size w w') : SW w0 b x y r w' := ⟨h.set.step hb, h.res.step hb, h.below.trans (hb.mono h.below.size)⟩
theorem SW.start (w : World) (x y : Nat) : SW w w.heap.size x y (w.heap.size + 1) ((w.alloc (.cells #[.int .u64 (x : Int), .int .u64 (y : Int)] 56)).alloc (.cells #[.int .u64 0, .int .u64 0] 56)) :=
  ⟨(heap_alloc_old _ _ (by simp)).trans (heap_alloc_new w _), by have := heap_alloc_new (w.alloc (.cells #[.int .u64 (x : Int), .int .u64 (y : Int)] 56)) (.cells #[.int .u64 0, .int .u64 0] 56); rwa [World.size_alloc] at this,
    (below_new w _).trans ((below_new _ _).mono (below_new w _).size)⟩
theorem ret_int {k : IntKind} {a b : Int} (h : a = b) : Ending.returned (.int k a) = .returned (.int k b) := by rw [h]
theorem below_drewN (w : World) (n : Nat) : Below w.heap.size w (w.drewN n) := by
  induction n with
  | zero => exact Below.refl _ _
  | succ n ih => exact ⟨ih.os, ih.tape, ih.output, ih.size, ih.block⟩

set_option maxRecDepth 100000 in
set_option maxHeartbeats 2000000 in
theorem with_any (a b : Nat) (i : Int) (ha : U64 a) (hb : U64 b) (w : World) :
    Calls Tryz.prog 39 #[setV a b, .int .i64 i] w fun e w' => e = .returned (setV (a ||| (oneW i).1) (b ||| (oneW i).2)) ∧ Below w.heap.size w w' := by
  have HI := Lib.hid (SW.start w a b)
  have HO := Lib.hid (fun w' => or_any a b (oneW i).1 (oneW i).2 ha hb (oneW_u64 i).1 (oneW_u64 i).2 w')
  have HN := Lib.hid (fun w' => one_any i w')
  generalize (oneW i).1 = c at *
  generalize (oneW i).2 = d at *
  go_enter Tryz.func39, Tryz.ntmps39
  go_wp2_with fail
  have hI := HI.out.step (Below.refl _ _).drew
  clear HI
  generalize (w.alloc (.cells #[.int .u64 (a : Int), .int .u64 (b : Int)] 56)).alloc (.cells #[.int .u64 0, .int .u64 0] 56) = w1 at *
  have k0 := hI.set.cells.1
  have k1 := hI.set.cells.2.1
  go_region_held3 (fun w' => w'.cell? ⟨w.heap.size, 0, none⟩ = some (.int .u64 (a : Int)) ∧ w'.cell? ⟨w.heap.size, 1, none⟩ = some (.int .u64 (b : Int)))
    (first | exact ⟨k0, k1⟩ | exact ⟨hI.set.cells.1, hI.set.cells.2.1⟩ | go_keep)
    (first
    | (go_at_call 54; refine (HN.out _).mono ?_; rintro e w2 ⟨rfl, b2⟩; replace hI := hI.step b2)
    | (go_at_call 67; refine (HO.out _).mono ?_; rintro e w3 ⟨rfl, b3⟩; replace hI := hI.step b3; have r0 := hI.res.cells.1; have r1 := hI.res.cells.2.1; have r2 := hI.res.cells.2.2 0; have r3 := hI.res.cells.2.2 1; have s0 := hI.set.cells.1; have s1 := hI.set.cells.2.1))
  all_goals
    go_wp2_with fail
    refine bodyPost_ret (v := setV (a ||| c) (b ||| d)) (by simp [results, Tryz.f39, go_sem, r0, r1]) rfl ⟨rfl, ?_⟩
    exact (hI.below.setCell (p := ⟨w.heap.size + 1, 0, none⟩) (Nat.le_succ _) _).setCell (p := ⟨w.heap.size + 1, 1, none⟩) (Nat.le_succ _) _
set_option maxRecDepth 100000 in
set_option maxHeartbeats 2000000 in
theorem without_any (a b : Nat) (i : Int) (ha : U64 a) (hb : U64 b) (w : World) :
    Calls Tryz.prog 98 #[setV a b, .int .i64 i] w fun e w' => e = .returned (setV (lessN a (oneW i).1) (lessN b (oneW i).2)) ∧ Below w.heap.size w w' := by
  have HI := Lib.hid (SW.start w a b)
  have HO := Lib.hid (fun w' => less_any a b (oneW i).1 (oneW i).2 ha hb (oneW_u64 i).1 (oneW_u64 i).2 w')
  have HN := Lib.hid (fun w' => one_any i w')
  generalize (oneW i).1 = c at *
  generalize (oneW i).2 = d at *
  go_enter Tryz.func98, Tryz.ntmps98
  go_wp2_with fail
  have hI := HI.out.step (Below.refl _ _).drew
  clear HI
  generalize (w.alloc (.cells #[.int .u64 (a : Int), .int .u64 (b : Int)] 56)).alloc (.cells #[.int .u64 0, .int .u64 0] 56) = w1 at *
  have k0 := hI.set.cells.1
  have k1 := hI.set.cells.2.1
  go_region_held3 (fun w' => w'.cell? ⟨w.heap.size, 0, none⟩ = some (.int .u64 (a : Int)) ∧ w'.cell? ⟨w.heap.size, 1, none⟩ = some (.int .u64 (b : Int)))
    (first | exact ⟨k0, k1⟩ | exact ⟨hI.set.cells.1, hI.set.cells.2.1⟩ | go_keep)
    (first
    | (go_at_call 54; refine (HN.out _).mono ?_; rintro e w2 ⟨rfl, b2⟩; replace hI := hI.step b2)
    | (go_at_call 100; refine (HO.out _).mono ?_; rintro e w3 ⟨rfl, b3⟩; replace hI := hI.step b3; have r0 := hI.res.cells.1; have r1 := hI.res.cells.2.1; have r2 := hI.res.cells.2.2 0; have r3 := hI.res.cells.2.2 1; have s0 := hI.set.cells.1; have s1 := hI.set.cells.2.1))
  all_goals
    go_wp2_with fail
    refine bodyPost_ret (v := setV (lessN a c) (lessN b d)) (by simp [results, Tryz.f98, go_sem, r0, r1]) rfl ⟨rfl, ?_⟩
    exact (hI.below.setCell (p := ⟨w.heap.size + 1, 0, none⟩) (Nat.le_succ _) _).setCell (p := ⟨w.heap.size + 1, 1, none⟩) (Nat.le_succ _) _

theorem boxed_set (w : World) (a b : Nat) : SetAt (w.alloc (.cells #[.int .u64 (a : Int), .int .u64 (b : Int)] 56)) w.heap.size a b := heap_alloc_new w _
/-- Is a set empty? -/
def emptyB (a b : Nat) : Bool := decide (a = 0 ∧ b = 0)
set_option maxRecDepth 100000 in
set_option maxHeartbeats 2000000 in
theorem has_go (a b c d : Nat) (i : Int) (ha : U64 a) (hb : U64 b) (hc : U64 c) (hd : U64 d) (ho : oneW i = (c, d)) (r : Bool) (hr : emptyB (a &&& c) (b &&& d) = !r) (w : World) :
    Calls Tryz.prog 34 #[setV a b, .int .i64 i] w fun e w' => e = .returned (.bool r) ∧ Below w.heap.size w w' := by
  have HI : Hid (SetAt (w.alloc (.cells #[.int .u64 (a : Int), .int .u64 (b : Int)] 56)) w.heap.size a b) := Lib.hid (boxed_set w a b)
  have HB : Hid (Below w.heap.size w (w.alloc (.cells #[.int .u64 (a : Int), .int .u64 (b : Int)] 56)).drew) := Lib.hid (below_new w _).drew
  have HO := Lib.hid (fun w' => and_any a b c d ha hb hc hd w')
  have HN := Lib.hid (fun w' => one_any i w')
  rw [ho] at HN
  generalize a &&& c = x at *
  generalize b &&& d = y at *
  have heq := eq_set x y 0 0
  cases r with
  | true =>
    have hq : ((x : Int) == 0 && (y : Int) == 0) = false := by
      unfold emptyB at hr
      simp at hr ⊢
      omega
    rw [hq] at heq
    clear hq hr
    go_enter Tryz.func34, Tryz.ntmps34
    go_wp2_with fail
    have hI := HI.out.step (Below.refl _ _).drew
    have hB := HB.out
    clear HI HB
    generalize w.alloc (.cells #[.int .u64 (a : Int), .int .u64 (b : Int)] 56) = w1 at *
    have k0 := hI.cells.1
    have k1 := hI.cells.2.1
    go_region_held3 (fun w' => w'.cell? ⟨w.heap.size, 0, none⟩ = some (.int .u64 (a : Int)) ∧ w'.cell? ⟨w.heap.size, 1, none⟩ = some (.int .u64 (b : Int)))
      (first | exact ⟨k0, k1⟩ | exact ⟨hI.cells.1, hI.cells.2.1⟩ | go_keep)
      (first
      | (go_at_call 54; refine (HN.out _).mono ?_; rintro e w2 ⟨rfl, b2⟩; replace hI := hI.step b2; replace hB := hB.trans (b2.mono hB.size))
      | (go_at_call 53; refine (HO.out _).mono ?_; rintro e w3 ⟨rfl, b3⟩; replace hI := hI.step b3; replace hB := hB.trans (b3.mono hB.size)))
    all_goals
      go_wp2_with fail
      go_ret
      exact ⟨rfl, hB⟩
  | false =>
    have hq : ((x : Int) == 0 && (y : Int) == 0) = true := by
      unfold emptyB at hr
      simp at hr ⊢
      omega
    rw [hq] at heq
    clear hq hr
    go_enter Tryz.func34, Tryz.ntmps34
    go_wp2_with fail
    have hI := HI.out.step (Below.refl _ _).drew
    have hB := HB.out
    clear HI HB
    generalize w.alloc (.cells #[.int .u64 (a : Int), .int .u64 (b : Int)] 56) = w1 at *
    have k0 := hI.cells.1
    have k1 := hI.cells.2.1
    go_region_held3 (fun w' => w'.cell? ⟨w.heap.size, 0, none⟩ = some (.int .u64 (a : Int)) ∧ w'.cell? ⟨w.heap.size, 1, none⟩ = some (.int .u64 (b : Int)))
      (first | exact ⟨k0, k1⟩ | exact ⟨hI.cells.1, hI.cells.2.1⟩ | go_keep)
      (first
      | (go_at_call 54; refine (HN.out _).mono ?_; rintro e w2 ⟨rfl, b2⟩; replace hI := hI.step b2; replace hB := hB.trans (b2.mono hB.size))
      | (go_at_call 53; refine (HO.out _).mono ?_; rintro e w3 ⟨rfl, b3⟩; replace hI := hI.step b3; replace hB := hB.trans (b3.mono hB.size)))
    all_goals
      go_wp2_with fail
      go_ret
      exact ⟨rfl, hB⟩

theorem ext_zero {a b : Nat} (ha : U64 a) (hb : U64 b) : emptyB a b = true ↔ ∀ i, hasB a b i = false := by
  unfold emptyB
  rw [decide_eq_true_iff]
  constructor
  · rintro ⟨rfl, rfl⟩ i
    unfold hasB
    simp
  · intro h
    exact set_ext ha hb zero_u64 zero_u64 (fun i => by rw [h i]; unfold hasB; simp)
/-- Is a number in a set? -/
def hasI (a b : Nat) (i : Int) : Bool := decide (0 ≤ i) && hasB a b i.toNat
theorem has_empty (a b : Nat) (i : Int) (ha : U64 a) (hb : U64 b) : emptyB (a &&& (oneW i).1) (b &&& (oneW i).2) = !hasI a b i := by
  rw [Bool.eq_iff_iff, ext_zero (ha.and _) (hb.and _)]
  unfold hasI
  constructor
  · intro h
    rw [Bool.not_eq_true', Bool.and_eq_false_iff]
    by_cases h0 : 0 ≤ i
    · right
      by_cases h1 : i < 128
      · have := h i.toNat
        rw [hasB_and, hasB_one, show ((i.toNat : Int) = i) by omega] at this
        simpa [show i.toNat < 128 by omega] using this
      · exact hasB_ge _ _ (by omega)
    · left; simpa using h0
  · intro h j
    rw [hasB_and, hasB_one]
    by_cases hj : (j : Int) = i
    · subst hj
      simp at h
      simp [h]
    · simp [hj]
theorem has_any (a b : Nat) (i : Int) (ha : U64 a) (hb : U64 b) (w : World) :
    Calls Tryz.prog 34 #[setV a b, .int .i64 i] w fun e w' => e = .returned (.bool (hasI a b i)) ∧ Below w.heap.size w w' :=
  has_go a b _ _ i ha hb (oneW_u64 i).1 (oneW_u64 i).2 rfl _ (has_empty a b i ha hb) w

set_option maxHeartbeats 1000000 in
theorem empty_any (a b : Nat) (w : World) : Calls Tryz.prog 92 #[setV a b] w fun e w' => e = .returned (.bool (emptyB a b)) ∧ Below w.heap.size w w' := by
  have heq := eq_set a b 0 0
  have he : ((a : Int) == 0 && (b : Int) == 0) = emptyB a b := by unfold emptyB; rw [Bool.eq_iff_iff]; simp
  rw [he] at heq
  go_enter Tryz.func92, Tryz.ntmps92
  go_wp2_with fail
  go_ret
  exact ⟨rfl, below_new _ _⟩
def sameB (a b c d : Nat) : Bool := decide (a = c ∧ b = d)
theorem same_eq (a b c d : Nat) : ((a : Int) == c && (b : Int) == d) = sameB a b c d := by unfold sameB; rw [Bool.eq_iff_iff]; simp; omega
set_option maxRecDepth 100000 in
set_option maxHeartbeats 1000000 in
theorem under_any (a b c d : Nat) (ha : U64 a) (hb : U64 b) (hc : U64 c) (hd : U64 d) (w : World) : Calls Tryz.prog 38 #[setV a b, setV c d] w fun e w' => e = .returned (.bool (sameB (a &&& c) (b &&& d) a b)) ∧ Below w.heap.size w w' := by
  have HO := Lib.hid (fun w' => and_any a b c d ha hb hc hd w')
  generalize a &&& c = x at *
  generalize b &&& d = y at *
  have heq := eq_set x y a b
  rw [same_eq] at heq
  have HA : Hid (SetAt ((w.alloc (.cells #[.int .u64 (a : Int), .int .u64 (b : Int)] 56)).alloc (.cells #[.int .u64 (c : Int), .int .u64 (d : Int)] 56)).drew w.heap.size a b) := Lib.hid ((heap_alloc_old _ _ (by simp)).trans (heap_alloc_new w _))
  have HC : Hid (SetAt ((w.alloc (.cells #[.int .u64 (a : Int), .int .u64 (b : Int)] 56)).alloc (.cells #[.int .u64 (c : Int), .int .u64 (d : Int)] 56)).drew (w.heap.size + 1) c d) := Lib.hid (by
    have := heap_alloc_new (w.alloc (.cells #[.int .u64 (a : Int), .int .u64 (b : Int)] 56)) (.cells #[.int .u64 (c : Int), .int .u64 (d : Int)] 56)
    rwa [World.size_alloc] at this)
  have HB : Hid (Below w.heap.size w ((w.alloc (.cells #[.int .u64 (a : Int), .int .u64 (b : Int)] 56)).alloc (.cells #[.int .u64 (c : Int), .int .u64 (d : Int)] 56)).drew) := Lib.hid (((below_new w _).trans ((below_new _ _).mono (below_new w _).size)).drew)
  go_enter Tryz.func38, Tryz.ntmps38
  go_wp2_with fail
  have hA := HA.out
  have hC := HC.out
  have hB := HB.out
  clear HA HC HB
  generalize (w.alloc (.cells #[.int .u64 (a : Int), .int .u64 (b : Int)] 56)).alloc (.cells #[.int .u64 (c : Int), .int .u64 (d : Int)] 56) = w1 at *
  have k0 := hA.cells.1
  have k1 := hA.cells.2.1
  have k2 := hC.cells.1
  have k3 := hC.cells.2.1
  go_region_held3 (fun w' => w'.cell? ⟨w.heap.size, 0, none⟩ = some (.int .u64 (a : Int)) ∧ w'.cell? ⟨w.heap.size, 1, none⟩ = some (.int .u64 (b : Int)) ∧ w'.cell? ⟨w.heap.size + 1, 0, none⟩ = some (.int .u64 (c : Int)) ∧ w'.cell? ⟨w.heap.size + 1, 1, none⟩ = some (.int .u64 (d : Int)))
    (first | exact ⟨k0, k1, k2, k3⟩ | exact ⟨hA.cells.1, hA.cells.2.1, hC.cells.1, hC.cells.2.1⟩ | go_keep)
    ((go_at_call 53; refine (HO.out _).mono ?_; rintro e w3 ⟨rfl, b3⟩; replace hA := hA.step b3; replace hC := hC.step b3; replace hB := hB.trans (b3.mono hB.size)))
  all_goals
    go_wp2_with fail
    go_ret
    exact ⟨rfl, hB⟩

theorem ones_same (x : Nat) (hx : U64 x) (w : World) : Calls Tryz.prog 157 #[.int .u64 (x : Int)] w fun e w' => e = .returned (.int .i64 (bitsOf 64 x).length) ∧ w' = w :=
  (ones_any x hx w).mono fun _ _ h => ⟨h.1, h.2.symm⟩
theorem bitsOf_le (n x : Nat) : (bitsOf n x).length ≤ n := by
  unfold bitsOf
  have := List.length_filter_le x.testBit (List.range n)
  simpa using this
theorem setL_len (a b : Nat) : (setL a b).length = (bitsOf 64 a).length + (bitsOf 64 b).length := by unfold setL; simp
set_option maxHeartbeats 1000000 in
theorem len_any (a b : Nat) (ha : U64 a) (hb : U64 b) (w : World) : Calls Tryz.prog 134 #[setV a b] w fun e w' => e = .returned (.int .i64 (setL a b).length) ∧ Below w.heap.size w w' := by
  have l1 := bitsOf_le 64 a
  have l2 := bitsOf_le 64 b
  have H1 := Lib.hid (fun w' => ones_same a ha w')
  have H2 := Lib.hid (fun w' => ones_same b hb w')
  rw [setL_len]
  generalize (bitsOf 64 a).length = x at *
  generalize (bitsOf 64 b).length = y at *
  have hw : IntKind.i64.wrap ((x : Int) + y) = (x : Int) + y := IntWalk.i64_in _ (by omega)
  have hbn := Lib.hid (below_new w (.cells #[.int .u64 (a : Int), .int .u64 (b : Int)] 56))
  go_enter Tryz.func134, Tryz.ntmps134
  go_wp2_with fail
  go_quiet ((first | (go_at_call_of 157 (Value.int IntKind.u64 (a : Int)); exact Calls.quiet_of_same (H1.out _)) | (go_at_call_of 157 (Value.int IntKind.u64 (b : Int)); exact Calls.quiet_of_same (H2.out _))))
  go_wp2_with fail
  go_ret
  refine ⟨ret_int (by simp), ?_⟩
  exact hbn.out.trans ((below_drewN _ _).mono hbn.out.size)
end Go.Proofs.YtlcpbfklnjlgnaaGreatDoor

namespace Go.Proofs.YtlcpbfklnjlgnaaGreatDoor
open Go.RowKit Go.Extern.Stop Go.Stop Go.Extern

/-- The two words of the set of some. -/
def ofS (l : List Int) : Nat × Nat := l.foldl (fun s i => (s.1 ||| (oneW i).1, s.2 ||| (oneW i).2)) (0, 0)
theorem ofS_snoc (l : List Int) (i : Int) : ofS (l ++ [i]) = ((ofS l).1 ||| (oneW i).1, (ofS l).2 ||| (oneW i).2) := by unfold ofS; rw [List.foldl_append]; rfl
theorem ofS_take {l : List Int} {k : Nat} {i : Int} (h : l[k]? = some i) : ofS (l.take (k + 1)) = ((ofS (l.take k)).1 ||| (oneW i).1, (ofS (l.take k)).2 ||| (oneW i).2) := by
  rw [List.take_add_one, h, Option.toList_some, ofS_snoc]
theorem fold_u64 : ∀ (l : List Int) (s : Nat × Nat), U64 s.1 → U64 s.2 → U64 (l.foldl (fun s i => (s.1 ||| (oneW i).1, s.2 ||| (oneW i).2)) s).1 ∧ U64 (l.foldl (fun s i => (s.1 ||| (oneW i).1, s.2 ||| (oneW i).2)) s).2
  | [], _, h1, h2 => ⟨h1, h2⟩
  | i :: l, _, h1, h2 => fold_u64 l _ (h1.or (oneW_u64 i).1) (h2.or (oneW_u64 i).2)
theorem ofS_u64 (l : List Int) : U64 (ofS l).1 ∧ U64 (ofS l).2 := fold_u64 l (0, 0) zero_u64 zero_u64
theorem fold_has : ∀ (l : List Int) (s : Nat × Nat) (j : Nat), hasB (l.foldl (fun s i => (s.1 ||| (oneW i).1, s.2 ||| (oneW i).2)) s).1 (l.foldl (fun s i => (s.1 ||| (oneW i).1, s.2 ||| (oneW i).2)) s).2 j = (hasB s.1 s.2 j || (decide (j < 128) && l.any fun i => decide ((j : Int) = i)))
  | [], s, j => by simp
  | i :: l, s, j => by
    rw [List.foldl_cons, fold_has l _ j, hasB_or, hasB_one, List.any_cons]
    cases hasB s.1 s.2 j <;> cases decide ((j : Int) = i) <;> cases decide (j < 128) <;> simp
theorem hasB_ofS (l : List Int) (j : Nat) : hasB (ofS l).1 (ofS l).2 j = (decide (j < 128) && l.any fun i => decide ((j : Int) = i)) := by
  unfold ofS
  rw [fold_has]
  unfold hasB
  simp

/-- A slice of numbers. -/
def IntsAt (w : World) (v : Value) (l : List Int) : Prop :=
  (∃ a cap, v = .slice a 0 cap ∧ l = []) ∨ ∃ b off cap, v = .slice (some ⟨b, off, none⟩) l.length cap ∧ b < w.heap.size ∧ ∀ i c, l[i]? = some c → w.cell? ⟨b, off + i, none⟩ = some (.int .i64 c)
theorem IntsAt.form {w : World} {v : Value} {l : List Int} (h : IntsAt w v l) : ∃ a cap, v = .slice a l.length cap := by
  rcases h with ⟨a, cap, rfl, rfl⟩ | ⟨b, off, cap, rfl, -⟩
  · exact ⟨a, cap, rfl⟩
  · exact ⟨_, cap, rfl⟩
theorem IntsAt.at {w w' : World} {a : Option Addr} {n cap : Nat} {l : List Int} (h : IntsAt w (.slice a n cap) l) {i : Nat} {c : Int} (hi : l[i]? = some c) (hb : Below w.heap.size w w') :
    ∃ b off, a = some ⟨b, off, none⟩ ∧ w'.cell? ⟨b, off + i, none⟩ = some (.int .i64 c) := by
  rcases h with ⟨a, cap, -, rfl⟩ | ⟨b, off, cap, e, hlt, hc⟩
  · simp at hi
  · injection e with e
    exact ⟨b, off, e, (hb.cell (p := ⟨b, off + i, none⟩) hlt).trans (hc i c hi)⟩
theorem IntsAt.step {w w' : World} {v : Value} {l : List Int} (h : IntsAt w v l) (hb : Below w.heap.size w w') : IntsAt w' v l := by
  rcases h with h | ⟨b, off, cap, e, hlt, hc⟩
  · exact .inl h
  · exact .inr ⟨b, off, cap, e, Nat.lt_of_lt_of_le hlt hb.size, fun i c hi => (hb.cell (p := ⟨b, off + i, none⟩) hlt).trans (hc i c hi)⟩

theorem SetAt.put {w : World} {b x y : Nat} (h : SetAt w b x y) (c d : Nat) : SetAt ((w.setCell ⟨b, 0, none⟩ (.int .u64 (c : Int))).setCell ⟨b, 1, none⟩ (.int .u64 (d : Int))) b c d :=
  heap_setCell_same _ b 1 _ _ _ (heap_setCell_same w b 0 _ _ _ h)
theorem SetAt.far {w : World} {b x y : Nat} (h : SetAt w b x y) {q : Nat} (hq : b ≠ q) (i : Nat) (u : Value) : SetAt (w.setCell ⟨q, i, none⟩ u) b x y := (heap_setCell_other _ _ _ _ hq).trans h

/-- On the way through a loop that lets in number by number. -/
def OfR (w : World) (l : List Int) (g : Nat) (v : Value) (wr : World) : Prop :=
  ∃ i : Nat, i ≤ l.length ∧ g = l.length - i ∧ v = .int .i64 i ∧ SetAt wr (w.heap.size + 1) (ofS (l.take i)).1 (ofS (l.take i)).2 ∧ SetAt wr w.heap.size 0 0 ∧ Below w.heap.size w wr

set_option maxRecDepth 100000 in
set_option maxHeartbeats 4000000 in
theorem of_any (l : List Int) (v : Value) (w : World) (hv : IntsAt w v l) (hl : l.length ≤ 1000000) :
    Calls Tryz.prog 17 #[v] w fun e w' => e = .returned (setV (ofS l).1 (ofS l).2) ∧ Below w.heap.size w w' := by
  obtain ⟨a, cap, rfl⟩ := hv.form
  have HV := Lib.hid hv
  have HS := SW.start w 0 0
  have H0 : Hid (OfR w l l.length (.int .i64 0) ((w.alloc (.cells #[.int .u64 0, .int .u64 0] 56)).alloc (.cells #[.int .u64 0, .int .u64 0] 56))) :=
    Lib.hid ⟨0, Nat.zero_le _, by omega, rfl, HS.res, HS.set, HS.below⟩
  clear hv HS
  go_enter Tryz.func17, Tryz.ntmps17
  go_wp2_with fail
  generalize (w.alloc (.cells #[.int .u64 0, .int .u64 0] 56)).alloc (.cells #[.int .u64 0, .int .u64 0] 56) = w1 at *
  go_loopg [8] l.length (fun g u wr => OfR w l g u wr)
  case atStart => exact H0.out
  case round =>
    obtain ⟨i, hi, hgi, rfl, hs, hr, hb⟩ := hrel
    by_cases hlt : i < l.length
    · obtain ⟨x, hx⟩ : ∃ x, l[i]? = some x := ⟨_, List.getElem?_eq_getElem hlt⟩
      obtain ⟨b, off, rfl, hcell⟩ := HV.out.at hx hb
      obtain ⟨u1, u2⟩ := ofS_u64 (l.take i)
      have HW := Lib.hid (with_any _ _ x u1 u2 wr)
      have e := ofS_take hx
      have e1 : (ofS (l.take i)).1 ||| (oneW x).1 = (ofS (l.take (i + 1))).1 := by rw [e]
      have e2 : (ofS (l.take i)).2 ||| (oneW x).2 = (ofS (l.take (i + 1))).2 := by rw [e]
      rw [e1, e2] at HW
      clear e e1 e2 u1 u2 hx
      generalize (ofS (l.take i)).1 = p at *
      generalize (ofS (l.take i)).2 = q at *
      generalize hp' : (ofS (l.take (i + 1))).1 = p' at *
      generalize hq' : (ofS (l.take (i + 1))).2 = q' at *
      have HP := Lib.hid hp'
      have HQ := Lib.hid hq'
      have HB := Lib.hid hb
      have HR := Lib.hid hr
      have HS := Lib.hid hs
      obtain ⟨k0, k1, kf⟩ := hs.cells
      clear hp' hq' hb hr hs kf
      go_wp2_with fail
      refine HW.out.mono ?_
      rintro e w3 ⟨rfl, b3⟩
      have hs3 := HS.out.step b3
      obtain ⟨k0, k1, kf⟩ := hs3.cells
      have k2 := kf 0
      have k3 := kf 1
      have H3 : Hid (OfR w l (l.length - (i + 1)) (.int .i64 ((i : Int) + 1)) ((w3.setCell ⟨w.heap.size + 1, 0, none⟩ (.int .u64 (p' : Int))).setCell ⟨w.heap.size + 1, 1, none⟩ (.int .u64 (q' : Int)))) := Lib.hid
        ⟨i + 1, by omega, rfl, by go_num, by rw [HP.out, HQ.out]; exact hs3.put _ _, ((HR.out.step b3).far (by omega) _ _).far (by omega) _ _,
          ((HB.out.trans (b3.mono HB.out.size)).setCell (p := ⟨w.heap.size + 1, 0, none⟩) (Nat.le_succ _) _).setCell (p := ⟨w.heap.size + 1, 1, none⟩) (Nat.le_succ _) _⟩
      clear b3 hs3 kf HW
      go_wp2_with fail
      go_roundg (l.length - (i + 1))
      case measure => omega
      case rel => exact H3.out
    · obtain rfl : i = l.length := by omega
      rw [List.take_length] at hs
      obtain ⟨k0, k1, -⟩ := hs.cells
      obtain ⟨r0, r1, rf⟩ := hr.cells
      have r2 := rf 0
      have r3 := rf 1
      have HB := Lib.hid hb
      clear hs hr rf hb hlt hi
      generalize hp : (ofS l).1 = p at *
      generalize hq : (ofS l).2 = q at *
      have HP := Lib.hid hp
      have HQ := Lib.hid hq
      clear hp hq
      go_wp2_with fail
      refine bodyPost_ret (v := setV p q) (by simp [results, Tryz.f17, go_sem, r0, r1]) rfl ⟨by rw [HP.out, HQ.out], ?_⟩
      exact (HB.out.setCell (p := ⟨w.heap.size, 0, none⟩) (Nat.le_refl _) _).setCell (p := ⟨w.heap.size, 1, none⟩) (Nat.le_refl _) _

/-- The numbers from 0 on. -/
def firstN (k : Nat) : List Int := (List.range k).map Int.ofNat
theorem firstN_succ (k : Nat) : firstN (k + 1) = firstN k ++ [(k : Int)] := by unfold firstN; rw [List.range_succ, List.map_append]; rfl
def UpR (w : World) (N : Nat) (g : Nat) (v : Value) (wr : World) : Prop :=
  ∃ i : Nat, i ≤ N ∧ g = N - i ∧ v = .int .i64 i ∧ SetAt wr (w.heap.size + 1) (ofS (firstN i)).1 (ofS (firstN i)).2 ∧ SetAt wr w.heap.size 0 0 ∧ Below w.heap.size w wr
set_option maxRecDepth 100000 in
set_option maxHeartbeats 4000000 in
theorem upto_any (n : Int) (hn : -9223372036854775808 ≤ n ∧ n ≤ 9223372036854775807) (w : World) :
    Calls Tryz.prog 121 #[.int .i64 n] w fun e w' => e = .returned (setV (ofS (firstN (min n 128).toNat)).1 (ofS (firstN (min n 128).toNat)).2) ∧ Below w.heap.size w w' := by
  obtain ⟨N, hN⟩ : ∃ N : Nat, N = (min n 128).toNat := ⟨_, rfl⟩
  rw [← hN]
  have hN1 : N ≤ 128 := by omega
  have HN := Lib.hid hN
  have HS := SW.start w 0 0
  have H0 : Hid (UpR w N N (.int .i64 0) ((w.alloc (.cells #[.int .u64 0, .int .u64 0] 56)).alloc (.cells #[.int .u64 0, .int .u64 0] 56))) :=
    Lib.hid ⟨0, Nat.zero_le _, by omega, rfl, HS.res, HS.set, HS.below⟩
  clear HS hN
  obtain ⟨m, hm⟩ : ∃ m : Int, m = min n 128 := ⟨_, rfl⟩
  have hmin : ∀ w : World, (Builtin.min_ #[3, 3] 3 #[.int .i64 n, .int .i64 128]).run Tryz.prog w = .ok (.int .i64 m) w := by
    intro w
    rw [run_min_int2]
    congr 2
    omega
  have HM := Lib.hid hm
  clear hm
  go_enter Tryz.func121, Tryz.ntmps121
  go_wp2_with fail
  generalize (w.alloc (.cells #[.int .u64 0, .int .u64 0] 56)).alloc (.cells #[.int .u64 0, .int .u64 0] 56) = w1 at *
  clear hmin
  go_loopg [7] N (fun g u wr => UpR w N g u wr)
  case atStart => exact H0.out
  case round =>
    obtain ⟨i, hi, hgi, rfl, hs, hr, hb⟩ := hrel
    by_cases hlt : i < N
    · have hmi : (i : Int) < m := by have := HN.out; have := HM.out; omega
      obtain ⟨u1, u2⟩ := ofS_u64 (firstN i)
      have HW := Lib.hid (with_any _ _ (i : Int) u1 u2 wr)
      have e := (congrArg ofS (firstN_succ i)).trans (ofS_snoc (firstN i) i)
      have e1 : (ofS (firstN i)).1 ||| (oneW (i : Int)).1 = (ofS (firstN (i + 1))).1 := by rw [e]
      have e2 : (ofS (firstN i)).2 ||| (oneW (i : Int)).2 = (ofS (firstN (i + 1))).2 := by rw [e]
      rw [e1, e2] at HW
      clear e e1 e2 u1 u2
      generalize (ofS (firstN i)).1 = p at *
      generalize (ofS (firstN i)).2 = q at *
      generalize hp' : (ofS (firstN (i + 1))).1 = p' at *
      generalize hq' : (ofS (firstN (i + 1))).2 = q' at *
      have HP := Lib.hid hp'
      have HQ := Lib.hid hq'
      have HB := Lib.hid hb
      have HR := Lib.hid hr
      have HS := Lib.hid hs
      obtain ⟨k0, k1, kf⟩ := hs.cells
      clear hp' hq' hb hr hs kf
      go_wp2_with fail
      refine HW.out.mono ?_
      rintro e w3 ⟨rfl, b3⟩
      have hs3 := HS.out.step b3
      obtain ⟨k0, k1, kf⟩ := hs3.cells
      have k2 := kf 0
      have k3 := kf 1
      have H3 : Hid (UpR w N (N - (i + 1)) (.int .i64 ((i : Int) + 1)) ((w3.setCell ⟨w.heap.size + 1, 0, none⟩ (.int .u64 (p' : Int))).setCell ⟨w.heap.size + 1, 1, none⟩ (.int .u64 (q' : Int)))) := Lib.hid
        ⟨i + 1, by omega, rfl, by go_num, by rw [HP.out, HQ.out]; exact hs3.put _ _, ((HR.out.step b3).far (by omega) _ _).far (by omega) _ _,
          ((HB.out.trans (b3.mono HB.out.size)).setCell (p := ⟨w.heap.size + 1, 0, none⟩) (Nat.le_succ _) _).setCell (p := ⟨w.heap.size + 1, 1, none⟩) (Nat.le_succ _) _⟩
      clear b3 hs3 kf HW
      go_wp2_with fail
      go_roundg (N - (i + 1))
      case measure => omega
      case rel => exact H3.out
    · obtain rfl : i = N := by omega
      have hmi : decide ((i : Int) < m) = false := decide_eq_false (by have := HN.out; have := HM.out; omega)
      obtain ⟨k0, k1, -⟩ := hs.cells
      obtain ⟨r0, r1, rf⟩ := hr.cells
      have r2 := rf 0
      have r3 := rf 1
      have HB := Lib.hid hb
      clear hs hr rf hb hlt hi
      generalize hp : (ofS (firstN i)).1 = p at *
      generalize hq : (ofS (firstN i)).2 = q at *
      have HP := Lib.hid hp
      have HQ := Lib.hid hq
      clear hp hq
      go_wp2_with fail
      refine bodyPost_ret (v := setV p q) (by simp [results, Tryz.f121, go_sem, r0, r1]) rfl ⟨by rw [HP.out, HQ.out], ?_⟩
      exact (HB.out.setCell (p := ⟨w.heap.size, 0, none⟩) (Nat.le_refl _) _).setCell (p := ⟨w.heap.size, 1, none⟩) (Nat.le_refl _) _
end Go.Proofs.YtlcpbfklnjlgnaaGreatDoor

namespace Go.Proofs.YtlcpbfklnjlgnaaGreatDoor
open Go.RowKit Go.Extern.Stop Go.Stop Go.Extern Go.Shelf
attribute [local go_sem] Oper.semAt_some

/-- The library's table is there. -/
structure TabB (w : World) : Prop where
  lt : 1 < w.heap.size
  tab : TabAt 1 Lib.deBruijn64tab w
theorem TabB.below {w w' : World} {n : Nat} (h : TabB w) (hn : 1 < n) (hb : Below n w w') : TabB w' :=
  ⟨Nat.lt_of_lt_of_le h.lt hb.size, fun j hj => (hb.cell (p := ⟨1, j, none⟩) hn).trans (h.tab j hj)⟩

set_option maxHeartbeats 1000000 in
theorem tz_core (x k idx : Nat) (w : World) (hx0 : ((x : Int) == 0) = false)
    (key : IntKind.u64.wrap (bits BinOp.and IntKind.u64 (x : Int) (IntKind.u64.wrap (-(x : Int))) * 285870213051353865) / 288230376151711744 = (idx : Int))
    (hi : idx < 64) (hk : k < 64) (hcell : w.cell? ⟨1, idx, none⟩ = some (.int .u8 k)) :
    Calls Tryz.prog 127 #[.int .u64 (x : Int)] w fun e w' => e = .returned (.int .i64 (k : Nat)) ∧ w = w' := by
  go_enter Tryz.func127, Tryz.ntmps127
  go_wp2_with (simp only [key])
  go_ret
  exact ⟨rfl, rfl⟩
theorem tz_any (x : Nat) (hx : U64 x) (h0 : x ≠ 0) (w : World) (ht : TabB w) :
    Calls Tryz.prog 127 #[.int .u64 (x : Int)] w fun e w' => e = .returned (.int .i64 (Lib.ctz 64 x : Nat)) ∧ w = w' := by
  obtain ⟨hlow, hk⟩ := Lib.lowest_bit 64 x h0 (by unfold U64 at hx; omega)
  obtain ⟨hi, htab⟩ := Lib.deBruijn64_at _ hk
  have hcell := ht.tab _ hi
  rw [htab] at hcell
  exact tz_core x _ _ w (by rw [beq_eq_false_iff_ne]; omega) (tz64_key x _ hx h0 hlow) hi hk hcell

theorem ctz_step {x : Nat} (hx : U64 x) (h0 : x ≠ 0) : Lib.ctz 64 x < 64 ∧ bitsOf 64 x = Lib.ctz 64 x :: bitsOf 64 (x &&& (x - 1)) ∧ x &&& (x - 1) < x := by
  obtain ⟨m, hm, hk⟩ := Lib.ctzFrom_spec 64 x (by omega) (by unfold U64 at hx; omega)
  have e : Lib.ctz 64 x = Lib.ctzFrom 64 x := by simp [Lib.ctz, h0]
  rw [e]
  have e2 : x &&& (x - 1) = 2 ^ (Lib.ctzFrom 64 x + 1) * m := by rw [hm, low_and, ← hm]
  refine ⟨hk, ?_, ?_⟩
  · rw [e2, ← bitsOf_low 64 _ m hk, ← hm]
  · have : x &&& (x - 1) ≤ x - 1 := Nat.and_le_right
    omega

/-- A number that a set may have. -/
abbrev N128 := { k : Nat // k < 128 }
def listN (a b : Nat) : List N128 := (setL a b).pmap (fun k h => ⟨k, h⟩) (fun _ h => setL_lt h)
theorem listN_val (a b : Nat) : (listN a b).map (·.1) = setL a b := by
  unfold listN
  rw [List.map_pmap]
  simp

/-- Numbers of one word, from a base on. -/
theorem bitsOf_lt {x k : Nat} (h : k ∈ bitsOf 64 x) : k < 64 := by unfold bitsOf at h; rw [List.mem_filter, List.mem_range] at h; exact h.1
def wordN (i x : Nat) (hi : i < 2) : List N128 := (bitsOf 64 x).pmap (P := fun k => k < 64) (fun k h => ⟨64 * i + k, by omega⟩) (fun _ h => bitsOf_lt h)
theorem wordN_zero (i : Nat) (hi : i < 2) : wordN i 0 hi = [] := by unfold wordN; simp [bitsOf_zero]
theorem pmap_eq {α β : Type} {P : α → Prop} (f : (a : α) → P a → β) : ∀ (l l' : List α) (_ : l = l') (H : ∀ a ∈ l, P a) (H' : ∀ a ∈ l', P a), l.pmap f H = l'.pmap f H' := by
  intro l l' h H H'; subst h; rfl
theorem wordN_step {i x : Nat} (hi : i < 2) (hx : U64 x) (h0 : x ≠ 0) : ∃ y : N128, y.1 = 64 * i + Lib.ctz 64 x ∧ wordN i x hi = y :: wordN i (x &&& (x - 1)) hi := by
  obtain ⟨h1, h2, h3⟩ := ctz_step hx h0
  refine ⟨⟨64 * i + Lib.ctz 64 x, by omega⟩, rfl, ?_⟩
  unfold wordN
  rw [pmap_eq _ _ _ h2 _ (fun k hk => by rw [← h2] at hk; exact bitsOf_lt hk), List.pmap_cons]
theorem wordN_val (i x : Nat) (hi : i < 2) : (wordN i x hi).map (·.1) = (bitsOf 64 x).map (64 * i + ·) := by
  unfold wordN
  rw [List.map_pmap]
  simp
theorem val_inj : ∀ {l l' : List N128}, l.map (·.1) = l'.map (·.1) → l = l'
  | [], [], _ => rfl
  | [], _ :: _, h => by simp at h
  | _ :: _, [], h => by simp at h
  | a :: l, b :: l', h => by
    simp only [List.map_cons, List.cons.injEq] at h
    rw [Subtype.ext h.1, val_inj h.2]
theorem listN_words (a b : Nat) : listN a b = wordN 0 a (by decide) ++ wordN 1 b (by decide) := by
  apply val_inj
  rw [listN_val, List.map_append, wordN_val, wordN_val]
  unfold setL
  congr 1
  simp
theorem listN_len (a b : Nat) : (listN a b).length ≤ 128 := by
  have h1 := congrArg List.length (listN_val a b)
  have h2 := bitsOf_le 64 a
  have h3 := bitsOf_le 64 b
  rw [List.length_map, setL_len] at h1
  omega

/-- Between two rounds, in word number i: so many of its bits are left. -/
def InWord (J : List N128 → World → Prop) (i : Nat) (hi : i < 2) (pre0 : List N128) (c : Nat) (v : Value) (wr : World) : Prop :=
  ∃ x done, v = .int .u64 ((x : Nat) : Int) ∧ U64 x ∧ done ++ wordN i x hi = wordN i c hi ∧ J (pre0 ++ done) wr ∧ TabB wr
def OutR (J : List N128 → World → Prop) (a b : Nat) (t : Value) (wr : World) : Prop :=
  (t = .int .i64 0 ∧ J [] wr ∧ TabB wr) ∨ (t = .int .i64 1 ∧ J (wordN 0 a (by decide)) wr ∧ TabB wr) ∨ (t = .int .i64 2 ∧ J (listN a b) wr ∧ TabB wr)
set_option maxRecDepth 100000 in
set_option maxHeartbeats 4000000 in
theorem all1_stops (n : Nat) (hn : 1 ≤ n) (Bn n₀ a b : Nat) (ha : U64 a) (hb : U64 b) (w : World) (hset : SetAt w Bn a b) (ht : TabB w) (h0 : 1 < n₀) :
    SeqStopsK Fence.wide n Tryz.prog 126 #[.pointer (some ⟨Bn, 0, none⟩)] (fun x : N128 => #[.int .i64 ((x.1 : Nat) : Int)]) (Below n₀) (fun xs => xs = listN a b) (fun pre => pre <+: listN a b) 128 w := by
  intro l J Jx W hW _ _ hY hJ0
  have hs := hset.step hW
  have htW : TabB W := ht.below ht.lt hW
  obtain ⟨k0, k1, -⟩ := hs.cells
  clear hset ht hs hW
  have HY := Lib.hid hY
  clear hY
  refine callsIn_of_wp Tryz.func126 rfl trivial ?_ rfl
  simp only [Tryz.ntmps126, List.size_toArray, List.length_cons, List.length_nil, Nat.reduceAdd, Nat.reduceSub, Array.replicate_succ, Array.replicate_zero, List.push_toArray, List.append_toArray, List.nil_append, List.cons_append]
  gi_wp2
  have i0 : ∀ w, (Instr.index 56 (.agg #[.int .u64 (a : Int), .int .u64 (b : Int)]) (.int .i64 0)).run Tryz.prog w = .ok (.int .u64 (a : Int)) w := fun _ => by kernel_rfl
  have i1 : ∀ w, (Instr.index 56 (.agg #[.int .u64 (a : Int), .int .u64 (b : Int)]) (.int .i64 1)).run Tryz.prog w = .ok (.int .u64 (b : Int)) w := fun _ => by kernel_rfl
  gi_loopw [6] (fun t wr => OutR J a b t wr) (fun t _ => 2 - (intOf t).toNat)
  case atStart => exact .inl ⟨rfl, hJ0, htW⟩
  case round =>
    obtain ⟨wo, rfl⟩ : ∃ wo : World, wo = wr := ⟨_, rfl⟩
    rcases hrel with ⟨rfl, hJr, htr⟩ | ⟨rfl, hJr, htr⟩ | ⟨rfl, hJr, htr⟩
    · skip
      gi_wp2
      gi_loopw [4] (fun v wr => InWord J 0 (by decide) ([]) a v wr) (fun v _ => (intOf v).toNat)
      case atStart => exact ⟨a, [], rfl, ha, rfl, by simpa using hJr, htr⟩
      case round =>
        obtain ⟨x, done, rfl, hx, hd, hJx, htx⟩ := hrel
        by_cases hx0 : x = 0
        · subst hx0
          rw [wordN_zero, List.append_nil] at hd
          subst hd
          gi_wp2
          go_roundw
          case rel => exact .inr (.inl ⟨rfl, by simpa using hJx, htx⟩)
          case measure => simp [intOf]
        · obtain ⟨y, hy1, hy2⟩ := wordN_step (i := 0) (by decide) hx hx0
          obtain ⟨-, -, hless⟩ := ctz_step hx hx0
          have HT := Lib.hid (tz_any x hx hx0 wr htx)
          have hq : ((x : Int) == 0) = false := by rw [beq_eq_false_iff_ne]; omega
          rw [hy2] at hd
          have hlen : ([] ++ done).length < 128 := by
            have h1 := congrArg List.length hd
            have h2 := listN_len a b
            rw [listN_words] at h2
            simp at h1 h2 ⊢
            omega
          have hyl := y.2
          have hpw : IntKind.u64.wrap ((x : Int) - 1) = ((x - 1 : Nat) : Int) := wrap_nat (x - 1) (by omega) (by unfold U64 at hx ⊢; omega)
          have hand : bits .and .u64 (x : Int) ((x - 1 : Nat) : Int) = ((x &&& (x - 1) : Nat) : Int) := and64 x (x - 1) hx (by unfold U64 at hx ⊢; omega)
          generalize Lib.ctz 64 x = k at *
          have e : ((y.1 : Nat) : Int) = (k : Int) := by omega
          have hkb : (k : Int) ≤ 127 := by omega
          have hYy : YieldAt Fence.wide (n - 1) Tryz.prog l #[.int .i64 ((k : Int))] wr (fun e W' => (e = .returned (.bool true) ∧ J ([] ++ done ++ [y]) W' ∧ Below n₀ wr W') ∨ (e = .returned (.bool false) ∧ Jx ([] ++ done ++ [y]) W')) := by rw [← e]; exact HY.out ([] ++ done) y wr hJx hlen
          have hux : U64 (x &&& (x - 1)) := hx.and _
          have HD := Lib.hid hd
          have HUX := Lib.hid hux
          have HL := Lib.hid hless
          generalize x &&& (x - 1) = x' at *
          clear hd hux hless hy1 hy2 e hlen
          obtain ⟨fn, tmps, assign, body, hy, hR⟩ := hYy
          have HR := Lib.hid hR
          clear hR
          gi_wp2_with (refine ⟨trivial, ?_⟩; gi_at_call 127; refine (callsIn_wide.2 HT.out).mono ?_; rintro e w3 ⟨rfl, rfl⟩)
          refine HR.out.mono ?_
          rintro e w3 (⟨rfl, hJ3, hb3⟩ | ⟨rfl, hJx3⟩)
          · have ht3 := htx.below h0 hb3
            gi_wp2
            go_roundw
            case rel => exact ⟨x', done ++ [y], rfl, HUX.out, by rw [List.append_assoc]; exact HD.out, by rw [← List.append_assoc]; exact hJ3, ht3⟩
            case measure => have := HL.out; simp [intOf]; omega
          · gi_wp2
            refine bodyPost_ret (results_none rfl _ _ _) rfl ?_
            exact ⟨⟨_, rfl⟩, .inr ⟨[] ++ done ++ [y], by rw [listN_words, ← HD.out]; exact ⟨wordN 0 x' (by decide) ++ wordN 1 b (by decide), by simp⟩, hJx3⟩⟩
    · skip
      gi_wp2
      gi_loopw [4] (fun v wr => InWord J 1 (by decide) (wordN 0 a (by decide)) b v wr) (fun v _ => (intOf v).toNat)
      case atStart => exact ⟨b, [], rfl, hb, rfl, by simpa using hJr, htr⟩
      case round =>
        obtain ⟨x, done, rfl, hx, hd, hJx, htx⟩ := hrel
        by_cases hx0 : x = 0
        · subst hx0
          rw [wordN_zero, List.append_nil] at hd
          subst hd
          gi_wp2
          go_roundw
          case rel => exact .inr (.inr ⟨rfl, by rw [listN_words]; exact hJx, htx⟩)
          case measure => simp [intOf]
        · obtain ⟨y, hy1, hy2⟩ := wordN_step (i := 1) (by decide) hx hx0
          obtain ⟨-, -, hless⟩ := ctz_step hx hx0
          have HT := Lib.hid (tz_any x hx hx0 wr htx)
          have hq : ((x : Int) == 0) = false := by rw [beq_eq_false_iff_ne]; omega
          rw [hy2] at hd
          have hlen : (wordN 0 a (by decide) ++ done).length < 128 := by
            have h1 := congrArg List.length hd
            have h2 := listN_len a b
            rw [listN_words] at h2
            simp at h1 h2 ⊢
            omega
          have hyl := y.2
          have hpw : IntKind.u64.wrap ((x : Int) - 1) = ((x - 1 : Nat) : Int) := wrap_nat (x - 1) (by omega) (by unfold U64 at hx ⊢; omega)
          have hand : bits .and .u64 (x : Int) ((x - 1 : Nat) : Int) = ((x &&& (x - 1) : Nat) : Int) := and64 x (x - 1) hx (by unfold U64 at hx ⊢; omega)
          generalize Lib.ctz 64 x = k at *
          have e : ((y.1 : Nat) : Int) = 64 + (k : Int) := by omega
          have hkb : (k : Int) ≤ 127 := by omega
          have hYy : YieldAt Fence.wide (n - 1) Tryz.prog l #[.int .i64 (64 + (k : Int))] wr (fun e W' => (e = .returned (.bool true) ∧ J (wordN 0 a (by decide) ++ done ++ [y]) W' ∧ Below n₀ wr W') ∨ (e = .returned (.bool false) ∧ Jx (wordN 0 a (by decide) ++ done ++ [y]) W')) := by rw [← e]; exact HY.out (wordN 0 a (by decide) ++ done) y wr hJx hlen
          have hux : U64 (x &&& (x - 1)) := hx.and _
          have HD := Lib.hid hd
          have HUX := Lib.hid hux
          have HL := Lib.hid hless
          generalize x &&& (x - 1) = x' at *
          clear hd hux hless hy1 hy2 e hlen
          obtain ⟨fn, tmps, assign, body, hy, hR⟩ := hYy
          have HR := Lib.hid hR
          clear hR
          gi_wp2_with (refine ⟨trivial, ?_⟩; gi_at_call 127; refine (callsIn_wide.2 HT.out).mono ?_; rintro e w3 ⟨rfl, rfl⟩)
          refine HR.out.mono ?_
          rintro e w3 (⟨rfl, hJ3, hb3⟩ | ⟨rfl, hJx3⟩)
          · have ht3 := htx.below h0 hb3
            gi_wp2
            go_roundw
            case rel => exact ⟨x', done ++ [y], rfl, HUX.out, by rw [List.append_assoc]; exact HD.out, by rw [← List.append_assoc]; exact hJ3, ht3⟩
            case measure => have := HL.out; simp [intOf]; omega
          · gi_wp2
            refine bodyPost_ret (results_none rfl _ _ _) rfl ?_
            exact ⟨⟨_, rfl⟩, .inr ⟨wordN 0 a (by decide) ++ done ++ [y], by rw [listN_words, ← HD.out]; exact ⟨wordN 1 x' (by decide), by simp⟩, hJx3⟩⟩
    · gi_wp2
      go_end0
      exact ⟨⟨_, rfl⟩, .inl ⟨_, rfl, hJr⟩⟩
end Go.Proofs.YtlcpbfklnjlgnaaGreatDoor

namespace Go.Proofs.YtlcpbfklnjlgnaaGreatDoor
open Go.RowKit Go.Extern.Stop Go.Stop Go.Extern Go.Shelf
attribute [local go_sem] Oper.semAt_some

set_option maxHeartbeats 400000 in
theorem all_any (a b : Nat) (w : World) : Calls Tryz.prog 101 #[setV a b] w fun e w' => e = .returned (.func (.func 126) #[] #[.pointer (some ⟨w.heap.size, 0, none⟩)]) ∧ w' = w.alloc (.cells #[.int .u64 (a : Int), .int .u64 (b : Int)] 56) := by
  go_enter Tryz.func101, Tryz.ntmps101
  go_wp2
  go_ret
  exact ⟨rfl, rfl⟩

/-- The least of a set. -/
def firstI (a b : Nat) : Int := match setL a b with
  | [] => -1
  | k :: _ => (k : Int)
set_option maxRecDepth 100000 in
set_option maxHeartbeats 4000000 in
theorem first_any (a b : Nat) (ha : U64 a) (hb : U64 b) (w : World) (ht : TabB w) :
    Calls Tryz.prog 135 #[setV a b] w fun e w' => e = .returned (.int .i64 (firstI a b)) ∧ Below w.heap.size w w' := by
  refine (callsIn_wide (n := 3)).1 ?_
  have h1 : 1 ≤ 3 := by omega
  refine callsIn_of_wp_marks Tryz.func135 rfl trivial ?_ rfl
  simp only [Tryz.ntmps135, List.size_toArray, List.length_cons, List.length_nil, Nat.reduceAdd, Nat.reduceSub, Array.replicate_succ, Array.replicate_zero, List.push_toArray, List.append_toArray, List.nil_append, List.cons_append]
  gi_wp2_with (refine ⟨trivial, ?_⟩; gi_at_call 101; refine (callsIn_wide.2 (all_any a b _)).mono ?_; rintro e w' ⟨rfl, rfl⟩)
  have hB0 : Below w.heap.size w (((w.alloc (.cells #[.int .u64 (a : Int), .int .u64 (b : Int)] 56)).alloc (.cells #[.int .i64 0] 3)).alloc (.cells #[.int .u64 (a : Int), .int .u64 (b : Int)] 56)) :=
    (((Below.refl _ w).alloc (Nat.le_refl _) _).alloc (by simp) _).alloc (by simp; omega) _
  have hS0 : SetAt (((w.alloc (.cells #[.int .u64 (a : Int), .int .u64 (b : Int)] 56)).alloc (.cells #[.int .i64 0] 3)).alloc (.cells #[.int .u64 (a : Int), .int .u64 (b : Int)] 56)) (w.heap.size + 1 + 1) a b := by
    have := heap_alloc_new ((w.alloc (.cells #[.int .u64 (a : Int), .int .u64 (b : Int)] 56)).alloc (.cells #[.int .i64 0] 3)) (.cells #[.int .u64 (a : Int), .int .u64 (b : Int)] 56)
    rwa [World.size_alloc, World.size_alloc] at this
  have hR0 : (((w.alloc (.cells #[.int .u64 (a : Int), .int .u64 (b : Int)] 56)).alloc (.cells #[.int .i64 0] 3)).alloc (.cells #[.int .u64 (a : Int), .int .u64 (b : Int)] 56)).heap[w.heap.size + 1]? = some (.cells #[.int .i64 0] 3 (0, 0)) := by
    have := heap_alloc_new (w.alloc (.cells #[.int .u64 (a : Int), .int .u64 (b : Int)] 56)) (.cells #[.int .i64 0] 3)
    rw [World.size_alloc] at this
    exact (heap_alloc_old _ _ (by simp)).trans this
  have hT0 := ht.below ht.lt hB0
  refine wpIn_rangeFunc_ownF rfl h1 (gf := 126) (lb := #[.pointer (some ⟨w.heap.size + 1 + 1, 0, none⟩)]) rfl trivial (enters_of Tryz.func126 (by kernel_rfl) rfl)
    (all1_stops 2 (by omega) (w.heap.size + 1 + 1) w.heap.size a b ha hb _ hS0 hT0 ht.lt) belowK_t (belowK_b (by simp; omega)) (Below.refl _ _) (fun _ => rfl)
    (fun pre W => (pre = [] ∧ W.cell? ⟨w.heap.size + 1, 0, none⟩ = some (.int .i64 0) ∧ W.frozen? ⟨w.heap.size + 1, 0, none⟩ = false) ∧ Below w.heap.size w W)
    (fun c pre W => (c = .ret ∧ ∃ x : N128, pre = [x] ∧ W.cell? ⟨w.heap.size + 1, 0, none⟩ = some (.int .i64 ((x.1 : Nat) : Int))) ∧ Below w.heap.size w W)
    (OwnFrom.and (Own.from (fun s A B row hs hg hr => ⟨hs.1, cell_kept hs.2.1 hg hr, (frozen_kept hs.2.1 hg hr).trans hs.2.2⟩) _) (ownFrom_below (Nat.le_refl _) (by simp; omega)))
    (fun c => OwnFrom.and (Own.from (fun s A B row hs hg hr => by obtain ⟨hc, x, hx, hcell⟩ := hs; exact ⟨hc, x, hx, cell_kept hcell hg hr⟩) _) (ownFrom_below (Nat.le_refl _) (by simp; omega)))
    ⟨⟨rfl, by rw [Lib.cell_of_heap hR0]; rfl, by unfold World.frozen?; rw [hR0]; simp⟩, hB0⟩
    (fun x => { tmps := #[setV a b, .pointer (some ⟨w.heap.size, 0, none⟩), .pointer (some ⟨w.heap.size + 1, 0, none⟩), .int .i64 ((x.1 : Nat) : Int), .agg #[.int .u64 (a : Int), .int .u64 (b : Int)], .func (.func 126) #[] #[.pointer (some ⟨w.heap.size + 1 + 1, 0, none⟩)], .int .i64 ((x.1 : Nat) : Int), undef], defers := [] }) ?assign ?body ?done ?stop
  case assign =>
    intro l x W K hK
    gi_wp2
    exact hK
  case body =>
    rintro l pre x W ⟨⟨rfl, hc, hf⟩, hB⟩ _
    gi_wp2
    exact ⟨KeepsOthers.setCell _ _ _, ⟨rfl, x, rfl, World.cell?_setCell_same' _ _ _ (by rw [hc]; rfl)⟩, hB.setCell (p := ⟨w.heap.size + 1, 0, none⟩) (Nat.le_succ _) _⟩
  case done =>
    rintro D xs W hD hxs ⟨⟨rfl, hc, hf⟩, hB⟩ hK
    have hfi : firstI a b = -1 := by
      have e := listN_val a b
      rw [← hxs] at e
      unfold firstI
      rw [← e]
      rfl
    gi_wp2
    have hK' := (KeepsOthers.setCell W ⟨w.heap.size + 1, 0, none⟩ (.int .i64 (-1))).same D _ hK rfl
    refine ⟨by simp, .inl ⟨_, _, rfl, run_takeDeferred hK', ?_⟩⟩
    have hc5 := cell_kept (World.cell?_setCell_same' W ⟨w.heap.size + 1, 0, none⟩ (.int .i64 (-1)) (by rw [hc]; rfl)) (grownBy_putObj' _ D (.deferred none)) (fun r e => by cases e; exact ⟨_, hK', rfl⟩)
    refine ⟨.int .i64 (-1), ?_, by rw [hfi], (hB.setCell (p := ⟨w.heap.size + 1, 0, none⟩) (Nat.le_succ _) _).trans (belowK_b (w := w) (Nat.le_refl _) _ D _ _ (by simp at hD; omega) hK' rfl rfl)⟩
    simp [results, Tryz.f135, go_sem, hc5]
  case stop =>
    rintro D c pre W hD hpre ⟨⟨rfl, x, rfl, hc⟩, hB⟩ hK
    have hfi : firstI a b = ((x.1 : Nat) : Int) := by
      obtain ⟨r, hr⟩ := hpre
      have e := listN_val a b
      rw [← hr] at e
      unfold firstI
      rw [← e]
      rfl
    gi_wp2
    refine ⟨by simp, .inl ⟨_, _, rfl, run_takeDeferred hK, ?_⟩⟩
    have hc5 := cell_kept hc (grownBy_putObj' _ D (.deferred none)) (fun r e => by cases e; exact ⟨_, hK, rfl⟩)
    refine ⟨.int .i64 ((x.1 : Nat) : Int), ?_, by rw [hfi], hB.trans (belowK_b (w := w) (Nat.le_refl _) W D _ _ (by simp at hD; omega) hK rfl rfl)⟩
    simp [results, Tryz.f135, go_sem, hc5]
end Go.Proofs.YtlcpbfklnjlgnaaGreatDoor

namespace Go.Proofs.YtlcpbfklnjlgnaaGreatDoor
open Go.RowKit Go.Extern.Stop Go.Stop Go.Extern Go.Shelf
attribute [local go_sem] Oper.semAt_some

theorem infoInt : (Tryz.prog.info? 3).map (fun i => (i.zero, i.size, i.bytes)) = some (some (.int .i64 0), 1, 8) := by kernel_rfl
def encN (l : List N128) : List Value := l.map fun x => Value.int .i64 ((x.1 : Nat) : Int)
theorem encN_snoc (l : List N128) (x : N128) : encN (l ++ [x]) = encN l ++ [Value.int .i64 ((x.1 : Nat) : Int)] := by unfold encN; simp
end Go.Proofs.YtlcpbfklnjlgnaaGreatDoor

namespace Go.Proofs.YtlcpbfklnjlgnaaGreatDoor
open Go.RowKit Go.Extern.Stop Go.Stop Go.Extern

theorem of535 : ofS [5, 3, 5] = (40, 0) := by decide
theorem list40 : setL 40 0 = [3, 5] := by decide
set_option maxRecDepth 100000 in
set_option maxHeartbeats 2000000 in
theorem awake7_any (w : World) (ht : TabB w) : Calls Tryz.prog 105 #[] w fun e w' => e = .returned (.bool true) ∧ Below w.heap.size w w' := by
  have hI : IntsAt (w.alloc (.cells #[.int .i64 5, .int .i64 3, .int .i64 5] 3)) (.slice (some ⟨w.heap.size, 0, none⟩) 3 3) [5, 3, 5] := by
    refine .inr ⟨w.heap.size, 0, 3, rfl, by simp, fun i c hi => ?_⟩
    rw [Lib.cell_of_heap (heap_alloc_new w _)]
    match i, hi with
    | 0, hi => simp at hi; subst hi; rfl
    | 1, hi => simp at hi; subst hi; rfl
    | 2, hi => simp at hi; subst hi; rfl
  have HO := Lib.hid (of_any _ _ _ hI (by decide))
  rw [of535] at HO
  have HT := Lib.hid ht
  have u0 : U64 40 := by unfold U64; decide
  have HL := Lib.hid (fun W => len_any 40 0 u0 zero_u64 W)
  rw [list40] at HL
  have HF := Lib.hid (fun W h => first_any 40 0 u0 zero_u64 W h)
  have hf : firstI 40 0 = 3 := by unfold firstI; rw [list40]; rfl
  rw [hf] at HF
  have H5 := Lib.hid (fun W => has_any 40 0 5 u0 zero_u64 W)
  have h5 : hasI 40 0 5 = true := by decide
  rw [h5] at H5
  have H4 := Lib.hid (fun W => has_any 40 0 4 u0 zero_u64 W)
  have h4 : hasI 40 0 4 = false := by decide
  rw [h4] at H4
  have HB := Lib.hid (below_new w (.cells #[.int .i64 5, .int .i64 3, .int .i64 5] 3))
  clear hI ht hf h5 h4 u0
  go_enter Tryz.func105, Tryz.ntmps105
  go_wp2_with fail
  refine HO.out.mono ?_
  rintro e w1 ⟨rfl, b1⟩
  have HB1 := Lib.hid (HB.out.trans (b1.mono HB.out.size))
  clear b1 HO
  go_wp2_with fail
  refine (HL.out _).mono ?_
  rintro e w2 ⟨rfl, b2⟩
  have hs : SetAt (w1.alloc (.cells #[.int .u64 ((40 : Nat) : Int), .int .u64 ((0 : Nat) : Int)] 56)) w1.heap.size 40 0 := boxed_set w1 40 0
  have hb := below_new w1 (.cells #[.int .u64 ((40 : Nat) : Int), .int .u64 ((0 : Nat) : Int)] 56)
  have hs2 := hs.step b2
  have HB2 := Lib.hid (HB1.out.trans ((hb.trans (b2.mono hb.size)).mono HB1.out.size))
  have k0 := hs2.cells.1
  have k1 := hs2.cells.2.1
  have HS2 := Lib.hid hs2
  clear hs hb b2 hs2
  go_wp2_with fail
  refine (HF.out _ (HT.out.below HT.out.lt HB2.out)).mono ?_
  rintro e w3 ⟨rfl, b3⟩
  have hs3 := HS2.out.step b3
  have HB3 := Lib.hid (HB2.out.trans (b3.mono HB2.out.size))
  have k0 := hs3.cells.1
  have k1 := hs3.cells.2.1
  have HS3 := Lib.hid hs3
  clear b3 hs3 HS2
  go_wp2_with fail
  refine (H5.out _).mono ?_
  rintro e w4 ⟨rfl, b4⟩
  have hs4 := HS3.out.step b4
  have HB4 := Lib.hid (HB3.out.trans (b4.mono HB3.out.size))
  have k0 := hs4.cells.1
  have k1 := hs4.cells.2.1
  clear b4 hs4 HS3
  go_wp2_with fail
  refine (H4.out _).mono ?_
  rintro e w5 ⟨rfl, b5⟩
  have HB5 := Lib.hid (HB4.out.trans (b5.mono HB4.out.size))
  clear b5
  go_wp2_with fail
  go_ret
  exact ⟨rfl, HB5.out⟩
end Go.Proofs.YtlcpbfklnjlgnaaGreatDoor
