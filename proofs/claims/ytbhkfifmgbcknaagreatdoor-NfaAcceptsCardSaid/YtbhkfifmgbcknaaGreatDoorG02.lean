/-
  A part of the proof of the statement NfaAccepts.
-/
import Derived.Test.YtbhkfifmgbcknaaGreatDoorProg
import Derived.Below
import Derived.WalkKit
import Derived.WalkLawsBesides
import Derived.Deep.LoopGhost
import Derived.Lib.Hide
import Derived.Outline
import Derived.Laws.BitsAllLaws
import Derived.IntWalk
import Derived.Laws.Bits128
set_option linter.unusedSimpArgs false
set_option linter.unusedVariables false
namespace Go.Proofs.YtbhkfifmgbcknaaGreatDoor
open Go
theorem and_rec (k q r q' r' : Nat) (h : r < 2 ^ k) (h' : r' < 2 ^ k) : (2 ^ k * q + r) &&& (2 ^ k * q' + r') = 2 ^ k * (q &&& q') + (r &&& r') := by
  apply Nat.eq_of_testBit_eq
  intro i
  rw [Nat.testBit_and, Nat.testBit_two_pow_mul_add _ h, Nat.testBit_two_pow_mul_add _ h', Nat.testBit_two_pow_mul_add _ (Nat.and_lt_two_pow _ h')]
  split <;> simp
def bitsOf (n x : Nat) : List Nat := (List.range n).filter x.testBit
def mk (B r : Nat) : Nat → Nat
  | 0 => 0
  | n + 1 => B * mk B r n + r
def dsum (B : Nat) : Nat → Nat → Nat
  | 0, _ => 0
  | n + 1, x => x % B + dsum B n (x / B)
def dle (B m : Nat) : Nat → Nat → Prop
  | 0, _ => True
  | n + 1, x => x % B ≤ m ∧ dle B m n (x / B)
theorem dsum_s (B n x : Nat) : dsum B (n + 1) x = x % B + dsum B n (x / B) := rfl
theorem ones_step (n x : Nat) : (bitsOf (n + 1) x).length = x % 2 + (bitsOf n (x / 2)).length := by
  unfold bitsOf
  rw [List.range_succ_eq_map, List.filter_cons]
  have e : ((List.map Nat.succ (List.range n)).filter x.testBit).length = ((List.range n).filter (x / 2).testBit).length := by
    rw [List.filter_map, List.length_map]
    congr 1
    apply List.filter_congr
    intro i _
    simp [Function.comp, Nat.testBit_succ]
  rcases Nat.mod_two_eq_zero_or_one x with h | h
  · have : x.testBit 0 = false := by simp [Nat.testBit_zero, h]
    rw [this]; simp only [Bool.false_eq_true, if_false]; rw [e, h]; omega
  · have : x.testBit 0 = true := by simp [Nat.testBit_zero, h]
    rw [this]; simp only [if_true, List.length_cons]; rw [e, h]; omega
def f1 (n x : Nat) : Nat := (x / 2 &&& mk 4 1 n) + (x &&& mk 4 1 n)
theorem and_one' (r : Nat) : r &&& 1 = r % 2 := by exact Nat.and_two_pow_sub_one_eq_mod r 1
theorem and_three (r : Nat) : r &&& 3 = r % 4 := by have := Nat.and_two_pow_sub_one_eq_mod r 2; simpa using this
theorem and_fifteen (r : Nat) : r &&& 15 = r % 16 := by have := Nat.and_two_pow_sub_one_eq_mod r 4; simpa using this
theorem f1_step (n x : Nat) : f1 (n + 1) x = 4 * f1 n (x / 4) + (x % 4 / 2 + x % 2) := by
  unfold f1
  have e1 : x / 2 = 2 ^ 2 * (x / 4 / 2) + (2 * (x / 4 % 2) + x % 4 / 2) := by omega
  have e2 : x = 2 ^ 2 * (x / 4) + x % 4 := by omega
  have m : mk 4 1 (n + 1) = 2 ^ 2 * mk 4 1 n + 1 := rfl
  have a1 := and_rec 2 (x / 4 / 2) (2 * (x / 4 % 2) + x % 4 / 2) (mk 4 1 n) 1 (by omega) (by omega)
  have a2 := and_rec 2 (x / 4) (x % 4) (mk 4 1 n) 1 (by omega) (by omega)
  rw [← e1, ← m, and_one'] at a1
  rw [← e2, ← m, and_one'] at a2
  rw [a1, a2]
  omega
theorem f1_sum : ∀ n x : Nat, dsum 4 n (f1 n x) = (bitsOf (2 * n) x).length ∧ dle 4 2 n (f1 n x)
  | 0, x => ⟨rfl, trivial⟩
  | n + 1, x => by
    obtain ⟨h1, h2⟩ := f1_sum n (x / 4)
    have e := f1_step n x
    have m : f1 (n + 1) x % 4 = x % 4 / 2 + x % 2 := by omega
    have d : f1 (n + 1) x / 4 = f1 n (x / 4) := by omega
    constructor
    · unfold dsum
      rw [m, d, h1, show 2 * (n + 1) = 2 * n + 1 + 1 by omega, ones_step, ones_step, show x / 2 / 2 = x / 4 by omega]
      omega
    · unfold dle
      rw [m, d]
      exact ⟨by omega, h2⟩
def f2 (n x : Nat) : Nat := (x / 4 &&& mk 16 3 n) + (x &&& mk 16 3 n)
theorem f2_step (n x : Nat) : f2 (n + 1) x = 16 * f2 n (x / 16) + (x % 16 / 4 + x % 4) := by
  unfold f2
  have e1 : x / 4 = 2 ^ 4 * (x / 16 / 4) + (4 * (x / 16 % 4) + x % 16 / 4) := by omega
  have e2 : x = 2 ^ 4 * (x / 16) + x % 16 := by omega
  have m : mk 16 3 (n + 1) = 2 ^ 4 * mk 16 3 n + 3 := rfl
  have a1 := and_rec 4 (x / 16 / 4) (4 * (x / 16 % 4) + x % 16 / 4) (mk 16 3 n) 3 (by omega) (by omega)
  have a2 := and_rec 4 (x / 16) (x % 16) (mk 16 3 n) 3 (by omega) (by omega)
  rw [← e1, ← m, and_three] at a1
  rw [← e2, ← m, and_three] at a2
  rw [a1, a2]
  omega
theorem f2_sum : ∀ n x : Nat, dle 4 2 (2 * n) x → dsum 16 n (f2 n x) = dsum 4 (2 * n) x ∧ dle 16 4 n (f2 n x)
  | 0, x, _ => ⟨rfl, trivial⟩
  | n + 1, x, h => by
    rw [show 2 * (n + 1) = 2 * n + 1 + 1 by omega] at h ⊢
    unfold dle dle at h
    rw [show x / 4 / 4 = x / 16 by omega] at h
    obtain ⟨g1, g2, g3⟩ := h
    obtain ⟨h1, h2⟩ := f2_sum n (x / 16) g3
    have e := f2_step n x
    have m : f2 (n + 1) x % 16 = x % 16 / 4 + x % 4 := by omega
    have d : f2 (n + 1) x / 16 = f2 n (x / 16) := by omega
    constructor
    · rw [dsum_s, m, d, h1, dsum_s, dsum_s, show x / 4 / 4 = x / 16 by omega]
      omega
    · unfold dle
      rw [m, d]
      exact ⟨by omega, h2⟩
def f3 (n x : Nat) : Nat := (x / 16 + x) &&& mk 256 15 n
theorem f3_step (n x : Nat) (h : dle 16 4 (2 * (n + 1)) x) (hx : x < 256 ^ (n + 1)) : f3 (n + 1) x = 256 * f3 n (x / 256) + (x % 256 / 16 + x % 16) := by
  unfold f3
  rw [show 2 * (n + 1) = 2 * n + 1 + 1 by omega] at h
  unfold dle dle at h
  obtain ⟨g1, g2, g3⟩ := h
  rw [show x / 16 / 16 = x / 256 by omega] at g3
  have g4 : x / 256 % 16 ≤ 4 := by
    cases n with
    | zero => omega
    | succ n => rw [show 2 * (n + 1) = 2 * n + 1 + 1 by omega] at g3; unfold dle at g3; exact g3.1
  have e1 : x / 16 + x = 2 ^ 8 * (x / 256 / 16 + x / 256) + (16 * (x / 256 % 16) + x % 256 / 16 + x % 256) := by omega
  have m : mk 256 15 (n + 1) = 2 ^ 8 * mk 256 15 n + 15 := rfl
  have a1 := and_rec 8 (x / 256 / 16 + x / 256) (16 * (x / 256 % 16) + x % 256 / 16 + x % 256) (mk 256 15 n) 15 (by omega) (by omega)
  rw [← e1, ← m, and_fifteen] at a1
  have hh : x % 256 / 16 = x / 16 % 16 := by omega
  have hm : (16 * (x / 256 % 16) + x % 256 / 16 + x % 256) % 16 = x % 256 / 16 + x % 16 := by
    have : x % 256 = 16 * (x % 256 / 16) + x % 16 := by omega
    rw [this]
    omega
  rw [a1, hm]
theorem f3_sum : ∀ n x : Nat, dle 16 4 (2 * n) x → x < 256 ^ n → dsum 256 n (f3 n x) = dsum 16 (2 * n) x ∧ dle 256 8 n (f3 n x)
  | 0, x, _, _ => ⟨rfl, trivial⟩
  | n + 1, x, h, hx => by
    have e := f3_step n x h hx
    rw [show 2 * (n + 1) = 2 * n + 1 + 1 by omega] at h ⊢
    unfold dle dle at h
    rw [show x / 16 / 16 = x / 256 by omega] at h
    obtain ⟨g1, g2, g3⟩ := h
    obtain ⟨h1, h2⟩ := f3_sum n (x / 256) g3 (by rw [Nat.pow_succ] at hx; exact Nat.div_lt_of_lt_mul (by omega))
    have m : f3 (n + 1) x % 256 = x % 256 / 16 + x % 16 := by omega
    have d : f3 (n + 1) x / 256 = f3 n (x / 256) := by omega
    constructor
    · rw [dsum_s, m, d, h1, dsum_s, dsum_s, show x / 16 / 16 = x / 256 by omega]
      omega
    · unfold dle
      rw [m, d]
      exact ⟨by omega, h2⟩
theorem dsum_mk : mk 4 1 32 = 0x5555555555555555 ∧ mk 16 3 16 = 0x3333333333333333 ∧ mk 256 15 8 = 0x0f0f0f0f0f0f0f0f := by decide
theorem last_sum (y : Nat) (h : dle 256 8 8 y) (hy : y ≤ 0x0f0f0f0f0f0f0f0f) : (y + y / 256 + (y + y / 256) / 65536 + (y + y / 256 + (y + y / 256) / 65536) / 4294967296) % 128 = dsum 256 8 y := by
  simp only [dle] at h
  simp only [dsum]
  obtain ⟨c0, c1, c2, c3, c4, c5, c6, c7, -⟩ := h
  generalize f1 : y / 256 = y1 at *
  generalize f2 : y1 / 256 = y2 at *
  generalize f3 : y2 / 256 = y3 at *
  generalize f4 : y3 / 256 = y4 at *
  generalize f5 : y4 / 256 = y5 at *
  generalize f6 : y5 / 256 = y6 at *
  generalize f7 : y6 / 256 = y7 at *
  generalize e0 : y % 256 = d0 at *
  generalize e1 : y1 % 256 = d1 at *
  generalize e2 : y2 % 256 = d2 at *
  generalize e3 : y3 % 256 = d3 at *
  generalize e4 : y4 % 256 = d4 at *
  generalize e5 : y5 % 256 = d5 at *
  generalize e6 : y6 % 256 = d6 at *
  have g0 : y = d0 + 256 * y1 := by omega
  have g1 : y1 = d1 + 256 * y2 := by omega
  have g2 : y2 = d2 + 256 * y3 := by omega
  have g3 : y3 = d3 + 256 * y4 := by omega
  have g4 : y4 = d4 + 256 * y5 := by omega
  have g5 : y5 = d5 + 256 * y6 := by omega
  have g6 : y6 = d6 + 256 * y7 := by omega
  have k7 : y7 % 256 = y7 := Nat.mod_eq_of_lt (by omega)
  rw [k7] at c7 ⊢
  clear e0 e1 e2 e3 e4 e5 e6 f1 f2 f3 f4 f5 f6 f7 k7
  obtain ⟨z, hz⟩ : ∃ z, z = y + y1 := ⟨_, rfl⟩
  rw [← hz]
  have z1 : z / 65536 = (d2 + d3) + 256 * ((d3 + d4) + 256 * ((d4 + d5) + 256 * ((d5 + d6) + 256 * ((d6 + y7) + 256 * y7)))) := by omega
  obtain ⟨t, ht⟩ : ∃ t, t = z + z / 65536 := ⟨_, rfl⟩
  rw [← ht]
  have t1 : t / 4294967296 = (d4 + d5 + d6 + y7) + 256 * ((d5 + d6 + y7) + 256 * ((d6 + y7) + 256 * y7)) := by omega
  omega
theorem ones64 (x : Nat) :
    ∃ x1 x2 x3 : Nat, x1 = (x / 2 &&& 0x5555555555555555) + (x &&& 0x5555555555555555) ∧ x2 = (x1 / 4 &&& 0x3333333333333333) + (x1 &&& 0x3333333333333333) ∧ x3 = (x2 / 16 + x2) &&& 0x0f0f0f0f0f0f0f0f ∧
      x1 < 18446744073709551616 ∧ x2 ≤ 0x6666666666666666 ∧ x3 ≤ 0x0f0f0f0f0f0f0f0f ∧
      (x3 + x3 / 256 + (x3 + x3 / 256) / 65536 + (x3 + x3 / 256 + (x3 + x3 / 256) / 65536) / 4294967296) % 128 = (bitsOf 64 x).length := by
  obtain ⟨m1, m2, m3⟩ := dsum_mk
  obtain ⟨a1, b1⟩ := f1_sum 32 x
  obtain ⟨a2, b2⟩ := f2_sum 16 (f1 32 x) b1
  have l2 : f2 16 (f1 32 x) ≤ 0x6666666666666666 := by
    unfold f2; rw [m2]
    have := @Nat.and_le_right (f1 32 x / 4) 0x3333333333333333
    have := @Nat.and_le_right (f1 32 x) 0x3333333333333333
    omega
  obtain ⟨a3, b3⟩ := f3_sum 8 (f2 16 (f1 32 x)) b2 (by omega)
  have e1 : f1 32 x = (x / 2 &&& 0x5555555555555555) + (x &&& 0x5555555555555555) := by unfold f1; rw [m1]
  refine ⟨f1 32 x, f2 16 (f1 32 x), f3 8 (f2 16 (f1 32 x)), e1, by unfold f2; rw [m2], by unfold f3; rw [m3], ?_, l2, ?_, ?_⟩
  · rw [e1]
    have := @Nat.and_le_right (x / 2) 0x5555555555555555
    have := @Nat.and_le_right x 0x5555555555555555
    omega
  · unfold f3; rw [m3]; exact Nat.and_le_right
  · have l3 : f3 8 (f2 16 (f1 32 x)) ≤ 0x0f0f0f0f0f0f0f0f := by unfold f3; rw [m3]; exact Nat.and_le_right
    rw [last_sum _ b3 l3, a3]
    exact a2.trans a1
theorem low_and (k m : Nat) : 2 ^ k * (2 * m + 1) &&& (2 ^ k * (2 * m + 1) - 1) = 2 ^ (k + 1) * m := by
  have hp : 0 < 2 ^ k := Nat.two_pow_pos k
  have e1 : 2 ^ k * (2 * m + 1) = 2 ^ (k + 1) * m + 2 ^ k := by rw [Nat.pow_succ, Nat.mul_add, Nat.mul_one, Nat.mul_assoc]
  have e2 : 2 ^ (k + 1) * m + 2 ^ k - 1 = 2 ^ (k + 1) * m + (2 ^ k - 1) := by omega
  have l : 2 ^ k < 2 ^ (k + 1) := by rw [Nat.pow_succ]; omega
  rw [e1, e2, and_rec (k + 1) m (2 ^ k) m (2 ^ k - 1) l (by omega), Nat.and_self, Nat.and_two_pow_sub_one_eq_mod, Nat.mod_self, Nat.add_zero]
theorem low_bit (k m i : Nat) : (2 ^ k * (2 * m + 1)).testBit i = if i < k + 1 then decide (k = i) else m.testBit (i - (k + 1)) := by
  have e1 : 2 ^ k * (2 * m + 1) = 2 ^ (k + 1) * m + 2 ^ k := by rw [Nat.pow_succ, Nat.mul_add, Nat.mul_one, Nat.mul_assoc]
  have l : 2 ^ k < 2 ^ (k + 1) := by have := Nat.two_pow_pos k; rw [Nat.pow_succ]; omega
  rw [e1, Nat.testBit_two_pow_mul_add _ l, Nat.testBit_two_pow]
theorem low_rest (k m i : Nat) : (2 ^ (k + 1) * m).testBit i = if i < k + 1 then false else m.testBit (i - (k + 1)) := by
  have := Nat.testBit_two_pow_mul_add m (Nat.two_pow_pos (k + 1)) i
  rw [Nat.add_zero] at this
  rw [this]
  split <;> simp
theorem bitsOf_zero (n : Nat) : bitsOf n 0 = [] := by
  unfold bitsOf
  rw [List.filter_eq_nil_iff]
  simp
theorem bitsOf_low (n k m : Nat) (h : k < n) : bitsOf n (2 ^ k * (2 * m + 1)) = k :: bitsOf n (2 ^ (k + 1) * m) := by
  obtain ⟨r, rfl⟩ : ∃ r, n = k + (1 + r) := ⟨n - k - 1, by omega⟩
  unfold bitsOf
  rw [List.range_add, List.range_add, List.filter_append, List.filter_append]
  have n1 : (List.range k).filter (2 ^ k * (2 * m + 1)).testBit = [] := by
    rw [List.filter_eq_nil_iff]
    intro i hi
    rw [List.mem_range] at hi
    rw [low_bit, if_pos (by omega)]
    simp; omega
  have n2 : (List.range k).filter (2 ^ (k + 1) * m).testBit = [] := by
    rw [List.filter_eq_nil_iff]
    intro i hi
    rw [List.mem_range] at hi
    rw [low_rest, if_pos (by omega)]
    simp
  rw [n1, n2, List.nil_append, List.nil_append, show List.range 1 = [0] from rfl, List.map_append, List.filter_append, List.filter_append]
  have c1 : (List.map (fun x => k + x) [0]).filter (2 ^ k * (2 * m + 1)).testBit = [k] := by
    simp [low_bit]
  have c2 : (List.map (fun x => k + x) [0]).filter (2 ^ (k + 1) * m).testBit = [] := by
    simp [low_rest]
  rw [c1, c2, List.nil_append, List.singleton_append]
  congr 1
  apply List.filter_congr
  intro i hi
  simp only [List.mem_map, List.mem_range] at hi
  obtain ⟨j, ⟨u, hu, rfl⟩, rfl⟩ := hi
  rw [low_bit, low_rest, if_neg (by omega), if_neg (by omega)]
def setL (a b : Nat) : List Nat := bitsOf 64 a ++ (bitsOf 64 b).map (64 + ·)
def hasB (a b : Nat) (i : Nat) : Bool := if i < 64 then a.testBit i else if i < 128 then b.testBit (i - 64) else false
theorem setL_eq (a b : Nat) : setL a b = (List.range 128).filter (hasB a b) := by
  unfold setL bitsOf
  rw [show (128 : Nat) = 64 + 64 from rfl, List.range_add, List.filter_append, List.filter_map]
  congr 1
theorem setL_mem (a b i : Nat) : i ∈ setL a b ↔ hasB a b i = true := by
  rw [setL_eq, List.mem_filter, List.mem_range]
  refine ⟨fun h => h.2, fun h => ⟨?_, h⟩⟩
  by_cases h' : i < 128
  · exact h'
  · unfold hasB at h
    rw [if_neg (by omega), if_neg h'] at h
    cases h
theorem setL_lt {a b i : Nat} (h : i ∈ setL a b) : i < 128 := by
  rw [setL_eq, List.mem_filter, List.mem_range] at h
  exact h.1
def U64 (a : Nat) : Prop := a < 18446744073709551616
def lessN (a b : Nat) : Nat := a &&& (18446744073709551615 - b)
theorem testBit_less {a b : Nat} (ha : U64 a) (hb : U64 b) (i : Nat) : (lessN a b).testBit i = (a.testBit i && !b.testBit i) := by
  unfold lessN U64 at *
  have e := @Nat.testBit_two_pow_sub_succ b 64 (by omega) i
  rw [show 2 ^ 64 - (b + 1) = 18446744073709551615 - b by omega] at e
  rw [Nat.testBit_and, e]
  by_cases h : i < 64
  · simp [h]
  · have : a.testBit i = false := Nat.testBit_lt_two_pow (Nat.lt_of_lt_of_le ha (by have := Nat.pow_le_pow_right (n := 2) (by decide) (show 64 ≤ i by omega); omega))
    simp [this]
theorem U64.and {a : Nat} (b : Nat) (ha : U64 a) : U64 (a &&& b) := Nat.lt_of_le_of_lt Nat.and_le_left ha
theorem U64.or {a b : Nat} (ha : U64 a) (hb : U64 b) : U64 (a ||| b) := Nat.or_lt_two_pow (n := 64) ha hb
theorem U64.less {a : Nat} (b : Nat) (ha : U64 a) : U64 (lessN a b) := ha.and _
theorem hasB_or (a b c d i : Nat) : hasB (a ||| c) (b ||| d) i = (hasB a b i || hasB c d i) := by
  unfold hasB; split
  · simp
  · split <;> simp
theorem hasB_and (a b c d i : Nat) : hasB (a &&& c) (b &&& d) i = (hasB a b i && hasB c d i) := by
  unfold hasB; split
  · simp
  · split <;> simp
theorem hasB_less {a b c d : Nat} (ha : U64 a) (hb : U64 b) (hc : U64 c) (hd : U64 d) (i : Nat) : hasB (lessN a c) (lessN b d) i = (hasB a b i && !hasB c d i) := by
  unfold hasB; split
  · simp [testBit_less ha hc]
  · split <;> simp [testBit_less hb hd]
def oneW (i : Int) : Nat × Nat := if 0 ≤ i ∧ i < 64 then (2 ^ i.toNat, 0) else if 64 ≤ i ∧ i < 128 then (0, 2 ^ (i.toNat - 64)) else (0, 0)
theorem pow_u64 {k : Nat} (h : k < 64) : U64 (2 ^ k) := by
  have := Nat.pow_lt_pow_right (a := 2) (by decide) h
  unfold U64; omega
theorem zero_u64 : U64 0 := by unfold U64; decide
theorem oneW_u64 (i : Int) : U64 (oneW i).1 ∧ U64 (oneW i).2 := by
  unfold oneW
  split
  · exact ⟨pow_u64 (by omega), zero_u64⟩
  · split
    · exact ⟨zero_u64, pow_u64 (by omega)⟩
    · exact ⟨zero_u64, zero_u64⟩
theorem hasB_one (i : Int) (j : Nat) : hasB (oneW i).1 (oneW i).2 j = (decide ((j : Int) = i) && decide (j < 128)) := by
  unfold oneW hasB
  by_cases h1 : j < 64
  · rw [if_pos h1]
    by_cases h : 0 ≤ i ∧ i < 64
    · rw [if_pos h, Nat.testBit_two_pow, Bool.eq_iff_iff]; simp; omega
    · rw [if_neg h]
      by_cases h' : 64 ≤ i ∧ i < 128
      · rw [if_pos h']; simp; omega
      · rw [if_neg h']; simp; omega
  · rw [if_neg h1]
    by_cases h2 : j < 128
    · rw [if_pos h2]
      by_cases h : 0 ≤ i ∧ i < 64
      · rw [if_pos h]; simp; omega
      · rw [if_neg h]
        by_cases h' : 64 ≤ i ∧ i < 128
        · rw [if_pos h', Nat.testBit_two_pow, Bool.eq_iff_iff]; simp; omega
        · rw [if_neg h']; simp; omega
    · rw [if_neg h2]; simp; omega
theorem hasB_ge (a b : Nat) {i : Nat} (h : 128 ≤ i) : hasB a b i = false := by
  unfold hasB; rw [if_neg (by omega), if_neg (by omega)]
theorem set_ext {a b c d : Nat} (ha : U64 a) (hb : U64 b) (hc : U64 c) (hd : U64 d) (h : ∀ i, hasB a b i = hasB c d i) : a = c ∧ b = d := by
  have out : ∀ {x i : Nat}, U64 x → ¬ i < 64 → x.testBit i = false := fun {x i} hx hi =>
    Nat.testBit_lt_two_pow (Nat.lt_of_lt_of_le hx (by have := Nat.pow_le_pow_right (n := 2) (by decide) (show 64 ≤ i by omega); omega))
  constructor
  · apply Nat.eq_of_testBit_eq
    intro i
    by_cases hi : i < 64
    · have := h i
      simpa [hasB, hi] using this
    · rw [out ha hi, out hc hi]
  · apply Nat.eq_of_testBit_eq
    intro i
    by_cases hi : i < 64
    · have := h (64 + i)
      simpa [hasB, show ¬ 64 + i < 64 by omega, show 64 + i < 128 by omega] using this
    · rw [out hb hi, out hd hi]
end Go.Proofs.YtbhkfifmgbcknaaGreatDoor
namespace Go.Proofs.YtbhkfifmgbcknaaGreatDoor
open Go.RowKit Go.Extern.Stop Go.Stop Go.Extern
theorem below_new (w : World) (o : Obj) : Below w.heap.size w (w.alloc o) := (Below.refl _ _).alloc (Nat.le_refl _) _
abbrev setV (a b : Nat) : Value := .agg #[.int .u64 (a : Int), .int .u64 (b : Int)]
theorem or64 (a b : Nat) (ha : U64 a) (hb : U64 b) : bits .or .u64 (a : Int) (b : Int) = ((a ||| b : Nat) : Int) := by
  have := u64_or a b (by omega) (by unfold U64 at ha; omega) (by omega) (by unfold U64 at hb; omega)
  simpa using this
theorem and64 (a b : Nat) (ha : U64 a) (hb : U64 b) : bits .and .u64 (a : Int) (b : Int) = ((a &&& b : Nat) : Int) := by
  have := u64_and a b (by omega) (by unfold U64 at ha; omega) (by omega) (by unfold U64 at hb; omega)
  simpa using this
theorem less64 (a b : Nat) (ha : U64 a) (hb : U64 b) : bits .andNot .u64 (a : Int) (b : Int) = ((lessN a b : Nat) : Int) := by
  have := u64_andNot a b (by omega) (by unfold U64 at ha; omega) (by omega) (by unfold U64 at hb; omega)
  simpa [lessN] using this
set_option maxHeartbeats 400000 in
theorem or_any (a b c d : Nat) (ha : U64 a) (hb : U64 b) (hc : U64 c) (hd : U64 d) (w : World) :
    Calls Tryz.prog 50 #[setV a b, setV c d] w fun e w' => e = .returned (setV (a ||| c) (b ||| d)) ∧ Below w.heap.size w w' := by
  have h1 := or64 a c ha hc
  have h2 := or64 b d hb hd
  go_enter Tryz.func50, Tryz.ntmps50
  go_wp2
  refine bodyPost_ret (v := setV (a ||| c) (b ||| d)) (by simp [results, Tryz.f50, go_sem]) rfl ⟨rfl, ?_⟩
  exact (((Below.refl _ _).alloc (Nat.le_refl _) _).alloc (by simp) _).alloc (by simp; omega) _
set_option maxHeartbeats 400000 in
theorem and_any (a b c d : Nat) (ha : U64 a) (hb : U64 b) (hc : U64 c) (hd : U64 d) (w : World) :
    Calls Tryz.prog 66 #[setV a b, setV c d] w fun e w' => e = .returned (setV (a &&& c) (b &&& d)) ∧ Below w.heap.size w w' := by
  have h1 := and64 a c ha hc
  have h2 := and64 b d hb hd
  go_enter Tryz.func66, Tryz.ntmps66
  go_wp2
  refine bodyPost_ret (v := setV (a &&& c) (b &&& d)) (by simp [results, Tryz.f66, go_sem]) rfl ⟨rfl, ?_⟩
  exact (((Below.refl _ _).alloc (Nat.le_refl _) _).alloc (by simp) _).alloc (by simp; omega) _
set_option maxHeartbeats 400000 in
theorem less_any (a b c d : Nat) (ha : U64 a) (hb : U64 b) (hc : U64 c) (hd : U64 d) (w : World) :
    Calls Tryz.prog 36 #[setV a b, setV c d] w fun e w' => e = .returned (setV (lessN a c) (lessN b d)) ∧ Below w.heap.size w w' := by
  have h1 := less64 a c ha hc
  have h2 := less64 b d hb hd
  go_enter Tryz.func36, Tryz.ntmps36
  go_wp2
  refine bodyPost_ret (v := setV (lessN a c) (lessN b d)) (by simp [results, Tryz.f36, go_sem]) rfl ⟨rfl, ?_⟩
  exact (((Below.refl _ _).alloc (Nat.le_refl _) _).alloc (by simp) _).alloc (by simp; omega) _
theorem wrap_nat {x : Int} (n : Nat) (h : x = (n : Int)) (hn : U64 n) : IntKind.u64.wrap x = (n : Int) := by
  subst h
  unfold U64 at hn
  simp [IntKind.wrap, IntKind.bits, IntKind.signed]
  omega
set_option maxHeartbeats 1000000 in
theorem one_lo (i : Int) (h0 : 0 ≤ i) (h1 : i < 64) (w : World) : Calls Tryz.prog 51 #[.int .i64 i] w fun e w' => e = .returned (setV (2 ^ i.toNat) 0) ∧ Below w.heap.size w w' := by
  have q0 : i / 64 = 0 := by omega
  have q1 : i % 64 = i := by omega
  have hw : IntKind.u64.wrap (2 ^ i.toNat) = ((2 ^ i.toNat : Nat) : Int) := wrap_nat _ (by simp) (pow_u64 (by omega))
  go_enter Tryz.func51, Tryz.ntmps51
  go_wp2
  refine bodyPost_ret (v := setV (2 ^ i.toNat) 0) (by simp [results, Tryz.f51, go_sem]) rfl ⟨rfl, ?_⟩
  exact ((Below.refl _ _).alloc (Nat.le_refl _) _).alloc (by simp) _
set_option maxHeartbeats 1000000 in
theorem one_hi (i : Int) (h0 : 64 ≤ i) (h1 : i < 128) (w : World) : Calls Tryz.prog 51 #[.int .i64 i] w fun e w' => e = .returned (setV 0 (2 ^ (i.toNat - 64))) ∧ Below w.heap.size w w' := by
  have q2 : (0 : Int) ≤ i := by omega
  obtain ⟨j, rfl⟩ : ∃ j : Nat, i = 64 + j := ⟨(i - 64).toNat, by omega⟩
  have q0 : (64 + (j : Int)) / 64 = 1 := by omega
  have q1 : (64 + (j : Int)) % 64 = j := by omega
  have hw : IntKind.u64.wrap (2 ^ j) = ((2 ^ j : Nat) : Int) := wrap_nat _ (by simp) (pow_u64 (by omega))
  have hj : (64 + (j : Int)).toNat - 64 = j := by omega
  rw [hj]
  clear hj
  go_enter Tryz.func51, Tryz.ntmps51
  go_wp2
  refine bodyPost_ret (v := setV 0 (2 ^ j)) (by simp [results, Tryz.f51, go_sem]) rfl ⟨rfl, ?_⟩
  exact ((Below.refl _ _).alloc (Nat.le_refl _) _).alloc (by simp) _
set_option maxHeartbeats 1000000 in
theorem one_out (i : Int) (h : i < 0 ∨ 128 ≤ i) (w : World) : Calls Tryz.prog 51 #[.int .i64 i] w fun e w' => e = .returned (setV 0 0) ∧ Below w.heap.size w w' := by
  rcases h with h | h
  · go_enter Tryz.func51, Tryz.ntmps51
    go_wp2
    refine bodyPost_ret (v := setV 0 0) (by simp [results, Tryz.f51, go_sem]) rfl ⟨rfl, ?_⟩
    exact ((Below.refl _ _).alloc (Nat.le_refl _) _).alloc (by simp) _
  · have h0 : 0 ≤ i := by omega
    go_enter Tryz.func51, Tryz.ntmps51
    go_wp2
    refine bodyPost_ret (v := setV 0 0) (by simp [results, Tryz.f51, go_sem]) rfl ⟨rfl, ?_⟩
    exact ((Below.refl _ _).alloc (Nat.le_refl _) _).alloc (by simp) _
theorem one_any (i : Int) (w : World) : Calls Tryz.prog 51 #[.int .i64 i] w fun e w' => e = .returned (setV (oneW i).1 (oneW i).2) ∧ Below w.heap.size w w' := by
  unfold oneW
  by_cases h : 0 ≤ i ∧ i < 64
  · rw [if_pos h]; exact one_lo i h.1 h.2 w
  · rw [if_neg h]
    by_cases h' : 64 ≤ i ∧ i < 128
    · rw [if_pos h']; exact one_hi i h'.1 h'.2 w
    · rw [if_neg h']; exact one_out i (by omega) w
set_option maxHeartbeats 1000000 in
theorem ones_any (x : Nat) (hx : U64 x) (w : World) : Calls Tryz.prog 79 #[.int .u64 (x : Int)] w fun e w' => e = .returned (.int .i64 (bitsOf 64 x).length) ∧ w = w' := by
  obtain ⟨x1, x2, x3, e1, e2, e3, l1, l2, l3, hs⟩ := ones64 x
  have HX := Lib.hid hx
  unfold U64 at hx
  have g1 : bits .and .u64 ((x : Int) / 2) 6148914691236517205 = ((x / 2 &&& 6148914691236517205 : Nat) : Int) := and64 (x / 2) 6148914691236517205 (by unfold U64; omega) (by unfold U64; decide)
  have g2 : bits .and .u64 (x : Int) 6148914691236517205 = ((x &&& 6148914691236517205 : Nat) : Int) := and64 x 6148914691236517205 HX.out (by unfold U64; decide)
  generalize x / 2 &&& 6148914691236517205 = A at *
  generalize x &&& 6148914691236517205 = A' at *
  have g3 : IntKind.u64.wrap ((A : Int) + A') = (x1 : Int) := wrap_nat x1 (by omega) l1
  have g4 : bits .and .u64 ((x1 : Int) / 4) 3689348814741910323 = ((x1 / 4 &&& 3689348814741910323 : Nat) : Int) := and64 (x1 / 4) 3689348814741910323 (by unfold U64; omega) (by unfold U64; decide)
  have g5 : bits .and .u64 (x1 : Int) 3689348814741910323 = ((x1 &&& 3689348814741910323 : Nat) : Int) := and64 x1 3689348814741910323 l1 (by unfold U64; decide)
  generalize x1 / 4 &&& 3689348814741910323 = C at *
  generalize x1 &&& 3689348814741910323 = C' at *
  have g6 : IntKind.u64.wrap ((C : Int) + C') = (x2 : Int) := wrap_nat x2 (by omega) (by unfold U64; omega)
  obtain ⟨s, es⟩ : ∃ s : Nat, s = x2 / 16 + x2 := ⟨_, rfl⟩
  have g7 : IntKind.u64.wrap ((x2 : Int) / 16 + x2) = (s : Int) := wrap_nat s (by omega) (by unfold U64; omega)
  have g8 : bits .and .u64 (s : Int) 1085102592571150095 = (x3 : Int) := by rw [e3, ← es]; exact and64 s 1085102592571150095 (by unfold U64; omega) (by unfold U64; decide)
  obtain ⟨y1, ey1⟩ : ∃ s : Nat, s = x3 + x3 / 256 := ⟨_, rfl⟩
  have g9 : IntKind.u64.wrap ((x3 : Int) + x3 / 256) = (y1 : Int) := wrap_nat y1 (by omega) (by unfold U64; omega)
  rw [← ey1] at hs
  obtain ⟨y2, ey2⟩ : ∃ s : Nat, s = y1 + y1 / 65536 := ⟨_, rfl⟩
  have g10 : IntKind.u64.wrap ((y1 : Int) + y1 / 65536) = (y2 : Int) := wrap_nat y2 (by omega) (by unfold U64; omega)
  rw [← ey2] at hs
  obtain ⟨y3, ey3⟩ : ∃ s : Nat, s = y2 + y2 / 4294967296 := ⟨_, rfl⟩
  have g11 : IntKind.u64.wrap ((y2 : Int) + y2 / 4294967296) = (y3 : Int) := wrap_nat y3 (by omega) (by unfold U64; omega)
  rw [← ey3] at hs
  have g12 : bits .and .i64 (y3 : Int) 127 = (y3 : Int) % 128 := i64_and127 _
  have g13 : IntKind.i64.wrap (y3 : Int) = y3 := IntWalk.i64_in _ (by omega)
  have HS := Lib.hid hs
  clear hs e1 e2 e3 es ey1 ey2 ey3 l1 l2 l3 HX hx
  go_enter Tryz.func79, Tryz.ntmps79
  go_wp2
  go_ret
  refine ⟨?_, rfl⟩
  rw [← HS.out]
  rfl
end Go.Proofs.YtbhkfifmgbcknaaGreatDoor
