/-
  Package amount and its reference, by contracts: Cap, Add, Mul and Sum are what the plain numbers come to, cut off at 2^63 - 1, in the program and in the reference alike; no memory turns.
-/
import Derived.Test.YtajmlkephefapaaGreatDoorProg
import Derived.WalkKit
import Derived.WalkLawsBesides
import Derived.Deep.LoopGhost
import Derived.Lib.Hide
import Derived.Outline
import Derived.Shelf.Bits.Mul64
namespace Go.Proofs.YtajmlkephefapaaGreatDoor
open Go.RowKit Go.Extern

/-! ### Plain numbers -/
def most : Int := 9223372036854775807
def capI (a : Int) : Int := if a > most then most else a
def addI (a b : Int) : Int := capI (capI a + capI b)
def mulI (a b : Int) : Int := capI (capI a * capI b)
def sumI (l : List Int) : Int := l.foldl addI 0

theorem capI_eq (a : Int) : capI a = min a most := by unfold capI; omega
theorem capI_le (a : Int) : capI a ≤ most := by unfold capI; split <;> omega
theorem capI_nonneg {a : Int} (h : 0 ≤ a) : 0 ≤ capI a := by unfold capI most; split <;> omega
theorem capI_of_le {a : Int} (h : a ≤ most) : capI a = a := by unfold capI; rw [if_neg (by omega)]
theorem capI_of_ge {a : Int} (h : most ≤ a) : capI a = most := by unfold capI; split <;> omega
theorem capI_capI (a : Int) : capI (capI a) = capI a := capI_of_le (capI_le a)
theorem capI_bd (a : Int) (h : 0 ≤ a) : 0 ≤ capI a ∧ capI a ≤ 9223372036854775807 := ⟨capI_nonneg h, capI_le a⟩
theorem addI_bd (a b : Int) (ha : 0 ≤ a) (hb : 0 ≤ b) : 0 ≤ addI a b ∧ addI a b ≤ 9223372036854775807 :=
  capI_bd _ (by have := capI_nonneg ha; have := capI_nonneg hb; omega)
theorem mulI_bd (a b : Int) (ha : 0 ≤ a) (hb : 0 ≤ b) : 0 ≤ mulI a b ∧ mulI a b ≤ 9223372036854775807 :=
  capI_bd _ (Int.mul_nonneg (capI_nonneg ha) (capI_nonneg hb))
theorem addI_cap (a b : Int) : addI (capI a) b = addI a b := by unfold addI; rw [capI_capI]
theorem addI_cap' (a b : Int) : addI a (capI b) = addI a b := by unfold addI; rw [capI_capI]

/-! ### What sums and products keep -/
theorem cap_add (x y : Int) (hx : 0 ≤ x) : capI (x + capI y) = capI (x + y) := by simp only [capI_eq]; unfold most; omega
theorem cap_add' (x y : Int) (hy : 0 ≤ y) : capI (capI x + y) = capI (x + y) := by rw [Int.add_comm, cap_add y x hy, Int.add_comm]
theorem cap_mul (x y : Int) (hx : 0 ≤ x) (hy : 0 ≤ y) : capI (x * capI y) = capI (x * y) := by
  by_cases h : y ≤ most
  · rw [capI_of_le h]
  · rw [capI_of_ge (a := y) (by omega)]
    by_cases h0 : x = 0
    · subst h0; simp
    · have h1 : most ≤ x * most := by
        have := Int.mul_le_mul_of_nonneg_right (show 1 ≤ x by omega) (show (0:Int) ≤ most by decide)
        simpa using this
      have h2 : y ≤ x * y := by
        have := Int.mul_le_mul_of_nonneg_right (show 1 ≤ x by omega) hy
        simpa using this
      rw [capI_of_ge h1, capI_of_ge (by omega)]
theorem cap_mul' (x y : Int) (hx : 0 ≤ x) (hy : 0 ≤ y) : capI (capI x * y) = capI (x * y) := by rw [Int.mul_comm, cap_mul y x hy hx, Int.mul_comm]
theorem addI_comm (a b : Int) : addI a b = addI b a := by unfold addI; rw [Int.add_comm]
theorem mulI_comm (a b : Int) : mulI a b = mulI b a := by unfold mulI; rw [Int.mul_comm]
theorem capI_small {a : Int} (h : a ≤ 9223372036854775807) : capI a = a := capI_of_le h
theorem addI_zero (a : Int) : addI a 0 = capI a := by unfold addI; rw [capI_small (a := 0) (by decide), Int.add_zero, capI_capI]
theorem mulI_one (a : Int) : mulI a 1 = capI a := by unfold mulI; rw [capI_small (a := 1) (by decide), Int.mul_one, capI_capI]
theorem mulI_zero (a : Int) : mulI a 0 = 0 := by unfold mulI; rw [capI_small (a := 0) (by decide), Int.mul_zero]; decide
theorem addI_assoc (a b c : Int) (ha : 0 ≤ a) (hc : 0 ≤ c) : addI a (addI b c) = addI (addI a b) c := by
  unfold addI
  rw [capI_capI, capI_capI, cap_add _ _ (capI_nonneg ha), cap_add' _ _ (capI_nonneg hc), Int.add_assoc]
theorem mulI_assoc (a b c : Int) (ha : 0 ≤ a) (hb : 0 ≤ b) (hc : 0 ≤ c) : mulI a (mulI b c) = mulI (mulI a b) c := by
  unfold mulI
  rw [capI_capI, capI_capI, cap_mul _ _ (capI_nonneg ha) (Int.mul_nonneg (capI_nonneg hb) (capI_nonneg hc)), cap_mul' _ _ (Int.mul_nonneg (capI_nonneg ha) (capI_nonneg hb)) (capI_nonneg hc), Int.mul_assoc]
theorem mulI_addI (a b c : Int) (ha : 0 ≤ a) (hb : 0 ≤ b) (hc : 0 ≤ c) : mulI a (addI b c) = addI (mulI a b) (mulI a c) := by
  have h1 := Int.mul_nonneg (capI_nonneg ha) (capI_nonneg hb)
  have h2 := Int.mul_nonneg (capI_nonneg ha) (capI_nonneg hc)
  have h3 := capI_nonneg hb
  have h4 := capI_nonneg hc
  unfold mulI addI
  rw [capI_capI, capI_capI, capI_capI, cap_mul _ _ (capI_nonneg ha) (by omega), cap_add _ _ (capI_nonneg h1), cap_add' _ _ h2, Int.mul_add]
theorem addI_ge (a b : Int) (hb : 0 ≤ b) : capI a ≤ addI a b := by
  have h1 := capI_nonneg hb
  have h2 := capI_le a
  unfold addI
  generalize capI a = x at *
  rw [capI_eq]
  omega
theorem mulI_ge (a b : Int) (ha : 0 ≤ a) (hb : 0 < b) : capI a ≤ mulI a b := by
  have h1 : 1 ≤ capI b := by unfold capI most; split <;> omega
  have h2 := capI_le a
  have h3 := Int.mul_le_mul_of_nonneg_left h1 (capI_nonneg ha)
  rw [Int.mul_one] at h3
  unfold mulI
  generalize capI a * capI b = y at *
  generalize capI a = x at *
  rw [capI_eq]
  omega

theorem ret_u {k : IntKind} {a b : Int} (h : a = b) : Ending.returned (.int k a) = .returned (.int k b) := by rw [h]

/-! ### Walks -/
set_option maxHeartbeats 400000 in
theorem cap_any (a : Int) (w : World) :
    Calls Tryz.prog 106 #[.int .u64 a] w fun e w' => e = .returned (.int .u64 (capI a)) ∧ w' = w := by
  go_enter Tryz.func106, Tryz.ntmps106
  go_wp2
  all_goals
    go_ret
    exact ⟨ret_u (by unfold capI most; split <;> omega), rfl⟩

set_option maxHeartbeats 400000 in
theorem rcap_any (a : Int) (w : World) :
    Calls Tryz.prog 80 #[.int .u64 a] w fun e w' => e = .returned (.int .u64 (capI a)) ∧ w' = w := by
  go_enter Tryz.func80, Tryz.ntmps80
  go_wp2
  all_goals
    go_ret
    exact ⟨ret_u (by unfold capI most; split <;> omega), rfl⟩

set_option maxHeartbeats 400000 in
theorem add_any (a b : Int) (ha : 0 ≤ a) (hb : 0 ≤ b) (w : World) :
    Calls Tryz.prog 103 #[.int .u64 a, .int .u64 b] w fun e w' => e = .returned (.int .u64 (addI a b)) ∧ w' = w := by
  obtain ⟨a0, a1⟩ := capI_bd a ha
  obtain ⟨b0, b1⟩ := capI_bd b hb
  go_enter Tryz.func103, Tryz.ntmps103
  go_wp2_with (go_at_call 106; refine (cap_any _ _).mono ?_; rintro e w' ⟨rfl, rfl⟩)
  go_ret
  exact ⟨ret_u rfl, rfl⟩

/-! ### The reference's product, by doubling -/
theorem dbl_split (x y : Int) : x * y = 2 * (x * (y / 2)) + x * (y % 2) := by
  conv => lhs; rw [← Int.mul_ediv_add_emod y 2]
  rw [Int.mul_add, Int.mul_left_comm]

theorem dbl_step (n x y r : Int) (hn : 0 ≤ n) (hx : 0 ≤ x) (hxm : x ≤ most) (hy : 0 ≤ y) (hr : r = n + x * (y % 2)) :
    capI (capI r + addI x x * (y / 2)) = capI (n + x * y) := by
  rw [dbl_split x y]
  have hx2 : addI x x = capI (2 * x) := by unfold addI; rw [capI_of_le hxm]; congr 1; omega
  have hq : 0 ≤ y / 2 := by omega
  have hrx : 0 ≤ x * (y % 2) := Int.mul_nonneg hx (by omega)
  rw [hx2]
  have hp : 0 ≤ x * (y / 2) := Int.mul_nonneg hx hq
  by_cases h0 : y / 2 = 0
  · rw [h0]; simp only [Int.mul_zero, Int.add_zero]; rw [capI_capI]; congr 1; omega
  · by_cases h2 : 2 * x ≤ most
    · rw [capI_of_le h2, Int.mul_assoc]
      generalize x * (y / 2) = p at *
      generalize x * (y % 2) = q at *
      simp only [capI_eq]
      omega
    · have hp1 : x ≤ x * (y / 2) := by
        have := Int.mul_le_mul_of_nonneg_left (show 1 ≤ y / 2 by omega) hx
        simpa using this
      rw [capI_of_ge (a := 2 * x) (by omega)]
      have hm : most ≤ most * (y / 2) := by
        have := Int.mul_le_mul_of_nonneg_left (show 1 ≤ y / 2 by omega) (show (0:Int) ≤ most by unfold most; omega)
        simpa using this
      have h1 := capI_nonneg (a := r) (by omega)
      rw [capI_of_ge (a := capI r + most * (y / 2)) (by omega), capI_of_ge (by omega)]

def DblRel (a b x y n : Int) : Prop := 0 ≤ x ∧ x ≤ most ∧ 0 ≤ y ∧ y ≤ most ∧ 0 ≤ n ∧ n ≤ most ∧ capI (n + x * y) = mulI a b

theorem dbl_even {a b x y n : Int} (h : DblRel a b x y n) (h2 : ¬ y % 2 = 1) : DblRel a b (addI x x) (y / 2) n := by
  obtain ⟨h0, h1, h3, h4, h5, h6, h7⟩ := h
  have := addI_bd x x h0 h0
  refine ⟨this.1, this.2, by omega, by unfold most at *; omega, h5, h6, ?_⟩
  have e := dbl_step n x y n h5 h0 h1 h3 (by rw [show y % 2 = 0 by omega]; simp)
  rw [capI_of_le h6] at e
  rw [e, h7]
theorem dbl_odd {a b x y n : Int} (h : DblRel a b x y n) (h2 : y % 2 = 1) : DblRel a b (addI x x) (y / 2) (addI n x) := by
  obtain ⟨h0, h1, h3, h4, h5, h6, h7⟩ := h
  have := addI_bd x x h0 h0
  have hn := addI_bd n x h5 h0
  refine ⟨this.1, this.2, by omega, by unfold most at *; omega, hn.1, hn.2, ?_⟩
  have e := dbl_step n x y (n + x) h5 h0 h1 h3 (by rw [h2]; simp)
  rw [show addI n x = capI (n + x) by unfold addI; rw [capI_of_le h6, capI_of_le h1], e, h7]
theorem dbl_end {a b x n : Int} (h : DblRel a b x 0 n) : n = mulI a b := by
  obtain ⟨h0, h1, h3, h4, h5, h6, h7⟩ := h
  rw [Int.mul_zero, Int.add_zero, capI_of_le h6] at h7
  exact h7

/-! ### Sums of slices of numbers -/
/-- A slice value whose elements are these numbers. -/
def NumsAt (w : World) (v : Value) (zs : List Int) : Prop :=
  (∃ a cap, v = .slice a 0 cap ∧ zs = []) ∨ ∃ b off cap, v = .slice (some ⟨b, off, none⟩) zs.length cap ∧ ∀ i, i < zs.length → w.cell? ⟨b, off + i, none⟩ = some (.int .u64 (zs.getD i 0))

theorem NumsAt.keep {w w' : World} {v : Value} {zs : List Int} (h : NumsAt w v zs) (hb : Below w.heap.size w w') : NumsAt w' v zs := by
  rcases h with h | ⟨b, off, cap, e, hc⟩
  · exact .inl h
  · exact .inr ⟨b, off, cap, e, fun i hi => (hb.cell (p := ⟨b, off + i, none⟩) (World.block_lt_of_cell? w _ (hc i hi))).trans (hc i hi)⟩
theorem NumsAt.form {w : World} {v : Value} {zs : List Int} (h : NumsAt w v zs) : ∃ a cap, v = .slice a zs.length cap := by
  rcases h with ⟨a, cap, rfl, rfl⟩ | ⟨b, off, cap, rfl, -⟩
  · exact ⟨a, cap, rfl⟩
  · exact ⟨_, cap, rfl⟩

theorem sumI_snoc (zs : List Int) (k : Nat) (hk : k < zs.length) : sumI (zs.take (k + 1)) = addI (sumI (zs.take k)) (zs.getD k 0) := by
  unfold sumI
  rw [List.take_add_one, List.foldl_append]
  simp [List.getD, List.getElem?_eq_getElem hk]
theorem sumI_nonneg (zs : List Int) (h : ∀ z ∈ zs, 0 ≤ z) (k : Nat) : 0 ≤ sumI (zs.take k) := by
  unfold sumI
  have : ∀ (l : List Int) (a : Int), 0 ≤ a → (∀ z ∈ l, 0 ≤ z) → 0 ≤ l.foldl addI a := by
    intro l
    induction l with
    | nil => intro a h _; exact h
    | cons x l ih => intro a ha hl; exact ih _ (addI_bd a x ha (hl x (by simp))).1 (fun z hz => hl z (by simp [hz]))
  exact this _ 0 (by omega) (fun z hz => h z (List.mem_of_mem_take hz))

end Go.Proofs.YtajmlkephefapaaGreatDoor
