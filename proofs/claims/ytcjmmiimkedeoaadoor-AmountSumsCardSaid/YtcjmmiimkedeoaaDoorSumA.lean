/-
  Sums of numbers hang on no order: plain lemmas; and slices.Grow of the nil slice, by a contract.
-/
import Derived.Test.YtcjmmiimkedeoaaDoorAmtL
import Derived.Lib.AppendZerosOnto
import Derived.Laws.OwnMore
import Derived.Laws.AppendOwnNone
import Derived.RegionTactic
import Derived.ChangeAlike
import Derived.Deep.RegionWith
namespace Go.Proofs.YtcjmmiimkedeoaaDoor
open Go.RowKit

/-! ### Sums, in any order -/
def plainSum : List Int → Int
  | [] => 0
  | x :: l => capI x + plainSum l
theorem plainSum_nonneg : ∀ (l : List Int), (∀ z ∈ l, 0 ≤ z) → 0 ≤ plainSum l
  | [], _ => Int.le_refl 0
  | x :: l, h => by
    have h1 := capI_nonneg (h x (by simp))
    have h2 := plainSum_nonneg l (fun z hz => h z (by simp [hz]))
    show 0 ≤ capI x + plainSum l
    omega
theorem plainSum_append : ∀ (l r : List Int), plainSum (l ++ r) = plainSum l + plainSum r
  | [], r => by show plainSum r = 0 + plainSum r; omega
  | x :: l, r => by
    show capI x + plainSum (l ++ r) = capI x + plainSum l + plainSum r
    rw [plainSum_append l r]
    omega
theorem foldl_plain : ∀ (l : List Int) (a : Int), 0 ≤ a → (∀ z ∈ l, 0 ≤ z) → l.foldl addI (capI a) = capI (a + plainSum l)
  | [], a, _, _ => by show capI a = capI (a + 0); rw [Int.add_zero]
  | x :: l, a, ha, h => by
    have h1 := capI_nonneg (h x (by simp))
    show l.foldl addI (addI (capI a) x) = capI (a + (capI x + plainSum l))
    have e : addI (capI a) x = capI (a + capI x) := by unfold addI; rw [capI_capI, cap_add' _ _ h1]
    rw [e, foldl_plain l (a + capI x) (by omega) (fun z hz => h z (by simp [hz])), Int.add_assoc]
theorem sumI_plain (l : List Int) (h : ∀ z ∈ l, 0 ≤ z) : sumI l = capI (plainSum l) := by
  have e := foldl_plain l 0 (by omega) h
  rw [Int.zero_add] at e
  unfold sumI
  rw [← e]
  rfl
theorem sumI_append (l r : List Int) (hl : ∀ z ∈ l, 0 ≤ z) (hr : ∀ z ∈ r, 0 ≤ z) : sumI (l ++ r) = addI (sumI l) (sumI r) := by
  rw [sumI_plain l hl, sumI_plain r hr, sumI_plain (l ++ r) (fun z hz => by rcases List.mem_append.1 hz with h | h; exact hl z h; exact hr z h), plainSum_append]
  unfold addI
  rw [capI_capI, capI_capI, cap_add _ _ (capI_nonneg (plainSum_nonneg l hl)), cap_add' _ _ (plainSum_nonneg r hr)]

/-- Two lists of one plain sum. -/
theorem plainSum_set : ∀ (l : List Int) (i : Nat) (x : Int), i < l.length → plainSum (l.set i x) = plainSum l - capI (l.getD i 0) + capI x
  | [], _, _, h => absurd h (by simp)
  | y :: l, 0, x, _ => by show capI x + plainSum l = capI y + plainSum l - capI y + capI x; omega
  | y :: l, i + 1, x, h => by
    have e := plainSum_set l i x (by simpa using h)
    show capI y + plainSum (l.set i x) = capI y + plainSum l - capI (l.getD i 0) + capI x
    rw [e]
    omega
theorem plainSum_swap (l : List Int) (i j : Nat) (hij : i < j) (hj : j < l.length) : plainSum ((l.set i (l.getD j 0)).set j (l.getD i 0)) = plainSum l := by
  rw [plainSum_set _ _ _ (by simpa using hj), plainSum_set _ _ _ (by omega)]
  have e : (l.set i (l.getD j 0)).getD j 0 = l.getD j 0 := by
    simp only [List.getD_eq_getElem?_getD]
    rw [List.getElem?_set_ne (by omega)]
  rw [e]
  omega
end Go.Proofs.YtcjmmiimkedeoaaDoor
