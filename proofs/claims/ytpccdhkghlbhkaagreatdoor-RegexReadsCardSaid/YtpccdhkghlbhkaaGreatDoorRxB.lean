/-
  Plain: whether two expressions are the same; how many expressions.
-/
import Derived.Test.YtpccdhkghlbhkaaGreatDoorRxA
namespace Go.Proofs.YtpccdhkghlbhkaaGreatDoor
open Go.RowKit Go.Extern.Stop Go.Stop Go.Extern

mutual
def sameE : Rx → Rx → Bool
  | .mk k t ws ks, .mk k' t' ws' ks' => decide (k = k') && (decide (t = t') && (decide (ws = ws') && sameEs ks ks'))
def sameEs : List Rx → List Rx → Bool
  | [], [] => true
  | x :: r, y :: s => sameE x y && sameEs r s
  | [], _ :: _ => false
  | _ :: _, [] => false
end
mutual
theorem sameE_refl : ∀ x : Rx, sameE x x = true
  | .mk k t ws ks => by simp [sameE, sameEs_refl ks]
theorem sameEs_refl : ∀ l : List Rx, sameEs l l = true
  | [] => by simp [sameEs]
  | x :: r => by simp [sameEs, sameE_refl x, sameEs_refl r]
end
mutual
theorem sameE_symm : ∀ x y : Rx, sameE x y = sameE y x
  | .mk k t ws ks, .mk k' t' ws' ks' => by
    rw [sameE, sameE, sameEs_symm ks ks']
    simp only [eq_comm]
theorem sameEs_symm : ∀ l m : List Rx, sameEs l m = sameEs m l
  | [], [] => rfl
  | x :: r, y :: s => by rw [sameEs, sameEs, sameE_symm x y, sameEs_symm r s]
  | [], _ :: _ => by rw [sameEs, sameEs]
  | _ :: _, [] => by rw [sameEs, sameEs]
end
theorem sameEs_len : ∀ (l m : List Rx), l.length ≠ m.length → sameEs l m = false
  | [], [], h => absurd rfl h
  | x :: r, y :: s, h => by
    rw [sameEs, sameEs_len r s (by simpa using h), Bool.and_false]
  | [], _ :: _, _ => by rw [sameEs]
  | _ :: _, [], _ => by rw [sameEs]
theorem sameEs_drop {l m : List Rx} {i : Nat} {x y : Rx} (hx : l[i]? = some x) (hy : m[i]? = some y) : sameEs (l.drop i) (m.drop i) = (sameE x y && sameEs (l.drop (i + 1)) (m.drop (i + 1))) := by
  obtain ⟨h1, e1⟩ := List.getElem?_eq_some_iff.1 hx
  obtain ⟨h2, e2⟩ := List.getElem?_eq_some_iff.1 hy
  rw [List.drop_eq_getElem_cons h1, List.drop_eq_getElem_cons h2, e1, e2, sameEs]
theorem words_drop {l m : List ByteArray} {i : Nat} {x y : ByteArray} (hx : l[i]? = some x) (hy : m[i]? = some y) : decide (l.drop i = m.drop i) = (decide (x = y) && decide (l.drop (i + 1) = m.drop (i + 1))) := by
  obtain ⟨h1, e1⟩ := List.getElem?_eq_some_iff.1 hx
  obtain ⟨h2, e2⟩ := List.getElem?_eq_some_iff.1 hy
  rw [List.drop_eq_getElem_cons h1, List.drop_eq_getElem_cons h2, e1, e2]
  simp

mutual
/-- How many expressions. -/
def rxSize : Rx → Nat
  | .mk _ _ _ kids => 1 + rxsSize kids
def rxsSize : List Rx → Nat
  | [] => 0
  | x :: r => rxSize x + rxsSize r
end
mutual
theorem size_wt : ∀ x : Rx, rxSize x ≤ rxWt x
  | .mk k t words kids => by
    have := sizes_wt kids
    rw [rxSize, rxWt]; omega
theorem sizes_wt : ∀ l : List Rx, rxsSize l ≤ rxsWt l
  | [] => by rw [rxsSize, rxsWt]; omega
  | x :: r => by
    have := size_wt x
    have := sizes_wt r
    rw [rxsSize, rxsWt]; omega
end
theorem rxsSize_append : ∀ (l r : List Rx), rxsSize (l ++ r) = rxsSize l + rxsSize r
  | [], r => by simp [rxsSize]
  | x :: l, r => by
    rw [List.cons_append, rxsSize, rxsSize, rxsSize_append l r]
    omega
theorem rxsSize_take {l : List Rx} {i : Nat} {x : Rx} (h : l[i]? = some x) : rxsSize (l.take (i + 1)) = rxsSize (l.take i) + rxSize x := by
  rw [List.take_add_one, h]
  simp [rxsSize_append, rxsSize]
theorem rxsSize_le {l : List Rx} (i : Nat) : rxsSize (l.take i) ≤ rxsSize l := by
  have := rxsSize_append (l.take i) (l.drop i)
  rw [List.take_append_drop] at this
  omega
theorem rxSize_pos (x : Rx) : 1 ≤ rxSize x := by cases x; rw [rxSize]; omega
theorem len_sizes : ∀ l : List Rx, l.length ≤ rxsSize l
  | [] => Nat.zero_le _
  | x :: r => by
    have := rxSize_pos x
    have := len_sizes r
    rw [rxsSize, List.length_cons]
    omega
end Go.Proofs.YtpccdhkghlbhkaaGreatDoor
