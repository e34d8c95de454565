/-
  The document's own Check, first part: headers over one label of each kind more; the document's 'front', by contract.
-/
import Derived.Test.YtjlbdjagbbpoaaaDoorOpN
namespace Go.Proofs.YtjlbdjagbbpoaaaDoor
open Go.RowKit Go.Extern.Stop Go.Stop Go.Extern

/-! ### Plain -/
theorem kindI_all {ks : List Int} {i : Int} (h : kindI ks i ≠ 0) (l : List Int) : kindI (ks ++ l) i = kindI ks i := by
  unfold kindI at h ⊢
  split at h
  · rename_i hi
    rw [if_pos hi, if_pos (by rw [List.length_append]; omega)]
    have e : (ks ++ l).getD i.toNat 0 = ks.getD i.toNat 0 := by
      rw [List.getD_eq_getElem?_getD, List.getD_eq_getElem?_getD, List.getElem?_append_left (by omega)]
    rw [e]
  · exact absurd rfl h
theorem kindI_more (ks : List Int) : kindI (ks ++ [1, 2, 3]) (ks.length : Int) = 1 ∧ kindI (ks ++ [1, 2, 3]) ((ks.length : Int) + 1) = 2 ∧ kindI (ks ++ [1, 2, 3]) ((ks.length : Int) + 2) = 3 := by
  have key : ∀ (j : Nat) (x : Int), [1, 2, 3][j]? = some x → 1 ≤ x ∧ x ≤ 3 → kindI (ks ++ [1, 2, 3]) ((ks.length + j : Nat) : Int) = x := fun j x hj hx => by
    have := kindI_at (ks := ks ++ [1, 2, 3]) (j := ks.length + j) (x := x) (by rw [List.getElem?_append_right (by omega), Nat.add_sub_cancel_left]; exact hj)
    rw [this, if_pos hx]
  exact ⟨by simpa using key 0 1 rfl (by omega), by simpa using key 1 2 rfl (by omega), by simpa using key 2 3 rfl (by omega)⟩
/-- A header of a top, over so many labels more. -/
def hM (ks : List Int) (top : Int) (k m : Nat) : List Int := if k = 3 then top :: (List.replicate m ((ks.length : Int) + 2) ++ [(ks.length : Int) + 1, (ks.length : Int)]) else if k = 2 then [top, (ks.length : Int)] else [top]
theorem hM_len (ks : List Int) (top : Int) {k : Nat} (hk : 1 ≤ k ∧ k ≤ 3) (m : Nat) : (hM ks top k m).length = if k = 3 then m + 3 else k := by
  unfold hM
  have : k = 1 ∨ k = 2 ∨ k = 3 := by omega
  rcases this with rfl | rfl | rfl <;> simp
theorem hM_valid {ks : List Int} {top : Int} {k : Nat} (hk : 1 ≤ k ∧ k ≤ 3) (ht : kindI ks top = (k : Int)) (m : Nat) : validH (ks ++ [1, 2, 3]) (hM ks top k m) = true := by
  obtain ⟨e1, e2, e3⟩ := kindI_more ks
  have et : kindI (ks ++ [1, 2, 3]) top = (k : Int) := by rw [kindI_all (by rw [ht]; omega), ht]
  unfold validH hM
  rw [validP_iff]
  have : k = 1 ∨ k = 2 ∨ k = 3 := by omega
  rcases this with rfl | rfl | rfl
  · left; simp [et]
  · right; exact ⟨0, by simp [et, e1]⟩
  · right
    refine ⟨m + 1, ?_⟩
    rw [if_pos rfl, List.map_cons, List.map_append, List.map_replicate, et, e3, List.replicate_succ, List.cons_append]
    simp [e1, e2]
theorem opK_all {ks : List Int} {o : Int × Int} (h : knownB ks o = true) (l : List Int) : opK (ks ++ l) o = opK ks o := by
  unfold opK
  by_cases h1 : o.1 = 1
  · rw [if_pos h1, if_pos h1]
  · rw [if_neg h1, if_neg h1, kindI_all]
    unfold knownB at h
    rw [if_neg h1] at h
    split at h
    · exact of_decide_eq_true h
    · cases h
/-- What the document's Do tells of such a header. -/
theorem front_do {ks : List Int} {top : Int} {k : Nat} (hk : 1 ≤ k ∧ k ≤ 3) (ht : kindI ks top = (k : Int)) {c : List (Int × Int)} (hc : ∀ o ∈ c, knownB ks o = true) (m : Nat) :
    (doO (ks ++ [1, 2, 3]) (hM ks top k m) c).isSome = (runN (c.map (opK ks)) (if k = 3 then m + 3 else k)).isSome := by
  have hv := hM_valid hk ht m
  unfold doO
  rw [if_pos hv, do_some hv, hM_len ks top hk m]
  congr 2
  apply List.map_congr_left
  intro o ho
  exact opK_all (hc o ho) _
theorem front_from {k : Nat} {c : List (Int × Int)} {n : Nat} : frontB k c n = true ↔ ∃ m, m ≤ n ∧ (runN c (if k = 3 then m + 3 else k)).isSome = true := by
  unfold frontB
  rw [List.any_eq_true]
  constructor
  · rintro ⟨m, hm, h⟩; exact ⟨m, by rw [List.mem_range] at hm; omega, h⟩
  · rintro ⟨m, hm, h⟩; exact ⟨m, by rw [List.mem_range]; omega, h⟩

/-! ### A row of ops, with its capacity -/
def OpsC (w : World) (v : Value) (c : List (Int × Int)) : Prop := OpsAt w v c ∧ ∀ a n cp, v = .slice a n cp → n ≤ cp
theorem OpsC.step {w w' : World} {v : Value} {c : List (Int × Int)} (h : OpsC w v c) (hb : Below w.heap.size w w') : OpsC w' v c := ⟨h.1.step hb, h.2⟩
theorem OpsC.own {w : World} {base : Nat} {T : TypeId} {v : Value} {n : Nat} {c : List (Int × Int)} (h : w.ownsRow base T 2 v n (opCells c)) (hn : n = c.length) : OpsC w v c := by
  refine ⟨OpsAt.own h hn, ?_⟩
  rintro a m cp rfl
  rcases h.2 with ⟨e, -⟩ | ⟨g, cap, cur, e, -, -, hc, -⟩
  · injection e with _ e1 e2
    omega
  · injection e with _ e1 e2
    omega
theorem OpsAt.take {w : World} {a : Option Addr} {cap : Nat} {c : List (Int × Int)} (h : OpsAt w (.slice a c.length cap) c) {n : Nat} (hn : n ≤ c.length) : OpsAt w (.slice a n cap) (c.take n) := by
  rcases h with ⟨a, cp, e, rfl⟩ | ⟨b, off, cp, e, hlt, hc⟩
  · simp only [List.length_nil] at hn
    obtain rfl : n = 0 := by omega
    exact .inl ⟨_, _, rfl, rfl⟩
  · injection e with e1 e2 e3
    subst e1
    refine .inr ⟨b, off, cap, by rw [List.length_take]; congr 1; omega, hlt, fun i o ho => ?_⟩
    rw [List.getElem?_take] at ho
    split at ho
    · exact hc i o ho
    · cases ho
end Go.Proofs.YtjlbdjagbbpoaaaDoor
