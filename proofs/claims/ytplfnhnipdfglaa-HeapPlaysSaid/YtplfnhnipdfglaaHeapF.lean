/-
  HeapDrains, plain: where a thing belongs in a row in order; what is known of the things; what has come.
-/
import Derived.Test.YtplfnhnipdfglaaHeapE
namespace Go.Proofs.Ytplfnhnipdfglaa
open Go.RowKit Go.Extern.Stop Go.Stop Go.Extern

theorem Sorted.cut {α : Type} (c : Int) : ∀ {q : List (E α)}, Sorted q → ∃ k, k ≤ q.length ∧ (∀ y ∈ q.take k, y.c ≤ c) ∧ (∀ y ∈ q.drop k, c < y.c)
  | [], _ => ⟨0, Nat.le_refl _, (fun _ h => by cases h), (fun _ h => by cases h)⟩
  | a :: q, h => by
    have h' := h
    unfold Sorted at h'
    rw [List.pairwise_cons] at h'
    by_cases hc : c < a.c
    · refine ⟨0, Nat.zero_le _, (fun _ h => by cases h), fun y hy => ?_⟩
      rcases List.mem_cons.1 hy with rfl | hy
      · exact hc
      · have := h'.1 y hy
        unfold E.lt at this
        omega
    · obtain ⟨k, hk, h1, h2⟩ := Sorted.cut c (q := q) h'.2
      refine ⟨k + 1, Nat.succ_le_succ hk, fun y hy => ?_, h2⟩
      rcases List.mem_cons.1 hy with rfl | hy
      · omega
      · exact h1 y hy
/-- Each thing is one of the costs, with its place. -/
def Nice (zs : List Int) (q : List (E Int)) : Prop := ∀ y ∈ q, ∃ j : Nat, zs[j]? = some y.c ∧ y.t = j ∧ y.x = j
theorem Nice.put {zs : List Int} {q : List (E Int)} (h : Nice zs q) {i : Nat} {c : Int} (hc : zs[i]? = some c) (k : Nat) : Nice zs (q.take k ++ ⟨c, i, i⟩ :: q.drop k) := by
  intro y hy
  rcases List.mem_append.1 hy with hy | hy
  · exact h y (List.mem_of_mem_take hy)
  · rcases List.mem_cons.1 hy with rfl | hy
    · exact ⟨i, hc, rfl, rfl⟩
    · exact h y (List.mem_of_mem_drop hy)
/-- The last of the first so many: its cost; its place. -/
def lastC (q : List (E Int)) : Nat → Int
  | 0 => 0
  | i + 1 => ((q[i]?).map (·.c)).getD 0
def lastX (q : List (E Int)) : Nat → Int
  | 0 => -1
  | i + 1 => ((q[i]?).map (·.x)).getD 0
theorem lastC_s {q : List (E Int)} {i : Nat} {e : E Int} (h : q[i]? = some e) : lastC q (i + 1) = e.c := by show ((q[i]?).map (·.c)).getD 0 = _; rw [h]; rfl
theorem lastX_s {q : List (E Int)} {i : Nat} {e : E Int} (h : q[i]? = some e) : lastX q (i + 1) = e.x := by show ((q[i]?).map (·.x)).getD 0 = _; rw [h]; rfl
def gone (q : List (E Int)) (i j : Nat) : Bool := (q.take i).any fun y => decide (y.x = (j : Int))
theorem sorted_lt {q : List (E Int)} (h : Sorted q) {i j : Nat} {a b : E Int} (ha : q[i]? = some a) (hb : q[j]? = some b) (hij : i < j) : a.lt b := by
  obtain ⟨hi, rfl⟩ := List.getElem?_eq_some_iff.1 ha
  obtain ⟨hj, rfl⟩ := List.getElem?_eq_some_iff.1 hb
  exact List.pairwise_iff_getElem.1 h i j hi hj hij
/-- What comes next has not come, costs no less, and of the same cost stands farther back. -/
theorem next_ok {zs : List Int} {q : List (E Int)} (h : Sorted q) (hn : Nice zs q) (hz : ∀ z ∈ zs, (0 : Int) ≤ z) {i : Nat} {e : E Int} (he : q[i]? = some e) :
    ∃ j : Nat, e.x = j ∧ zs[j]? = some e.c ∧ gone q i j = false ∧ lastC q i ≤ e.c ∧ (e.c = lastC q i → lastX q i ≤ j) := by
  obtain ⟨j, hj, ht, hx⟩ := hn e (List.mem_of_getElem? he)
  refine ⟨j, hx, hj, ?_, ?_, ?_⟩
  · unfold gone
    rw [Bool.eq_false_iff]
    intro hc
    obtain ⟨y, hy, hyx⟩ := List.any_eq_true.1 hc
    obtain ⟨a, ha⟩ := List.mem_iff_getElem?.1 hy
    have hlt : a < i := by
      have := (List.getElem?_eq_some_iff.1 ha).1
      simp at this
      omega
    rw [List.getElem?_take_of_lt hlt] at ha
    obtain ⟨j', h1, h2, h3⟩ := hn y (List.mem_of_getElem? ha)
    have e1 : y.x = j := of_decide_eq_true hyx
    have e2 : j' = j := by omega
    subst e2
    rw [hj] at h1
    injection h1 with h1
    have := sorted_lt h ha he hlt
    unfold E.lt at this
    omega
  · cases i with
    | zero => exact hz _ (List.mem_of_getElem? hj)
    | succ i =>
      have hi : i < q.length := by have := (List.getElem?_eq_some_iff.1 he).1; omega
      rw [lastC_s (List.getElem?_eq_getElem hi)]
      have := sorted_lt h (List.getElem?_eq_getElem hi) he (Nat.lt_succ_self _)
      unfold E.lt at this
      omega
  · cases i with
    | zero => intro _; show (-1 : Int) ≤ _; omega
    | succ i =>
      have hi : i < q.length := by have := (List.getElem?_eq_some_iff.1 he).1; omega
      rw [lastC_s (List.getElem?_eq_getElem hi), lastX_s (List.getElem?_eq_getElem hi)]
      have h1 := sorted_lt h (List.getElem?_eq_getElem hi) he (Nat.lt_succ_self _)
      obtain ⟨j', h2, h3, h4⟩ := hn q[i] (List.getElem_mem hi)
      unfold E.lt at h1
      omega
/-- So many yes or no's in a block of their own. -/
def CameAt (w : World) (C N : Nat) (f : Nat → Bool) : Prop := w.heap[C]? = some (.cells (((List.range N).map fun j => Value.bool (f j)).toArray) 4 (0, 0))
theorem CameAt.cell {w : World} {C N : Nat} {f : Nat → Bool} (h : CameAt w C N f) {j : Nat} (hj : j < N) : w.cell? ⟨C, j, none⟩ = some (.bool (f j)) := by
  rw [Lib.cell_of_heap h]
  simp [hj]
theorem CameAt.fz {w : World} {C N : Nat} {f : Nat → Bool} (h : CameAt w C N f) (j : Nat) : w.frozen? ⟨C, j, none⟩ = false := by
  unfold World.frozen?; rw [h]; simp
theorem CameAt.set {w : World} {C N : Nat} {f : Nat → Bool} (h : CameAt w C N f) {j : Nat} (g : Nat → Bool) (hg : ∀ k, g k = (f k || decide (k = j))) : CameAt (w.setCell ⟨C, j, none⟩ (.bool true)) C N g := by
  have e := heap_setCell_same w C j _ _ (.bool true) h
  have el : ((List.range N).map fun k => Value.bool (f k)).set j (.bool true) = (List.range N).map fun k => Value.bool (g k) := by
    refine List.ext_getElem (by simp) fun k h1 h2 => ?_
    rw [List.getElem_set]
    by_cases hk : j = k
    · subst hk; simp [hg]
    · have : ¬ k = j := fun e => hk e.symm
      simp [hg, hk, this]
  unfold CameAt
  rw [e, List.setIfInBounds_toArray, el]
theorem gone_succ {q : List (E Int)} {i j : Nat} {e : E Int} (he : q[i]? = some e) (hx : e.x = (j : Int)) (k : Nat) : gone q (i + 1) k = (gone q i k || decide (k = j)) := by
  unfold gone
  rw [List.take_add_one, he]
  simp [hx]
  rw [Bool.eq_iff_iff]
  simp
  constructor <;> (intro h; rcases h with h | h; exact .inl h; exact .inr (by omega))
theorem drop_next {α : Type} {q : List (E α)} {i : Nat} {e : E α} (he : q[i]? = some e) : q.drop i = e :: q.drop (i + 1) := by
  obtain ⟨hi, rfl⟩ := List.getElem?_eq_some_iff.1 he
  exact List.drop_eq_getElem_cons hi

/-- A slice of uint64 that came in. -/
def CostsAt (w : World) (v : Value) (zs : List Int) : Prop :=
  (∃ a cap, v = .slice a 0 cap ∧ zs = []) ∨ ∃ b off cap, v = .slice (some ⟨b, off, none⟩) zs.length cap ∧ b < w.heap.size ∧ ∀ i c, zs[i]? = some c → w.cell? ⟨b, off + i, none⟩ = some (.int .u64 c)
theorem CostsAt.form {w : World} {v : Value} {zs : List Int} (h : CostsAt w v zs) : ∃ a cap, v = .slice a zs.length cap := by
  rcases h with ⟨a, cap, rfl, rfl⟩ | ⟨b, off, cap, rfl, -⟩
  · exact ⟨a, cap, rfl⟩
  · exact ⟨_, cap, rfl⟩
theorem CostsAt.at {w w' : World} {a : Option Addr} {n cap : Nat} {zs : List Int} (h : CostsAt w (.slice a n cap) zs) {i : Nat} {c : Int} (hi : zs[i]? = some c) (hb : Below w.heap.size w w') :
    ∃ b off, a = some ⟨b, off, none⟩ ∧ w'.cell? ⟨b, off + i, none⟩ = some (.int .u64 c) := by
  rcases h with ⟨a, cap, -, rfl⟩ | ⟨b, off, cap, e, hlt, hc⟩
  · simp at hi
  · injection e with e
    exact ⟨b, off, e, (hb.cell (p := ⟨b, off + i, none⟩) hlt).trans (hc i c hi)⟩
end Go.Proofs.Ytplfnhnipdfglaa
