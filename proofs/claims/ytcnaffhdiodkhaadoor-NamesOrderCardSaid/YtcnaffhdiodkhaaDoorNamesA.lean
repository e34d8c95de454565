/-
  Rows of names, plain: where a name stands or would stand in a rising row, the row with it, and that a row hangs on its names alone.
-/
import Derived.Test.YtcnaffhdiodkhaaDoorProg
import Derived.WalkKit
import Derived.Sort.Walk0
namespace Go.Proofs.YtcnaffhdiodkhaaDoor
open Go.RowKit

/-- Does one text stand ahead of the other? -/
def ltB (a b : ByteArray) : Bool := Op.bytesLess a.toList b.toList
theorem ltB_iff (a b : ByteArray) : ltB a b = true ↔ a.data.toList < b.data.toList := by
  unfold ltB
  rw [Go.Proofs.bytesLess_eq, Go.ByteArray.toList_eq, Go.ByteArray.toList_eq, decide_eq_true_eq]
theorem ltB_irrefl (a : ByteArray) : ltB a a = false := by
  rw [Bool.eq_false_iff, Ne, ltB_iff]; exact List.lt_irrefl _
theorem ltB_trans {a b c : ByteArray} (h : ltB a b = true) (h' : ltB b c = true) : ltB a c = true := by
  rw [ltB_iff] at *; exact List.lt_trans h h'
theorem bytes_ext {a b : ByteArray} (h : a.data.toList = b.data.toList) : a = b := ByteArray.ext (Array.toList_inj.1 h)
theorem ltB_total {a b : ByteArray} (h : ltB a b = false) (hne : a ≠ b) : ltB b a = true := by
  rw [Bool.eq_false_iff, Ne, ltB_iff] at h
  rw [ltB_iff]
  rcases Std.lt_trichotomy a.data.toList b.data.toList with h1 | h1 | h1
  · exact absurd h1 h
  · exact absurd (bytes_ext h1) hne
  · exact h1
theorem ltB_asymm {a b : ByteArray} (h : ltB a b = true) : ltB b a = false := by
  rw [Bool.eq_false_iff]
  intro h'
  have := ltB_trans h h'
  rw [ltB_irrefl] at this
  cases this

/-- Rising. -/
def Rises (l : List ByteArray) : Prop := l.Pairwise fun a b => ltB a b = true

/-- Where a name stands, or would. -/
def posOf (l : List ByteArray) (x : ByteArray) : Nat := (l.takeWhile fun a => ltB a x).length
theorem posOf_le (l : List ByteArray) (x : ByteArray) : posOf l x ≤ l.length := (List.takeWhile_sublist _).length_le
theorem posOf_lt {l : List ByteArray} {x : ByteArray} {t : Nat} (h : t < posOf l x) (ht : t < l.length) : ltB l[t] x = true := by
  induction l generalizing t with
  | nil => simp at ht
  | cons a l ih =>
    unfold posOf at h ih
    rw [List.takeWhile_cons] at h
    by_cases ha : ltB a x = true
    · rw [if_pos ha] at h
      cases t with
      | zero => exact ha
      | succ t => exact ih (by simpa using h) (by simpa using ht)
    · rw [if_neg ha] at h; simp at h
theorem posOf_stop {l : List ByteArray} {x : ByteArray} (h : posOf l x < l.length) : ltB (l[posOf l x]'h) x = false := by
  induction l with
  | nil => simp at h
  | cons a l ih =>
    by_cases ha : ltB a x = true
    · have e : posOf (a :: l) x = posOf l x + 1 := by unfold posOf; rw [List.takeWhile_cons, if_pos ha]; simp
      have h' : posOf l x < l.length := by rw [e] at h; simpa using h
      have := ih h'
      simpa [e] using this
    · have e : posOf (a :: l) x = 0 := by unfold posOf; rw [List.takeWhile_cons, if_neg ha]; simp
      simpa [e] using ha
theorem posOf_ge {l : List ByteArray} {x : ByteArray} (hr : Rises l) {t : Nat} (h : posOf l x ≤ t) (ht : t < l.length) : ltB l[t] x = false := by
  have hs := posOf_stop (l := l) (x := x) (by omega)
  by_cases e : t = posOf l x
  · subst e; exact hs
  · have h1 := List.pairwise_iff_getElem.1 hr (posOf l x) t (by omega) ht (by omega)
    rw [Bool.eq_false_iff]
    intro h2
    have := ltB_trans h1 h2
    rw [hs] at this
    cases this
/-- Does it stand there? -/
def foundB (l : List ByteArray) (x : ByteArray) : Bool := decide (posOf l x < l.length ∧ l.getD (posOf l x) x = x)
theorem found_iff {l : List ByteArray} (hr : Rises l) (x : ByteArray) : foundB l x = true ↔ x ∈ l := by
  unfold foundB
  rw [decide_eq_true_eq]
  constructor
  · intro ⟨h1, h2⟩
    rw [List.getD_eq_getElem?_getD, List.getElem?_eq_getElem h1] at h2
    simp at h2
    rw [← h2]
    exact List.getElem_mem h1
  · intro h
    obtain ⟨t, ht, e⟩ := List.mem_iff_getElem.1 h
    have hge : posOf l x ≤ t := by
      rcases Nat.lt_or_ge t (posOf l x) with h1 | h1
      · have := posOf_lt h1 ht; rw [e, ltB_irrefl] at this; cases this
      · exact h1
    have hle : posOf l x = t := by
      by_cases e2 : posOf l x = t
      · exact e2
      · have h1 := List.pairwise_iff_getElem.1 hr (posOf l x) t (by omega) ht (by omega)
        rw [e, posOf_stop (by omega)] at h1
        cases h1
    rw [hle]
    exact ⟨ht, by rw [List.getD_eq_getElem?_getD, List.getElem?_eq_getElem ht]; simpa using e⟩

/-- The row with one name more. -/
def insS (l : List ByteArray) (x : ByteArray) : List ByteArray := l.take (posOf l x) ++ x :: l.drop (posOf l x)
theorem insS_length (l : List ByteArray) (x : ByteArray) : (insS l x).length = l.length + 1 := by
  have := posOf_le l x
  unfold insS; simp; omega
theorem insS_perm (l : List ByteArray) (x : ByteArray) : (insS l x).Perm (x :: l) := by
  unfold insS
  have h : (l.take (posOf l x) ++ x :: l.drop (posOf l x)).Perm (x :: (l.take (posOf l x) ++ l.drop (posOf l x))) := List.perm_middle
  rwa [List.take_append_drop] at h
theorem insS_rises {l : List ByteArray} {x : ByteArray} (hr : Rises l) (hx : x ∉ l) : Rises (insS l x) := by
  unfold Rises insS
  rw [List.pairwise_append]
  refine ⟨hr.sublist (List.take_sublist _ _), ?_, ?_⟩
  · rw [List.pairwise_cons]
    refine ⟨fun b hb => ?_, hr.sublist (List.drop_sublist _ _)⟩
    obtain ⟨i, hi, rfl⟩ := List.mem_iff_getElem.1 hb
    rw [List.getElem_drop]
    have hi' : posOf l x + i < l.length := by simp at hi; omega
    exact ltB_total (posOf_ge hr (Nat.le_add_right _ _) hi') (fun e => hx (by rw [← e]; exact List.getElem_mem hi'))
  · intro a ha b hb
    obtain ⟨i, hi, rfl⟩ := List.mem_iff_getElem.1 ha
    have hi2 : i < posOf l x ∧ i < l.length := by rw [List.length_take] at hi; omega
    have h1 : ltB (l.take (posOf l x))[i] x = true := by rw [List.getElem_take]; exact posOf_lt hi2.1 hi2.2
    rcases List.mem_cons.1 hb with rfl | hb
    · exact h1
    · obtain ⟨j, hj, rfl⟩ := List.mem_iff_getElem.1 hb
      rw [List.getElem_take, List.getElem_drop]
      simp at hj
      exact List.pairwise_iff_getElem.1 hr _ _ hi2.2 (by omega) (by omega)

/-- Rising rows of the same names are the same. -/
theorem rises_unique : ∀ {l l' : List ByteArray}, Rises l → Rises l' → l.Perm l' → l = l'
  | [], l', _, _, hp => (List.perm_nil.1 hp.symm).symm ▸ rfl
  | a :: l, l', h, h', hp => by
    cases l' with
    | nil => exact absurd (List.perm_nil.1 hp) (by simp)
    | cons b l' =>
      have hab : a = b := by
        have ha : a ∈ b :: l' := hp.subset (by simp)
        have hb : b ∈ a :: l := hp.symm.subset (by simp)
        rcases List.mem_cons.1 ha with e | ha
        · exact e
        · rcases List.mem_cons.1 hb with e | hb
          · exact e.symm
          · have h1 := (List.pairwise_cons.1 h').1 a ha
            have h2 := (List.pairwise_cons.1 h).1 b hb
            have := ltB_trans h1 h2
            rw [ltB_irrefl] at this
            cases this
      subst hab
      rw [rises_unique (List.pairwise_cons.1 h).2 (List.pairwise_cons.1 h').2 (List.Perm.cons_inv hp)]
end Go.Proofs.YtcnaffhdiodkhaaDoor
