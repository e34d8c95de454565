/-
  Layer 8, plain: things by their costs, trees of which each is ahead of its kids, and rows in order. No program in it.
-/
import Derived.Test.YtplfnhnipdfglaaProg
import Derived.Below
namespace Go.Proofs.Ytplfnhnipdfglaa
open Go
/-! ### Things and their order -/
structure E (α : Type) where
  c : Int
  t : Int
  x : α
variable {α : Type}
def E.lt (a b : E α) : Prop := a.c < b.c ∨ a.c = b.c ∧ a.t < b.t
instance (a b : E α) : Decidable (a.lt b) := inferInstanceAs (Decidable (_ ∨ _))
theorem E.lt_trans {a b c : E α} (h : a.lt b) (h' : b.lt c) : a.lt c := by unfold E.lt at *; omega
theorem E.not_lt {a b : E α} (h : a.lt b) : ¬ b.lt a := by unfold E.lt at *; omega

inductive Tr (α : Type) where
  | nil
  | node (e : E α) (h : Int) (l r : Tr α)
namespace Tr
def els : Tr α → List (E α)
  | nil => []
  | node e _ l r => e :: (els l ++ els r)
def high : Tr α → Int
  | nil => 0
  | node _ h _ _ => h
def above (e : E α) (l r : Tr α) : Tr α := if l.high < r.high then node e (l.high + 1) r l else node e (r.high + 1) l r
def size : Tr α → Nat
  | nil => 0
  | node _ _ l r => l.size + r.size + 1
def merge : Tr α → Tr α → Tr α
  | nil, b => b
  | node ea ha la ra, nil => node ea ha la ra
  | node ea ha la ra, node eb hb lb rb => if eb.lt ea then above eb lb (merge rb (node ea ha la ra)) else above ea la (merge ra (node eb hb lb rb))
termination_by a b => a.size + b.size
decreasing_by all_goals simp only [size]; omega
/-- Ahead of its two kids; its height is that of something. -/
def ok : Tr α → Prop
  | nil => True
  | node e h l r => (∀ x ∈ els l ++ els r, ¬ x.lt e) ∧ 0 ≤ h ∧ h ≤ l.size + r.size + 1 ∧ ok l ∧ ok r
theorem size_els : ∀ t : Tr α, t.size = t.els.length
  | nil => rfl
  | node e h l r => by simp only [size, els, List.length_cons, List.length_append, size_els l, size_els r]
theorem ok.high {t : Tr α} (h : t.ok) : 0 ≤ t.high ∧ t.high ≤ t.size := by
  cases t with
  | nil => exact ⟨Int.le_refl _, Int.le_refl _⟩
  | node e k l r => obtain ⟨_, h1, h2, _⟩ := h; simp only [Tr.high, size]; omega
theorem above_els (e : E α) (l r : Tr α) : (above e l r).els.Perm (e :: (l.els ++ r.els)) := by
  unfold above
  split
  · exact List.Perm.cons _ List.perm_append_comm
  · exact List.Perm.refl _
theorem above_ok {e : E α} {l r : Tr α} (hl : l.ok) (hr : r.ok) (h : ∀ x ∈ l.els ++ r.els, ¬ x.lt e) : (above e l r).ok := by
  have a := hl.high
  have b := hr.high
  unfold above
  split
  · refine ⟨fun x hx => h x ?_, by omega, by omega, hr, hl⟩
    simp only [List.mem_append] at hx ⊢
    exact hx.symm
  · exact ⟨h, by omega, by omega, hl, hr⟩
theorem merge_nil (b : Tr α) : merge nil b = b := by cases b <;> rw [merge]
theorem merge_nil' (a : Tr α) : merge a nil = a := by cases a <;> rw [merge]
theorem merge_lt {ea eb : E α} {ha hb : Int} {la ra lb rb : Tr α} (h : eb.lt ea) : merge (node ea ha la ra) (node eb hb lb rb) = above eb lb (merge rb (node ea ha la ra)) := by rw [merge, if_pos h]
theorem merge_ge {ea eb : E α} {ha hb : Int} {la ra lb rb : Tr α} (h : ¬ eb.lt ea) : merge (node ea ha la ra) (node eb hb lb rb) = above ea la (merge ra (node eb hb lb rb)) := by rw [merge, if_neg h]
theorem merge_els : ∀ (n : Nat) (a b : Tr α), a.size + b.size = n → (merge a b).els.Perm (a.els ++ b.els) := by
  intro n
  induction n using Nat.strongRecOn with
  | ind n ih =>
    intro a b hn
    cases a with
    | nil => rw [merge_nil]; exact List.Perm.refl _
    | node ea ha la ra =>
      cases b with
      | nil => rw [merge_nil', els, List.append_nil]
      | node eb hb lb rb =>
        by_cases h : eb.lt ea
        · rw [merge_lt h]
          have i := ih _ (by simp only [size] at hn ⊢; omega) rb (node ea ha la ra) rfl
          refine (above_els _ _ _).trans ?_
          have : (node ea ha la ra).els ++ (node eb hb lb rb).els = (node ea ha la ra).els ++ (eb :: (lb.els ++ rb.els)) := rfl
          rw [this]
          refine List.Perm.trans (List.Perm.cons _ ?_) List.perm_middle.symm
          refine (List.Perm.append_left _ i).trans ?_
          rw [← List.append_assoc]
          exact List.perm_append_comm
        · rw [merge_ge h]
          have i := ih _ (by simp only [size] at hn ⊢; omega) ra (node eb hb lb rb) rfl
          refine (above_els _ _ _).trans ?_
          show (ea :: _).Perm (ea :: ((la.els ++ ra.els) ++ (node eb hb lb rb).els))
          refine List.Perm.cons _ ((List.Perm.append_left _ i).trans ?_)
          rw [List.append_assoc]
theorem merge_ok : ∀ (n : Nat) (a b : Tr α), a.size + b.size = n → a.ok → b.ok → (merge a b).ok := by
  intro n
  induction n using Nat.strongRecOn with
  | ind n ih =>
    intro a b hn oa ob
    cases a with
    | nil => rw [merge_nil]; exact ob
    | node ea ha la ra =>
      cases b with
      | nil => rw [merge_nil']; exact oa
      | node eb hb lb rb =>
        have oa' := oa
        have ob' := ob
        obtain ⟨a1, _, _, a2, a3⟩ := oa'
        obtain ⟨b1, _, _, b2, b3⟩ := ob'
        by_cases h : eb.lt ea
        · rw [merge_lt h]
          refine above_ok b2 (ih _ (by simp only [size] at hn ⊢; omega) rb (node ea ha la ra) rfl b3 oa) fun x hx => ?_
          rw [List.mem_append, (merge_els _ rb (node ea ha la ra) rfl).mem_iff, List.mem_append] at hx
          rcases hx with hx | hx | hx
          · exact b1 x (by simp [hx])
          · exact b1 x (by simp [hx])
          · simp only [els, List.mem_cons] at hx
            rcases hx with rfl | hx
            · exact E.not_lt h
            · exact fun h' => a1 x hx (E.lt_trans h' h)
        · rw [merge_ge h]
          refine above_ok a2 (ih _ (by simp only [size] at hn ⊢; omega) ra (node eb hb lb rb) rfl a3 ob) fun x hx => ?_
          rw [List.mem_append, (merge_els _ ra (node eb hb lb rb) rfl).mem_iff, List.mem_append] at hx
          rcases hx with hx | hx | hx
          · exact a1 x (by simp [hx])
          · exact a1 x (by simp [hx])
          · simp only [els, List.mem_cons] at hx
            rcases hx with rfl | hx
            · exact h
            · intro h'
              have := b1 x hx
              unfold E.lt at *
              omega
theorem merge_size (a b : Tr α) : (merge a b).size = a.size + b.size := by
  rw [size_els, size_els, size_els, (merge_els _ a b rfl).length_eq, List.length_append]
end Tr

/-- A row in order. -/
def Sorted (q : List (E α)) : Prop := q.Pairwise E.lt
/-- A tree has what a row has, which is in order. -/
structure Hp (t : Tr α) (q : List (E α)) : Prop where
  ok : t.ok
  perm : t.els.Perm q
  sorted : Sorted q
theorem Hp.nil : Hp (Tr.nil : Tr α) [] := ⟨trivial, List.Perm.refl _, List.Pairwise.nil⟩
theorem Hp.size {t : Tr α} {q : List (E α)} (h : Hp t q) : t.size = q.length := by rw [Tr.size_els, h.perm.length_eq]
theorem Hp.empty {q : List (E α)} (h : Hp (Tr.nil : Tr α) q) : q = [] := by
  have := h.size
  simp only [Tr.size] at this
  exact List.eq_nil_of_length_eq_zero this.symm
/-- Of a tree that has things the root is the first. -/
theorem Hp.node {t : Tr α} {e : E α} {q : List (E α)} (h : Hp t (e :: q)) : ∃ k l r, t = .node e k l r ∧ Hp (Tr.merge l r) q := by
  cases t with
  | nil => have := h.empty; cases this
  | node e' k l r =>
    obtain ⟨ho, hp, hs⟩ := h
    obtain ⟨o1, o2, o3, o4, o5⟩ := ho
    have hs' := hs
    unfold Sorted at hs'
    rw [List.pairwise_cons] at hs'
    have m1 : e ∈ (Tr.node e' k l r).els := hp.mem_iff.2 (List.mem_cons_self ..)
    have m2 : e' ∈ e :: q := hp.mem_iff.1 (by simp [Tr.els])
    have ee : e' = e := by
      rcases List.mem_cons.1 m2 with m2 | m2
      · exact m2
      · simp only [Tr.els, List.mem_cons] at m1
        rcases m1 with m1 | m1
        · exact m1.symm
        · exact absurd (hs'.1 _ m2) (o1 _ m1)
    subst ee
    refine ⟨k, l, r, rfl, Tr.merge_ok _ l r rfl o4 o5, ?_, hs'.2⟩
    exact (Tr.merge_els _ l r rfl).trans (List.Perm.cons_inv hp)
/-- One more: behind all that cost no more. -/
theorem Hp.put {t : Tr α} {q : List (E α)} (h : Hp t q) (e : E α) (k : Nat) (ht : ∀ x ∈ q, x.t < e.t) (h1 : ∀ x ∈ q.take k, x.c ≤ e.c) (h2 : ∀ x ∈ q.drop k, e.c < x.c) :
    Hp (Tr.merge t (.node e 1 .nil .nil)) (q.take k ++ e :: q.drop k) := by
  obtain ⟨ho, hp, hs⟩ := h
  refine ⟨Tr.merge_ok _ _ _ rfl ho ⟨by simp [Tr.els], by decide, by simp [Tr.size], trivial, trivial⟩, ?_, ?_⟩
  · refine (Tr.merge_els _ _ _ rfl).trans ?_
    refine List.Perm.trans ?_ List.perm_middle.symm
    rw [List.take_append_drop]
    simp only [Tr.els, List.append_nil]
    refine (List.Perm.append_right _ hp).trans ?_
    exact List.perm_append_comm
  · have hs' := hs
    unfold Sorted at hs' ⊢
    rw [← List.take_append_drop k q, List.pairwise_append] at hs'
    obtain ⟨s1, s2, s3⟩ := hs'
    rw [List.pairwise_append, List.pairwise_cons]
    refine ⟨s1, ⟨fun b hb => .inl (h2 b hb), s2⟩, fun a ha b hb => ?_⟩
    rcases List.mem_cons.1 hb with rfl | hb
    · have := h1 a ha
      have := ht a (List.mem_of_mem_take ha)
      unfold E.lt
      omega
    · exact s3 a ha b hb
/-- The costs of a row in order rise. -/
theorem Sorted.le {q : List (E α)} (h : Sorted q) {i j : Nat} (hij : i ≤ j) {a b : E α} (ha : q[i]? = some a) (hb : q[j]? = some b) : a.c ≤ b.c := by
  obtain ⟨hi, rfl⟩ := List.getElem?_eq_some_iff.1 ha
  obtain ⟨hj, rfl⟩ := List.getElem?_eq_some_iff.1 hb
  rcases Nat.lt_or_eq_of_le hij with h' | h'
  · have := List.pairwise_iff_getElem.1 h i j hi hj h'
    unfold E.lt at this
    omega
  · subst h'; exact Int.le_refl _
end Go.Proofs.Ytplfnhnipdfglaa
