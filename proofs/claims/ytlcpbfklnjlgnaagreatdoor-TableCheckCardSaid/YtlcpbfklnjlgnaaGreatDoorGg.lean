/-
  Layer 8, plain: things by their costs, trees of which each is ahead of its kids, and rows in order. No program in it.
  Package heap by contracts, first part: trees in memory, which of two things is ahead, a thing above two others, and what two trees come to.
  Package heap by contracts, second part: what two trees come to.
  A region that draws its order, whose last operations wait for all the others and for one another: a condition on the world is asked of the others alone, so that loads of cells that the last ones store may be taken first. (The base's law on a condition that holds throughout, with its proof, turned in this one place.)
  Package heap by contracts, third part: what Len, Peek, Put and Take do to a heap that has a row in order.
  Chapter 8's example holds, by contract; and a heap that is none, and one without things.
-/
import Derived.Test.YtlcpbfklnjlgnaaGreatDoorProg
import Derived.Below
import Derived.WalkKit
import Derived.WalkLawsBesides
import Derived.Deep.LoopGhost
import Derived.Lib.Hide
import Derived.Outline
import Derived.Deep.QuietTactic
import Derived.BigQuiet
import Derived.StillTailTactics
import Derived.Deep.RegionHeld3
import Derived.IntWalk
import Derived.Laws.OwnMore
import Derived.OrdersHeld
import Derived.StillTail
import Derived.RegionTactic
import Derived.ProofKit
namespace Go.Proofs.YtlcpbfklnjlgnaaGreatDoor
open Go
/-! ### Things and their order -/
structure E (α : Type) where
  c : Int
  t : Int
  x : α
variable {α : Type}
def E.lt (a b : E α) : Prop := a.c < b.c ∨ a.c = b.c ∧ a.t < b.t
instance (a b : E α) : Decidable (a.lt b) := inferInstanceAs (Decidable (_ ∨ _))
theorem E.lt_trans {a b c : E α} (h : a.lt b) (h' : b.lt c) : a.lt c := by unfold E.lt at *; omega
theorem E.not_lt {a b : E α} (h : a.lt b) : ¬ b.lt a := by unfold E.lt at *; omega

inductive Tr (α : Type) where
  | nil
  | node (e : E α) (h : Int) (l r : Tr α)
namespace Tr
def els : Tr α → List (E α)
  | nil => []
  | node e _ l r => e :: (els l ++ els r)
def high : Tr α → Int
  | nil => 0
  | node _ h _ _ => h
def above (e : E α) (l r : Tr α) : Tr α := if l.high < r.high then node e (l.high + 1) r l else node e (r.high + 1) l r
def size : Tr α → Nat
  | nil => 0
  | node _ _ l r => l.size + r.size + 1
def merge : Tr α → Tr α → Tr α
  | nil, b => b
  | node ea ha la ra, nil => node ea ha la ra
  | node ea ha la ra, node eb hb lb rb => if eb.lt ea then above eb lb (merge rb (node ea ha la ra)) else above ea la (merge ra (node eb hb lb rb))
termination_by a b => a.size + b.size
decreasing_by all_goals simp only [size]; omega
/-- Ahead of its two kids; its height is that of something. -/
def ok : Tr α → Prop
  | nil => True
  | node e h l r => (∀ x ∈ els l ++ els r, ¬ x.lt e) ∧ 0 ≤ h ∧ h ≤ l.size + r.size + 1 ∧ ok l ∧ ok r
theorem size_els : ∀ t : Tr α, t.size = t.els.length
  | nil => rfl
  | node e h l r => by simp only [size, els, List.length_cons, List.length_append, size_els l, size_els r]
theorem ok.high {t : Tr α} (h : t.ok) : 0 ≤ t.high ∧ t.high ≤ t.size := by
  cases t with
  | nil => exact ⟨Int.le_refl _, Int.le_refl _⟩
  | node e k l r => obtain ⟨_, h1, h2, _⟩ := h; simp only [Tr.high, size]; omega
theorem above_els (e : E α) (l r : Tr α) : (above e l r).els.Perm (e :: (l.els ++ r.els)) := by
  unfold above
  split
  · exact List.Perm.cons _ List.perm_append_comm
  · exact List.Perm.refl _
theorem above_ok {e : E α} {l r : Tr α} (hl : l.ok) (hr : r.ok) (h : ∀ x ∈ l.els ++ r.els, ¬ x.lt e) : (above e l r).ok := by
  have a := hl.high
  have b := hr.high
  unfold above
  split
  · refine ⟨fun x hx => h x ?_, by omega, by omega, hr, hl⟩
    simp only [List.mem_append] at hx ⊢
    exact hx.symm
  · exact ⟨h, by omega, by omega, hl, hr⟩
theorem merge_nil (b : Tr α) : merge nil b = b := by cases b <;> rw [merge]
theorem merge_nil' (a : Tr α) : merge a nil = a := by cases a <;> rw [merge]
theorem merge_lt {ea eb : E α} {ha hb : Int} {la ra lb rb : Tr α} (h : eb.lt ea) : merge (node ea ha la ra) (node eb hb lb rb) = above eb lb (merge rb (node ea ha la ra)) := by rw [merge, if_pos h]
theorem merge_ge {ea eb : E α} {ha hb : Int} {la ra lb rb : Tr α} (h : ¬ eb.lt ea) : merge (node ea ha la ra) (node eb hb lb rb) = above ea la (merge ra (node eb hb lb rb)) := by rw [merge, if_neg h]
theorem merge_els : ∀ (n : Nat) (a b : Tr α), a.size + b.size = n → (merge a b).els.Perm (a.els ++ b.els) := by
  intro n
  induction n using Nat.strongRecOn with
  | ind n ih =>
    intro a b hn
    cases a with
    | nil => rw [merge_nil]; exact List.Perm.refl _
    | node ea ha la ra =>
      cases b with
      | nil => rw [merge_nil', els, List.append_nil]
      | node eb hb lb rb =>
        by_cases h : eb.lt ea
        · rw [merge_lt h]
          have i := ih _ (by simp only [size] at hn ⊢; omega) rb (node ea ha la ra) rfl
          refine (above_els _ _ _).trans ?_
          have : (node ea ha la ra).els ++ (node eb hb lb rb).els = (node ea ha la ra).els ++ (eb :: (lb.els ++ rb.els)) := rfl
          rw [this]
          refine List.Perm.trans (List.Perm.cons _ ?_) List.perm_middle.symm
          refine (List.Perm.append_left _ i).trans ?_
          rw [← List.append_assoc]
          exact List.perm_append_comm
        · rw [merge_ge h]
          have i := ih _ (by simp only [size] at hn ⊢; omega) ra (node eb hb lb rb) rfl
          refine (above_els _ _ _).trans ?_
          show (ea :: _).Perm (ea :: ((la.els ++ ra.els) ++ (node eb hb lb rb).els))
          refine List.Perm.cons _ ((List.Perm.append_left _ i).trans ?_)
          rw [List.append_assoc]
theorem merge_ok : ∀ (n : Nat) (a b : Tr α), a.size + b.size = n → a.ok → b.ok → (merge a b).ok := by
  intro n
  induction n using Nat.strongRecOn with
  | ind n ih =>
    intro a b hn oa ob
    cases a with
    | nil => rw [merge_nil]; exact ob
    | node ea ha la ra =>
      cases b with
      | nil => rw [merge_nil']; exact oa
      | node eb hb lb rb =>
        have oa' := oa
        have ob' := ob
        obtain ⟨a1, _, _, a2, a3⟩ := oa'
        obtain ⟨b1, _, _, b2, b3⟩ := ob'
        by_cases h : eb.lt ea
        · rw [merge_lt h]
          refine above_ok b2 (ih _ (by simp only [size] at hn ⊢; omega) rb (node ea ha la ra) rfl b3 oa) fun x hx => ?_
          rw [List.mem_append, (merge_els _ rb (node ea ha la ra) rfl).mem_iff, List.mem_append] at hx
          rcases hx with hx | hx | hx
          · exact b1 x (by simp [hx])
          · exact b1 x (by simp [hx])
          · simp only [els, List.mem_cons] at hx
            rcases hx with rfl | hx
            · exact E.not_lt h
            · exact fun h' => a1 x hx (E.lt_trans h' h)
        · rw [merge_ge h]
          refine above_ok a2 (ih _ (by simp only [size] at hn ⊢; omega) ra (node eb hb lb rb) rfl a3 ob) fun x hx => ?_
          rw [List.mem_append, (merge_els _ ra (node eb hb lb rb) rfl).mem_iff, List.mem_append] at hx
          rcases hx with hx | hx | hx
          · exact a1 x (by simp [hx])
          · exact a1 x (by simp [hx])
          · simp only [els, List.mem_cons] at hx
            rcases hx with rfl | hx
            · exact h
            · intro h'
              have := b1 x hx
              unfold E.lt at *
              omega
theorem merge_size (a b : Tr α) : (merge a b).size = a.size + b.size := by
  rw [size_els, size_els, size_els, (merge_els _ a b rfl).length_eq, List.length_append]
end Tr

/-- A row in order. -/
def Sorted (q : List (E α)) : Prop := q.Pairwise E.lt
/-- A tree has what a row has, which is in order. -/
structure Hp (t : Tr α) (q : List (E α)) : Prop where
  ok : t.ok
  perm : t.els.Perm q
  sorted : Sorted q
theorem Hp.nil : Hp (Tr.nil : Tr α) [] := ⟨trivial, List.Perm.refl _, List.Pairwise.nil⟩
theorem Hp.size {t : Tr α} {q : List (E α)} (h : Hp t q) : t.size = q.length := by rw [Tr.size_els, h.perm.length_eq]
theorem Hp.empty {q : List (E α)} (h : Hp (Tr.nil : Tr α) q) : q = [] := by
  have := h.size
  simp only [Tr.size] at this
  exact List.eq_nil_of_length_eq_zero this.symm
/-- Of a tree that has things the root is the first. -/
theorem Hp.node {t : Tr α} {e : E α} {q : List (E α)} (h : Hp t (e :: q)) : ∃ k l r, t = .node e k l r ∧ Hp (Tr.merge l r) q := by
  cases t with
  | nil => have := h.empty; cases this
  | node e' k l r =>
    obtain ⟨ho, hp, hs⟩ := h
    obtain ⟨o1, o2, o3, o4, o5⟩ := ho
    have hs' := hs
    unfold Sorted at hs'
    rw [List.pairwise_cons] at hs'
    have m1 : e ∈ (Tr.node e' k l r).els := hp.mem_iff.2 (List.mem_cons_self ..)
    have m2 : e' ∈ e :: q := hp.mem_iff.1 (by simp [Tr.els])
    have ee : e' = e := by
      rcases List.mem_cons.1 m2 with m2 | m2
      · exact m2
      · simp only [Tr.els, List.mem_cons] at m1
        rcases m1 with m1 | m1
        · exact m1.symm
        · exact absurd (hs'.1 _ m2) (o1 _ m1)
    subst ee
    refine ⟨k, l, r, rfl, Tr.merge_ok _ l r rfl o4 o5, ?_, hs'.2⟩
    exact (Tr.merge_els _ l r rfl).trans (List.Perm.cons_inv hp)
/-- One more: behind all that cost no more. -/
theorem Hp.put {t : Tr α} {q : List (E α)} (h : Hp t q) (e : E α) (k : Nat) (ht : ∀ x ∈ q, x.t < e.t) (h1 : ∀ x ∈ q.take k, x.c ≤ e.c) (h2 : ∀ x ∈ q.drop k, e.c < x.c) :
    Hp (Tr.merge t (.node e 1 .nil .nil)) (q.take k ++ e :: q.drop k) := by
  obtain ⟨ho, hp, hs⟩ := h
  refine ⟨Tr.merge_ok _ _ _ rfl ho ⟨by simp [Tr.els], by decide, by simp [Tr.size], trivial, trivial⟩, ?_, ?_⟩
  · refine (Tr.merge_els _ _ _ rfl).trans ?_
    refine List.Perm.trans ?_ List.perm_middle.symm
    rw [List.take_append_drop]
    simp only [Tr.els, List.append_nil]
    refine (List.Perm.append_right _ hp).trans ?_
    exact List.perm_append_comm
  · have hs' := hs
    unfold Sorted at hs' ⊢
    rw [← List.take_append_drop k q, List.pairwise_append] at hs'
    obtain ⟨s1, s2, s3⟩ := hs'
    rw [List.pairwise_append, List.pairwise_cons]
    refine ⟨s1, ⟨fun b hb => .inl (h2 b hb), s2⟩, fun a ha b hb => ?_⟩
    rcases List.mem_cons.1 hb with rfl | hb
    · have := h1 a ha
      have := ht a (List.mem_of_mem_take ha)
      unfold E.lt
      omega
    · exact s3 a ha b hb
/-- The costs of a row in order rise. -/
theorem Sorted.le {q : List (E α)} (h : Sorted q) {i j : Nat} (hij : i ≤ j) {a b : E α} (ha : q[i]? = some a) (hb : q[j]? = some b) : a.c ≤ b.c := by
  obtain ⟨hi, rfl⟩ := List.getElem?_eq_some_iff.1 ha
  obtain ⟨hj, rfl⟩ := List.getElem?_eq_some_iff.1 hb
  rcases Nat.lt_or_eq_of_le hij with h' | h'
  · have := List.pairwise_iff_getElem.1 h i j hi hj h'
    unfold E.lt at this
    omega
  · subst h'; exact Int.le_refl _
end Go.Proofs.YtlcpbfklnjlgnaaGreatDoor

namespace Go.Proofs.YtlcpbfklnjlgnaaGreatDoor
open Go.RowKit Go.Extern.Stop Go.Stop Go.Extern

theorem hbelow_new (w : World) (o : Obj) : Below w.heap.size w (w.alloc o) := (Below.refl _ _).alloc (Nat.le_refl _) _
theorem hbcell {W w1 : World} (hb : Below W.heap.size W w1) : (∀ b o, b < W.heap.size → w1.cell? ⟨b, o, none⟩ = W.cell? ⟨b, o, none⟩) ∧ (∀ b o, b < W.heap.size → w1.frozen? ⟨b, o, none⟩ = W.frozen? ⟨b, o, none⟩) :=
  ⟨fun b o h => hb.cell (p := ⟨b, o, none⟩) h, fun b o h => hb.frozen (p := ⟨b, o, none⟩) h⟩
/-- A thing in memory. -/
def ItAt (w : World) (T : TypeId) (b : Nat) (c0 : Value) (c t h : Int) (l r : Option Addr) : Prop :=
  w.heap[b]? = some (.cells #[c0, .int .u64 c, .int .u64 t, .int .i64 h, .pointer l, .pointer r] T (0, 0))
theorem ItAt.cells {w : World} {T : TypeId} {b : Nat} {c0 : Value} {c t h : Int} {l r : Option Addr} (hi : ItAt w T b c0 c t h l r) :
    w.cell? ⟨b, 0, none⟩ = some c0 ∧ w.cell? ⟨b, 1, none⟩ = some (.int .u64 c) ∧ w.cell? ⟨b, 2, none⟩ = some (.int .u64 t) ∧ w.cell? ⟨b, 3, none⟩ = some (.int .i64 h) ∧ w.cell? ⟨b, 4, none⟩ = some (.pointer l) ∧ w.cell? ⟨b, 5, none⟩ = some (.pointer r) :=
  ⟨by rw [Lib.cell_of_heap hi]; rfl, by rw [Lib.cell_of_heap hi]; rfl, by rw [Lib.cell_of_heap hi]; rfl, by rw [Lib.cell_of_heap hi]; rfl, by rw [Lib.cell_of_heap hi]; rfl, by rw [Lib.cell_of_heap hi]; rfl⟩
theorem ItAt.lt {w : World} {T : TypeId} {b : Nat} {c0 : Value} {c t h : Int} {l r : Option Addr} (hi : ItAt w T b c0 c t h l r) : b < w.heap.size := (Array.getElem?_eq_some_iff.1 hi).1
/-- A tree, in blocks beyond B. -/
def TreeAt {α : Type} (enc : α → Value) (T : TypeId) (B : Nat) (w : World) : Option Addr → Tr α → Prop
  | p, .nil => p = none
  | p, .node e h l r => ∃ b pl pr, p = some ⟨b, 0, none⟩ ∧ B < b ∧ ItAt w T b (enc e.x) e.c e.t h pl pr ∧ TreeAt enc T B w pl l ∧ TreeAt enc T B w pr r
theorem TreeAt.step {α : Type} {enc : α → Value} {T : TypeId} {B : Nat} {w w' : World} (hk : ∀ b, B < b → b < w.heap.size → w'.heap[b]? = w.heap[b]?) :
    ∀ {t : Tr α} {p : Option Addr}, TreeAt enc T B w p t → TreeAt enc T B w' p t
  | .nil, _, h => h
  | .node _ _ _ _, _, ⟨b, pl, pr, e, hb, hi, hl, hr⟩ => ⟨b, pl, pr, e, hb, (hk b hb hi.lt).trans hi, hl.step hk, hr.step hk⟩
theorem TreeAt.below {α : Type} {enc : α → Value} {T : TypeId} {B : Nat} {w w' : World} {t : Tr α} {p : Option Addr} (h : TreeAt enc T B w p t) (hb : Below w.heap.size w w') : TreeAt enc T B w' p t :=
  h.step fun b _ hlt => hb.block b hlt

def encS (x : ByteArray) : Value := .string x
def hencI (x : Int) : Value := .int .i64 x

def eltB (c t c' t' : Int) : Bool := decide (c < c' ∨ c = c' ∧ t < t')
theorem eltB_of {α : Type} (a b : E α) : eltB a.c a.t b.c b.t = decide (a.lt b) := rfl

set_option maxHeartbeats 400000 in
theorem highS_any {t : Tr ByteArray} {p : Option Addr} {B : Nat} (w : World) (ht : TreeAt encS 223 B w p t) :
    Calls Tryz.prog 172 #[.pointer p] w fun e w' => e = .returned (.int .i64 t.high) ∧ w = w' := by
  cases t with
  | nil =>
    obtain rfl : p = none := ht
    go_enter Tryz.func172, Tryz.ntmps172
    go_wp2
    go_ret
    exact ⟨rfl, rfl⟩
  | node e h l r =>
    obtain ⟨b, pl, pr, rfl, -, hi, -, -⟩ := ht
    obtain ⟨-, -, -, c3, -, -⟩ := hi.cells
    clear hi
    go_enter Tryz.func172, Tryz.ntmps172
    go_wp2
    go_ret
    exact ⟨rfl, rfl⟩

set_option maxRecDepth 100000 in
set_option maxHeartbeats 1000000 in
theorem aheadS_any {a b : Nat} {x y : Value} {c t h c' t' h' : Int} {l r l' r' : Option Addr} (w : World) (ha : ItAt w 223 a x c t h l r) (hb : ItAt w 223 b y c' t' h' l' r') :
    Calls Tryz.prog 169 #[.pointer (some ⟨a, 0, none⟩), .pointer (some ⟨b, 0, none⟩)] w fun e w' => e = .returned (.bool (eltB c t c' t')) ∧ ∃ n, w' = w.drewN n := by
  obtain ⟨-, a1, a2, -, -, -⟩ := ha.cells
  obtain ⟨-, b1, b2, -, -, -⟩ := hb.cells
  clear ha hb
  by_cases h1 : c < c'
  · have hd : decide (c < c') = true := decide_eq_true h1
    have HR : Hid (eltB c t c' t' = true) := Lib.hid (decide_eq_true (.inl h1))
    go_enter Tryz.func169, Tryz.ntmps169
    go_wp2
    go_quiet (fail)
    go_wp2
    go_ret
    exact ⟨by rw [HR.out]; rfl, _, rfl⟩
  · by_cases h2 : c = c'
    · subst h2
      have hd : decide (c < c) = false := decide_eq_false h1
      by_cases h3 : t < t'
      · have he : decide (t < t') = true := decide_eq_true h3
        have HR : Hid (eltB c t c t' = true) := Lib.hid (decide_eq_true (.inr ⟨rfl, h3⟩))
        clear h1
        go_enter Tryz.func169, Tryz.ntmps169
        go_wp2
        go_quiet (fail)
        go_wp2
        go_ret
        exact ⟨by rw [HR.out]; rfl, _, rfl⟩
      · have he : decide (t < t') = false := decide_eq_false h3
        have HR : Hid (eltB c t c t' = false) := Lib.hid (decide_eq_false (by omega))
        clear h1
        go_enter Tryz.func169, Tryz.ntmps169
        go_wp2
        go_quiet (fail)
        go_wp2
        go_ret
        exact ⟨by rw [HR.out]; rfl, _, rfl⟩
    · have hd : decide (c < c') = false := decide_eq_false h1
      have he : (c == c') = false := by simpa using h2
      have HR : Hid (eltB c t c' t' = false) := Lib.hid (decide_eq_false (by omega))
      clear h1 h2
      go_enter Tryz.func169, Tryz.ntmps169
      go_wp2
      go_quiet (fail)
      go_wp2
      go_ret
      exact ⟨by rw [HR.out]; rfl, _, rfl⟩

set_option maxRecDepth 100000 in
set_option maxHeartbeats 1000000 in
theorem aboveS_any {a : Nat} {e : E ByteArray} {h : Int} {pl pr p q : Option Addr} {l r : Tr ByteArray} {B : Nat} (w : World) (ha : ItAt w 223 a (encS e.x) e.c e.t h pl pr) (hp : TreeAt encS 223 B w p l) (hq : TreeAt encS 223 B w q r)
    (hB : B < w.heap.size) (ol : l.ok) (or' : r.ok) (hl : l.size ≤ 1000000) (hr : r.size ≤ 1000000) :
    Calls Tryz.prog 170 #[.pointer (some ⟨a, 0, none⟩), .pointer p, .pointer q] w fun e' w' => ∃ p', e' = .returned (.pointer p') ∧ TreeAt encS 223 B w' p' (Tr.above e l r) ∧ Below w.heap.size w w' := by
  obtain ⟨a0', a1, a2, -, -, -⟩ := ha.cells
  have a0 : w.cell? ⟨a, 0, none⟩ = some (.string e.x) := a0'
  clear a0'
  have bl := ol.high
  have br := or'.high
  have HL := Lib.hid (highS_any w hp)
  have HR := Lib.hid (highS_any w hq)
  clear ha
  unfold Tr.above
  by_cases hlt : l.high < r.high
  · rw [if_pos hlt]
    have b1 : IntKind.i64.wrap (l.high + 1) = l.high + 1 := IntWalk.i64_in _ (by omega)
    have HP := Lib.hid hp
    have HQ := Lib.hid hq
    have H3 := Lib.hid (((highS_any w.drew (hp.below (Below.refl _ _).drew)).mono fun e w' h => ⟨h.1, h.2.symm⟩ : Calls Tryz.prog 172 _ w.drew fun e w'' => e = .returned (.int .i64 l.high) ∧ w'' = w.drew))
    clear hp hq ol or' bl br
    go_enter Tryz.func170, Tryz.ntmps170
    go_wp2_with fail
    refine HL.out.mono ?_
    rintro e' w1 ⟨rfl, rfl⟩
    go_wp2_with fail
    refine HR.out.mono ?_
    rintro e' w1 ⟨rfl, rfl⟩
    go_wp2_with fail
    go_still_tail 18, (by kernel_rfl)
    still_call H3.out
    repeat still_step
    refine wpStill_nil ?_
    go_wp2_with fail
    go_ret
    have hB2 : Below w.heap.size w (w.drew.alloc (.cells #[encS e.x, .int .u64 e.c, .int .u64 e.t, .int .i64 (l.high + 1), .pointer q, .pointer p] 223)) := (Below.refl _ _).drew.alloc (Nat.le_refl _) _
    exact ⟨_, rfl, ⟨w.heap.size, _, _, rfl, hB, heap_alloc_new w.drew _, HQ.out.below hB2, HP.out.below hB2⟩, hB2⟩
  · rw [if_neg hlt]
    have hd : decide (l.high < r.high) = false := decide_eq_false hlt
    have b1 : IntKind.i64.wrap (r.high + 1) = r.high + 1 := IntWalk.i64_in _ (by omega)
    have HP := Lib.hid hp
    have HQ := Lib.hid hq
    have H3 := Lib.hid (((highS_any w.drew (hq.below (Below.refl _ _).drew)).mono fun e w' h => ⟨h.1, h.2.symm⟩ : Calls Tryz.prog 172 _ w.drew fun e w'' => e = .returned (.int .i64 r.high) ∧ w'' = w.drew))
    clear hp hq ol or' bl br
    go_enter Tryz.func170, Tryz.ntmps170
    go_wp2_with fail
    refine HL.out.mono ?_
    rintro e' w1 ⟨rfl, rfl⟩
    go_wp2_with fail
    refine HR.out.mono ?_
    rintro e' w1 ⟨rfl, rfl⟩
    go_wp2_with fail
    go_still_tail 18, (by kernel_rfl)
    still_call H3.out
    repeat still_step
    refine wpStill_nil ?_
    go_wp2_with fail
    go_ret
    have hB2 : Below w.heap.size w (w.drew.alloc (.cells #[encS e.x, .int .u64 e.c, .int .u64 e.t, .int .i64 (r.high + 1), .pointer p, .pointer q] 223)) := (Below.refl _ _).drew.alloc (Nat.le_refl _) _
    exact ⟨_, rfl, ⟨w.heap.size, _, _, rfl, hB, heap_alloc_new w.drew _, HP.out.below hB2, HQ.out.below hB2⟩, hB2⟩
set_option maxHeartbeats 400000 in
theorem highI_any {t : Tr Int} {p : Option Addr} {B : Nat} (w : World) (ht : TreeAt hencI 184 B w p t) :
    Calls Tryz.prog 166 #[.pointer p] w fun e w' => e = .returned (.int .i64 t.high) ∧ w = w' := by
  cases t with
  | nil =>
    obtain rfl : p = none := ht
    go_enter Tryz.func166, Tryz.ntmps166
    go_wp2
    go_ret
    exact ⟨rfl, rfl⟩
  | node e h l r =>
    obtain ⟨b, pl, pr, rfl, -, hi, -, -⟩ := ht
    obtain ⟨-, -, -, c3, -, -⟩ := hi.cells
    clear hi
    go_enter Tryz.func166, Tryz.ntmps166
    go_wp2
    go_ret
    exact ⟨rfl, rfl⟩

set_option maxRecDepth 100000 in
set_option maxHeartbeats 1000000 in
theorem aheadI_any {a b : Nat} {x y : Value} {c t h c' t' h' : Int} {l r l' r' : Option Addr} (w : World) (ha : ItAt w 184 a x c t h l r) (hb : ItAt w 184 b y c' t' h' l' r') :
    Calls Tryz.prog 146 #[.pointer (some ⟨a, 0, none⟩), .pointer (some ⟨b, 0, none⟩)] w fun e w' => e = .returned (.bool (eltB c t c' t')) ∧ ∃ n, w' = w.drewN n := by
  obtain ⟨-, a1, a2, -, -, -⟩ := ha.cells
  obtain ⟨-, b1, b2, -, -, -⟩ := hb.cells
  clear ha hb
  by_cases h1 : c < c'
  · have hd : decide (c < c') = true := decide_eq_true h1
    have HR : Hid (eltB c t c' t' = true) := Lib.hid (decide_eq_true (.inl h1))
    go_enter Tryz.func146, Tryz.ntmps146
    go_wp2
    go_quiet (fail)
    go_wp2
    go_ret
    exact ⟨by rw [HR.out]; rfl, _, rfl⟩
  · by_cases h2 : c = c'
    · subst h2
      have hd : decide (c < c) = false := decide_eq_false h1
      by_cases h3 : t < t'
      · have he : decide (t < t') = true := decide_eq_true h3
        have HR : Hid (eltB c t c t' = true) := Lib.hid (decide_eq_true (.inr ⟨rfl, h3⟩))
        clear h1
        go_enter Tryz.func146, Tryz.ntmps146
        go_wp2
        go_quiet (fail)
        go_wp2
        go_ret
        exact ⟨by rw [HR.out]; rfl, _, rfl⟩
      · have he : decide (t < t') = false := decide_eq_false h3
        have HR : Hid (eltB c t c t' = false) := Lib.hid (decide_eq_false (by omega))
        clear h1
        go_enter Tryz.func146, Tryz.ntmps146
        go_wp2
        go_quiet (fail)
        go_wp2
        go_ret
        exact ⟨by rw [HR.out]; rfl, _, rfl⟩
    · have hd : decide (c < c') = false := decide_eq_false h1
      have he : (c == c') = false := by simpa using h2
      have HR : Hid (eltB c t c' t' = false) := Lib.hid (decide_eq_false (by omega))
      clear h1 h2
      go_enter Tryz.func146, Tryz.ntmps146
      go_wp2
      go_quiet (fail)
      go_wp2
      go_ret
      exact ⟨by rw [HR.out]; rfl, _, rfl⟩

set_option maxRecDepth 100000 in
set_option maxHeartbeats 1000000 in
theorem aboveI_any {a : Nat} {e : E Int} {h : Int} {pl pr p q : Option Addr} {l r : Tr Int} {B : Nat} (w : World) (ha : ItAt w 184 a (hencI e.x) e.c e.t h pl pr) (hp : TreeAt hencI 184 B w p l) (hq : TreeAt hencI 184 B w q r)
    (hB : B < w.heap.size) (ol : l.ok) (or' : r.ok) (hl : l.size ≤ 1000000) (hr : r.size ≤ 1000000) :
    Calls Tryz.prog 147 #[.pointer (some ⟨a, 0, none⟩), .pointer p, .pointer q] w fun e' w' => ∃ p', e' = .returned (.pointer p') ∧ TreeAt hencI 184 B w' p' (Tr.above e l r) ∧ Below w.heap.size w w' := by
  obtain ⟨a0', a1, a2, -, -, -⟩ := ha.cells
  have a0 : w.cell? ⟨a, 0, none⟩ = some (.int .i64 e.x) := a0'
  clear a0'
  have bl := ol.high
  have br := or'.high
  have HL := Lib.hid (highI_any w hp)
  have HR := Lib.hid (highI_any w hq)
  clear ha
  unfold Tr.above
  by_cases hlt : l.high < r.high
  · rw [if_pos hlt]
    have b1 : IntKind.i64.wrap (l.high + 1) = l.high + 1 := IntWalk.i64_in _ (by omega)
    have HP := Lib.hid hp
    have HQ := Lib.hid hq
    have H3 := Lib.hid (((highI_any w.drew (hp.below (Below.refl _ _).drew)).mono fun e w' h => ⟨h.1, h.2.symm⟩ : Calls Tryz.prog 166 _ w.drew fun e w'' => e = .returned (.int .i64 l.high) ∧ w'' = w.drew))
    clear hp hq ol or' bl br
    go_enter Tryz.func147, Tryz.ntmps147
    go_wp2_with fail
    refine HL.out.mono ?_
    rintro e' w1 ⟨rfl, rfl⟩
    go_wp2_with fail
    refine HR.out.mono ?_
    rintro e' w1 ⟨rfl, rfl⟩
    go_wp2_with fail
    go_still_tail 18, (by kernel_rfl)
    still_call H3.out
    repeat still_step
    refine wpStill_nil ?_
    go_wp2_with fail
    go_ret
    have hB2 : Below w.heap.size w (w.drew.alloc (.cells #[hencI e.x, .int .u64 e.c, .int .u64 e.t, .int .i64 (l.high + 1), .pointer q, .pointer p] 184)) := (Below.refl _ _).drew.alloc (Nat.le_refl _) _
    exact ⟨_, rfl, ⟨w.heap.size, _, _, rfl, hB, heap_alloc_new w.drew _, HQ.out.below hB2, HP.out.below hB2⟩, hB2⟩
  · rw [if_neg hlt]
    have hd : decide (l.high < r.high) = false := decide_eq_false hlt
    have b1 : IntKind.i64.wrap (r.high + 1) = r.high + 1 := IntWalk.i64_in _ (by omega)
    have HP := Lib.hid hp
    have HQ := Lib.hid hq
    have H3 := Lib.hid (((highI_any w.drew (hq.below (Below.refl _ _).drew)).mono fun e w' h => ⟨h.1, h.2.symm⟩ : Calls Tryz.prog 166 _ w.drew fun e w'' => e = .returned (.int .i64 r.high) ∧ w'' = w.drew))
    clear hp hq ol or' bl br
    go_enter Tryz.func147, Tryz.ntmps147
    go_wp2_with fail
    refine HL.out.mono ?_
    rintro e' w1 ⟨rfl, rfl⟩
    go_wp2_with fail
    refine HR.out.mono ?_
    rintro e' w1 ⟨rfl, rfl⟩
    go_wp2_with fail
    go_still_tail 18, (by kernel_rfl)
    still_call H3.out
    repeat still_step
    refine wpStill_nil ?_
    go_wp2_with fail
    go_ret
    have hB2 : Below w.heap.size w (w.drew.alloc (.cells #[hencI e.x, .int .u64 e.c, .int .u64 e.t, .int .i64 (r.high + 1), .pointer p, .pointer q] 184)) := (Below.refl _ _).drew.alloc (Nat.le_refl _) _
    exact ⟨_, rfl, ⟨w.heap.size, _, _, rfl, hB, heap_alloc_new w.drew _, HP.out.below hB2, HQ.out.below hB2⟩, hB2⟩
end Go.Proofs.YtlcpbfklnjlgnaaGreatDoor

namespace Go.Proofs.YtlcpbfklnjlgnaaGreatDoor
open Go.RowKit Go.Extern.Stop Go.Stop Go.Extern

theorem hbelow_drewN (w : World) (n : Nat) : Below w.heap.size w (w.drewN n) := by
  induction n with
  | zero => exact Below.refl _ _
  | succ n ih => exact ⟨ih.os, ih.tape, ih.output, ih.size, ih.block⟩
/-- On the way through two trees: the one that stands above, its two kids, the other one. -/
structure MS {α : Type} (enc : α → Value) (T : TypeId) (B : Nat) (w0 : World) (b : Nat) (c0 : Value) (c t h : Int) (pl pr q : Option Addr) (l r o : Tr α) (w : World) : Prop where
  it : ItAt w T b c0 c t h pl pr
  l : TreeAt enc T B w pl l
  r : TreeAt enc T B w pr r
  o : TreeAt enc T B w q o
  lt : B < w.heap.size
  below : Below w0.heap.size w0 w
theorem MS.step {α : Type} {enc : α → Value} {T : TypeId} {B : Nat} {w0 : World} {b : Nat} {c0 : Value} {c t h : Int} {pl pr q : Option Addr} {l r o : Tr α} {w w' : World} (hs : MS enc T B w0 b c0 c t h pl pr q l r o w) (hb : Below w.heap.size w w') : MS enc T B w0 b c0 c t h pl pr q l r o w' :=
  ⟨(hb.block b hs.it.lt).trans hs.it, hs.l.below hb, hs.r.below hb, hs.o.below hb, Nat.lt_of_lt_of_le hs.lt hb.size, hs.below.trans (hb.mono hs.below.size)⟩

set_option maxRecDepth 100000 in
set_option maxHeartbeats 4000000 in
theorem mergeS_go (B : Nat) : ∀ (n : Nat) (a b : Tr ByteArray) (p q : Option Addr) (w : World), a.size + b.size < n → a.size + b.size ≤ 1000000 → a.ok → b.ok → TreeAt encS 223 B w p a → TreeAt encS 223 B w q b → B < w.heap.size →
    Calls Tryz.prog 158 #[.pointer p, .pointer q] w fun e w' => ∃ p', e = .returned (.pointer p') ∧ TreeAt encS 223 B w' p' (Tr.merge a b) ∧ Below w.heap.size w w' := by
  intro n
  induction n with
  | zero => intro a b p q w hn; exact absurd hn (Nat.not_lt_zero _)
  | succ n ih =>
    intro a b p q w hn hs' oa ob ta tb hB
    cases a with
    | nil =>
      obtain rfl : p = none := ta
      rw [Tr.merge_nil]
      have HT := Lib.hid tb
      clear ih oa ob tb hB hn hs'
      go_enter Tryz.func158, Tryz.ntmps158
      go_wp2_with fail
      go_ret
      exact ⟨_, rfl, HT.out, Below.refl _ _⟩
    | node ea ha la ra =>
    cases b with
    | nil =>
      obtain rfl : q = none := tb
      rw [Tr.merge_nil']
      have HT := Lib.hid ta
      obtain ⟨ba, pla, pra, rfl, -⟩ := ta
      clear ih oa ob hB hn hs'
      go_enter Tryz.func158, Tryz.ntmps158
      go_wp2_with fail
      go_ret
      exact ⟨_, rfl, HT.out, Below.refl _ _⟩
    | node eb hb lb rb =>
    obtain ⟨ba, pla, pra, rfl, lta, ia, tla, tra⟩ := ta
    obtain ⟨bb, plb, prb, rfl, ltb, ib, tlb, trb⟩ := tb
    by_cases h : eb.lt ea
    · have HI : Hid (MS encS 223 B w bb (.string eb.x) eb.c eb.t hb plb prb (some ⟨ba, 0, none⟩) lb rb (.node ea ha la ra) w) := Lib.hid ⟨ib, tlb, trb, ⟨ba, pla, pra, rfl, lta, ia, tla, tra⟩, hB, Below.refl _ _⟩
      have HM := Lib.hid (fun w' (hs : MS encS 223 B w bb (.string eb.x) eb.c eb.t hb plb prb (some ⟨ba, 0, none⟩) lb rb (.node ea ha la ra) w') => ih rb (.node ea ha la ra) prb (some ⟨ba, 0, none⟩) w' (by simp only [Tr.size] at hn ⊢; omega) (by simp only [Tr.size] at hs' ⊢; omega) ob.2.2.2.2 oa hs.r hs.o hs.lt)
      have HV := Lib.hid (fun w' p' (hs : MS encS 223 B w bb (.string eb.x) eb.c eb.t hb plb prb (some ⟨ba, 0, none⟩) lb rb (.node ea ha la ra) w') (ht : TreeAt encS 223 B w' p' (Tr.merge rb (.node ea ha la ra))) =>
        aboveS_any w' hs.it hs.l ht hs.lt ob.2.2.2.1 (Tr.merge_ok _ _ _ rfl ob.2.2.2.2 oa) (by simp only [Tr.size] at hn hs'; omega) (by rw [Tr.merge_size]; simp only [Tr.size] at hn hs' ⊢; omega))
      have HA := Lib.hid (aheadS_any w ib ia)
      have HE : Hid (eltB eb.c eb.t ea.c ea.t = true) := Lib.hid (by rw [eltB_of]; simpa using h)
      rw [Tr.merge_lt h]
      clear ih ia ib tla tra tlb trb oa ob hB h
      go_enter Tryz.func158, Tryz.ntmps158
      go_wp2_with fail
      refine HA.out.mono ?_
      rintro e w1 ⟨rfl, nd, rfl⟩
      rw [HE.out]
      have hI := HI.out.step (hbelow_drewN w nd)
      clear HI HA
      go_wp2_with fail
      replace hI := hI.step (Below.refl _ _).drew
      have k4 := hI.it.cells.2.2.2.2.1
      have k5 := hI.it.cells.2.2.2.2.2
      go_region_held3 (fun w' => w'.cell? ⟨bb, 4, none⟩ = some (.pointer plb) ∧ w'.cell? ⟨bb, 5, none⟩ = some (.pointer prb))
        (first | exact ⟨k4, k5⟩ | exact ⟨hI.it.cells.2.2.2.2.1, hI.it.cells.2.2.2.2.2⟩)
        (first
        | (go_at_call 158; refine (HM.out _ hI).mono ?_; rintro e w2 ⟨p2, rfl, ht, hb⟩; replace hI := hI.step hb)
        | (go_at_call 170; refine (HV.out _ _ hI ht).mono ?_; rintro e w3 ⟨p3, rfl, hr, hb⟩; replace hI := hI.step hb))
      go_wp2_with fail
      go_ret
      exact ⟨_, rfl, hr, hI.below⟩
    · have HI : Hid (MS encS 223 B w ba (.string ea.x) ea.c ea.t ha pla pra (some ⟨bb, 0, none⟩) la ra (.node eb hb lb rb) w) := Lib.hid ⟨ia, tla, tra, ⟨bb, plb, prb, rfl, ltb, ib, tlb, trb⟩, hB, Below.refl _ _⟩
      have HM := Lib.hid (fun w' (hs : MS encS 223 B w ba (.string ea.x) ea.c ea.t ha pla pra (some ⟨bb, 0, none⟩) la ra (.node eb hb lb rb) w') => ih ra (.node eb hb lb rb) pra (some ⟨bb, 0, none⟩) w' (by simp only [Tr.size] at hn ⊢; omega) (by simp only [Tr.size] at hs' ⊢; omega) oa.2.2.2.2 ob hs.r hs.o hs.lt)
      have HV := Lib.hid (fun w' p' (hs : MS encS 223 B w ba (.string ea.x) ea.c ea.t ha pla pra (some ⟨bb, 0, none⟩) la ra (.node eb hb lb rb) w') (ht : TreeAt encS 223 B w' p' (Tr.merge ra (.node eb hb lb rb))) =>
        aboveS_any w' hs.it hs.l ht hs.lt oa.2.2.2.1 (Tr.merge_ok _ _ _ rfl oa.2.2.2.2 ob) (by simp only [Tr.size] at hn hs'; omega) (by rw [Tr.merge_size]; simp only [Tr.size] at hn hs' ⊢; omega))
      have HA := Lib.hid (aheadS_any w ib ia)
      have HE : Hid (eltB eb.c eb.t ea.c ea.t = false) := Lib.hid (by rw [eltB_of]; simpa using h)
      rw [Tr.merge_ge h]
      clear ih ia ib tla tra tlb trb oa ob hB h
      go_enter Tryz.func158, Tryz.ntmps158
      go_wp2_with fail
      refine HA.out.mono ?_
      rintro e w1 ⟨rfl, nd, rfl⟩
      rw [HE.out]
      have hI := HI.out.step (hbelow_drewN w nd)
      clear HI HA
      go_wp2_with fail
      replace hI := hI.step (Below.refl _ _).drew
      have k4 := hI.it.cells.2.2.2.2.1
      have k5 := hI.it.cells.2.2.2.2.2
      go_region_held3 (fun w' => w'.cell? ⟨ba, 4, none⟩ = some (.pointer pla) ∧ w'.cell? ⟨ba, 5, none⟩ = some (.pointer pra))
        (first | exact ⟨k4, k5⟩ | exact ⟨hI.it.cells.2.2.2.2.1, hI.it.cells.2.2.2.2.2⟩)
        (first
        | (go_at_call 158; refine (HM.out _ hI).mono ?_; rintro e w2 ⟨p2, rfl, ht, hb⟩; replace hI := hI.step hb)
        | (go_at_call 170; refine (HV.out _ _ hI ht).mono ?_; rintro e w3 ⟨p3, rfl, hr, hb⟩; replace hI := hI.step hb))
      go_wp2_with fail
      go_ret
      exact ⟨_, rfl, hr, hI.below⟩
set_option maxRecDepth 100000 in
set_option maxHeartbeats 4000000 in
theorem mergeI_go (B : Nat) : ∀ (n : Nat) (a b : Tr Int) (p q : Option Addr) (w : World), a.size + b.size < n → a.size + b.size ≤ 1000000 → a.ok → b.ok → TreeAt hencI 184 B w p a → TreeAt hencI 184 B w q b → B < w.heap.size →
    Calls Tryz.prog 122 #[.pointer p, .pointer q] w fun e w' => ∃ p', e = .returned (.pointer p') ∧ TreeAt hencI 184 B w' p' (Tr.merge a b) ∧ Below w.heap.size w w' := by
  intro n
  induction n with
  | zero => intro a b p q w hn; exact absurd hn (Nat.not_lt_zero _)
  | succ n ih =>
    intro a b p q w hn hs' oa ob ta tb hB
    cases a with
    | nil =>
      obtain rfl : p = none := ta
      rw [Tr.merge_nil]
      have HT := Lib.hid tb
      clear ih oa ob tb hB hn hs'
      go_enter Tryz.func122, Tryz.ntmps122
      go_wp2_with fail
      go_ret
      exact ⟨_, rfl, HT.out, Below.refl _ _⟩
    | node ea ha la ra =>
    cases b with
    | nil =>
      obtain rfl : q = none := tb
      rw [Tr.merge_nil']
      have HT := Lib.hid ta
      obtain ⟨ba, pla, pra, rfl, -⟩ := ta
      clear ih oa ob hB hn hs'
      go_enter Tryz.func122, Tryz.ntmps122
      go_wp2_with fail
      go_ret
      exact ⟨_, rfl, HT.out, Below.refl _ _⟩
    | node eb hb lb rb =>
    obtain ⟨ba, pla, pra, rfl, lta, ia, tla, tra⟩ := ta
    obtain ⟨bb, plb, prb, rfl, ltb, ib, tlb, trb⟩ := tb
    by_cases h : eb.lt ea
    · have HI : Hid (MS hencI 184 B w bb (.int .i64 eb.x) eb.c eb.t hb plb prb (some ⟨ba, 0, none⟩) lb rb (.node ea ha la ra) w) := Lib.hid ⟨ib, tlb, trb, ⟨ba, pla, pra, rfl, lta, ia, tla, tra⟩, hB, Below.refl _ _⟩
      have HM := Lib.hid (fun w' (hs : MS hencI 184 B w bb (.int .i64 eb.x) eb.c eb.t hb plb prb (some ⟨ba, 0, none⟩) lb rb (.node ea ha la ra) w') => ih rb (.node ea ha la ra) prb (some ⟨ba, 0, none⟩) w' (by simp only [Tr.size] at hn ⊢; omega) (by simp only [Tr.size] at hs' ⊢; omega) ob.2.2.2.2 oa hs.r hs.o hs.lt)
      have HV := Lib.hid (fun w' p' (hs : MS hencI 184 B w bb (.int .i64 eb.x) eb.c eb.t hb plb prb (some ⟨ba, 0, none⟩) lb rb (.node ea ha la ra) w') (ht : TreeAt hencI 184 B w' p' (Tr.merge rb (.node ea ha la ra))) =>
        aboveI_any w' hs.it hs.l ht hs.lt ob.2.2.2.1 (Tr.merge_ok _ _ _ rfl ob.2.2.2.2 oa) (by simp only [Tr.size] at hn hs'; omega) (by rw [Tr.merge_size]; simp only [Tr.size] at hn hs' ⊢; omega))
      have HA := Lib.hid (aheadI_any w ib ia)
      have HE : Hid (eltB eb.c eb.t ea.c ea.t = true) := Lib.hid (by rw [eltB_of]; simpa using h)
      rw [Tr.merge_lt h]
      clear ih ia ib tla tra tlb trb oa ob hB h
      go_enter Tryz.func122, Tryz.ntmps122
      go_wp2_with fail
      refine HA.out.mono ?_
      rintro e w1 ⟨rfl, nd, rfl⟩
      rw [HE.out]
      have hI := HI.out.step (hbelow_drewN w nd)
      clear HI HA
      go_wp2_with fail
      replace hI := hI.step (Below.refl _ _).drew
      have k4 := hI.it.cells.2.2.2.2.1
      have k5 := hI.it.cells.2.2.2.2.2
      go_region_held3 (fun w' => w'.cell? ⟨bb, 4, none⟩ = some (.pointer plb) ∧ w'.cell? ⟨bb, 5, none⟩ = some (.pointer prb))
        (first | exact ⟨k4, k5⟩ | exact ⟨hI.it.cells.2.2.2.2.1, hI.it.cells.2.2.2.2.2⟩)
        (first
        | (go_at_call 122; refine (HM.out _ hI).mono ?_; rintro e w2 ⟨p2, rfl, ht, hb⟩; replace hI := hI.step hb)
        | (go_at_call 147; refine (HV.out _ _ hI ht).mono ?_; rintro e w3 ⟨p3, rfl, hr, hb⟩; replace hI := hI.step hb))
      go_wp2_with fail
      go_ret
      exact ⟨_, rfl, hr, hI.below⟩
    · have HI : Hid (MS hencI 184 B w ba (.int .i64 ea.x) ea.c ea.t ha pla pra (some ⟨bb, 0, none⟩) la ra (.node eb hb lb rb) w) := Lib.hid ⟨ia, tla, tra, ⟨bb, plb, prb, rfl, ltb, ib, tlb, trb⟩, hB, Below.refl _ _⟩
      have HM := Lib.hid (fun w' (hs : MS hencI 184 B w ba (.int .i64 ea.x) ea.c ea.t ha pla pra (some ⟨bb, 0, none⟩) la ra (.node eb hb lb rb) w') => ih ra (.node eb hb lb rb) pra (some ⟨bb, 0, none⟩) w' (by simp only [Tr.size] at hn ⊢; omega) (by simp only [Tr.size] at hs' ⊢; omega) oa.2.2.2.2 ob hs.r hs.o hs.lt)
      have HV := Lib.hid (fun w' p' (hs : MS hencI 184 B w ba (.int .i64 ea.x) ea.c ea.t ha pla pra (some ⟨bb, 0, none⟩) la ra (.node eb hb lb rb) w') (ht : TreeAt hencI 184 B w' p' (Tr.merge ra (.node eb hb lb rb))) =>
        aboveI_any w' hs.it hs.l ht hs.lt oa.2.2.2.1 (Tr.merge_ok _ _ _ rfl oa.2.2.2.2 ob) (by simp only [Tr.size] at hn hs'; omega) (by rw [Tr.merge_size]; simp only [Tr.size] at hn hs' ⊢; omega))
      have HA := Lib.hid (aheadI_any w ib ia)
      have HE : Hid (eltB eb.c eb.t ea.c ea.t = false) := Lib.hid (by rw [eltB_of]; simpa using h)
      rw [Tr.merge_ge h]
      clear ih ia ib tla tra tlb trb oa ob hB h
      go_enter Tryz.func122, Tryz.ntmps122
      go_wp2_with fail
      refine HA.out.mono ?_
      rintro e w1 ⟨rfl, nd, rfl⟩
      rw [HE.out]
      have hI := HI.out.step (hbelow_drewN w nd)
      clear HI HA
      go_wp2_with fail
      replace hI := hI.step (Below.refl _ _).drew
      have k4 := hI.it.cells.2.2.2.2.1
      have k5 := hI.it.cells.2.2.2.2.2
      go_region_held3 (fun w' => w'.cell? ⟨ba, 4, none⟩ = some (.pointer pla) ∧ w'.cell? ⟨ba, 5, none⟩ = some (.pointer pra))
        (first | exact ⟨k4, k5⟩ | exact ⟨hI.it.cells.2.2.2.2.1, hI.it.cells.2.2.2.2.2⟩)
        (first
        | (go_at_call 122; refine (HM.out _ hI).mono ?_; rintro e w2 ⟨p2, rfl, ht, hb⟩; replace hI := hI.step hb)
        | (go_at_call 147; refine (HV.out _ _ hI ht).mono ?_; rintro e w3 ⟨p3, rfl, hr, hb⟩; replace hI := hI.step hb))
      go_wp2_with fail
      go_ret
      exact ⟨_, rfl, hr, hI.below⟩
end Go.Proofs.YtlcpbfklnjlgnaaGreatDoor

namespace Go.Proofs.YtlcpbfklnjlgnaaGreatDoor
open Go

section
variable {P : Program} {ops : Array Oper} {Q : Exit → Act → World → Prop} {md : Region.Mode} {S : World → Prop} {n : Nat}
/-- Whatever order is picked from here on; S holds behind each operation ahead of number n. -/
def wpT (P : Program) (md : Region.Mode) (ops : Array Oper) (Q : Exit → Act → World → Prop) (S : World → Prop) (n : Nat) : Nat → Array Bool → Act → World → Prop
  | 0, listed, a, w => Region.ready md ops listed = [] ∧ Q .normal a w
  | fuel + 1, listed, a, w =>
    (Region.ready md ops listed = [] → Q .normal a w) ∧
    ∀ i ∈ Region.ready md ops listed, wpOp P ops Q i (fun a' w' => (i < n → S w') ∧ wpT P md ops Q S n fuel (listed.setIfInBounds i true) a' w') a w
theorem wpAny_of_T : ∀ (fuel : Nat) (listed : Array Bool) (a : Act) (w : World), wpT P md ops Q S n fuel listed a w → wpAny P md ops Q fuel listed a w
  | 0, _, _, _, h => h
  | fuel + 1, _, _, _, h => ⟨h.1, fun i hi => wpOp_mono (fun a' w' h' => wpAny_of_T fuel _ a' w' h'.2) (h.2 i hi)⟩
theorem wpT_first {i : Nat} {oi : Oper} {v : Value} (hi : ops[i]? = some oi) (hin : i < n) (hsel : ∀ (j : Nat) (o : Oper) cs b, ops[j]? = some o → o.op ≠ .select cs b)
    (hsk : Region.sinkB md ops n = true) (hch : Region.chainB md ops n = true) (hn : n < ops.size)
    (hQ : ∀ c a w, Q (.panic c) (a.put oi.dst v) w → Q (.panic c) a w) :
    ∀ (fuel : Nat) (listed : Array Bool) (a : Act) (w : World), HeadInv md ops n listed →
      (∀ j oj, ops[j]? = some oj → j ≠ i → listed.getD j true = false → (∀ e ∈ oj.after, Region.binds md e = true → e.on ≠ i) → oi.apart ops oj = true) →
      i ∈ Region.ready md ops listed → YieldsIf P ops S oi v a → S w →
      wpT P md ops Q S n fuel (listed.setIfInBounds i true) (a.put oi.dst v) w → wpT P md ops Q S n (fuel + 1) listed a w := by
  intro fuel
  induction fuel with
  | zero =>
    intro listed a w _ _ hr hy hS H
    refine ⟨fun h => (by rw [h] at hr; cases hr), fun j hj => ?_⟩
    by_cases hji : j = i
    · subst hji; exact hy.wpOp hi hS ⟨fun _ => hS, H⟩
    · have := ready_mono hj hji
      rw [H.1] at this
      cases this
  | succ fuel ih =>
    intro listed a w inv hfree hr hy hS H
    refine ⟨fun h => (by rw [h] at hr; cases hr), fun j hj => ?_⟩
    by_cases hji : j = i
    · subst hji; exact hy.wpOp hi hS ⟨fun _ => hS, H⟩
    · have hjn : j < n := by
        rcases Nat.lt_or_ge j n with h | h
        · exact h
        · exact absurd hj (tail_waits hsk hch hn inv _ i rfl hin (mem_ready.1 hr).1 j h)
      have h1 := H.2 j (ready_mono hj hji)
      obtain ⟨hjun, oj, hoj, hall⟩ := mem_ready.1 hj
      have hnot : ∀ e ∈ oj.after, Region.binds md e = true → e.on ≠ i := fun e he hb heq => by
        have h1 := hall e he hb
        have h0 := (mem_ready.1 hr).1
        rw [heq] at h1
        rcases Nat.lt_or_ge i listed.size with h' | h'
        · simp [h'] at h0 h1; rw [h0] at h1; cases h1
        · simp [Array.getElem?_eq_none h'] at h1
      have h2 := wpOp_putIf hoj (hfree j oj hoj hji hjun hnot) (fun cs b => hsel i oi cs b hi) (fun cs b => hsel j oj cs b hoj) hQ hy h1
      have hfree' : ∀ k ok, ops[k]? = some ok → k ≠ i → (listed.setIfInBounds j true).getD k true = false →
          (∀ e ∈ ok.after, Region.binds md e = true → e.on ≠ i) → oi.apart ops ok = true := fun k ok hk hki hun hno => by
        refine hfree k ok hk hki ?_ hno
        by_cases hjk : j = k
        · subst hjk; exact hjun
        · rw [getD_set_ne true hjk] at hun; exact hun
      refine wpOp_mono (fun a' w' h3 => ⟨h3.2.1, ih (listed.setIfInBounds j true) a' w' (inv.set hj hjn) hfree' (ready_mono hr (Ne.symm hji)) h3.1 (h3.2.1 hjn) ?_⟩) h2
      rw [Array.setIfInBounds_comm _ _ hji]
      exact h3.2.2

/-- Is a state of the walk one in which no last operation has come up, and which is closed? -/
def headB (md : Region.Mode) (ops : Array Oper) (n : Nat) (listed : Array Bool) : Bool :=
  decide (listed.size = ops.size) && (List.range ops.size).all (fun j => !listed.getD j false || ((ops[j]?).map (·.after.all fun e => !Region.binds md e || listed.getD e.on false)).getD true) &&
    (List.range ops.size).all fun t => decide (t < n) || !listed.getD t true
theorem headB_inv {listed : Array Bool} (h : headB md ops n listed = true) : HeadInv md ops n listed := by
  unfold headB at h
  simp only [Bool.and_eq_true, decide_eq_true_eq] at h
  obtain ⟨⟨h0, h1⟩, h2⟩ := h
  refine ⟨h0, fun j oj hj hl e he hb => ?_, fun t ht hts => ?_⟩
  · have hjs : j < ops.size := (Array.getElem?_eq_some_iff.1 hj).1
    have := List.all_eq_true.1 h1 j (List.mem_range.2 hjs)
    rw [hl, hj] at this
    simp only [Bool.not_true, Bool.false_or, Option.map_some, Option.getD_some] at this
    have := Array.all_eq_true'.1 this e he
    rw [hb] at this
    simpa using this
  · have := List.all_eq_true.1 h2 t (List.mem_range.2 hts)
    simp only [Bool.or_eq_true, decide_eq_true_eq, Bool.not_eq_true'] at this
    exact this.resolve_left (by omega)

/-- Take number i first. -/
theorem wpT_take {i : Nat} {oi : Oper} {v : Value} {fuel : Nat} {listed : Array Bool} {a : Act} {w : World} (hi : ops[i]? = some oi) (hin : decide (i < n) = true)
    (hs : Region.noSelect ops = true) (hsk : Region.sinkB md ops n = true) (hch : Region.chainB md ops n = true) (hn : decide (n < ops.size) = true) (hinv : headB md ops n listed = true)
    (hf : Region.free md ops listed i = true) (hr : (Region.ready md ops listed).contains i = true)
    (hQ : ∀ c a w, Q (.panic c) (a.put oi.dst v) w → Q (.panic c) a w) (hy : YieldsIf P ops S oi v a) (hS : S w)
    (h : wpT P md ops Q S n fuel (listed.setIfInBounds i true) (a.put oi.dst v) w) : wpT P md ops Q S n (fuel + 1) listed a w :=
  wpT_first hi (of_decide_eq_true hin) (Region.noSelect_spec hs) hsk hch (of_decide_eq_true hn) hQ fuel listed a w (headB_inv hinv) (Region.free_spec hi hf) (by simpa using hr) hy hS h
theorem wpT_one {i : Nat} {oi : Oper} {fuel : Nat} {listed : Array Bool} {a : Act} {w : World} (hr : Region.ready md ops listed = [i]) (hi : ops[i]? = some oi)
    (h : ∀ K : Act → World → Prop, (∀ a' w', ((i < n → S w') ∧ wpT P md ops Q S n fuel (listed.setIfInBounds i true) a' w') → K a' w') → if Region.wanted oi (yielded ops a.tmps) = true then Oper.wp P oi a w K Q else K (a.put oi.dst undef) w) :
    wpT P md ops Q S n (fuel + 1) listed a w :=
  ⟨fun h0 => (by rw [hr] at h0; cases h0), fun j hj => by
    rw [hr] at hj
    obtain rfl := List.mem_singleton.1 hj
    exact wpOp_step hi h⟩
theorem wpT_two {i i' : Nat} {oi oi' : Oper} {fuel : Nat} {listed : Array Bool} {a : Act} {w : World} (hr : Region.ready md ops listed = [i, i']) (hi : ops[i]? = some oi) (hi' : ops[i']? = some oi')
    (h : ∀ K : Act → World → Prop, (∀ a' w', ((i < n → S w') ∧ wpT P md ops Q S n fuel (listed.setIfInBounds i true) a' w') → K a' w') → if Region.wanted oi (yielded ops a.tmps) = true then Oper.wp P oi a w K Q else K (a.put oi.dst undef) w)
    (h' : ∀ K : Act → World → Prop, (∀ a' w', ((i' < n → S w') ∧ wpT P md ops Q S n fuel (listed.setIfInBounds i' true) a' w') → K a' w') → if Region.wanted oi' (yielded ops a.tmps) = true then Oper.wp P oi' a w K Q else K (a.put oi'.dst undef) w) :
    wpT P md ops Q S n (fuel + 1) listed a w :=
  ⟨fun h0 => (by rw [hr] at h0; cases h0), fun j hj => by
    rw [hr] at hj
    rcases List.mem_cons.1 hj with rfl | hj
    · exact wpOp_step hi h
    · obtain rfl := List.mem_singleton.1 hj
      exact wpOp_step hi' h'⟩
/-- Behind all but the last ones, the last ones in their order. -/
theorem wpT_seq : ∀ (l : List Oper) (k : Nat) (listed : Array Bool) (a : Act) (w : World), (∀ j, l[j]? = ops[k + j]?) → n ≤ k →
    Region.seqB md ops l.length k listed = true → wpList P ops Q l a w → wpT P md ops Q S n l.length listed a w
  | [], _, _, _, _, _, _, hB, h => ⟨by simpa [Region.seqB] using hB, h⟩
  | o :: l, k, listed, a, w, hl, hk, hB, h => by
    have h0 : ops[k]? = some o := by simpa using (hl 0).symm
    simp only [List.length_cons, Region.seqB, Bool.and_eq_true, decide_eq_true_eq] at hB
    refine ⟨fun h1 => (by rw [hB.1] at h1; cases h1), fun i hi => ?_⟩
    rw [hB.1] at hi
    have hik : i = k := by simpa using hi
    subst hik
    have hw : wpOp P ops Q i (wpList P ops Q l) a w := by unfold wpOp; simp only [h0]; exact h
    exact wpOp_mono (fun a' w' h' => ⟨fun hlt => by omega, wpT_seq l (i + 1) _ a' w' (fun j => by have := hl (j + 1); simpa [Nat.add_assoc, Nat.add_comm 1 j] using this) (by omega) hB.2 h'⟩) hw
theorem wpT_tail {l : List Oper} (k g : Nat) {listed : Array Bool} {a : Act} {w : World} (hg : l.length = g) (hl : l = ops.toList.drop k) (hk : decide (n ≤ k) = true) (hB : Region.seqB md ops g k listed = true)
    (h : wpList P ops Q l a w) : wpT P md ops Q S n g listed a w := by
  subst hg
  exact wpT_seq l k listed a w (fun j => by rw [hl]; simp) (of_decide_eq_true hk) hB h
theorem region_T {id : Nat} {a : Act} {w : World} (S : World → Prop) (n : Nat) (hm : P.follows .mixedOrders = true)
    (h : wpT P .any ops Q S n ops.size (Array.replicate ops.size false) a w.drew) : (Code.region id ops true).wp P Q a w :=
  wp_region_any hm (wpAny_of_T _ _ _ _ h)
end
end Go.Proofs.YtlcpbfklnjlgnaaGreatDoor

namespace Go.Proofs.YtlcpbfklnjlgnaaGreatDoor
open Go.RowKit Go.Extern.Stop Go.Stop Go.Extern

/-- A heap in block B that has a row in order, n having been put since it had none. -/
def HpAt {α : Type} (enc : α → Value) (TI TH : TypeId) (B : Nat) (w : World) (q : List (E α)) (n : Int) : Prop :=
  ∃ p t, w.heap[B]? = some (.cells #[.pointer p, .int .i64 q.length, .int .u64 n] TH (0, 0)) ∧ TreeAt enc TI B w p t ∧ Hp t q ∧ (∀ x ∈ q, x.t < n) ∧ 0 ≤ n
theorem HpAt.lt {α : Type} {enc : α → Value} {TI TH : TypeId} {B : Nat} {w : World} {q : List (E α)} {n : Int} (h : HpAt enc TI TH B w q n) : B < w.heap.size := by
  obtain ⟨p, t, h0, -⟩ := h
  exact (Array.getElem?_eq_some_iff.1 h0).1
theorem HpAt.step {α : Type} {enc : α → Value} {TI TH : TypeId} {B : Nat} {w w' : World} {q : List (E α)} {n : Int} (h : HpAt enc TI TH B w q n) (hk : ∀ b, B ≤ b → b < w.heap.size → w'.heap[b]? = w.heap[b]?) : HpAt enc TI TH B w' q n := by
  have hlt := h.lt
  obtain ⟨p, t, h0, h1, h2⟩ := h
  exact ⟨p, t, (hk B (Nat.le_refl _) hlt).trans h0, h1.step fun b hb hs => hk b (Nat.le_of_lt hb) hs, h2⟩
theorem HpAt.below {α : Type} {enc : α → Value} {TI TH : TypeId} {B : Nat} {w w' : World} {q : List (E α)} {n : Int} (h : HpAt enc TI TH B w q n) (hb : Below w.heap.size w w') : HpAt enc TI TH B w' q n :=
  h.step fun b _ hlt => hb.block b hlt
theorem three_cells {w : World} {T : TypeId} {b : Nat} {c0 c1 c2 : Value} (h : w.heap[b]? = some (.cells #[c0, c1, c2] T (0, 0))) :
    w.cell? ⟨b, 0, none⟩ = some c0 ∧ w.cell? ⟨b, 1, none⟩ = some c1 ∧ w.cell? ⟨b, 2, none⟩ = some c2 ∧ ∀ i, w.frozen? ⟨b, i, none⟩ = false :=
  ⟨by rw [Lib.cell_of_heap h]; rfl, by rw [Lib.cell_of_heap h]; rfl, by rw [Lib.cell_of_heap h]; rfl, fun i => by unfold World.frozen?; rw [h]; simp⟩
theorem grown_refl (w : World) (row : Option Nat) : w.grownBy w row := ⟨rfl, rfl, rfl, Nat.le_refl _, fun _ _ _ => rfl⟩
theorem grown_trans {a b c : World} {row : Option Nat} (h : a.grownBy b row) (k : b.grownBy c row) : a.grownBy c row :=
  ⟨k.os.trans h.os, k.tape.trans h.tape, k.output.trans h.output, Nat.le_trans h.size k.size, fun i hi hr => (k.block i (Nat.lt_of_lt_of_le hi h.size) hr).trans (h.block i hi hr)⟩
theorem grown_below {a b : World} (h : Below a.heap.size a b) (row : Option Nat) : a.grownBy b row := ⟨h.os, h.tape, h.output, h.size, fun k hk _ => h.block k hk⟩
theorem grown_set (w : World) (b i : Nat) (u : Value) : w.grownBy (w.setCell ⟨b, i, none⟩ u) (some b) :=
  ⟨rfl, rfl, rfl, by simp [World.setCell], fun k _ hr => heap_setCell_other _ _ _ _ (fun e => hr (by rw [e]))⟩
theorem set_three (w : World) (T : TypeId) (b : Nat) (c0 c1 c2 d0 d1 d2 : Value) (h : w.heap[b]? = some (.cells #[c0, c1, c2] T (0, 0))) :
    (((w.setCell ⟨b, 0, none⟩ d0).setCell ⟨b, 1, none⟩ d1).setCell ⟨b, 2, none⟩ d2).heap[b]? = some (.cells #[d0, d1, d2] T (0, 0)) :=
  heap_setCell_same _ b 2 _ _ d2 (heap_setCell_same _ b 1 _ _ d1 (heap_setCell_same w b 0 _ _ d0 h))
theorem set_two (w : World) (T : TypeId) (b : Nat) (c0 c1 c2 d0 d1 : Value) (h : w.heap[b]? = some (.cells #[c0, c1, c2] T (0, 0))) :
    ((w.setCell ⟨b, 0, none⟩ d0).setCell ⟨b, 1, none⟩ d1).heap[b]? = some (.cells #[d0, d1, c2] T (0, 0)) :=
  heap_setCell_same _ b 1 _ _ d1 (heap_setCell_same w b 0 _ _ d0 h)

set_option maxHeartbeats 400000 in
theorem lenS_any {B : Nat} {q : List (E ByteArray)} {n : Int} (w : World) (h : HpAt encS 223 201 B w q n) :
    Calls Tryz.prog 138 #[.pointer (some ⟨B, 0, none⟩)] w fun e w' => e = .returned (.int .i64 q.length) ∧ w = w' := by
  obtain ⟨p, t, h0, -⟩ := h
  obtain ⟨-, c1, -, -⟩ := three_cells h0
  clear h0
  go_enter Tryz.func138, Tryz.ntmps138
  go_wp2
  go_ret
  exact ⟨rfl, rfl⟩
set_option maxHeartbeats 400000 in
theorem lenS_nil (w : World) : Calls Tryz.prog 138 #[.pointer none] w fun e w' => e = .returned (.int .i64 0) ∧ w = w' := by
  go_enter Tryz.func138, Tryz.ntmps138
  go_wp2
  go_ret
  exact ⟨rfl, rfl⟩
set_option maxHeartbeats 400000 in
theorem peekS_none {B : Nat} {n : Int} (w : World) (h : HpAt encS 223 201 B w [] n) :
    Calls Tryz.prog 159 #[.pointer (some ⟨B, 0, none⟩)] w fun e w' => e = .returned (.tuple #[.string ⟨#[]⟩, .int .u64 0, .bool false]) ∧ w = w' := by
  have H := Lib.hid (lenS_any w h)
  clear h
  go_enter Tryz.func159, Tryz.ntmps159
  go_wp2_with fail
  refine H.out.mono ?_
  rintro e w' ⟨rfl, rfl⟩
  go_wp2_with fail
  go_ret3
  exact ⟨rfl, rfl⟩
set_option maxHeartbeats 400000 in
theorem peekS_nil (w : World) : Calls Tryz.prog 159 #[.pointer none] w fun e w' => e = .returned (.tuple #[.string ⟨#[]⟩, .int .u64 0, .bool false]) ∧ w = w' := by
  have H := Lib.hid (lenS_nil w)
  go_enter Tryz.func159, Tryz.ntmps159
  go_wp2_with fail
  refine H.out.mono ?_
  rintro e w' ⟨rfl, rfl⟩
  go_wp2_with fail
  go_ret3
  exact ⟨rfl, rfl⟩
set_option maxHeartbeats 1000000 in
theorem peekS_some {B : Nat} {e : E ByteArray} {q : List (E ByteArray)} {n : Int} (w : World) (h : HpAt encS 223 201 B w (e :: q) n) :
    Calls Tryz.prog 159 #[.pointer (some ⟨B, 0, none⟩)] w fun e' w' => e' = .returned (.tuple #[.string e.x, .int .u64 e.c, .bool true]) ∧ ∃ k, w' = w.drewN k := by
  have H := Lib.hid (lenS_any w h)
  obtain ⟨p, t, h0, h1, h2, -⟩ := h
  obtain ⟨k, l, r, rfl, -⟩ := h2.node
  obtain ⟨b, pl, pr, rfl, -, hi, -, -⟩ := h1
  obtain ⟨c0, -, -, -⟩ := three_cells h0
  obtain ⟨a0', a1, -, -, -, -⟩ := hi.cells
  have a0 : w.cell? ⟨b, 0, none⟩ = some (.string e.x) := a0'
  have hne : ((q.length : Int) + 1 == 0) = false := by rw [beq_eq_false_iff_ne]; omega
  clear h0 h2 hi a0'
  go_enter Tryz.func159, Tryz.ntmps159
  go_wp2_with fail
  refine H.out.mono ?_
  rintro e' w' ⟨rfl, rfl⟩
  go_wp2_with fail
  go_quiet (fail)
  go_wp2_with fail
  go_ret3
  exact ⟨rfl, _, rfl⟩

/-- On the way through Put. -/
structure PutAtS (B : Nat) (w0 : World) (p : Option Addr) (l n : Int) (t : Tr ByteArray) (w : World) : Prop where
  blk : w.heap[B]? = some (.cells #[.pointer p, .int .i64 l, .int .u64 n] 201 (0, 0))
  tree : TreeAt encS 223 B w p t
  below : Below w0.heap.size w0 w
theorem PutAtS.lt {B : Nat} {w0 : World} {p : Option Addr} {l n : Int} {t : Tr ByteArray} {w : World} (h : PutAtS B w0 p l n t w) : B < w.heap.size := (Array.getElem?_eq_some_iff.1 h.blk).1
theorem PutAtS.step {B : Nat} {w0 : World} {p : Option Addr} {l n : Int} {t : Tr ByteArray} {w w' : World} (h : PutAtS B w0 p l n t w) (hb : Below w.heap.size w w') : PutAtS B w0 p l n t w' :=
  ⟨(hb.block B h.lt).trans h.blk, h.tree.below hb, h.below.trans (hb.mono h.below.size)⟩
set_option maxRecDepth 100000 in
set_option maxHeartbeats 4000000 in
theorem putS_any {B : Nat} {q : List (E ByteArray)} {n : Int} (c : Int) (x : ByteArray) (k : Nat) (w : World) (h : HpAt encS 223 201 B w q n) (hn : n ≤ 1000000) (hl : q.length ≤ 1000)
    (h1 : ∀ y ∈ q.take k, y.c ≤ c) (h2 : ∀ y ∈ q.drop k, c < y.c) :
    Calls Tryz.prog 136 #[.pointer (some ⟨B, 0, none⟩), .int .u64 c, .string x] w fun e w' => (∃ v, e = .returned v) ∧ HpAt encS 223 201 B w' (q.take k ++ ⟨c, n, x⟩ :: q.drop k) (n + 1) ∧ w.grownBy w' (some B) := by
  obtain ⟨p, t, g0, g1, g2, g3, g4⟩ := h
  have g5 := g2.put ⟨c, n, x⟩ k g3 h1 h2
  have hsz := g2.size
  have HP0 : Hid (PutAtS B w p q.length n t w) := Lib.hid ⟨g0, g1, Below.refl _ _⟩
  have HM := Lib.hid (fun (w' : World) (b : Nat) (hb : B < b) (hp : PutAtS B w p q.length n t w') (hi : ItAt w' 223 b (.string x) c n 1 none none) =>
    mergeS_go B _ t (.node ⟨c, n, x⟩ 1 .nil .nil) p (some ⟨b, 0, none⟩) w' (Nat.lt_succ_self _) (by simp only [Tr.size]; omega) g2.ok ⟨by simp [Tr.els], by decide, by simp [Tr.size], trivial, trivial⟩ hp.tree ⟨b, none, none, rfl, hb, hi, rfl, rfl⟩ hp.lt)
  have HQ := Lib.hid g5
  have HL : Hid ((q.take k ++ ⟨c, n, x⟩ :: q.drop k).length = q.length + 1) := Lib.hid (by simp; omega)
  have HT : Hid (∀ y ∈ q.take k ++ ⟨c, n, x⟩ :: q.drop k, y.t < n + 1) := Lib.hid (by
    intro y hy
    rcases List.mem_append.1 hy with hy | hy
    · have := g3 y (List.mem_of_mem_take hy); omega
    · rcases List.mem_cons.1 hy with rfl | hy
      · show n < n + 1; omega
      · have := g3 y (List.mem_of_mem_drop hy); omega)
  obtain ⟨c0, c1, c2, cf⟩ := three_cells g0
  clear g0 g1 g2 g3 g5 h1 h2 hsz
  generalize hlq : q.length = m at *
  have HMQ := Lib.hid hlq
  clear hlq
  go_enter Tryz.func136, Tryz.ntmps136
  go_wp2_with fail
  refine region_T (fun w' => w'.cell? ⟨B, 0, none⟩ = some (.pointer p) ∧ w'.cell? ⟨B, 2, none⟩ = some (.int .u64 n)) 14 (by kernel_rfl) ?_
  have hS0 : (fun w' : World => w'.cell? ⟨B, 0, none⟩ = some (.pointer p) ∧ w'.cell? ⟨B, 2, none⟩ = some (.int .u64 n)) w.drew := ⟨c0, c2⟩
  refine wpT_take (i := 0) (v := .pointer (some ⟨B, 0, none⟩)) rfl (by kernel_rfl) (by kernel_rfl) (by kernel_rfl) (by kernel_rfl) (by kernel_rfl) (by kernel_rfl) (by kernel_rfl) (by kernel_rfl) (fun _ _ _ h => h) (Or.inl ⟨by rfl, ?_⟩) hS0 ?_
  · rintro w' -
    go_simp
  try simp only [Act.put]
  refine wpT_take (i := 1) (v := .pointer (some ⟨B, 0, none⟩)) rfl (by kernel_rfl) (by kernel_rfl) (by kernel_rfl) (by kernel_rfl) (by kernel_rfl) (by kernel_rfl) (by kernel_rfl) (by kernel_rfl) (fun _ _ _ h => h) (Or.inl ⟨by rfl, ?_⟩) hS0 ?_
  · rintro w' -
    go_simp
  try simp only [Act.put]
  refine wpT_take (i := 2) (v := .pointer (some ⟨B, 0, none⟩)) rfl (by kernel_rfl) (by kernel_rfl) (by kernel_rfl) (by kernel_rfl) (by kernel_rfl) (by kernel_rfl) (by kernel_rfl) (by kernel_rfl) (fun _ _ _ h => h) (Or.inl ⟨by rfl, ?_⟩) hS0 ?_
  · rintro w' -
    go_simp
  try simp only [Act.put]
  refine wpT_take (i := 3) (v := .pointer (some ⟨B, 0, none⟩)) rfl (by kernel_rfl) (by kernel_rfl) (by kernel_rfl) (by kernel_rfl) (by kernel_rfl) (by kernel_rfl) (by kernel_rfl) (by kernel_rfl) (fun _ _ _ h => h) (Or.inl ⟨by rfl, ?_⟩) hS0 ?_
  · rintro w' -
    go_simp
  try simp only [Act.put]
  refine wpT_take (i := 4) (v := .pointer p) rfl (by kernel_rfl) (by kernel_rfl) (by kernel_rfl) (by kernel_rfl) (by kernel_rfl) (by kernel_rfl) (by kernel_rfl) (by kernel_rfl) (fun _ _ _ h => h) (Or.inl ⟨by rfl, ?_⟩) hS0 ?_
  · rintro w' ⟨s0, s2⟩
    go_simp
  try simp only [Act.put]
  refine wpT_take (i := 5) (v := .string x) rfl (by kernel_rfl) (by kernel_rfl) (by kernel_rfl) (by kernel_rfl) (by kernel_rfl) (by kernel_rfl) (by kernel_rfl) (by kernel_rfl) (fun _ _ _ h => h) (Or.inl ⟨by rfl, ?_⟩) hS0 ?_
  · rintro w' -
    go_simp
  try simp only [Act.put]
  refine wpT_take (i := 6) (v := .int .u64 c) rfl (by kernel_rfl) (by kernel_rfl) (by kernel_rfl) (by kernel_rfl) (by kernel_rfl) (by kernel_rfl) (by kernel_rfl) (by kernel_rfl) (fun _ _ _ h => h) (Or.inl ⟨by rfl, ?_⟩) hS0 ?_
  · rintro w' -
    go_simp
  try simp only [Act.put]
  refine wpT_take (i := 7) (v := .pointer (some ⟨B, 0, none⟩)) rfl (by kernel_rfl) (by kernel_rfl) (by kernel_rfl) (by kernel_rfl) (by kernel_rfl) (by kernel_rfl) (by kernel_rfl) (by kernel_rfl) (fun _ _ _ h => h) (Or.inl ⟨by rfl, ?_⟩) hS0 ?_
  · rintro w' -
    go_simp
  try simp only [Act.put]
  refine wpT_take (i := 8) (v := .pointer (some ⟨B, 0, none⟩)) rfl (by kernel_rfl) (by kernel_rfl) (by kernel_rfl) (by kernel_rfl) (by kernel_rfl) (by kernel_rfl) (by kernel_rfl) (by kernel_rfl) (fun _ _ _ h => h) (Or.inl ⟨by rfl, ?_⟩) hS0 ?_
  · rintro w' -
    go_simp
  try simp only [Act.put]
  refine wpT_take (i := 9) (v := .pointer (some ⟨B, 2, none⟩)) rfl (by kernel_rfl) (by kernel_rfl) (by kernel_rfl) (by kernel_rfl) (by kernel_rfl) (by kernel_rfl) (by kernel_rfl) (by kernel_rfl) (fun _ _ _ h => h) (Or.inl ⟨by rfl, ?_⟩) hS0 ?_
  · rintro w' -
    go_simp
  try simp only [Act.put]
  refine wpT_take (i := 10) (v := .int .u64 n) rfl (by kernel_rfl) (by kernel_rfl) (by kernel_rfl) (by kernel_rfl) (by kernel_rfl) (by kernel_rfl) (by kernel_rfl) (by kernel_rfl) (fun _ _ _ h => h) (Or.inl ⟨by rfl, ?_⟩) hS0 ?_
  · rintro w' ⟨s0, s2⟩
    go_simp
  try simp only [Act.put]
  refine wpT_take (i := 11) (v := .agg #[.string x, .int .u64 c, .int .u64 n, .int .i64 1, .pointer none, .pointer none]) rfl (by kernel_rfl) (by kernel_rfl) (by kernel_rfl) (by kernel_rfl) (by kernel_rfl) (by kernel_rfl) (by kernel_rfl) (by kernel_rfl) (fun _ _ _ h => h) (Or.inl ⟨by rfl, ?_⟩) hS0 ?_
  · rintro w' -
    go_simp
  try simp only [Act.put]
  refine wpT_one (i := 12) (by kernel_rfl) rfl ?_
  intro KK hKK
  go_simp
  have hp1 := (HP0.out.step (hbelow_new w (.cells #[.string x, .int .u64 c, .int .u64 n, .int .i64 1, .pointer none, .pointer none] 223))).step (Below.refl _ _).drew
  have hi1 : ItAt (w.alloc (.cells #[.string x, .int .u64 c, .int .u64 n, .int .i64 1, .pointer none, .pointer none] 223)).drew 223 w.heap.size (.string x) c n 1 none none := heap_alloc_new w _
  have hlt : B < w.heap.size := HP0.out.lt
  obtain ⟨d0, -, d2, -⟩ := three_cells hp1.blk
  refine hKK _ _ ⟨fun _ => ⟨d0, d2⟩, ?_⟩
  clear hKK d0 d2 hS0 c0 c1 c2 cf
  try simp only [Act.put]
  refine wpT_one (i := 13) (by kernel_rfl) rfl ?_
  intro KK hKK
  go_simp
  refine (HM.out _ _ hlt hp1 hi1).mono ?_
  rintro e w2 ⟨p2, rfl, ht2, hb2⟩
  have hp2 := hp1.step hb2
  obtain ⟨d0, d1, d2, df⟩ := three_cells hp2.blk
  refine hKK _ _ ⟨fun _ => ⟨d0, d2⟩, ?_⟩
  clear hKK hi1
  try simp only [Act.put]
  refine wpT_tail 14 3 rfl rfl (by kernel_rfl) (by kernel_rfl) ?_
  have HB2 := Lib.hid hp2
  have HT2 := Lib.hid ht2
  have f0 := df 0
  have f1 := df 1
  have f2 := df 2
  clear hp1 hb2 hp2 ht2 df
  go_wp2_with fail
  go_end0
  refine ⟨⟨_, rfl⟩, ⟨p2, _, ?_, ?_, HQ.out, HT.out, by omega⟩, ?_⟩
  · rw [HL.out]
    have e := set_three w2 201 B (.pointer p) (.int .i64 m) (.int .u64 n) (.pointer p2) (.int .i64 ((m : Int) + 1)) (.int .u64 (n + 1)) HB2.out.blk
    rw [Int.natCast_add]
    exact e
  · exact HT2.out.step fun b hb hlt' => ((heap_setCell_other _ _ _ _ (by show b ≠ B; omega)).trans (heap_setCell_other _ _ _ _ (by show b ≠ B; omega))).trans (heap_setCell_other _ _ _ _ (by show b ≠ B; omega))
  · exact grown_trans (grown_trans (grown_trans (grown_below HB2.out.below _) (grown_set _ _ _ _)) (grown_set _ _ _ _)) (grown_set _ _ _ _)
set_option maxHeartbeats 400000 in
theorem putS_nil (c : Int) (x : ByteArray) (w : World) : Calls Tryz.prog 136 #[.pointer none, .int .u64 c, .string x] w fun e w' => (∃ v, e = .returned v) ∧ w = w' := by
  go_enter Tryz.func136, Tryz.ntmps136
  go_wp2_with fail
  refine bodyPost_ret (results_none rfl _ _ _) rfl ?_
  exact ⟨⟨_, rfl⟩, rfl⟩

set_option maxHeartbeats 1000000 in
theorem takeS_none {B : Nat} {n : Int} (w : World) (h : HpAt encS 223 201 B w [] n) :
    Calls Tryz.prog 137 #[.pointer (some ⟨B, 0, none⟩)] w fun e w' => e = .returned (.tuple #[.string ⟨#[]⟩, .int .u64 0, .bool false]) ∧ w = w' := by
  have H := Lib.hid (peekS_none w h)
  clear h
  go_enter Tryz.func137, Tryz.ntmps137
  go_wp2_with fail
  refine H.out.mono ?_
  rintro e w' ⟨rfl, rfl⟩
  go_wp2_with fail
  go_ret3
  exact ⟨rfl, rfl⟩
set_option maxHeartbeats 1000000 in
theorem takeS_nil (w : World) : Calls Tryz.prog 137 #[.pointer none] w fun e w' => e = .returned (.tuple #[.string ⟨#[]⟩, .int .u64 0, .bool false]) ∧ w = w' := by
  have H := Lib.hid (peekS_nil w)
  go_enter Tryz.func137, Tryz.ntmps137
  go_wp2_with fail
  refine H.out.mono ?_
  rintro e w' ⟨rfl, rfl⟩
  go_wp2_with fail
  go_ret3
  exact ⟨rfl, rfl⟩
/-- On the way through Take. -/
structure TakeAtS (B : Nat) (w0 : World) (b : Nat) (k l n : Int) (e : E ByteArray) (pl pr : Option Addr) (tl tr : Tr ByteArray) (w : World) : Prop where
  blk : w.heap[B]? = some (.cells #[.pointer (some ⟨b, 0, none⟩), .int .i64 l, .int .u64 n] 201 (0, 0))
  it : ItAt w 223 b (.string e.x) e.c e.t k pl pr
  l : TreeAt encS 223 B w pl tl
  r : TreeAt encS 223 B w pr tr
  below : Below w0.heap.size w0 w
theorem TakeAtS.lt {B : Nat} {w0 : World} {b : Nat} {k l n : Int} {e : E ByteArray} {pl pr : Option Addr} {tl tr : Tr ByteArray} {w : World} (h : TakeAtS B w0 b k l n e pl pr tl tr w) : B < w.heap.size := (Array.getElem?_eq_some_iff.1 h.blk).1
theorem TakeAtS.step {B : Nat} {w0 : World} {b : Nat} {k l n : Int} {e : E ByteArray} {pl pr : Option Addr} {tl tr : Tr ByteArray} {w w' : World} (h : TakeAtS B w0 b k l n e pl pr tl tr w) (hb : Below w.heap.size w w') : TakeAtS B w0 b k l n e pl pr tl tr w' :=
  ⟨(hb.block B h.lt).trans h.blk, (hb.block b h.it.lt).trans h.it, h.l.below hb, h.r.below hb, h.below.trans (hb.mono h.below.size)⟩
set_option maxRecDepth 100000 in
set_option maxHeartbeats 4000000 in
theorem takeS_some {B : Nat} {e : E ByteArray} {q : List (E ByteArray)} {n : Int} (w : World) (h : HpAt encS 223 201 B w (e :: q) n) (hl : q.length ≤ 1000) :
    Calls Tryz.prog 137 #[.pointer (some ⟨B, 0, none⟩)] w fun e' w' => e' = .returned (.tuple #[.string e.x, .int .u64 e.c, .bool true]) ∧ (∃ n', n' ≤ n ∧ HpAt encS 223 201 B w' q n') ∧ w.grownBy w' (some B) := by
  have H := Lib.hid (peekS_some w h)
  obtain ⟨p, t, g0, g1, g2, g3, g4⟩ := h
  obtain ⟨k, tl, tr, rfl, g5⟩ := g2.node
  have hsz := g2.size
  obtain ⟨b, pl, pr, rfl, hBb, hi, hl', hr'⟩ := g1
  have hok := g2.ok
  have HP0 : Hid (TakeAtS B w b k (q.length + 1) n e pl pr tl tr w) := Lib.hid ⟨g0, hi, hl', hr', Below.refl _ _⟩
  have HM := Lib.hid (fun (w' : World) (hp : TakeAtS B w b k (q.length + 1) n e pl pr tl tr w') => mergeS_go B _ tl tr pl pr w' (Nat.lt_succ_self _) (by simp only [Tr.size, List.length_cons] at hsz; omega) hok.2.2.2.1 hok.2.2.2.2 hp.l hp.r hp.lt)
  have HQ := Lib.hid g5
  have HT := Lib.hid (show ∀ y ∈ q, y.t < n from fun y hy => g3 y (List.mem_cons_of_mem _ hy))
  clear g0 g2 g3 g5 hsz hok hi hl' hr'
  generalize hlq : q.length = m at *
  have HMQ := Lib.hid hlq
  clear hlq
  go_enter Tryz.func137, Tryz.ntmps137
  go_wp2_with fail
  refine H.out.mono ?_
  rintro e' w0 ⟨rfl, nd, rfl⟩
  have hp0 := HP0.out.step (hbelow_drewN w nd)
  clear H
  go_wp2_with fail
  refine region_T (fun w' => w'.cell? ⟨B, 0, none⟩ = some (.pointer (some ⟨b, 0, none⟩)) ∧ w'.cell? ⟨b, 4, none⟩ = some (.pointer pl) ∧ w'.cell? ⟨b, 5, none⟩ = some (.pointer pr)) 16 (by kernel_rfl) ?_
  replace hp0 := hp0.step (Below.refl _ _).drew
  generalize (w.drewN nd).drew = w1 at *
  have hS0 : (fun w' : World => w'.cell? ⟨B, 0, none⟩ = some (.pointer (some ⟨b, 0, none⟩)) ∧ w'.cell? ⟨b, 4, none⟩ = some (.pointer pl) ∧ w'.cell? ⟨b, 5, none⟩ = some (.pointer pr)) w1 := ⟨(three_cells hp0.blk).1, hp0.it.cells.2.2.2.2.1, hp0.it.cells.2.2.2.2.2⟩
  refine wpT_take (i := 0) (v := .pointer (some ⟨B, 0, none⟩)) rfl (by kernel_rfl) (by kernel_rfl) (by kernel_rfl) (by kernel_rfl) (by kernel_rfl) (by kernel_rfl) (by kernel_rfl) (by kernel_rfl) (fun _ _ _ h => h) (Or.inl ⟨by rfl, ?_⟩) hS0 ?_
  · rintro w' -
    go_simp
  try simp only [Act.put]
  refine wpT_take (i := 1) (v := .pointer (some ⟨B, 0, none⟩)) rfl (by kernel_rfl) (by kernel_rfl) (by kernel_rfl) (by kernel_rfl) (by kernel_rfl) (by kernel_rfl) (by kernel_rfl) (by kernel_rfl) (fun _ _ _ h => h) (Or.inl ⟨by rfl, ?_⟩) hS0 ?_
  · rintro w' -
    go_simp
  try simp only [Act.put]
  refine wpT_take (i := 2) (v := .pointer (some ⟨B, 0, none⟩)) rfl (by kernel_rfl) (by kernel_rfl) (by kernel_rfl) (by kernel_rfl) (by kernel_rfl) (by kernel_rfl) (by kernel_rfl) (by kernel_rfl) (fun _ _ _ h => h) (Or.inl ⟨by rfl, ?_⟩) hS0 ?_
  · rintro w' -
    go_simp
  try simp only [Act.put]
  refine wpT_take (i := 3) (v := .pointer (some ⟨B, 0, none⟩)) rfl (by kernel_rfl) (by kernel_rfl) (by kernel_rfl) (by kernel_rfl) (by kernel_rfl) (by kernel_rfl) (by kernel_rfl) (by kernel_rfl) (fun _ _ _ h => h) (Or.inl ⟨by rfl, ?_⟩) hS0 ?_
  · rintro w' -
    go_simp
  try simp only [Act.put]
  refine wpT_take (i := 4) (v := .pointer (some ⟨b, 0, none⟩)) rfl (by kernel_rfl) (by kernel_rfl) (by kernel_rfl) (by kernel_rfl) (by kernel_rfl) (by kernel_rfl) (by kernel_rfl) (by kernel_rfl) (fun _ _ _ h => h) (Or.inl ⟨by rfl, ?_⟩) hS0 ?_
  · rintro w' ⟨s0, s4, s5⟩
    go_simp
  try simp only [Act.put]
  refine wpT_take (i := 5) (v := .pointer (some ⟨b, 0, none⟩)) rfl (by kernel_rfl) (by kernel_rfl) (by kernel_rfl) (by kernel_rfl) (by kernel_rfl) (by kernel_rfl) (by kernel_rfl) (by kernel_rfl) (fun _ _ _ h => h) (Or.inl ⟨by rfl, ?_⟩) hS0 ?_
  · rintro w' -
    go_simp
  try simp only [Act.put]
  refine wpT_take (i := 6) (v := .pointer (some ⟨b, 4, none⟩)) rfl (by kernel_rfl) (by kernel_rfl) (by kernel_rfl) (by kernel_rfl) (by kernel_rfl) (by kernel_rfl) (by kernel_rfl) (by kernel_rfl) (fun _ _ _ h => h) (Or.inl ⟨by rfl, ?_⟩) hS0 ?_
  · rintro w' -
    go_simp
  try simp only [Act.put]
  refine wpT_take (i := 7) (v := .pointer pl) rfl (by kernel_rfl) (by kernel_rfl) (by kernel_rfl) (by kernel_rfl) (by kernel_rfl) (by kernel_rfl) (by kernel_rfl) (by kernel_rfl) (fun _ _ _ h => h) (Or.inl ⟨by rfl, ?_⟩) hS0 ?_
  · rintro w' ⟨s0, s4, s5⟩
    go_simp
  try simp only [Act.put]
  refine wpT_take (i := 8) (v := .pointer (some ⟨B, 0, none⟩)) rfl (by kernel_rfl) (by kernel_rfl) (by kernel_rfl) (by kernel_rfl) (by kernel_rfl) (by kernel_rfl) (by kernel_rfl) (by kernel_rfl) (fun _ _ _ h => h) (Or.inl ⟨by rfl, ?_⟩) hS0 ?_
  · rintro w' -
    go_simp
  try simp only [Act.put]
  refine wpT_take (i := 9) (v := .pointer (some ⟨B, 0, none⟩)) rfl (by kernel_rfl) (by kernel_rfl) (by kernel_rfl) (by kernel_rfl) (by kernel_rfl) (by kernel_rfl) (by kernel_rfl) (by kernel_rfl) (fun _ _ _ h => h) (Or.inl ⟨by rfl, ?_⟩) hS0 ?_
  · rintro w' -
    go_simp
  try simp only [Act.put]
  refine wpT_take (i := 10) (v := .pointer (some ⟨B, 0, none⟩)) rfl (by kernel_rfl) (by kernel_rfl) (by kernel_rfl) (by kernel_rfl) (by kernel_rfl) (by kernel_rfl) (by kernel_rfl) (by kernel_rfl) (fun _ _ _ h => h) (Or.inl ⟨by rfl, ?_⟩) hS0 ?_
  · rintro w' -
    go_simp
  try simp only [Act.put]
  refine wpT_take (i := 11) (v := .pointer (some ⟨b, 0, none⟩)) rfl (by kernel_rfl) (by kernel_rfl) (by kernel_rfl) (by kernel_rfl) (by kernel_rfl) (by kernel_rfl) (by kernel_rfl) (by kernel_rfl) (fun _ _ _ h => h) (Or.inl ⟨by rfl, ?_⟩) hS0 ?_
  · rintro w' ⟨s0, s4, s5⟩
    go_simp
  try simp only [Act.put]
  refine wpT_take (i := 12) (v := .pointer (some ⟨b, 0, none⟩)) rfl (by kernel_rfl) (by kernel_rfl) (by kernel_rfl) (by kernel_rfl) (by kernel_rfl) (by kernel_rfl) (by kernel_rfl) (by kernel_rfl) (fun _ _ _ h => h) (Or.inl ⟨by rfl, ?_⟩) hS0 ?_
  · rintro w' -
    go_simp
  try simp only [Act.put]
  refine wpT_take (i := 13) (v := .pointer (some ⟨b, 5, none⟩)) rfl (by kernel_rfl) (by kernel_rfl) (by kernel_rfl) (by kernel_rfl) (by kernel_rfl) (by kernel_rfl) (by kernel_rfl) (by kernel_rfl) (fun _ _ _ h => h) (Or.inl ⟨by rfl, ?_⟩) hS0 ?_
  · rintro w' -
    go_simp
  try simp only [Act.put]
  refine wpT_take (i := 14) (v := .pointer pr) rfl (by kernel_rfl) (by kernel_rfl) (by kernel_rfl) (by kernel_rfl) (by kernel_rfl) (by kernel_rfl) (by kernel_rfl) (by kernel_rfl) (fun _ _ _ h => h) (Or.inl ⟨by rfl, ?_⟩) hS0 ?_
  · rintro w' ⟨s0, s4, s5⟩
    go_simp
  try simp only [Act.put]
  refine wpT_one (i := 15) (by kernel_rfl) rfl ?_
  intro KK hKK
  go_simp
  refine (HM.out _ hp0).mono ?_
  rintro e' w2 ⟨p2, rfl, ht2, hb2⟩
  have hp2 := hp0.step hb2
  have hS2 : (fun w' : World => w'.cell? ⟨B, 0, none⟩ = some (.pointer (some ⟨b, 0, none⟩)) ∧ w'.cell? ⟨b, 4, none⟩ = some (.pointer pl) ∧ w'.cell? ⟨b, 5, none⟩ = some (.pointer pr)) w2 := ⟨(three_cells hp2.blk).1, hp2.it.cells.2.2.2.2.1, hp2.it.cells.2.2.2.2.2⟩
  refine hKK _ _ ⟨fun _ => hS2, ?_⟩
  clear hKK hS0 hS2
  try simp only [Act.put]
  refine wpT_tail 16 3 rfl rfl (by kernel_rfl) (by kernel_rfl) ?_
  obtain ⟨d0, d1, d2, df⟩ := three_cells hp2.blk
  have HB2 := Lib.hid hp2
  have HT2 := Lib.hid ht2
  have f0 := df 0
  have f1 := df 1
  have f2 := df 2
  clear hp0 hb2 hp2 ht2 df
  by_cases hm : m = 0
  · have hz : ((m : Int) == 0) = true := by rw [beq_iff_eq]; omega
    have hz' : (m : Int) = 0 := by omega
    have HZ := Lib.hid hm
    clear hm
    go_wp2_with fail
    go_ret3
    refine ⟨rfl, ⟨0, by omega, p2, _, ?_, ?_, HQ.out, ?_, by omega⟩, ?_⟩
    · have e := set_three w2 201 B (.pointer (some ⟨b, 0, none⟩)) (.int .i64 (m + 1)) (.int .u64 n) (.pointer p2) (.int .i64 0) (.int .u64 0) HB2.out.blk
      rw [HMQ.out, show (m : Int) = 0 from by have := HZ.out; omega]
      exact e
    · exact HT2.out.step fun b hb hlt' => ((heap_setCell_other _ _ _ _ (by show b ≠ B; omega)).trans (heap_setCell_other _ _ _ _ (by show b ≠ B; omega))).trans (heap_setCell_other _ _ _ _ (by show b ≠ B; omega))
    · have e0 : q = [] := List.eq_nil_of_length_eq_zero (HMQ.out.trans HZ.out)
      rw [e0]
      exact fun y hy => by cases hy
    · exact grown_trans (grown_trans (grown_trans (grown_below HB2.out.below _) (grown_set _ _ _ _)) (grown_set _ _ _ _)) (grown_set _ _ _ _)
  · have hz : ((m : Int) == 0) = false := by rw [beq_eq_false_iff_ne]; omega
    have HZ := Lib.hid hm
    clear hm
    go_wp2_with fail
    go_ret3
    refine ⟨rfl, ⟨n, Int.le_refl _, p2, _, ?_, ?_, HQ.out, HT.out, g4⟩, ?_⟩
    · have e := set_two w2 201 B (.pointer (some ⟨b, 0, none⟩)) (.int .i64 (m + 1)) (.int .u64 n) (.pointer p2) (.int .i64 m) HB2.out.blk
      rw [HMQ.out]
      exact e
    · exact HT2.out.step fun b hb hlt' => (heap_setCell_other _ _ _ _ (by show b ≠ B; omega)).trans (heap_setCell_other _ _ _ _ (by show b ≠ B; omega))
    · exact grown_trans (grown_trans (grown_below HB2.out.below _) (grown_set _ _ _ _)) (grown_set _ _ _ _)
set_option maxHeartbeats 400000 in
theorem lenI_any {B : Nat} {q : List (E Int)} {n : Int} (w : World) (h : HpAt hencI 184 155 B w q n) :
    Calls Tryz.prog 96 #[.pointer (some ⟨B, 0, none⟩)] w fun e w' => e = .returned (.int .i64 q.length) ∧ w = w' := by
  obtain ⟨p, t, h0, -⟩ := h
  obtain ⟨-, c1, -, -⟩ := three_cells h0
  clear h0
  go_enter Tryz.func96, Tryz.ntmps96
  go_wp2
  go_ret
  exact ⟨rfl, rfl⟩
set_option maxHeartbeats 400000 in
theorem lenI_nil (w : World) : Calls Tryz.prog 96 #[.pointer none] w fun e w' => e = .returned (.int .i64 0) ∧ w = w' := by
  go_enter Tryz.func96, Tryz.ntmps96
  go_wp2
  go_ret
  exact ⟨rfl, rfl⟩
set_option maxHeartbeats 400000 in
theorem peekI_none {B : Nat} {n : Int} (w : World) (h : HpAt hencI 184 155 B w [] n) :
    Calls Tryz.prog 123 #[.pointer (some ⟨B, 0, none⟩)] w fun e w' => e = .returned (.tuple #[.int .i64 0, .int .u64 0, .bool false]) ∧ w = w' := by
  have H := Lib.hid (lenI_any w h)
  clear h
  go_enter Tryz.func123, Tryz.ntmps123
  go_wp2_with fail
  refine H.out.mono ?_
  rintro e w' ⟨rfl, rfl⟩
  go_wp2_with fail
  go_ret3
  exact ⟨rfl, rfl⟩
set_option maxHeartbeats 400000 in
theorem peekI_nil (w : World) : Calls Tryz.prog 123 #[.pointer none] w fun e w' => e = .returned (.tuple #[.int .i64 0, .int .u64 0, .bool false]) ∧ w = w' := by
  have H := Lib.hid (lenI_nil w)
  go_enter Tryz.func123, Tryz.ntmps123
  go_wp2_with fail
  refine H.out.mono ?_
  rintro e w' ⟨rfl, rfl⟩
  go_wp2_with fail
  go_ret3
  exact ⟨rfl, rfl⟩
set_option maxHeartbeats 1000000 in
theorem peekI_some {B : Nat} {e : E Int} {q : List (E Int)} {n : Int} (w : World) (h : HpAt hencI 184 155 B w (e :: q) n) :
    Calls Tryz.prog 123 #[.pointer (some ⟨B, 0, none⟩)] w fun e' w' => e' = .returned (.tuple #[.int .i64 e.x, .int .u64 e.c, .bool true]) ∧ ∃ k, w' = w.drewN k := by
  have H := Lib.hid (lenI_any w h)
  obtain ⟨p, t, h0, h1, h2, -⟩ := h
  obtain ⟨k, l, r, rfl, -⟩ := h2.node
  obtain ⟨b, pl, pr, rfl, -, hi, -, -⟩ := h1
  obtain ⟨c0, -, -, -⟩ := three_cells h0
  obtain ⟨a0', a1, -, -, -, -⟩ := hi.cells
  have a0 : w.cell? ⟨b, 0, none⟩ = some (.int .i64 e.x) := a0'
  have hne : ((q.length : Int) + 1 == 0) = false := by rw [beq_eq_false_iff_ne]; omega
  clear h0 h2 hi a0'
  go_enter Tryz.func123, Tryz.ntmps123
  go_wp2_with fail
  refine H.out.mono ?_
  rintro e' w' ⟨rfl, rfl⟩
  go_wp2_with fail
  go_quiet (fail)
  go_wp2_with fail
  go_ret3
  exact ⟨rfl, _, rfl⟩

/-- On the way through Put. -/
structure PutAtI (B : Nat) (w0 : World) (p : Option Addr) (l n : Int) (t : Tr Int) (w : World) : Prop where
  blk : w.heap[B]? = some (.cells #[.pointer p, .int .i64 l, .int .u64 n] 155 (0, 0))
  tree : TreeAt hencI 184 B w p t
  below : Below w0.heap.size w0 w
theorem PutAtI.lt {B : Nat} {w0 : World} {p : Option Addr} {l n : Int} {t : Tr Int} {w : World} (h : PutAtI B w0 p l n t w) : B < w.heap.size := (Array.getElem?_eq_some_iff.1 h.blk).1
theorem PutAtI.step {B : Nat} {w0 : World} {p : Option Addr} {l n : Int} {t : Tr Int} {w w' : World} (h : PutAtI B w0 p l n t w) (hb : Below w.heap.size w w') : PutAtI B w0 p l n t w' :=
  ⟨(hb.block B h.lt).trans h.blk, h.tree.below hb, h.below.trans (hb.mono h.below.size)⟩
set_option maxRecDepth 100000 in
set_option maxHeartbeats 4000000 in
theorem putI_any {B : Nat} {q : List (E Int)} {n : Int} (c : Int) (x : Int) (k : Nat) (w : World) (h : HpAt hencI 184 155 B w q n) (hn : n ≤ 1000000) (hl : q.length ≤ 1000)
    (h1 : ∀ y ∈ q.take k, y.c ≤ c) (h2 : ∀ y ∈ q.drop k, c < y.c) :
    Calls Tryz.prog 95 #[.pointer (some ⟨B, 0, none⟩), .int .u64 c, .int .i64 x] w fun e w' => (∃ v, e = .returned v) ∧ HpAt hencI 184 155 B w' (q.take k ++ ⟨c, n, x⟩ :: q.drop k) (n + 1) ∧ w.grownBy w' (some B) := by
  obtain ⟨p, t, g0, g1, g2, g3, g4⟩ := h
  have g5 := g2.put ⟨c, n, x⟩ k g3 h1 h2
  have hsz := g2.size
  have HP0 : Hid (PutAtI B w p q.length n t w) := Lib.hid ⟨g0, g1, Below.refl _ _⟩
  have HM := Lib.hid (fun (w' : World) (b : Nat) (hb : B < b) (hp : PutAtI B w p q.length n t w') (hi : ItAt w' 184 b (.int .i64 x) c n 1 none none) =>
    mergeI_go B _ t (.node ⟨c, n, x⟩ 1 .nil .nil) p (some ⟨b, 0, none⟩) w' (Nat.lt_succ_self _) (by simp only [Tr.size]; omega) g2.ok ⟨by simp [Tr.els], by decide, by simp [Tr.size], trivial, trivial⟩ hp.tree ⟨b, none, none, rfl, hb, hi, rfl, rfl⟩ hp.lt)
  have HQ := Lib.hid g5
  have HL : Hid ((q.take k ++ ⟨c, n, x⟩ :: q.drop k).length = q.length + 1) := Lib.hid (by simp; omega)
  have HT : Hid (∀ y ∈ q.take k ++ ⟨c, n, x⟩ :: q.drop k, y.t < n + 1) := Lib.hid (by
    intro y hy
    rcases List.mem_append.1 hy with hy | hy
    · have := g3 y (List.mem_of_mem_take hy); omega
    · rcases List.mem_cons.1 hy with rfl | hy
      · show n < n + 1; omega
      · have := g3 y (List.mem_of_mem_drop hy); omega)
  obtain ⟨c0, c1, c2, cf⟩ := three_cells g0
  clear g0 g1 g2 g3 g5 h1 h2 hsz
  generalize hlq : q.length = m at *
  have HMQ := Lib.hid hlq
  clear hlq
  go_enter Tryz.func95, Tryz.ntmps95
  go_wp2_with fail
  refine region_T (fun w' => w'.cell? ⟨B, 0, none⟩ = some (.pointer p) ∧ w'.cell? ⟨B, 2, none⟩ = some (.int .u64 n)) 14 (by kernel_rfl) ?_
  have hS0 : (fun w' : World => w'.cell? ⟨B, 0, none⟩ = some (.pointer p) ∧ w'.cell? ⟨B, 2, none⟩ = some (.int .u64 n)) w.drew := ⟨c0, c2⟩
  refine wpT_take (i := 0) (v := .pointer (some ⟨B, 0, none⟩)) rfl (by kernel_rfl) (by kernel_rfl) (by kernel_rfl) (by kernel_rfl) (by kernel_rfl) (by kernel_rfl) (by kernel_rfl) (by kernel_rfl) (fun _ _ _ h => h) (Or.inl ⟨by rfl, ?_⟩) hS0 ?_
  · rintro w' -
    go_simp
  try simp only [Act.put]
  refine wpT_take (i := 1) (v := .pointer (some ⟨B, 0, none⟩)) rfl (by kernel_rfl) (by kernel_rfl) (by kernel_rfl) (by kernel_rfl) (by kernel_rfl) (by kernel_rfl) (by kernel_rfl) (by kernel_rfl) (fun _ _ _ h => h) (Or.inl ⟨by rfl, ?_⟩) hS0 ?_
  · rintro w' -
    go_simp
  try simp only [Act.put]
  refine wpT_take (i := 2) (v := .pointer (some ⟨B, 0, none⟩)) rfl (by kernel_rfl) (by kernel_rfl) (by kernel_rfl) (by kernel_rfl) (by kernel_rfl) (by kernel_rfl) (by kernel_rfl) (by kernel_rfl) (fun _ _ _ h => h) (Or.inl ⟨by rfl, ?_⟩) hS0 ?_
  · rintro w' -
    go_simp
  try simp only [Act.put]
  refine wpT_take (i := 3) (v := .pointer (some ⟨B, 0, none⟩)) rfl (by kernel_rfl) (by kernel_rfl) (by kernel_rfl) (by kernel_rfl) (by kernel_rfl) (by kernel_rfl) (by kernel_rfl) (by kernel_rfl) (fun _ _ _ h => h) (Or.inl ⟨by rfl, ?_⟩) hS0 ?_
  · rintro w' -
    go_simp
  try simp only [Act.put]
  refine wpT_take (i := 4) (v := .pointer p) rfl (by kernel_rfl) (by kernel_rfl) (by kernel_rfl) (by kernel_rfl) (by kernel_rfl) (by kernel_rfl) (by kernel_rfl) (by kernel_rfl) (fun _ _ _ h => h) (Or.inl ⟨by rfl, ?_⟩) hS0 ?_
  · rintro w' ⟨s0, s2⟩
    go_simp
  try simp only [Act.put]
  refine wpT_take (i := 5) (v := .int .i64 x) rfl (by kernel_rfl) (by kernel_rfl) (by kernel_rfl) (by kernel_rfl) (by kernel_rfl) (by kernel_rfl) (by kernel_rfl) (by kernel_rfl) (fun _ _ _ h => h) (Or.inl ⟨by rfl, ?_⟩) hS0 ?_
  · rintro w' -
    go_simp
  try simp only [Act.put]
  refine wpT_take (i := 6) (v := .int .u64 c) rfl (by kernel_rfl) (by kernel_rfl) (by kernel_rfl) (by kernel_rfl) (by kernel_rfl) (by kernel_rfl) (by kernel_rfl) (by kernel_rfl) (fun _ _ _ h => h) (Or.inl ⟨by rfl, ?_⟩) hS0 ?_
  · rintro w' -
    go_simp
  try simp only [Act.put]
  refine wpT_take (i := 7) (v := .pointer (some ⟨B, 0, none⟩)) rfl (by kernel_rfl) (by kernel_rfl) (by kernel_rfl) (by kernel_rfl) (by kernel_rfl) (by kernel_rfl) (by kernel_rfl) (by kernel_rfl) (fun _ _ _ h => h) (Or.inl ⟨by rfl, ?_⟩) hS0 ?_
  · rintro w' -
    go_simp
  try simp only [Act.put]
  refine wpT_take (i := 8) (v := .pointer (some ⟨B, 0, none⟩)) rfl (by kernel_rfl) (by kernel_rfl) (by kernel_rfl) (by kernel_rfl) (by kernel_rfl) (by kernel_rfl) (by kernel_rfl) (by kernel_rfl) (fun _ _ _ h => h) (Or.inl ⟨by rfl, ?_⟩) hS0 ?_
  · rintro w' -
    go_simp
  try simp only [Act.put]
  refine wpT_take (i := 9) (v := .pointer (some ⟨B, 2, none⟩)) rfl (by kernel_rfl) (by kernel_rfl) (by kernel_rfl) (by kernel_rfl) (by kernel_rfl) (by kernel_rfl) (by kernel_rfl) (by kernel_rfl) (fun _ _ _ h => h) (Or.inl ⟨by rfl, ?_⟩) hS0 ?_
  · rintro w' -
    go_simp
  try simp only [Act.put]
  refine wpT_take (i := 10) (v := .int .u64 n) rfl (by kernel_rfl) (by kernel_rfl) (by kernel_rfl) (by kernel_rfl) (by kernel_rfl) (by kernel_rfl) (by kernel_rfl) (by kernel_rfl) (fun _ _ _ h => h) (Or.inl ⟨by rfl, ?_⟩) hS0 ?_
  · rintro w' ⟨s0, s2⟩
    go_simp
  try simp only [Act.put]
  refine wpT_take (i := 11) (v := .agg #[.int .i64 x, .int .u64 c, .int .u64 n, .int .i64 1, .pointer none, .pointer none]) rfl (by kernel_rfl) (by kernel_rfl) (by kernel_rfl) (by kernel_rfl) (by kernel_rfl) (by kernel_rfl) (by kernel_rfl) (by kernel_rfl) (fun _ _ _ h => h) (Or.inl ⟨by rfl, ?_⟩) hS0 ?_
  · rintro w' -
    go_simp
  try simp only [Act.put]
  refine wpT_one (i := 12) (by kernel_rfl) rfl ?_
  intro KK hKK
  go_simp
  have hp1 := (HP0.out.step (hbelow_new w (.cells #[.int .i64 x, .int .u64 c, .int .u64 n, .int .i64 1, .pointer none, .pointer none] 184))).step (Below.refl _ _).drew
  have hi1 : ItAt (w.alloc (.cells #[.int .i64 x, .int .u64 c, .int .u64 n, .int .i64 1, .pointer none, .pointer none] 184)).drew 184 w.heap.size (.int .i64 x) c n 1 none none := heap_alloc_new w _
  have hlt : B < w.heap.size := HP0.out.lt
  obtain ⟨d0, -, d2, -⟩ := three_cells hp1.blk
  refine hKK _ _ ⟨fun _ => ⟨d0, d2⟩, ?_⟩
  clear hKK d0 d2 hS0 c0 c1 c2 cf
  try simp only [Act.put]
  refine wpT_one (i := 13) (by kernel_rfl) rfl ?_
  intro KK hKK
  go_simp
  refine (HM.out _ _ hlt hp1 hi1).mono ?_
  rintro e w2 ⟨p2, rfl, ht2, hb2⟩
  have hp2 := hp1.step hb2
  obtain ⟨d0, d1, d2, df⟩ := three_cells hp2.blk
  refine hKK _ _ ⟨fun _ => ⟨d0, d2⟩, ?_⟩
  clear hKK hi1
  try simp only [Act.put]
  refine wpT_tail 14 3 rfl rfl (by kernel_rfl) (by kernel_rfl) ?_
  have HB2 := Lib.hid hp2
  have HT2 := Lib.hid ht2
  have f0 := df 0
  have f1 := df 1
  have f2 := df 2
  clear hp1 hb2 hp2 ht2 df
  go_wp2_with fail
  go_end0
  refine ⟨⟨_, rfl⟩, ⟨p2, _, ?_, ?_, HQ.out, HT.out, by omega⟩, ?_⟩
  · rw [HL.out]
    have e := set_three w2 155 B (.pointer p) (.int .i64 m) (.int .u64 n) (.pointer p2) (.int .i64 ((m : Int) + 1)) (.int .u64 (n + 1)) HB2.out.blk
    rw [Int.natCast_add]
    exact e
  · exact HT2.out.step fun b hb hlt' => ((heap_setCell_other _ _ _ _ (by show b ≠ B; omega)).trans (heap_setCell_other _ _ _ _ (by show b ≠ B; omega))).trans (heap_setCell_other _ _ _ _ (by show b ≠ B; omega))
  · exact grown_trans (grown_trans (grown_trans (grown_below HB2.out.below _) (grown_set _ _ _ _)) (grown_set _ _ _ _)) (grown_set _ _ _ _)
set_option maxHeartbeats 400000 in
theorem putI_nil (c : Int) (x : Int) (w : World) : Calls Tryz.prog 95 #[.pointer none, .int .u64 c, .int .i64 x] w fun e w' => (∃ v, e = .returned v) ∧ w = w' := by
  go_enter Tryz.func95, Tryz.ntmps95
  go_wp2_with fail
  refine bodyPost_ret (results_none rfl _ _ _) rfl ?_
  exact ⟨⟨_, rfl⟩, rfl⟩

set_option maxHeartbeats 1000000 in
theorem takeI_none {B : Nat} {n : Int} (w : World) (h : HpAt hencI 184 155 B w [] n) :
    Calls Tryz.prog 97 #[.pointer (some ⟨B, 0, none⟩)] w fun e w' => e = .returned (.tuple #[.int .i64 0, .int .u64 0, .bool false]) ∧ w = w' := by
  have H := Lib.hid (peekI_none w h)
  clear h
  go_enter Tryz.func97, Tryz.ntmps97
  go_wp2_with fail
  refine H.out.mono ?_
  rintro e w' ⟨rfl, rfl⟩
  go_wp2_with fail
  go_ret3
  exact ⟨rfl, rfl⟩
set_option maxHeartbeats 1000000 in
theorem takeI_nil (w : World) : Calls Tryz.prog 97 #[.pointer none] w fun e w' => e = .returned (.tuple #[.int .i64 0, .int .u64 0, .bool false]) ∧ w = w' := by
  have H := Lib.hid (peekI_nil w)
  go_enter Tryz.func97, Tryz.ntmps97
  go_wp2_with fail
  refine H.out.mono ?_
  rintro e w' ⟨rfl, rfl⟩
  go_wp2_with fail
  go_ret3
  exact ⟨rfl, rfl⟩
/-- On the way through Take. -/
structure TakeAtI (B : Nat) (w0 : World) (b : Nat) (k l n : Int) (e : E Int) (pl pr : Option Addr) (tl tr : Tr Int) (w : World) : Prop where
  blk : w.heap[B]? = some (.cells #[.pointer (some ⟨b, 0, none⟩), .int .i64 l, .int .u64 n] 155 (0, 0))
  it : ItAt w 184 b (.int .i64 e.x) e.c e.t k pl pr
  l : TreeAt hencI 184 B w pl tl
  r : TreeAt hencI 184 B w pr tr
  below : Below w0.heap.size w0 w
theorem TakeAtI.lt {B : Nat} {w0 : World} {b : Nat} {k l n : Int} {e : E Int} {pl pr : Option Addr} {tl tr : Tr Int} {w : World} (h : TakeAtI B w0 b k l n e pl pr tl tr w) : B < w.heap.size := (Array.getElem?_eq_some_iff.1 h.blk).1
theorem TakeAtI.step {B : Nat} {w0 : World} {b : Nat} {k l n : Int} {e : E Int} {pl pr : Option Addr} {tl tr : Tr Int} {w w' : World} (h : TakeAtI B w0 b k l n e pl pr tl tr w) (hb : Below w.heap.size w w') : TakeAtI B w0 b k l n e pl pr tl tr w' :=
  ⟨(hb.block B h.lt).trans h.blk, (hb.block b h.it.lt).trans h.it, h.l.below hb, h.r.below hb, h.below.trans (hb.mono h.below.size)⟩
set_option maxRecDepth 100000 in
set_option maxHeartbeats 4000000 in
theorem takeI_some {B : Nat} {e : E Int} {q : List (E Int)} {n : Int} (w : World) (h : HpAt hencI 184 155 B w (e :: q) n) (hl : q.length ≤ 1000) :
    Calls Tryz.prog 97 #[.pointer (some ⟨B, 0, none⟩)] w fun e' w' => e' = .returned (.tuple #[.int .i64 e.x, .int .u64 e.c, .bool true]) ∧ (∃ n', n' ≤ n ∧ HpAt hencI 184 155 B w' q n') ∧ w.grownBy w' (some B) := by
  have H := Lib.hid (peekI_some w h)
  obtain ⟨p, t, g0, g1, g2, g3, g4⟩ := h
  obtain ⟨k, tl, tr, rfl, g5⟩ := g2.node
  have hsz := g2.size
  obtain ⟨b, pl, pr, rfl, hBb, hi, hl', hr'⟩ := g1
  have hok := g2.ok
  have HP0 : Hid (TakeAtI B w b k (q.length + 1) n e pl pr tl tr w) := Lib.hid ⟨g0, hi, hl', hr', Below.refl _ _⟩
  have HM := Lib.hid (fun (w' : World) (hp : TakeAtI B w b k (q.length + 1) n e pl pr tl tr w') => mergeI_go B _ tl tr pl pr w' (Nat.lt_succ_self _) (by simp only [Tr.size, List.length_cons] at hsz; omega) hok.2.2.2.1 hok.2.2.2.2 hp.l hp.r hp.lt)
  have HQ := Lib.hid g5
  have HT := Lib.hid (show ∀ y ∈ q, y.t < n from fun y hy => g3 y (List.mem_cons_of_mem _ hy))
  clear g0 g2 g3 g5 hsz hok hi hl' hr'
  generalize hlq : q.length = m at *
  have HMQ := Lib.hid hlq
  clear hlq
  go_enter Tryz.func97, Tryz.ntmps97
  go_wp2_with fail
  refine H.out.mono ?_
  rintro e' w0 ⟨rfl, nd, rfl⟩
  have hp0 := HP0.out.step (hbelow_drewN w nd)
  clear H
  go_wp2_with fail
  refine region_T (fun w' => w'.cell? ⟨B, 0, none⟩ = some (.pointer (some ⟨b, 0, none⟩)) ∧ w'.cell? ⟨b, 4, none⟩ = some (.pointer pl) ∧ w'.cell? ⟨b, 5, none⟩ = some (.pointer pr)) 16 (by kernel_rfl) ?_
  replace hp0 := hp0.step (Below.refl _ _).drew
  generalize (w.drewN nd).drew = w1 at *
  have hS0 : (fun w' : World => w'.cell? ⟨B, 0, none⟩ = some (.pointer (some ⟨b, 0, none⟩)) ∧ w'.cell? ⟨b, 4, none⟩ = some (.pointer pl) ∧ w'.cell? ⟨b, 5, none⟩ = some (.pointer pr)) w1 := ⟨(three_cells hp0.blk).1, hp0.it.cells.2.2.2.2.1, hp0.it.cells.2.2.2.2.2⟩
  refine wpT_take (i := 0) (v := .pointer (some ⟨B, 0, none⟩)) rfl (by kernel_rfl) (by kernel_rfl) (by kernel_rfl) (by kernel_rfl) (by kernel_rfl) (by kernel_rfl) (by kernel_rfl) (by kernel_rfl) (fun _ _ _ h => h) (Or.inl ⟨by rfl, ?_⟩) hS0 ?_
  · rintro w' -
    go_simp
  try simp only [Act.put]
  refine wpT_take (i := 1) (v := .pointer (some ⟨B, 0, none⟩)) rfl (by kernel_rfl) (by kernel_rfl) (by kernel_rfl) (by kernel_rfl) (by kernel_rfl) (by kernel_rfl) (by kernel_rfl) (by kernel_rfl) (fun _ _ _ h => h) (Or.inl ⟨by rfl, ?_⟩) hS0 ?_
  · rintro w' -
    go_simp
  try simp only [Act.put]
  refine wpT_take (i := 2) (v := .pointer (some ⟨B, 0, none⟩)) rfl (by kernel_rfl) (by kernel_rfl) (by kernel_rfl) (by kernel_rfl) (by kernel_rfl) (by kernel_rfl) (by kernel_rfl) (by kernel_rfl) (fun _ _ _ h => h) (Or.inl ⟨by rfl, ?_⟩) hS0 ?_
  · rintro w' -
    go_simp
  try simp only [Act.put]
  refine wpT_take (i := 3) (v := .pointer (some ⟨B, 0, none⟩)) rfl (by kernel_rfl) (by kernel_rfl) (by kernel_rfl) (by kernel_rfl) (by kernel_rfl) (by kernel_rfl) (by kernel_rfl) (by kernel_rfl) (fun _ _ _ h => h) (Or.inl ⟨by rfl, ?_⟩) hS0 ?_
  · rintro w' -
    go_simp
  try simp only [Act.put]
  refine wpT_take (i := 4) (v := .pointer (some ⟨b, 0, none⟩)) rfl (by kernel_rfl) (by kernel_rfl) (by kernel_rfl) (by kernel_rfl) (by kernel_rfl) (by kernel_rfl) (by kernel_rfl) (by kernel_rfl) (fun _ _ _ h => h) (Or.inl ⟨by rfl, ?_⟩) hS0 ?_
  · rintro w' ⟨s0, s4, s5⟩
    go_simp
  try simp only [Act.put]
  refine wpT_take (i := 5) (v := .pointer (some ⟨b, 0, none⟩)) rfl (by kernel_rfl) (by kernel_rfl) (by kernel_rfl) (by kernel_rfl) (by kernel_rfl) (by kernel_rfl) (by kernel_rfl) (by kernel_rfl) (fun _ _ _ h => h) (Or.inl ⟨by rfl, ?_⟩) hS0 ?_
  · rintro w' -
    go_simp
  try simp only [Act.put]
  refine wpT_take (i := 6) (v := .pointer (some ⟨b, 4, none⟩)) rfl (by kernel_rfl) (by kernel_rfl) (by kernel_rfl) (by kernel_rfl) (by kernel_rfl) (by kernel_rfl) (by kernel_rfl) (by kernel_rfl) (fun _ _ _ h => h) (Or.inl ⟨by rfl, ?_⟩) hS0 ?_
  · rintro w' -
    go_simp
  try simp only [Act.put]
  refine wpT_take (i := 7) (v := .pointer pl) rfl (by kernel_rfl) (by kernel_rfl) (by kernel_rfl) (by kernel_rfl) (by kernel_rfl) (by kernel_rfl) (by kernel_rfl) (by kernel_rfl) (fun _ _ _ h => h) (Or.inl ⟨by rfl, ?_⟩) hS0 ?_
  · rintro w' ⟨s0, s4, s5⟩
    go_simp
  try simp only [Act.put]
  refine wpT_take (i := 8) (v := .pointer (some ⟨B, 0, none⟩)) rfl (by kernel_rfl) (by kernel_rfl) (by kernel_rfl) (by kernel_rfl) (by kernel_rfl) (by kernel_rfl) (by kernel_rfl) (by kernel_rfl) (fun _ _ _ h => h) (Or.inl ⟨by rfl, ?_⟩) hS0 ?_
  · rintro w' -
    go_simp
  try simp only [Act.put]
  refine wpT_take (i := 9) (v := .pointer (some ⟨B, 0, none⟩)) rfl (by kernel_rfl) (by kernel_rfl) (by kernel_rfl) (by kernel_rfl) (by kernel_rfl) (by kernel_rfl) (by kernel_rfl) (by kernel_rfl) (fun _ _ _ h => h) (Or.inl ⟨by rfl, ?_⟩) hS0 ?_
  · rintro w' -
    go_simp
  try simp only [Act.put]
  refine wpT_take (i := 10) (v := .pointer (some ⟨B, 0, none⟩)) rfl (by kernel_rfl) (by kernel_rfl) (by kernel_rfl) (by kernel_rfl) (by kernel_rfl) (by kernel_rfl) (by kernel_rfl) (by kernel_rfl) (fun _ _ _ h => h) (Or.inl ⟨by rfl, ?_⟩) hS0 ?_
  · rintro w' -
    go_simp
  try simp only [Act.put]
  refine wpT_take (i := 11) (v := .pointer (some ⟨b, 0, none⟩)) rfl (by kernel_rfl) (by kernel_rfl) (by kernel_rfl) (by kernel_rfl) (by kernel_rfl) (by kernel_rfl) (by kernel_rfl) (by kernel_rfl) (fun _ _ _ h => h) (Or.inl ⟨by rfl, ?_⟩) hS0 ?_
  · rintro w' ⟨s0, s4, s5⟩
    go_simp
  try simp only [Act.put]
  refine wpT_take (i := 12) (v := .pointer (some ⟨b, 0, none⟩)) rfl (by kernel_rfl) (by kernel_rfl) (by kernel_rfl) (by kernel_rfl) (by kernel_rfl) (by kernel_rfl) (by kernel_rfl) (by kernel_rfl) (fun _ _ _ h => h) (Or.inl ⟨by rfl, ?_⟩) hS0 ?_
  · rintro w' -
    go_simp
  try simp only [Act.put]
  refine wpT_take (i := 13) (v := .pointer (some ⟨b, 5, none⟩)) rfl (by kernel_rfl) (by kernel_rfl) (by kernel_rfl) (by kernel_rfl) (by kernel_rfl) (by kernel_rfl) (by kernel_rfl) (by kernel_rfl) (fun _ _ _ h => h) (Or.inl ⟨by rfl, ?_⟩) hS0 ?_
  · rintro w' -
    go_simp
  try simp only [Act.put]
  refine wpT_take (i := 14) (v := .pointer pr) rfl (by kernel_rfl) (by kernel_rfl) (by kernel_rfl) (by kernel_rfl) (by kernel_rfl) (by kernel_rfl) (by kernel_rfl) (by kernel_rfl) (fun _ _ _ h => h) (Or.inl ⟨by rfl, ?_⟩) hS0 ?_
  · rintro w' ⟨s0, s4, s5⟩
    go_simp
  try simp only [Act.put]
  refine wpT_one (i := 15) (by kernel_rfl) rfl ?_
  intro KK hKK
  go_simp
  refine (HM.out _ hp0).mono ?_
  rintro e' w2 ⟨p2, rfl, ht2, hb2⟩
  have hp2 := hp0.step hb2
  have hS2 : (fun w' : World => w'.cell? ⟨B, 0, none⟩ = some (.pointer (some ⟨b, 0, none⟩)) ∧ w'.cell? ⟨b, 4, none⟩ = some (.pointer pl) ∧ w'.cell? ⟨b, 5, none⟩ = some (.pointer pr)) w2 := ⟨(three_cells hp2.blk).1, hp2.it.cells.2.2.2.2.1, hp2.it.cells.2.2.2.2.2⟩
  refine hKK _ _ ⟨fun _ => hS2, ?_⟩
  clear hKK hS0 hS2
  try simp only [Act.put]
  refine wpT_tail 16 3 rfl rfl (by kernel_rfl) (by kernel_rfl) ?_
  obtain ⟨d0, d1, d2, df⟩ := three_cells hp2.blk
  have HB2 := Lib.hid hp2
  have HT2 := Lib.hid ht2
  have f0 := df 0
  have f1 := df 1
  have f2 := df 2
  clear hp0 hb2 hp2 ht2 df
  by_cases hm : m = 0
  · have hz : ((m : Int) == 0) = true := by rw [beq_iff_eq]; omega
    have hz' : (m : Int) = 0 := by omega
    have HZ := Lib.hid hm
    clear hm
    go_wp2_with fail
    go_ret3
    refine ⟨rfl, ⟨0, by omega, p2, _, ?_, ?_, HQ.out, ?_, by omega⟩, ?_⟩
    · have e := set_three w2 155 B (.pointer (some ⟨b, 0, none⟩)) (.int .i64 (m + 1)) (.int .u64 n) (.pointer p2) (.int .i64 0) (.int .u64 0) HB2.out.blk
      rw [HMQ.out, show (m : Int) = 0 from by have := HZ.out; omega]
      exact e
    · exact HT2.out.step fun b hb hlt' => ((heap_setCell_other _ _ _ _ (by show b ≠ B; omega)).trans (heap_setCell_other _ _ _ _ (by show b ≠ B; omega))).trans (heap_setCell_other _ _ _ _ (by show b ≠ B; omega))
    · have e0 : q = [] := List.eq_nil_of_length_eq_zero (HMQ.out.trans HZ.out)
      rw [e0]
      exact fun y hy => by cases hy
    · exact grown_trans (grown_trans (grown_trans (grown_below HB2.out.below _) (grown_set _ _ _ _)) (grown_set _ _ _ _)) (grown_set _ _ _ _)
  · have hz : ((m : Int) == 0) = false := by rw [beq_eq_false_iff_ne]; omega
    have HZ := Lib.hid hm
    clear hm
    go_wp2_with fail
    go_ret3
    refine ⟨rfl, ⟨n, Int.le_refl _, p2, _, ?_, ?_, HQ.out, HT.out, g4⟩, ?_⟩
    · have e := set_two w2 155 B (.pointer (some ⟨b, 0, none⟩)) (.int .i64 (m + 1)) (.int .u64 n) (.pointer p2) (.int .i64 m) HB2.out.blk
      rw [HMQ.out]
      exact e
    · exact HT2.out.step fun b hb hlt' => (heap_setCell_other _ _ _ _ (by show b ≠ B; omega)).trans (heap_setCell_other _ _ _ _ (by show b ≠ B; omega))
    · exact grown_trans (grown_trans (grown_below HB2.out.below _) (grown_set _ _ _ _)) (grown_set _ _ _ _)
end Go.Proofs.YtlcpbfklnjlgnaaGreatDoor

namespace Go.Proofs.YtlcpbfklnjlgnaaGreatDoor
open Go.RowKit Go.Extern.Stop Go.Stop Go.Extern

def sA : ByteArray := ⟨#[97]⟩
def sB : ByteArray := ⟨#[98]⟩
def sC : ByteArray := ⟨#[99]⟩
theorem heap_new (w : World) {α : Type} (enc : α → Value) (TI TH : TypeId) : HpAt enc TI TH w.heap.size (w.alloc (.cells #[.pointer none, .int .i64 0, .int .u64 0] TH)) [] 0 :=
  ⟨none, .nil, heap_alloc_new w _, rfl, Hp.nil, (fun _ h => by cases h), Int.le_refl _⟩
/-- What an own heap turned is new memory alone. -/
theorem hbelow_own {w w1 w2 : World} {B : Nat} (hb : Below w.heap.size w w1) (hB : w.heap.size ≤ B) (hg : w1.grownBy w2 (some B)) : Below w.heap.size w w2 :=
  hb.grown hg hb.size (fun k e => by cases e; exact hB)

set_option maxRecDepth 100000 in
set_option maxHeartbeats 4000000 in
theorem awake8_any (w : World) : Calls Tryz.prog 106 #[] w fun e w' => e = .returned (.bool true) ∧ Below w.heap.size w w' := by
  have H0 := Lib.hid (heap_new w encS 223 201)
  have B0 := Lib.hid (hbelow_new w (.cells #[.pointer none, .int .i64 0, .int .u64 0] 201))
  have P1 := Lib.hid (fun W h => putS_any (B := w.heap.size) (q := []) (n := 0) 5 sA 0 W h (by decide) (by decide) (fun y hy => by cases hy) (fun y hy => by cases hy))
  have P2 := Lib.hid (fun W h => putS_any (B := w.heap.size) (q := [⟨5, 0, sA⟩]) (n := 0 + 1) 3 sB 0 W h (by decide) (by decide) (fun y hy => by cases hy) (fun y hy => by simp at hy; subst hy; decide))
  have P3 := Lib.hid (fun W h => putS_any (B := w.heap.size) (q := [⟨3, 1, sB⟩, ⟨5, 0, sA⟩]) (n := 1 + 1) 5 sC 2 W h (by decide) (by decide) (fun y hy => by simp at hy; rcases hy with rfl | rfl <;> decide) (fun y hy => by cases hy))
  have T1 := Lib.hid (fun W n h => takeS_some (B := w.heap.size) (e := ⟨3, 1, sB⟩) (q := [⟨5, 0, sA⟩, ⟨5, 2, sC⟩]) (n := n) W h (by decide))
  have T2 := Lib.hid (fun W n h => takeS_some (B := w.heap.size) (e := ⟨5, 0, sA⟩) (q := [⟨5, 2, sC⟩]) (n := n) W h (by decide))
  have L1 := Lib.hid (fun W n h => lenS_any (B := w.heap.size) (q := [⟨5, 2, sC⟩]) (n := n) W h)
  have eA : sA.toList = [97] := by rw [Go.ByteArray.toList_eq]; rfl
  have eB : sB.toList = [98] := by rw [Go.ByteArray.toList_eq]; rfl
  go_enter Tryz.func106, Tryz.ntmps106
  go_wp2_with fail
  refine (P1.out _ H0.out).mono ?_
  rintro e w1 ⟨⟨v1, rfl⟩, h1, g1⟩
  have B1 := Lib.hid (hbelow_own B0.out (Nat.le_refl _) g1)
  have H1 := Lib.hid h1
  clear h1 g1 B0 H0 P1
  go_wp2_with fail
  refine (P2.out _ H1.out).mono ?_
  rintro e w2 ⟨⟨v2, rfl⟩, h2, g2⟩
  have B2 := Lib.hid (hbelow_own B1.out (Nat.le_refl _) g2)
  have H2 := Lib.hid h2
  clear h2 g2 B1 H1 P2
  go_wp2_with fail
  refine (P3.out _ H2.out).mono ?_
  rintro e w3 ⟨⟨v3, rfl⟩, h3, g3⟩
  have B3 := Lib.hid (hbelow_own B2.out (Nat.le_refl _) g3)
  have H3 := Lib.hid h3
  clear h3 g3 B2 H2 P3
  go_wp2_with fail
  refine (T1.out _ _ H3.out).mono ?_
  rintro e w4 ⟨rfl, ⟨n4, -, h4⟩, g4⟩
  have B4 := Lib.hid (hbelow_own B3.out (Nat.le_refl _) g4)
  have H4 := Lib.hid h4
  clear h4 g4 B3 H3 T1
  go_wp2_with fail
  refine (T2.out _ _ H4.out).mono ?_
  rintro e w5 ⟨rfl, ⟨n5, -, h5⟩, g5⟩
  have B5 := Lib.hid (hbelow_own B4.out (Nat.le_refl _) g5)
  have H5 := Lib.hid h5
  clear h5 g5 B4 H4 T2
  go_wp2_with fail
  refine (L1.out _ _ H5.out).mono ?_
  rintro e w6 ⟨rfl, rfl⟩
  go_wp2_with fail
  go_ret
  exact ⟨rfl, B5.out⟩

end Go.Proofs.YtlcpbfklnjlgnaaGreatDoor
