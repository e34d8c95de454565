/-
  Package heap by contracts, first part: trees in memory, which of two things is ahead, a thing above two others, and what two trees come to.
-/
import Derived.Test.YtplfnhnipdfglaaHeapA
import Derived.WalkKit
import Derived.WalkLawsBesides
import Derived.Deep.LoopGhost
import Derived.Lib.Hide
import Derived.Outline
import Derived.Deep.QuietTactic
import Derived.BigQuiet
import Derived.StillTailTactics
import Derived.Deep.RegionHeld3
import Derived.IntWalk
import Derived.Laws.OwnMore
namespace Go.Proofs.Ytplfnhnipdfglaa
open Go.RowKit Go.Extern.Stop Go.Stop Go.Extern

theorem below_new (w : World) (o : Obj) : Below w.heap.size w (w.alloc o) := (Below.refl _ _).alloc (Nat.le_refl _) _
theorem bcell {W w1 : World} (hb : Below W.heap.size W w1) : (∀ b o, b < W.heap.size → w1.cell? ⟨b, o, none⟩ = W.cell? ⟨b, o, none⟩) ∧ (∀ b o, b < W.heap.size → w1.frozen? ⟨b, o, none⟩ = W.frozen? ⟨b, o, none⟩) :=
  ⟨fun b o h => hb.cell (p := ⟨b, o, none⟩) h, fun b o h => hb.frozen (p := ⟨b, o, none⟩) h⟩
/-- A thing in memory. -/
def ItAt (w : World) (T : TypeId) (b : Nat) (c0 : Value) (c t h : Int) (l r : Option Addr) : Prop :=
  w.heap[b]? = some (.cells #[c0, .int .u64 c, .int .u64 t, .int .i64 h, .pointer l, .pointer r] T (0, 0))
theorem ItAt.cells {w : World} {T : TypeId} {b : Nat} {c0 : Value} {c t h : Int} {l r : Option Addr} (hi : ItAt w T b c0 c t h l r) :
    w.cell? ⟨b, 0, none⟩ = some c0 ∧ w.cell? ⟨b, 1, none⟩ = some (.int .u64 c) ∧ w.cell? ⟨b, 2, none⟩ = some (.int .u64 t) ∧ w.cell? ⟨b, 3, none⟩ = some (.int .i64 h) ∧ w.cell? ⟨b, 4, none⟩ = some (.pointer l) ∧ w.cell? ⟨b, 5, none⟩ = some (.pointer r) :=
  ⟨by rw [Lib.cell_of_heap hi]; rfl, by rw [Lib.cell_of_heap hi]; rfl, by rw [Lib.cell_of_heap hi]; rfl, by rw [Lib.cell_of_heap hi]; rfl, by rw [Lib.cell_of_heap hi]; rfl, by rw [Lib.cell_of_heap hi]; rfl⟩
theorem ItAt.lt {w : World} {T : TypeId} {b : Nat} {c0 : Value} {c t h : Int} {l r : Option Addr} (hi : ItAt w T b c0 c t h l r) : b < w.heap.size := (Array.getElem?_eq_some_iff.1 hi).1
/-- A tree, in blocks beyond B. -/
def TreeAt {α : Type} (enc : α → Value) (T : TypeId) (B : Nat) (w : World) : Option Addr → Tr α → Prop
  | p, .nil => p = none
  | p, .node e h l r => ∃ b pl pr, p = some ⟨b, 0, none⟩ ∧ B < b ∧ ItAt w T b (enc e.x) e.c e.t h pl pr ∧ TreeAt enc T B w pl l ∧ TreeAt enc T B w pr r
theorem TreeAt.step {α : Type} {enc : α → Value} {T : TypeId} {B : Nat} {w w' : World} (hk : ∀ b, B < b → b < w.heap.size → w'.heap[b]? = w.heap[b]?) :
    ∀ {t : Tr α} {p : Option Addr}, TreeAt enc T B w p t → TreeAt enc T B w' p t
  | .nil, _, h => h
  | .node _ _ _ _, _, ⟨b, pl, pr, e, hb, hi, hl, hr⟩ => ⟨b, pl, pr, e, hb, (hk b hb hi.lt).trans hi, hl.step hk, hr.step hk⟩
theorem TreeAt.below {α : Type} {enc : α → Value} {T : TypeId} {B : Nat} {w w' : World} {t : Tr α} {p : Option Addr} (h : TreeAt enc T B w p t) (hb : Below w.heap.size w w') : TreeAt enc T B w' p t :=
  h.step fun b _ hlt => hb.block b hlt

def encS (x : ByteArray) : Value := .string x
def encI (x : Int) : Value := .int .i64 x

def eltB (c t c' t' : Int) : Bool := decide (c < c' ∨ c = c' ∧ t < t')
theorem eltB_of {α : Type} (a b : E α) : eltB a.c a.t b.c b.t = decide (a.lt b) := rfl

set_option maxHeartbeats 400000 in
theorem highS_any {t : Tr ByteArray} {p : Option Addr} {B : Nat} (w : World) (ht : TreeAt encS 50 B w p t) :
    Calls Try.prog 22 #[.pointer p] w fun e w' => e = .returned (.int .i64 t.high) ∧ w = w' := by
  cases t with
  | nil =>
    obtain rfl : p = none := ht
    go_enter Try.func22, Try.ntmps22
    go_wp2
    go_ret
    exact ⟨rfl, rfl⟩
  | node e h l r =>
    obtain ⟨b, pl, pr, rfl, -, hi, -, -⟩ := ht
    obtain ⟨-, -, -, c3, -, -⟩ := hi.cells
    clear hi
    go_enter Try.func22, Try.ntmps22
    go_wp2
    go_ret
    exact ⟨rfl, rfl⟩

set_option maxHeartbeats 1000000 in
theorem aheadS_any {a b : Nat} {x y : Value} {c t h c' t' h' : Int} {l r l' r' : Option Addr} (w : World) (ha : ItAt w 50 a x c t h l r) (hb : ItAt w 50 b y c' t' h' l' r') :
    Calls Try.prog 18 #[.pointer (some ⟨a, 0, none⟩), .pointer (some ⟨b, 0, none⟩)] w fun e w' => e = .returned (.bool (eltB c t c' t')) ∧ ∃ n, w' = w.drewN n := by
  obtain ⟨-, a1, a2, -, -, -⟩ := ha.cells
  obtain ⟨-, b1, b2, -, -, -⟩ := hb.cells
  clear ha hb
  by_cases h1 : c < c'
  · have hd : decide (c < c') = true := decide_eq_true h1
    have HR : Hid (eltB c t c' t' = true) := Lib.hid (decide_eq_true (.inl h1))
    go_enter Try.func18, Try.ntmps18
    go_wp2
    go_quiet (fail)
    go_wp2
    go_ret
    exact ⟨by rw [HR.out]; rfl, _, rfl⟩
  · by_cases h2 : c = c'
    · subst h2
      have hd : decide (c < c) = false := decide_eq_false h1
      by_cases h3 : t < t'
      · have he : decide (t < t') = true := decide_eq_true h3
        have HR : Hid (eltB c t c t' = true) := Lib.hid (decide_eq_true (.inr ⟨rfl, h3⟩))
        clear h1
        go_enter Try.func18, Try.ntmps18
        go_wp2
        go_quiet (fail)
        go_wp2
        go_ret
        exact ⟨by rw [HR.out]; rfl, _, rfl⟩
      · have he : decide (t < t') = false := decide_eq_false h3
        have HR : Hid (eltB c t c t' = false) := Lib.hid (decide_eq_false (by omega))
        clear h1
        go_enter Try.func18, Try.ntmps18
        go_wp2
        go_quiet (fail)
        go_wp2
        go_ret
        exact ⟨by rw [HR.out]; rfl, _, rfl⟩
    · have hd : decide (c < c') = false := decide_eq_false h1
      have he : (c == c') = false := by simpa using h2
      have HR : Hid (eltB c t c' t' = false) := Lib.hid (decide_eq_false (by omega))
      clear h1 h2
      go_enter Try.func18, Try.ntmps18
      go_wp2
      go_quiet (fail)
      go_wp2
      go_ret
      exact ⟨by rw [HR.out]; rfl, _, rfl⟩

set_option maxHeartbeats 1000000 in
theorem aboveS_any {a : Nat} {e : E ByteArray} {h : Int} {pl pr p q : Option Addr} {l r : Tr ByteArray} {B : Nat} (w : World) (ha : ItAt w 50 a (encS e.x) e.c e.t h pl pr) (hp : TreeAt encS 50 B w p l) (hq : TreeAt encS 50 B w q r)
    (hB : B < w.heap.size) (ol : l.ok) (or' : r.ok) (hl : l.size ≤ 1000000) (hr : r.size ≤ 1000000) :
    Calls Try.prog 19 #[.pointer (some ⟨a, 0, none⟩), .pointer p, .pointer q] w fun e' w' => ∃ p', e' = .returned (.pointer p') ∧ TreeAt encS 50 B w' p' (Tr.above e l r) ∧ Below w.heap.size w w' := by
  obtain ⟨a0', a1, a2, -, -, -⟩ := ha.cells
  have a0 : w.cell? ⟨a, 0, none⟩ = some (.string e.x) := a0'
  clear a0'
  have bl := ol.high
  have br := or'.high
  have HL := Lib.hid (highS_any w hp)
  have HR := Lib.hid (highS_any w hq)
  clear ha
  unfold Tr.above
  by_cases hlt : l.high < r.high
  · rw [if_pos hlt]
    have b1 : IntKind.i64.wrap (l.high + 1) = l.high + 1 := IntWalk.i64_in _ (by omega)
    have HP := Lib.hid hp
    have HQ := Lib.hid hq
    have H3 := Lib.hid (((highS_any w.drew (hp.below (Below.refl _ _).drew)).mono fun e w' h => ⟨h.1, h.2.symm⟩ : Calls Try.prog 22 _ w.drew fun e w'' => e = .returned (.int .i64 l.high) ∧ w'' = w.drew))
    clear hp hq ol or' bl br
    go_enter Try.func19, Try.ntmps19
    go_wp2_with fail
    refine HL.out.mono ?_
    rintro e' w1 ⟨rfl, rfl⟩
    go_wp2_with fail
    refine HR.out.mono ?_
    rintro e' w1 ⟨rfl, rfl⟩
    go_wp2_with fail
    go_still_tail 18, (by kernel_rfl)
    still_call H3.out
    repeat still_step
    refine wpStill_nil ?_
    go_wp2_with fail
    go_ret
    have hB2 : Below w.heap.size w (w.drew.alloc (.cells #[encS e.x, .int .u64 e.c, .int .u64 e.t, .int .i64 (l.high + 1), .pointer q, .pointer p] 50)) := (Below.refl _ _).drew.alloc (Nat.le_refl _) _
    exact ⟨_, rfl, ⟨w.heap.size, _, _, rfl, hB, heap_alloc_new w.drew _, HQ.out.below hB2, HP.out.below hB2⟩, hB2⟩
  · rw [if_neg hlt]
    have hd : decide (l.high < r.high) = false := decide_eq_false hlt
    have b1 : IntKind.i64.wrap (r.high + 1) = r.high + 1 := IntWalk.i64_in _ (by omega)
    have HP := Lib.hid hp
    have HQ := Lib.hid hq
    have H3 := Lib.hid (((highS_any w.drew (hq.below (Below.refl _ _).drew)).mono fun e w' h => ⟨h.1, h.2.symm⟩ : Calls Try.prog 22 _ w.drew fun e w'' => e = .returned (.int .i64 r.high) ∧ w'' = w.drew))
    clear hp hq ol or' bl br
    go_enter Try.func19, Try.ntmps19
    go_wp2_with fail
    refine HL.out.mono ?_
    rintro e' w1 ⟨rfl, rfl⟩
    go_wp2_with fail
    refine HR.out.mono ?_
    rintro e' w1 ⟨rfl, rfl⟩
    go_wp2_with fail
    go_still_tail 18, (by kernel_rfl)
    still_call H3.out
    repeat still_step
    refine wpStill_nil ?_
    go_wp2_with fail
    go_ret
    have hB2 : Below w.heap.size w (w.drew.alloc (.cells #[encS e.x, .int .u64 e.c, .int .u64 e.t, .int .i64 (r.high + 1), .pointer p, .pointer q] 50)) := (Below.refl _ _).drew.alloc (Nat.le_refl _) _
    exact ⟨_, rfl, ⟨w.heap.size, _, _, rfl, hB, heap_alloc_new w.drew _, HP.out.below hB2, HQ.out.below hB2⟩, hB2⟩
set_option maxHeartbeats 400000 in
theorem highI_any {t : Tr Int} {p : Option Addr} {B : Nat} (w : World) (ht : TreeAt encI 55 B w p t) :
    Calls Try.prog 23 #[.pointer p] w fun e w' => e = .returned (.int .i64 t.high) ∧ w = w' := by
  cases t with
  | nil =>
    obtain rfl : p = none := ht
    go_enter Try.func23, Try.ntmps23
    go_wp2
    go_ret
    exact ⟨rfl, rfl⟩
  | node e h l r =>
    obtain ⟨b, pl, pr, rfl, -, hi, -, -⟩ := ht
    obtain ⟨-, -, -, c3, -, -⟩ := hi.cells
    clear hi
    go_enter Try.func23, Try.ntmps23
    go_wp2
    go_ret
    exact ⟨rfl, rfl⟩

set_option maxHeartbeats 1000000 in
theorem aheadI_any {a b : Nat} {x y : Value} {c t h c' t' h' : Int} {l r l' r' : Option Addr} (w : World) (ha : ItAt w 55 a x c t h l r) (hb : ItAt w 55 b y c' t' h' l' r') :
    Calls Try.prog 20 #[.pointer (some ⟨a, 0, none⟩), .pointer (some ⟨b, 0, none⟩)] w fun e w' => e = .returned (.bool (eltB c t c' t')) ∧ ∃ n, w' = w.drewN n := by
  obtain ⟨-, a1, a2, -, -, -⟩ := ha.cells
  obtain ⟨-, b1, b2, -, -, -⟩ := hb.cells
  clear ha hb
  by_cases h1 : c < c'
  · have hd : decide (c < c') = true := decide_eq_true h1
    have HR : Hid (eltB c t c' t' = true) := Lib.hid (decide_eq_true (.inl h1))
    go_enter Try.func20, Try.ntmps20
    go_wp2
    go_quiet (fail)
    go_wp2
    go_ret
    exact ⟨by rw [HR.out]; rfl, _, rfl⟩
  · by_cases h2 : c = c'
    · subst h2
      have hd : decide (c < c) = false := decide_eq_false h1
      by_cases h3 : t < t'
      · have he : decide (t < t') = true := decide_eq_true h3
        have HR : Hid (eltB c t c t' = true) := Lib.hid (decide_eq_true (.inr ⟨rfl, h3⟩))
        clear h1
        go_enter Try.func20, Try.ntmps20
        go_wp2
        go_quiet (fail)
        go_wp2
        go_ret
        exact ⟨by rw [HR.out]; rfl, _, rfl⟩
      · have he : decide (t < t') = false := decide_eq_false h3
        have HR : Hid (eltB c t c t' = false) := Lib.hid (decide_eq_false (by omega))
        clear h1
        go_enter Try.func20, Try.ntmps20
        go_wp2
        go_quiet (fail)
        go_wp2
        go_ret
        exact ⟨by rw [HR.out]; rfl, _, rfl⟩
    · have hd : decide (c < c') = false := decide_eq_false h1
      have he : (c == c') = false := by simpa using h2
      have HR : Hid (eltB c t c' t' = false) := Lib.hid (decide_eq_false (by omega))
      clear h1 h2
      go_enter Try.func20, Try.ntmps20
      go_wp2
      go_quiet (fail)
      go_wp2
      go_ret
      exact ⟨by rw [HR.out]; rfl, _, rfl⟩

set_option maxHeartbeats 1000000 in
theorem aboveI_any {a : Nat} {e : E Int} {h : Int} {pl pr p q : Option Addr} {l r : Tr Int} {B : Nat} (w : World) (ha : ItAt w 55 a (encI e.x) e.c e.t h pl pr) (hp : TreeAt encI 55 B w p l) (hq : TreeAt encI 55 B w q r)
    (hB : B < w.heap.size) (ol : l.ok) (or' : r.ok) (hl : l.size ≤ 1000000) (hr : r.size ≤ 1000000) :
    Calls Try.prog 21 #[.pointer (some ⟨a, 0, none⟩), .pointer p, .pointer q] w fun e' w' => ∃ p', e' = .returned (.pointer p') ∧ TreeAt encI 55 B w' p' (Tr.above e l r) ∧ Below w.heap.size w w' := by
  obtain ⟨a0', a1, a2, -, -, -⟩ := ha.cells
  have a0 : w.cell? ⟨a, 0, none⟩ = some (.int .i64 e.x) := a0'
  clear a0'
  have bl := ol.high
  have br := or'.high
  have HL := Lib.hid (highI_any w hp)
  have HR := Lib.hid (highI_any w hq)
  clear ha
  unfold Tr.above
  by_cases hlt : l.high < r.high
  · rw [if_pos hlt]
    have b1 : IntKind.i64.wrap (l.high + 1) = l.high + 1 := IntWalk.i64_in _ (by omega)
    have HP := Lib.hid hp
    have HQ := Lib.hid hq
    have H3 := Lib.hid (((highI_any w.drew (hp.below (Below.refl _ _).drew)).mono fun e w' h => ⟨h.1, h.2.symm⟩ : Calls Try.prog 23 _ w.drew fun e w'' => e = .returned (.int .i64 l.high) ∧ w'' = w.drew))
    clear hp hq ol or' bl br
    go_enter Try.func21, Try.ntmps21
    go_wp2_with fail
    refine HL.out.mono ?_
    rintro e' w1 ⟨rfl, rfl⟩
    go_wp2_with fail
    refine HR.out.mono ?_
    rintro e' w1 ⟨rfl, rfl⟩
    go_wp2_with fail
    go_still_tail 18, (by kernel_rfl)
    still_call H3.out
    repeat still_step
    refine wpStill_nil ?_
    go_wp2_with fail
    go_ret
    have hB2 : Below w.heap.size w (w.drew.alloc (.cells #[encI e.x, .int .u64 e.c, .int .u64 e.t, .int .i64 (l.high + 1), .pointer q, .pointer p] 55)) := (Below.refl _ _).drew.alloc (Nat.le_refl _) _
    exact ⟨_, rfl, ⟨w.heap.size, _, _, rfl, hB, heap_alloc_new w.drew _, HQ.out.below hB2, HP.out.below hB2⟩, hB2⟩
  · rw [if_neg hlt]
    have hd : decide (l.high < r.high) = false := decide_eq_false hlt
    have b1 : IntKind.i64.wrap (r.high + 1) = r.high + 1 := IntWalk.i64_in _ (by omega)
    have HP := Lib.hid hp
    have HQ := Lib.hid hq
    have H3 := Lib.hid (((highI_any w.drew (hq.below (Below.refl _ _).drew)).mono fun e w' h => ⟨h.1, h.2.symm⟩ : Calls Try.prog 23 _ w.drew fun e w'' => e = .returned (.int .i64 r.high) ∧ w'' = w.drew))
    clear hp hq ol or' bl br
    go_enter Try.func21, Try.ntmps21
    go_wp2_with fail
    refine HL.out.mono ?_
    rintro e' w1 ⟨rfl, rfl⟩
    go_wp2_with fail
    refine HR.out.mono ?_
    rintro e' w1 ⟨rfl, rfl⟩
    go_wp2_with fail
    go_still_tail 18, (by kernel_rfl)
    still_call H3.out
    repeat still_step
    refine wpStill_nil ?_
    go_wp2_with fail
    go_ret
    have hB2 : Below w.heap.size w (w.drew.alloc (.cells #[encI e.x, .int .u64 e.c, .int .u64 e.t, .int .i64 (r.high + 1), .pointer p, .pointer q] 55)) := (Below.refl _ _).drew.alloc (Nat.le_refl _) _
    exact ⟨_, rfl, ⟨w.heap.size, _, _, rfl, hB, heap_alloc_new w.drew _, HP.out.below hB2, HQ.out.below hB2⟩, hB2⟩
end Go.Proofs.Ytplfnhnipdfglaa
