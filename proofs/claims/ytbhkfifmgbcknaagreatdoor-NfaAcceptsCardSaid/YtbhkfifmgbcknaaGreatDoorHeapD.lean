/-
  A part of the proof of the statement NfaAccepts.
-/
import Derived.Test.YtbhkfifmgbcknaaGreatDoorG31
set_option linter.unusedSimpArgs false
set_option linter.unusedVariables false
namespace Go.Proofs.YtbhkfifmgbcknaaGreatDoor
open Go.RowKit Go.Extern.Stop Go.Stop Go.Extern
def HpAt {α : Type} (enc : α → Value) (TI TH : TypeId) (B : Nat) (w : World) (q : List (E α)) (n : Int) : Prop :=
  ∃ p t, w.heap[B]? = some (.cells #[.pointer p, .int .i64 q.length, .int .u64 n] TH (0, 0)) ∧ TreeAt enc TI B w p t ∧ Hp t q ∧ (∀ x ∈ q, x.t < n) ∧ 0 ≤ n
theorem HpAt.lt {α : Type} {enc : α → Value} {TI TH : TypeId} {B : Nat} {w : World} {q : List (E α)} {n : Int} (h : HpAt enc TI TH B w q n) : B < w.heap.size := by
  obtain ⟨p, t, h0, -⟩ := h
  exact (Array.getElem?_eq_some_iff.1 h0).1
theorem HpAt.step {α : Type} {enc : α → Value} {TI TH : TypeId} {B : Nat} {w w' : World} {q : List (E α)} {n : Int} (h : HpAt enc TI TH B w q n) (hk : ∀ b, B ≤ b → b < w.heap.size → w'.heap[b]? = w.heap[b]?) : HpAt enc TI TH B w' q n := by
  have hlt := h.lt
  obtain ⟨p, t, h0, h1, h2⟩ := h
  exact ⟨p, t, (hk B (Nat.le_refl _) hlt).trans h0, h1.step fun b hb hs => hk b (Nat.le_of_lt hb) hs, h2⟩
theorem HpAt.below {α : Type} {enc : α → Value} {TI TH : TypeId} {B : Nat} {w w' : World} {q : List (E α)} {n : Int} (h : HpAt enc TI TH B w q n) (hb : Below w.heap.size w w') : HpAt enc TI TH B w' q n :=
  h.step fun b _ hlt => hb.block b hlt
theorem three_cells {w : World} {T : TypeId} {b : Nat} {c0 c1 c2 : Value} (h : w.heap[b]? = some (.cells #[c0, c1, c2] T (0, 0))) :
    w.cell? ⟨b, 0, none⟩ = some c0 ∧ w.cell? ⟨b, 1, none⟩ = some c1 ∧ w.cell? ⟨b, 2, none⟩ = some c2 ∧ ∀ i, w.frozen? ⟨b, i, none⟩ = false :=
  ⟨by rw [Lib.cell_of_heap h]; rfl, by rw [Lib.cell_of_heap h]; rfl, by rw [Lib.cell_of_heap h]; rfl, fun i => by unfold World.frozen?; rw [h]; simp⟩
theorem grown_trans {a b c : World} {row : Option Nat} (h : a.grownBy b row) (k : b.grownBy c row) : a.grownBy c row :=
  ⟨k.os.trans h.os, k.tape.trans h.tape, k.output.trans h.output, Nat.le_trans h.size k.size, fun i hi hr => (k.block i (Nat.lt_of_lt_of_le hi h.size) hr).trans (h.block i hi hr)⟩
theorem grown_below {a b : World} (h : Below a.heap.size a b) (row : Option Nat) : a.grownBy b row := ⟨h.os, h.tape, h.output, h.size, fun k hk _ => h.block k hk⟩
theorem grown_set (w : World) (b i : Nat) (u : Value) : w.grownBy (w.setCell ⟨b, i, none⟩ u) (some b) :=
  ⟨rfl, rfl, rfl, by simp [World.setCell], fun k _ hr => heap_setCell_other _ _ _ _ (fun e => hr (by rw [e]))⟩
theorem set_three (w : World) (T : TypeId) (b : Nat) (c0 c1 c2 d0 d1 d2 : Value) (h : w.heap[b]? = some (.cells #[c0, c1, c2] T (0, 0))) :
    (((w.setCell ⟨b, 0, none⟩ d0).setCell ⟨b, 1, none⟩ d1).setCell ⟨b, 2, none⟩ d2).heap[b]? = some (.cells #[d0, d1, d2] T (0, 0)) :=
  heap_setCell_same _ b 2 _ _ d2 (heap_setCell_same _ b 1 _ _ d1 (heap_setCell_same w b 0 _ _ d0 h))
theorem set_two (w : World) (T : TypeId) (b : Nat) (c0 c1 c2 d0 d1 : Value) (h : w.heap[b]? = some (.cells #[c0, c1, c2] T (0, 0))) :
    ((w.setCell ⟨b, 0, none⟩ d0).setCell ⟨b, 1, none⟩ d1).heap[b]? = some (.cells #[d0, d1, c2] T (0, 0)) :=
  heap_setCell_same _ b 1 _ _ d1 (heap_setCell_same w b 0 _ _ d0 h)
set_option maxHeartbeats 400000 in
theorem lenS_any {B : Nat} {q : List (E ByteArray)} {n : Int} (w : World) (h : HpAt encS 450 439 B w q n) :
    Calls Tryz.prog 396 #[.pointer (some ⟨B, 0, none⟩)] w fun e w' => e = .returned (.int .i64 q.length) ∧ w = w' := by
  obtain ⟨p, t, h0, -⟩ := h
  obtain ⟨-, c1, -, -⟩ := three_cells h0
  clear h0
  go_enter Tryz.func396, Tryz.ntmps396
  go_wp2
  go_ret
  exact ⟨rfl, rfl⟩
set_option maxHeartbeats 1000000 in
theorem peekS_some {B : Nat} {e : E ByteArray} {q : List (E ByteArray)} {n : Int} (w : World) (h : HpAt encS 450 439 B w (e :: q) n) :
    Calls Tryz.prog 406 #[.pointer (some ⟨B, 0, none⟩)] w fun e' w' => e' = .returned (.tuple #[.string e.x, .int .u64 e.c, .bool true]) ∧ ∃ k, w' = w.drewN k := by
  have H := Lib.hid (lenS_any w h)
  obtain ⟨p, t, h0, h1, h2, -⟩ := h
  obtain ⟨k, l, r, rfl, -⟩ := h2.node
  obtain ⟨b, pl, pr, rfl, -, hi, -, -⟩ := h1
  obtain ⟨c0, -, -, -⟩ := three_cells h0
  obtain ⟨a0', a1, -, -, -, -⟩ := hi.cells
  have a0 : w.cell? ⟨b, 0, none⟩ = some (.string e.x) := a0'
  have hne : ((q.length : Int) + 1 == 0) = false := by rw [beq_eq_false_iff_ne]; omega
  clear h0 h2 hi a0'
  go_enter Tryz.func406, Tryz.ntmps406
  go_wp2_with fail
  refine H.out.mono ?_
  rintro e' w' ⟨rfl, rfl⟩
  go_wp2_with fail
  go_quiet (fail)
  go_wp2_with fail
  go_ret3
  exact ⟨rfl, _, rfl⟩
structure PutAtS (B : Nat) (w0 : World) (p : Option Addr) (l n : Int) (t : Tr ByteArray) (w : World) : Prop where
  blk : w.heap[B]? = some (.cells #[.pointer p, .int .i64 l, .int .u64 n] 439 (0, 0))
  tree : TreeAt encS 450 B w p t
  below : Below w0.heap.size w0 w
theorem PutAtS.lt {B : Nat} {w0 : World} {p : Option Addr} {l n : Int} {t : Tr ByteArray} {w : World} (h : PutAtS B w0 p l n t w) : B < w.heap.size := (Array.getElem?_eq_some_iff.1 h.blk).1
theorem PutAtS.step {B : Nat} {w0 : World} {p : Option Addr} {l n : Int} {t : Tr ByteArray} {w w' : World} (h : PutAtS B w0 p l n t w) (hb : Below w.heap.size w w') : PutAtS B w0 p l n t w' :=
  ⟨(hb.block B h.lt).trans h.blk, h.tree.below hb, h.below.trans (hb.mono h.below.size)⟩
set_option maxRecDepth 100000 in
set_option maxHeartbeats 4000000 in
theorem putS_any {B : Nat} {q : List (E ByteArray)} {n : Int} (c : Int) (x : ByteArray) (k : Nat) (w : World) (h : HpAt encS 450 439 B w q n) (hn : n ≤ 1000000) (hl : q.length ≤ 1000)
    (h1 : ∀ y ∈ q.take k, y.c ≤ c) (h2 : ∀ y ∈ q.drop k, c < y.c) :
    Calls Tryz.prog 394 #[.pointer (some ⟨B, 0, none⟩), .int .u64 c, .string x] w fun e w' => (∃ v, e = .returned v) ∧ HpAt encS 450 439 B w' (q.take k ++ ⟨c, n, x⟩ :: q.drop k) (n + 1) ∧ w.grownBy w' (some B) := by
  obtain ⟨p, t, g0, g1, g2, g3, g4⟩ := h
  have g5 := g2.put ⟨c, n, x⟩ k g3 h1 h2
  have hsz := g2.size
  have HP0 : Hid (PutAtS B w p q.length n t w) := Lib.hid ⟨g0, g1, Below.refl _ _⟩
  have HM := Lib.hid (fun (w' : World) (b : Nat) (hb : B < b) (hp : PutAtS B w p q.length n t w') (hi : ItAt w' 450 b (.string x) c n 1 none none) =>
    mergeS_go B _ t (.node ⟨c, n, x⟩ 1 .nil .nil) p (some ⟨b, 0, none⟩) w' (Nat.lt_succ_self _) (by simp only [Tr.size]; omega) g2.ok ⟨by simp [Tr.els], by decide, by simp [Tr.size], trivial, trivial⟩ hp.tree ⟨b, none, none, rfl, hb, hi, rfl, rfl⟩ hp.lt)
  have HQ := Lib.hid g5
  have HL : Hid ((q.take k ++ ⟨c, n, x⟩ :: q.drop k).length = q.length + 1) := Lib.hid (by simp; omega)
  have HT : Hid (∀ y ∈ q.take k ++ ⟨c, n, x⟩ :: q.drop k, y.t < n + 1) := Lib.hid (by
    intro y hy
    rcases List.mem_append.1 hy with hy | hy
    · have := g3 y (List.mem_of_mem_take hy); omega
    · rcases List.mem_cons.1 hy with rfl | hy
      · show n < n + 1; omega
      · have := g3 y (List.mem_of_mem_drop hy); omega)
  obtain ⟨c0, c1, c2, cf⟩ := three_cells g0
  clear g0 g1 g2 g3 g5 h1 h2 hsz
  generalize hlq : q.length = m at *
  have HMQ := Lib.hid hlq
  clear hlq
  go_enter Tryz.func394, Tryz.ntmps394
  go_wp2_with fail
  refine region_T (fun w' => w'.cell? ⟨B, 0, none⟩ = some (.pointer p) ∧ w'.cell? ⟨B, 2, none⟩ = some (.int .u64 n)) 14 (by kernel_rfl) ?_
  have hS0 : (fun w' : World => w'.cell? ⟨B, 0, none⟩ = some (.pointer p) ∧ w'.cell? ⟨B, 2, none⟩ = some (.int .u64 n)) w.drew := ⟨c0, c2⟩
  refine wpT_take (i := 0) (v := .pointer (some ⟨B, 0, none⟩)) rfl (by kernel_rfl) (by kernel_rfl) (by kernel_rfl) (by kernel_rfl) (by kernel_rfl) (by kernel_rfl) (by kernel_rfl) (by kernel_rfl) (fun _ _ _ h => h) (Or.inl ⟨by rfl, ?_⟩) hS0 ?_
  · rintro w' -
    go_simp
  try simp only [Act.put]
  refine wpT_take (i := 1) (v := .pointer (some ⟨B, 0, none⟩)) rfl (by kernel_rfl) (by kernel_rfl) (by kernel_rfl) (by kernel_rfl) (by kernel_rfl) (by kernel_rfl) (by kernel_rfl) (by kernel_rfl) (fun _ _ _ h => h) (Or.inl ⟨by rfl, ?_⟩) hS0 ?_
  · rintro w' -
    go_simp
  try simp only [Act.put]
  refine wpT_take (i := 2) (v := .pointer (some ⟨B, 0, none⟩)) rfl (by kernel_rfl) (by kernel_rfl) (by kernel_rfl) (by kernel_rfl) (by kernel_rfl) (by kernel_rfl) (by kernel_rfl) (by kernel_rfl) (fun _ _ _ h => h) (Or.inl ⟨by rfl, ?_⟩) hS0 ?_
  · rintro w' -
    go_simp
  try simp only [Act.put]
  refine wpT_take (i := 3) (v := .pointer (some ⟨B, 0, none⟩)) rfl (by kernel_rfl) (by kernel_rfl) (by kernel_rfl) (by kernel_rfl) (by kernel_rfl) (by kernel_rfl) (by kernel_rfl) (by kernel_rfl) (fun _ _ _ h => h) (Or.inl ⟨by rfl, ?_⟩) hS0 ?_
  · rintro w' -
    go_simp
  try simp only [Act.put]
  refine wpT_take (i := 4) (v := .pointer p) rfl (by kernel_rfl) (by kernel_rfl) (by kernel_rfl) (by kernel_rfl) (by kernel_rfl) (by kernel_rfl) (by kernel_rfl) (by kernel_rfl) (fun _ _ _ h => h) (Or.inl ⟨by rfl, ?_⟩) hS0 ?_
  · rintro w' ⟨s0, s2⟩
    go_simp
  try simp only [Act.put]
  refine wpT_take (i := 5) (v := .string x) rfl (by kernel_rfl) (by kernel_rfl) (by kernel_rfl) (by kernel_rfl) (by kernel_rfl) (by kernel_rfl) (by kernel_rfl) (by kernel_rfl) (fun _ _ _ h => h) (Or.inl ⟨by rfl, ?_⟩) hS0 ?_
  · rintro w' -
    go_simp
  try simp only [Act.put]
  refine wpT_take (i := 6) (v := .int .u64 c) rfl (by kernel_rfl) (by kernel_rfl) (by kernel_rfl) (by kernel_rfl) (by kernel_rfl) (by kernel_rfl) (by kernel_rfl) (by kernel_rfl) (fun _ _ _ h => h) (Or.inl ⟨by rfl, ?_⟩) hS0 ?_
  · rintro w' -
    go_simp
  try simp only [Act.put]
  refine wpT_take (i := 7) (v := .pointer (some ⟨B, 0, none⟩)) rfl (by kernel_rfl) (by kernel_rfl) (by kernel_rfl) (by kernel_rfl) (by kernel_rfl) (by kernel_rfl) (by kernel_rfl) (by kernel_rfl) (fun _ _ _ h => h) (Or.inl ⟨by rfl, ?_⟩) hS0 ?_
  · rintro w' -
    go_simp
  try simp only [Act.put]
  refine wpT_take (i := 8) (v := .pointer (some ⟨B, 0, none⟩)) rfl (by kernel_rfl) (by kernel_rfl) (by kernel_rfl) (by kernel_rfl) (by kernel_rfl) (by kernel_rfl) (by kernel_rfl) (by kernel_rfl) (fun _ _ _ h => h) (Or.inl ⟨by rfl, ?_⟩) hS0 ?_
  · rintro w' -
    go_simp
  try simp only [Act.put]
  refine wpT_take (i := 9) (v := .pointer (some ⟨B, 2, none⟩)) rfl (by kernel_rfl) (by kernel_rfl) (by kernel_rfl) (by kernel_rfl) (by kernel_rfl) (by kernel_rfl) (by kernel_rfl) (by kernel_rfl) (fun _ _ _ h => h) (Or.inl ⟨by rfl, ?_⟩) hS0 ?_
  · rintro w' -
    go_simp
  try simp only [Act.put]
  refine wpT_take (i := 10) (v := .int .u64 n) rfl (by kernel_rfl) (by kernel_rfl) (by kernel_rfl) (by kernel_rfl) (by kernel_rfl) (by kernel_rfl) (by kernel_rfl) (by kernel_rfl) (fun _ _ _ h => h) (Or.inl ⟨by rfl, ?_⟩) hS0 ?_
  · rintro w' ⟨s0, s2⟩
    go_simp
  try simp only [Act.put]
  refine wpT_take (i := 11) (v := .agg #[.string x, .int .u64 c, .int .u64 n, .int .i64 1, .pointer none, .pointer none]) rfl (by kernel_rfl) (by kernel_rfl) (by kernel_rfl) (by kernel_rfl) (by kernel_rfl) (by kernel_rfl) (by kernel_rfl) (by kernel_rfl) (fun _ _ _ h => h) (Or.inl ⟨by rfl, ?_⟩) hS0 ?_
  · rintro w' -
    go_simp
  try simp only [Act.put]
  refine wpT_one (i := 12) (by kernel_rfl) rfl ?_
  intro KK hKK
  go_simp
  have hp1 := (HP0.out.step (hbelow_new w (.cells #[.string x, .int .u64 c, .int .u64 n, .int .i64 1, .pointer none, .pointer none] 450))).step (Below.refl _ _).drew
  have hi1 : ItAt (w.alloc (.cells #[.string x, .int .u64 c, .int .u64 n, .int .i64 1, .pointer none, .pointer none] 450)).drew 450 w.heap.size (.string x) c n 1 none none := heap_alloc_new w _
  have hlt : B < w.heap.size := HP0.out.lt
  obtain ⟨d0, -, d2, -⟩ := three_cells hp1.blk
  refine hKK _ _ ⟨fun _ => ⟨d0, d2⟩, ?_⟩
  clear hKK d0 d2 hS0 c0 c1 c2 cf
  try simp only [Act.put]
  refine wpT_one (i := 13) (by kernel_rfl) rfl ?_
  intro KK hKK
  go_simp
  refine (HM.out _ _ hlt hp1 hi1).mono ?_
  rintro e w2 ⟨p2, rfl, ht2, hb2⟩
  have hp2 := hp1.step hb2
  obtain ⟨d0, d1, d2, df⟩ := three_cells hp2.blk
  refine hKK _ _ ⟨fun _ => ⟨d0, d2⟩, ?_⟩
  clear hKK hi1
  try simp only [Act.put]
  refine wpT_tail 14 3 rfl rfl (by kernel_rfl) (by kernel_rfl) ?_
  have HB2 := Lib.hid hp2
  have HT2 := Lib.hid ht2
  have f0 := df 0
  have f1 := df 1
  have f2 := df 2
  clear hp1 hb2 hp2 ht2 df
  go_wp2_with fail
  go_end0
  refine ⟨⟨_, rfl⟩, ⟨p2, _, ?_, ?_, HQ.out, HT.out, by omega⟩, ?_⟩
  · rw [HL.out]
    have e := set_three w2 439 B (.pointer p) (.int .i64 m) (.int .u64 n) (.pointer p2) (.int .i64 ((m : Int) + 1)) (.int .u64 (n + 1)) HB2.out.blk
    rw [Int.natCast_add]
    exact e
  · exact HT2.out.step fun b hb hlt' => ((heap_setCell_other _ _ _ _ (by show b ≠ B; omega)).trans (heap_setCell_other _ _ _ _ (by show b ≠ B; omega))).trans (heap_setCell_other _ _ _ _ (by show b ≠ B; omega))
  · exact grown_trans (grown_trans (grown_trans (grown_below HB2.out.below _) (grown_set _ _ _ _)) (grown_set _ _ _ _)) (grown_set _ _ _ _)
structure TakeAtS (B : Nat) (w0 : World) (b : Nat) (k l n : Int) (e : E ByteArray) (pl pr : Option Addr) (tl tr : Tr ByteArray) (w : World) : Prop where
  blk : w.heap[B]? = some (.cells #[.pointer (some ⟨b, 0, none⟩), .int .i64 l, .int .u64 n] 439 (0, 0))
  it : ItAt w 450 b (.string e.x) e.c e.t k pl pr
  l : TreeAt encS 450 B w pl tl
  r : TreeAt encS 450 B w pr tr
  below : Below w0.heap.size w0 w
theorem TakeAtS.lt {B : Nat} {w0 : World} {b : Nat} {k l n : Int} {e : E ByteArray} {pl pr : Option Addr} {tl tr : Tr ByteArray} {w : World} (h : TakeAtS B w0 b k l n e pl pr tl tr w) : B < w.heap.size := (Array.getElem?_eq_some_iff.1 h.blk).1
theorem TakeAtS.step {B : Nat} {w0 : World} {b : Nat} {k l n : Int} {e : E ByteArray} {pl pr : Option Addr} {tl tr : Tr ByteArray} {w w' : World} (h : TakeAtS B w0 b k l n e pl pr tl tr w) (hb : Below w.heap.size w w') : TakeAtS B w0 b k l n e pl pr tl tr w' :=
  ⟨(hb.block B h.lt).trans h.blk, (hb.block b h.it.lt).trans h.it, h.l.below hb, h.r.below hb, h.below.trans (hb.mono h.below.size)⟩
set_option maxRecDepth 100000 in
set_option maxHeartbeats 4000000 in
theorem takeS_some {B : Nat} {e : E ByteArray} {q : List (E ByteArray)} {n : Int} (w : World) (h : HpAt encS 450 439 B w (e :: q) n) (hl : q.length ≤ 1000) :
    Calls Tryz.prog 395 #[.pointer (some ⟨B, 0, none⟩)] w fun e' w' => e' = .returned (.tuple #[.string e.x, .int .u64 e.c, .bool true]) ∧ (∃ n', n' ≤ n ∧ HpAt encS 450 439 B w' q n') ∧ w.grownBy w' (some B) := by
  have H := Lib.hid (peekS_some w h)
  obtain ⟨p, t, g0, g1, g2, g3, g4⟩ := h
  obtain ⟨k, tl, tr, rfl, g5⟩ := g2.node
  have hsz := g2.size
  obtain ⟨b, pl, pr, rfl, hBb, hi, hl', hr'⟩ := g1
  have hok := g2.ok
  have HP0 : Hid (TakeAtS B w b k (q.length + 1) n e pl pr tl tr w) := Lib.hid ⟨g0, hi, hl', hr', Below.refl _ _⟩
  have HM := Lib.hid (fun (w' : World) (hp : TakeAtS B w b k (q.length + 1) n e pl pr tl tr w') => mergeS_go B _ tl tr pl pr w' (Nat.lt_succ_self _) (by simp only [Tr.size, List.length_cons] at hsz; omega) hok.2.2.2.1 hok.2.2.2.2 hp.l hp.r hp.lt)
  have HQ := Lib.hid g5
  have HT := Lib.hid (show ∀ y ∈ q, y.t < n from fun y hy => g3 y (List.mem_cons_of_mem _ hy))
  clear g0 g2 g3 g5 hsz hok hi hl' hr'
  generalize hlq : q.length = m at *
  have HMQ := Lib.hid hlq
  clear hlq
  go_enter Tryz.func395, Tryz.ntmps395
  go_wp2_with fail
  refine H.out.mono ?_
  rintro e' w0 ⟨rfl, nd, rfl⟩
  have hp0 := HP0.out.step (hbelow_drewN w nd)
  clear H
  go_wp2_with fail
  refine region_T (fun w' => w'.cell? ⟨B, 0, none⟩ = some (.pointer (some ⟨b, 0, none⟩)) ∧ w'.cell? ⟨b, 4, none⟩ = some (.pointer pl) ∧ w'.cell? ⟨b, 5, none⟩ = some (.pointer pr)) 16 (by kernel_rfl) ?_
  replace hp0 := hp0.step (Below.refl _ _).drew
  generalize (w.drewN nd).drew = w1 at *
  have hS0 : (fun w' : World => w'.cell? ⟨B, 0, none⟩ = some (.pointer (some ⟨b, 0, none⟩)) ∧ w'.cell? ⟨b, 4, none⟩ = some (.pointer pl) ∧ w'.cell? ⟨b, 5, none⟩ = some (.pointer pr)) w1 := ⟨(three_cells hp0.blk).1, hp0.it.cells.2.2.2.2.1, hp0.it.cells.2.2.2.2.2⟩
  refine wpT_take (i := 0) (v := .pointer (some ⟨B, 0, none⟩)) rfl (by kernel_rfl) (by kernel_rfl) (by kernel_rfl) (by kernel_rfl) (by kernel_rfl) (by kernel_rfl) (by kernel_rfl) (by kernel_rfl) (fun _ _ _ h => h) (Or.inl ⟨by rfl, ?_⟩) hS0 ?_
  · rintro w' -
    go_simp
  try simp only [Act.put]
  refine wpT_take (i := 1) (v := .pointer (some ⟨B, 0, none⟩)) rfl (by kernel_rfl) (by kernel_rfl) (by kernel_rfl) (by kernel_rfl) (by kernel_rfl) (by kernel_rfl) (by kernel_rfl) (by kernel_rfl) (fun _ _ _ h => h) (Or.inl ⟨by rfl, ?_⟩) hS0 ?_
  · rintro w' -
    go_simp
  try simp only [Act.put]
  refine wpT_take (i := 2) (v := .pointer (some ⟨B, 0, none⟩)) rfl (by kernel_rfl) (by kernel_rfl) (by kernel_rfl) (by kernel_rfl) (by kernel_rfl) (by kernel_rfl) (by kernel_rfl) (by kernel_rfl) (fun _ _ _ h => h) (Or.inl ⟨by rfl, ?_⟩) hS0 ?_
  · rintro w' -
    go_simp
  try simp only [Act.put]
  refine wpT_take (i := 3) (v := .pointer (some ⟨B, 0, none⟩)) rfl (by kernel_rfl) (by kernel_rfl) (by kernel_rfl) (by kernel_rfl) (by kernel_rfl) (by kernel_rfl) (by kernel_rfl) (by kernel_rfl) (fun _ _ _ h => h) (Or.inl ⟨by rfl, ?_⟩) hS0 ?_
  · rintro w' -
    go_simp
  try simp only [Act.put]
  refine wpT_take (i := 4) (v := .pointer (some ⟨b, 0, none⟩)) rfl (by kernel_rfl) (by kernel_rfl) (by kernel_rfl) (by kernel_rfl) (by kernel_rfl) (by kernel_rfl) (by kernel_rfl) (by kernel_rfl) (fun _ _ _ h => h) (Or.inl ⟨by rfl, ?_⟩) hS0 ?_
  · rintro w' ⟨s0, s4, s5⟩
    go_simp
  try simp only [Act.put]
  refine wpT_take (i := 5) (v := .pointer (some ⟨b, 0, none⟩)) rfl (by kernel_rfl) (by kernel_rfl) (by kernel_rfl) (by kernel_rfl) (by kernel_rfl) (by kernel_rfl) (by kernel_rfl) (by kernel_rfl) (fun _ _ _ h => h) (Or.inl ⟨by rfl, ?_⟩) hS0 ?_
  · rintro w' -
    go_simp
  try simp only [Act.put]
  refine wpT_take (i := 6) (v := .pointer (some ⟨b, 4, none⟩)) rfl (by kernel_rfl) (by kernel_rfl) (by kernel_rfl) (by kernel_rfl) (by kernel_rfl) (by kernel_rfl) (by kernel_rfl) (by kernel_rfl) (fun _ _ _ h => h) (Or.inl ⟨by rfl, ?_⟩) hS0 ?_
  · rintro w' -
    go_simp
  try simp only [Act.put]
  refine wpT_take (i := 7) (v := .pointer pl) rfl (by kernel_rfl) (by kernel_rfl) (by kernel_rfl) (by kernel_rfl) (by kernel_rfl) (by kernel_rfl) (by kernel_rfl) (by kernel_rfl) (fun _ _ _ h => h) (Or.inl ⟨by rfl, ?_⟩) hS0 ?_
  · rintro w' ⟨s0, s4, s5⟩
    go_simp
  try simp only [Act.put]
  refine wpT_take (i := 8) (v := .pointer (some ⟨B, 0, none⟩)) rfl (by kernel_rfl) (by kernel_rfl) (by kernel_rfl) (by kernel_rfl) (by kernel_rfl) (by kernel_rfl) (by kernel_rfl) (by kernel_rfl) (fun _ _ _ h => h) (Or.inl ⟨by rfl, ?_⟩) hS0 ?_
  · rintro w' -
    go_simp
  try simp only [Act.put]
  refine wpT_take (i := 9) (v := .pointer (some ⟨B, 0, none⟩)) rfl (by kernel_rfl) (by kernel_rfl) (by kernel_rfl) (by kernel_rfl) (by kernel_rfl) (by kernel_rfl) (by kernel_rfl) (by kernel_rfl) (fun _ _ _ h => h) (Or.inl ⟨by rfl, ?_⟩) hS0 ?_
  · rintro w' -
    go_simp
  try simp only [Act.put]
  refine wpT_take (i := 10) (v := .pointer (some ⟨B, 0, none⟩)) rfl (by kernel_rfl) (by kernel_rfl) (by kernel_rfl) (by kernel_rfl) (by kernel_rfl) (by kernel_rfl) (by kernel_rfl) (by kernel_rfl) (fun _ _ _ h => h) (Or.inl ⟨by rfl, ?_⟩) hS0 ?_
  · rintro w' -
    go_simp
  try simp only [Act.put]
  refine wpT_take (i := 11) (v := .pointer (some ⟨b, 0, none⟩)) rfl (by kernel_rfl) (by kernel_rfl) (by kernel_rfl) (by kernel_rfl) (by kernel_rfl) (by kernel_rfl) (by kernel_rfl) (by kernel_rfl) (fun _ _ _ h => h) (Or.inl ⟨by rfl, ?_⟩) hS0 ?_
  · rintro w' ⟨s0, s4, s5⟩
    go_simp
  try simp only [Act.put]
  refine wpT_take (i := 12) (v := .pointer (some ⟨b, 0, none⟩)) rfl (by kernel_rfl) (by kernel_rfl) (by kernel_rfl) (by kernel_rfl) (by kernel_rfl) (by kernel_rfl) (by kernel_rfl) (by kernel_rfl) (fun _ _ _ h => h) (Or.inl ⟨by rfl, ?_⟩) hS0 ?_
  · rintro w' -
    go_simp
  try simp only [Act.put]
  refine wpT_take (i := 13) (v := .pointer (some ⟨b, 5, none⟩)) rfl (by kernel_rfl) (by kernel_rfl) (by kernel_rfl) (by kernel_rfl) (by kernel_rfl) (by kernel_rfl) (by kernel_rfl) (by kernel_rfl) (fun _ _ _ h => h) (Or.inl ⟨by rfl, ?_⟩) hS0 ?_
  · rintro w' -
    go_simp
  try simp only [Act.put]
  refine wpT_take (i := 14) (v := .pointer pr) rfl (by kernel_rfl) (by kernel_rfl) (by kernel_rfl) (by kernel_rfl) (by kernel_rfl) (by kernel_rfl) (by kernel_rfl) (by kernel_rfl) (fun _ _ _ h => h) (Or.inl ⟨by rfl, ?_⟩) hS0 ?_
  · rintro w' ⟨s0, s4, s5⟩
    go_simp
  try simp only [Act.put]
  refine wpT_one (i := 15) (by kernel_rfl) rfl ?_
  intro KK hKK
  go_simp
  refine (HM.out _ hp0).mono ?_
  rintro e' w2 ⟨p2, rfl, ht2, hb2⟩
  have hp2 := hp0.step hb2
  have hS2 : (fun w' : World => w'.cell? ⟨B, 0, none⟩ = some (.pointer (some ⟨b, 0, none⟩)) ∧ w'.cell? ⟨b, 4, none⟩ = some (.pointer pl) ∧ w'.cell? ⟨b, 5, none⟩ = some (.pointer pr)) w2 := ⟨(three_cells hp2.blk).1, hp2.it.cells.2.2.2.2.1, hp2.it.cells.2.2.2.2.2⟩
  refine hKK _ _ ⟨fun _ => hS2, ?_⟩
  clear hKK hS0 hS2
  try simp only [Act.put]
  refine wpT_tail 16 3 rfl rfl (by kernel_rfl) (by kernel_rfl) ?_
  obtain ⟨d0, d1, d2, df⟩ := three_cells hp2.blk
  have HB2 := Lib.hid hp2
  have HT2 := Lib.hid ht2
  have f0 := df 0
  have f1 := df 1
  have f2 := df 2
  clear hp0 hb2 hp2 ht2 df
  by_cases hm : m = 0
  · have hz : ((m : Int) == 0) = true := by rw [beq_iff_eq]; omega
    have hz' : (m : Int) = 0 := by omega
    have HZ := Lib.hid hm
    clear hm
    go_wp2_with fail
    go_ret3
    refine ⟨rfl, ⟨0, by omega, p2, _, ?_, ?_, HQ.out, ?_, by omega⟩, ?_⟩
    · have e := set_three w2 439 B (.pointer (some ⟨b, 0, none⟩)) (.int .i64 (m + 1)) (.int .u64 n) (.pointer p2) (.int .i64 0) (.int .u64 0) HB2.out.blk
      rw [HMQ.out, show (m : Int) = 0 from by have := HZ.out; omega]
      exact e
    · exact HT2.out.step fun b hb hlt' => ((heap_setCell_other _ _ _ _ (by show b ≠ B; omega)).trans (heap_setCell_other _ _ _ _ (by show b ≠ B; omega))).trans (heap_setCell_other _ _ _ _ (by show b ≠ B; omega))
    · have e0 : q = [] := List.eq_nil_of_length_eq_zero (HMQ.out.trans HZ.out)
      rw [e0]
      exact fun y hy => by cases hy
    · exact grown_trans (grown_trans (grown_trans (grown_below HB2.out.below _) (grown_set _ _ _ _)) (grown_set _ _ _ _)) (grown_set _ _ _ _)
  · have hz : ((m : Int) == 0) = false := by rw [beq_eq_false_iff_ne]; omega
    have HZ := Lib.hid hm
    clear hm
    go_wp2_with fail
    go_ret3
    refine ⟨rfl, ⟨n, Int.le_refl _, p2, _, ?_, ?_, HQ.out, HT.out, g4⟩, ?_⟩
    · have e := set_two w2 439 B (.pointer (some ⟨b, 0, none⟩)) (.int .i64 (m + 1)) (.int .u64 n) (.pointer p2) (.int .i64 m) HB2.out.blk
      rw [HMQ.out]
      exact e
    · exact HT2.out.step fun b hb hlt' => (heap_setCell_other _ _ _ _ (by show b ≠ B; omega)).trans (heap_setCell_other _ _ _ _ (by show b ≠ B; omega))
    · exact grown_trans (grown_trans (grown_below HB2.out.below _) (grown_set _ _ _ _)) (grown_set _ _ _ _)
set_option maxHeartbeats 400000 in
theorem lenI_any {B : Nat} {q : List (E Int)} {n : Int} (w : World) (h : HpAt hencI 435 416 B w q n) :
    Calls Tryz.prog 371 #[.pointer (some ⟨B, 0, none⟩)] w fun e w' => e = .returned (.int .i64 q.length) ∧ w = w' := by
  obtain ⟨p, t, h0, -⟩ := h
  obtain ⟨-, c1, -, -⟩ := three_cells h0
  clear h0
  go_enter Tryz.func371, Tryz.ntmps371
  go_wp2
  go_ret
  exact ⟨rfl, rfl⟩
set_option maxHeartbeats 1000000 in
theorem peekI_some {B : Nat} {e : E Int} {q : List (E Int)} {n : Int} (w : World) (h : HpAt hencI 435 416 B w (e :: q) n) :
    Calls Tryz.prog 391 #[.pointer (some ⟨B, 0, none⟩)] w fun e' w' => e' = .returned (.tuple #[.int .i64 e.x, .int .u64 e.c, .bool true]) ∧ ∃ k, w' = w.drewN k := by
  have H := Lib.hid (lenI_any w h)
  obtain ⟨p, t, h0, h1, h2, -⟩ := h
  obtain ⟨k, l, r, rfl, -⟩ := h2.node
  obtain ⟨b, pl, pr, rfl, -, hi, -, -⟩ := h1
  obtain ⟨c0, -, -, -⟩ := three_cells h0
  obtain ⟨a0', a1, -, -, -, -⟩ := hi.cells
  have a0 : w.cell? ⟨b, 0, none⟩ = some (.int .i64 e.x) := a0'
  have hne : ((q.length : Int) + 1 == 0) = false := by rw [beq_eq_false_iff_ne]; omega
  clear h0 h2 hi a0'
  go_enter Tryz.func391, Tryz.ntmps391
  go_wp2_with fail
  refine H.out.mono ?_
  rintro e' w' ⟨rfl, rfl⟩
  go_wp2_with fail
  go_quiet (fail)
  go_wp2_with fail
  go_ret3
  exact ⟨rfl, _, rfl⟩
structure PutAtI (B : Nat) (w0 : World) (p : Option Addr) (l n : Int) (t : Tr Int) (w : World) : Prop where
  blk : w.heap[B]? = some (.cells #[.pointer p, .int .i64 l, .int .u64 n] 416 (0, 0))
  tree : TreeAt hencI 435 B w p t
  below : Below w0.heap.size w0 w
theorem PutAtI.lt {B : Nat} {w0 : World} {p : Option Addr} {l n : Int} {t : Tr Int} {w : World} (h : PutAtI B w0 p l n t w) : B < w.heap.size := (Array.getElem?_eq_some_iff.1 h.blk).1
theorem PutAtI.step {B : Nat} {w0 : World} {p : Option Addr} {l n : Int} {t : Tr Int} {w w' : World} (h : PutAtI B w0 p l n t w) (hb : Below w.heap.size w w') : PutAtI B w0 p l n t w' :=
  ⟨(hb.block B h.lt).trans h.blk, h.tree.below hb, h.below.trans (hb.mono h.below.size)⟩
set_option maxRecDepth 100000 in
set_option maxHeartbeats 4000000 in
theorem putI_any {B : Nat} {q : List (E Int)} {n : Int} (c : Int) (x : Int) (k : Nat) (w : World) (h : HpAt hencI 435 416 B w q n) (hn : n ≤ 1000000) (hl : q.length ≤ 1000)
    (h1 : ∀ y ∈ q.take k, y.c ≤ c) (h2 : ∀ y ∈ q.drop k, c < y.c) :
    Calls Tryz.prog 370 #[.pointer (some ⟨B, 0, none⟩), .int .u64 c, .int .i64 x] w fun e w' => (∃ v, e = .returned v) ∧ HpAt hencI 435 416 B w' (q.take k ++ ⟨c, n, x⟩ :: q.drop k) (n + 1) ∧ w.grownBy w' (some B) := by
  obtain ⟨p, t, g0, g1, g2, g3, g4⟩ := h
  have g5 := g2.put ⟨c, n, x⟩ k g3 h1 h2
  have hsz := g2.size
  have HP0 : Hid (PutAtI B w p q.length n t w) := Lib.hid ⟨g0, g1, Below.refl _ _⟩
  have HM := Lib.hid (fun (w' : World) (b : Nat) (hb : B < b) (hp : PutAtI B w p q.length n t w') (hi : ItAt w' 435 b (.int .i64 x) c n 1 none none) =>
    mergeI_go B _ t (.node ⟨c, n, x⟩ 1 .nil .nil) p (some ⟨b, 0, none⟩) w' (Nat.lt_succ_self _) (by simp only [Tr.size]; omega) g2.ok ⟨by simp [Tr.els], by decide, by simp [Tr.size], trivial, trivial⟩ hp.tree ⟨b, none, none, rfl, hb, hi, rfl, rfl⟩ hp.lt)
  have HQ := Lib.hid g5
  have HL : Hid ((q.take k ++ ⟨c, n, x⟩ :: q.drop k).length = q.length + 1) := Lib.hid (by simp; omega)
  have HT : Hid (∀ y ∈ q.take k ++ ⟨c, n, x⟩ :: q.drop k, y.t < n + 1) := Lib.hid (by
    intro y hy
    rcases List.mem_append.1 hy with hy | hy
    · have := g3 y (List.mem_of_mem_take hy); omega
    · rcases List.mem_cons.1 hy with rfl | hy
      · show n < n + 1; omega
      · have := g3 y (List.mem_of_mem_drop hy); omega)
  obtain ⟨c0, c1, c2, cf⟩ := three_cells g0
  clear g0 g1 g2 g3 g5 h1 h2 hsz
  generalize hlq : q.length = m at *
  have HMQ := Lib.hid hlq
  clear hlq
  go_enter Tryz.func370, Tryz.ntmps370
  go_wp2_with fail
  refine region_T (fun w' => w'.cell? ⟨B, 0, none⟩ = some (.pointer p) ∧ w'.cell? ⟨B, 2, none⟩ = some (.int .u64 n)) 14 (by kernel_rfl) ?_
  have hS0 : (fun w' : World => w'.cell? ⟨B, 0, none⟩ = some (.pointer p) ∧ w'.cell? ⟨B, 2, none⟩ = some (.int .u64 n)) w.drew := ⟨c0, c2⟩
  refine wpT_take (i := 0) (v := .pointer (some ⟨B, 0, none⟩)) rfl (by kernel_rfl) (by kernel_rfl) (by kernel_rfl) (by kernel_rfl) (by kernel_rfl) (by kernel_rfl) (by kernel_rfl) (by kernel_rfl) (fun _ _ _ h => h) (Or.inl ⟨by rfl, ?_⟩) hS0 ?_
  · rintro w' -
    go_simp
  try simp only [Act.put]
  refine wpT_take (i := 1) (v := .pointer (some ⟨B, 0, none⟩)) rfl (by kernel_rfl) (by kernel_rfl) (by kernel_rfl) (by kernel_rfl) (by kernel_rfl) (by kernel_rfl) (by kernel_rfl) (by kernel_rfl) (fun _ _ _ h => h) (Or.inl ⟨by rfl, ?_⟩) hS0 ?_
  · rintro w' -
    go_simp
  try simp only [Act.put]
  refine wpT_take (i := 2) (v := .pointer (some ⟨B, 0, none⟩)) rfl (by kernel_rfl) (by kernel_rfl) (by kernel_rfl) (by kernel_rfl) (by kernel_rfl) (by kernel_rfl) (by kernel_rfl) (by kernel_rfl) (fun _ _ _ h => h) (Or.inl ⟨by rfl, ?_⟩) hS0 ?_
  · rintro w' -
    go_simp
  try simp only [Act.put]
  refine wpT_take (i := 3) (v := .pointer (some ⟨B, 0, none⟩)) rfl (by kernel_rfl) (by kernel_rfl) (by kernel_rfl) (by kernel_rfl) (by kernel_rfl) (by kernel_rfl) (by kernel_rfl) (by kernel_rfl) (fun _ _ _ h => h) (Or.inl ⟨by rfl, ?_⟩) hS0 ?_
  · rintro w' -
    go_simp
  try simp only [Act.put]
  refine wpT_take (i := 4) (v := .pointer p) rfl (by kernel_rfl) (by kernel_rfl) (by kernel_rfl) (by kernel_rfl) (by kernel_rfl) (by kernel_rfl) (by kernel_rfl) (by kernel_rfl) (fun _ _ _ h => h) (Or.inl ⟨by rfl, ?_⟩) hS0 ?_
  · rintro w' ⟨s0, s2⟩
    go_simp
  try simp only [Act.put]
  refine wpT_take (i := 5) (v := .int .i64 x) rfl (by kernel_rfl) (by kernel_rfl) (by kernel_rfl) (by kernel_rfl) (by kernel_rfl) (by kernel_rfl) (by kernel_rfl) (by kernel_rfl) (fun _ _ _ h => h) (Or.inl ⟨by rfl, ?_⟩) hS0 ?_
  · rintro w' -
    go_simp
  try simp only [Act.put]
  refine wpT_take (i := 6) (v := .int .u64 c) rfl (by kernel_rfl) (by kernel_rfl) (by kernel_rfl) (by kernel_rfl) (by kernel_rfl) (by kernel_rfl) (by kernel_rfl) (by kernel_rfl) (fun _ _ _ h => h) (Or.inl ⟨by rfl, ?_⟩) hS0 ?_
  · rintro w' -
    go_simp
  try simp only [Act.put]
  refine wpT_take (i := 7) (v := .pointer (some ⟨B, 0, none⟩)) rfl (by kernel_rfl) (by kernel_rfl) (by kernel_rfl) (by kernel_rfl) (by kernel_rfl) (by kernel_rfl) (by kernel_rfl) (by kernel_rfl) (fun _ _ _ h => h) (Or.inl ⟨by rfl, ?_⟩) hS0 ?_
  · rintro w' -
    go_simp
  try simp only [Act.put]
  refine wpT_take (i := 8) (v := .pointer (some ⟨B, 0, none⟩)) rfl (by kernel_rfl) (by kernel_rfl) (by kernel_rfl) (by kernel_rfl) (by kernel_rfl) (by kernel_rfl) (by kernel_rfl) (by kernel_rfl) (fun _ _ _ h => h) (Or.inl ⟨by rfl, ?_⟩) hS0 ?_
  · rintro w' -
    go_simp
  try simp only [Act.put]
  refine wpT_take (i := 9) (v := .pointer (some ⟨B, 2, none⟩)) rfl (by kernel_rfl) (by kernel_rfl) (by kernel_rfl) (by kernel_rfl) (by kernel_rfl) (by kernel_rfl) (by kernel_rfl) (by kernel_rfl) (fun _ _ _ h => h) (Or.inl ⟨by rfl, ?_⟩) hS0 ?_
  · rintro w' -
    go_simp
  try simp only [Act.put]
  refine wpT_take (i := 10) (v := .int .u64 n) rfl (by kernel_rfl) (by kernel_rfl) (by kernel_rfl) (by kernel_rfl) (by kernel_rfl) (by kernel_rfl) (by kernel_rfl) (by kernel_rfl) (fun _ _ _ h => h) (Or.inl ⟨by rfl, ?_⟩) hS0 ?_
  · rintro w' ⟨s0, s2⟩
    go_simp
  try simp only [Act.put]
  refine wpT_take (i := 11) (v := .agg #[.int .i64 x, .int .u64 c, .int .u64 n, .int .i64 1, .pointer none, .pointer none]) rfl (by kernel_rfl) (by kernel_rfl) (by kernel_rfl) (by kernel_rfl) (by kernel_rfl) (by kernel_rfl) (by kernel_rfl) (by kernel_rfl) (fun _ _ _ h => h) (Or.inl ⟨by rfl, ?_⟩) hS0 ?_
  · rintro w' -
    go_simp
  try simp only [Act.put]
  refine wpT_one (i := 12) (by kernel_rfl) rfl ?_
  intro KK hKK
  go_simp
  have hp1 := (HP0.out.step (hbelow_new w (.cells #[.int .i64 x, .int .u64 c, .int .u64 n, .int .i64 1, .pointer none, .pointer none] 435))).step (Below.refl _ _).drew
  have hi1 : ItAt (w.alloc (.cells #[.int .i64 x, .int .u64 c, .int .u64 n, .int .i64 1, .pointer none, .pointer none] 435)).drew 435 w.heap.size (.int .i64 x) c n 1 none none := heap_alloc_new w _
  have hlt : B < w.heap.size := HP0.out.lt
  obtain ⟨d0, -, d2, -⟩ := three_cells hp1.blk
  refine hKK _ _ ⟨fun _ => ⟨d0, d2⟩, ?_⟩
  clear hKK d0 d2 hS0 c0 c1 c2 cf
  try simp only [Act.put]
  refine wpT_one (i := 13) (by kernel_rfl) rfl ?_
  intro KK hKK
  go_simp
  refine (HM.out _ _ hlt hp1 hi1).mono ?_
  rintro e w2 ⟨p2, rfl, ht2, hb2⟩
  have hp2 := hp1.step hb2
  obtain ⟨d0, d1, d2, df⟩ := three_cells hp2.blk
  refine hKK _ _ ⟨fun _ => ⟨d0, d2⟩, ?_⟩
  clear hKK hi1
  try simp only [Act.put]
  refine wpT_tail 14 3 rfl rfl (by kernel_rfl) (by kernel_rfl) ?_
  have HB2 := Lib.hid hp2
  have HT2 := Lib.hid ht2
  have f0 := df 0
  have f1 := df 1
  have f2 := df 2
  clear hp1 hb2 hp2 ht2 df
  go_wp2_with fail
  go_end0
  refine ⟨⟨_, rfl⟩, ⟨p2, _, ?_, ?_, HQ.out, HT.out, by omega⟩, ?_⟩
  · rw [HL.out]
    have e := set_three w2 416 B (.pointer p) (.int .i64 m) (.int .u64 n) (.pointer p2) (.int .i64 ((m : Int) + 1)) (.int .u64 (n + 1)) HB2.out.blk
    rw [Int.natCast_add]
    exact e
  · exact HT2.out.step fun b hb hlt' => ((heap_setCell_other _ _ _ _ (by show b ≠ B; omega)).trans (heap_setCell_other _ _ _ _ (by show b ≠ B; omega))).trans (heap_setCell_other _ _ _ _ (by show b ≠ B; omega))
  · exact grown_trans (grown_trans (grown_trans (grown_below HB2.out.below _) (grown_set _ _ _ _)) (grown_set _ _ _ _)) (grown_set _ _ _ _)
structure TakeAtI (B : Nat) (w0 : World) (b : Nat) (k l n : Int) (e : E Int) (pl pr : Option Addr) (tl tr : Tr Int) (w : World) : Prop where
  blk : w.heap[B]? = some (.cells #[.pointer (some ⟨b, 0, none⟩), .int .i64 l, .int .u64 n] 416 (0, 0))
  it : ItAt w 435 b (.int .i64 e.x) e.c e.t k pl pr
  l : TreeAt hencI 435 B w pl tl
  r : TreeAt hencI 435 B w pr tr
  below : Below w0.heap.size w0 w
theorem TakeAtI.lt {B : Nat} {w0 : World} {b : Nat} {k l n : Int} {e : E Int} {pl pr : Option Addr} {tl tr : Tr Int} {w : World} (h : TakeAtI B w0 b k l n e pl pr tl tr w) : B < w.heap.size := (Array.getElem?_eq_some_iff.1 h.blk).1
theorem TakeAtI.step {B : Nat} {w0 : World} {b : Nat} {k l n : Int} {e : E Int} {pl pr : Option Addr} {tl tr : Tr Int} {w w' : World} (h : TakeAtI B w0 b k l n e pl pr tl tr w) (hb : Below w.heap.size w w') : TakeAtI B w0 b k l n e pl pr tl tr w' :=
  ⟨(hb.block B h.lt).trans h.blk, (hb.block b h.it.lt).trans h.it, h.l.below hb, h.r.below hb, h.below.trans (hb.mono h.below.size)⟩
set_option maxRecDepth 100000 in
set_option maxHeartbeats 4000000 in
theorem takeI_some {B : Nat} {e : E Int} {q : List (E Int)} {n : Int} (w : World) (h : HpAt hencI 435 416 B w (e :: q) n) (hl : q.length ≤ 1000) :
    Calls Tryz.prog 372 #[.pointer (some ⟨B, 0, none⟩)] w fun e' w' => e' = .returned (.tuple #[.int .i64 e.x, .int .u64 e.c, .bool true]) ∧ (∃ n', n' ≤ n ∧ HpAt hencI 435 416 B w' q n') ∧ w.grownBy w' (some B) := by
  have H := Lib.hid (peekI_some w h)
  obtain ⟨p, t, g0, g1, g2, g3, g4⟩ := h
  obtain ⟨k, tl, tr, rfl, g5⟩ := g2.node
  have hsz := g2.size
  obtain ⟨b, pl, pr, rfl, hBb, hi, hl', hr'⟩ := g1
  have hok := g2.ok
  have HP0 : Hid (TakeAtI B w b k (q.length + 1) n e pl pr tl tr w) := Lib.hid ⟨g0, hi, hl', hr', Below.refl _ _⟩
  have HM := Lib.hid (fun (w' : World) (hp : TakeAtI B w b k (q.length + 1) n e pl pr tl tr w') => mergeI_go B _ tl tr pl pr w' (Nat.lt_succ_self _) (by simp only [Tr.size, List.length_cons] at hsz; omega) hok.2.2.2.1 hok.2.2.2.2 hp.l hp.r hp.lt)
  have HQ := Lib.hid g5
  have HT := Lib.hid (show ∀ y ∈ q, y.t < n from fun y hy => g3 y (List.mem_cons_of_mem _ hy))
  clear g0 g2 g3 g5 hsz hok hi hl' hr'
  generalize hlq : q.length = m at *
  have HMQ := Lib.hid hlq
  clear hlq
  go_enter Tryz.func372, Tryz.ntmps372
  go_wp2_with fail
  refine H.out.mono ?_
  rintro e' w0 ⟨rfl, nd, rfl⟩
  have hp0 := HP0.out.step (hbelow_drewN w nd)
  clear H
  go_wp2_with fail
  refine region_T (fun w' => w'.cell? ⟨B, 0, none⟩ = some (.pointer (some ⟨b, 0, none⟩)) ∧ w'.cell? ⟨b, 4, none⟩ = some (.pointer pl) ∧ w'.cell? ⟨b, 5, none⟩ = some (.pointer pr)) 16 (by kernel_rfl) ?_
  replace hp0 := hp0.step (Below.refl _ _).drew
  generalize (w.drewN nd).drew = w1 at *
  have hS0 : (fun w' : World => w'.cell? ⟨B, 0, none⟩ = some (.pointer (some ⟨b, 0, none⟩)) ∧ w'.cell? ⟨b, 4, none⟩ = some (.pointer pl) ∧ w'.cell? ⟨b, 5, none⟩ = some (.pointer pr)) w1 := ⟨(three_cells hp0.blk).1, hp0.it.cells.2.2.2.2.1, hp0.it.cells.2.2.2.2.2⟩
  refine wpT_take (i := 0) (v := .pointer (some ⟨B, 0, none⟩)) rfl (by kernel_rfl) (by kernel_rfl) (by kernel_rfl) (by kernel_rfl) (by kernel_rfl) (by kernel_rfl) (by kernel_rfl) (by kernel_rfl) (fun _ _ _ h => h) (Or.inl ⟨by rfl, ?_⟩) hS0 ?_
  · rintro w' -
    go_simp
  try simp only [Act.put]
  refine wpT_take (i := 1) (v := .pointer (some ⟨B, 0, none⟩)) rfl (by kernel_rfl) (by kernel_rfl) (by kernel_rfl) (by kernel_rfl) (by kernel_rfl) (by kernel_rfl) (by kernel_rfl) (by kernel_rfl) (fun _ _ _ h => h) (Or.inl ⟨by rfl, ?_⟩) hS0 ?_
  · rintro w' -
    go_simp
  try simp only [Act.put]
  refine wpT_take (i := 2) (v := .pointer (some ⟨B, 0, none⟩)) rfl (by kernel_rfl) (by kernel_rfl) (by kernel_rfl) (by kernel_rfl) (by kernel_rfl) (by kernel_rfl) (by kernel_rfl) (by kernel_rfl) (fun _ _ _ h => h) (Or.inl ⟨by rfl, ?_⟩) hS0 ?_
  · rintro w' -
    go_simp
  try simp only [Act.put]
  refine wpT_take (i := 3) (v := .pointer (some ⟨B, 0, none⟩)) rfl (by kernel_rfl) (by kernel_rfl) (by kernel_rfl) (by kernel_rfl) (by kernel_rfl) (by kernel_rfl) (by kernel_rfl) (by kernel_rfl) (fun _ _ _ h => h) (Or.inl ⟨by rfl, ?_⟩) hS0 ?_
  · rintro w' -
    go_simp
  try simp only [Act.put]
  refine wpT_take (i := 4) (v := .pointer (some ⟨b, 0, none⟩)) rfl (by kernel_rfl) (by kernel_rfl) (by kernel_rfl) (by kernel_rfl) (by kernel_rfl) (by kernel_rfl) (by kernel_rfl) (by kernel_rfl) (fun _ _ _ h => h) (Or.inl ⟨by rfl, ?_⟩) hS0 ?_
  · rintro w' ⟨s0, s4, s5⟩
    go_simp
  try simp only [Act.put]
  refine wpT_take (i := 5) (v := .pointer (some ⟨b, 0, none⟩)) rfl (by kernel_rfl) (by kernel_rfl) (by kernel_rfl) (by kernel_rfl) (by kernel_rfl) (by kernel_rfl) (by kernel_rfl) (by kernel_rfl) (fun _ _ _ h => h) (Or.inl ⟨by rfl, ?_⟩) hS0 ?_
  · rintro w' -
    go_simp
  try simp only [Act.put]
  refine wpT_take (i := 6) (v := .pointer (some ⟨b, 4, none⟩)) rfl (by kernel_rfl) (by kernel_rfl) (by kernel_rfl) (by kernel_rfl) (by kernel_rfl) (by kernel_rfl) (by kernel_rfl) (by kernel_rfl) (fun _ _ _ h => h) (Or.inl ⟨by rfl, ?_⟩) hS0 ?_
  · rintro w' -
    go_simp
  try simp only [Act.put]
  refine wpT_take (i := 7) (v := .pointer pl) rfl (by kernel_rfl) (by kernel_rfl) (by kernel_rfl) (by kernel_rfl) (by kernel_rfl) (by kernel_rfl) (by kernel_rfl) (by kernel_rfl) (fun _ _ _ h => h) (Or.inl ⟨by rfl, ?_⟩) hS0 ?_
  · rintro w' ⟨s0, s4, s5⟩
    go_simp
  try simp only [Act.put]
  refine wpT_take (i := 8) (v := .pointer (some ⟨B, 0, none⟩)) rfl (by kernel_rfl) (by kernel_rfl) (by kernel_rfl) (by kernel_rfl) (by kernel_rfl) (by kernel_rfl) (by kernel_rfl) (by kernel_rfl) (fun _ _ _ h => h) (Or.inl ⟨by rfl, ?_⟩) hS0 ?_
  · rintro w' -
    go_simp
  try simp only [Act.put]
  refine wpT_take (i := 9) (v := .pointer (some ⟨B, 0, none⟩)) rfl (by kernel_rfl) (by kernel_rfl) (by kernel_rfl) (by kernel_rfl) (by kernel_rfl) (by kernel_rfl) (by kernel_rfl) (by kernel_rfl) (fun _ _ _ h => h) (Or.inl ⟨by rfl, ?_⟩) hS0 ?_
  · rintro w' -
    go_simp
  try simp only [Act.put]
  refine wpT_take (i := 10) (v := .pointer (some ⟨B, 0, none⟩)) rfl (by kernel_rfl) (by kernel_rfl) (by kernel_rfl) (by kernel_rfl) (by kernel_rfl) (by kernel_rfl) (by kernel_rfl) (by kernel_rfl) (fun _ _ _ h => h) (Or.inl ⟨by rfl, ?_⟩) hS0 ?_
  · rintro w' -
    go_simp
  try simp only [Act.put]
  refine wpT_take (i := 11) (v := .pointer (some ⟨b, 0, none⟩)) rfl (by kernel_rfl) (by kernel_rfl) (by kernel_rfl) (by kernel_rfl) (by kernel_rfl) (by kernel_rfl) (by kernel_rfl) (by kernel_rfl) (fun _ _ _ h => h) (Or.inl ⟨by rfl, ?_⟩) hS0 ?_
  · rintro w' ⟨s0, s4, s5⟩
    go_simp
  try simp only [Act.put]
  refine wpT_take (i := 12) (v := .pointer (some ⟨b, 0, none⟩)) rfl (by kernel_rfl) (by kernel_rfl) (by kernel_rfl) (by kernel_rfl) (by kernel_rfl) (by kernel_rfl) (by kernel_rfl) (by kernel_rfl) (fun _ _ _ h => h) (Or.inl ⟨by rfl, ?_⟩) hS0 ?_
  · rintro w' -
    go_simp
  try simp only [Act.put]
  refine wpT_take (i := 13) (v := .pointer (some ⟨b, 5, none⟩)) rfl (by kernel_rfl) (by kernel_rfl) (by kernel_rfl) (by kernel_rfl) (by kernel_rfl) (by kernel_rfl) (by kernel_rfl) (by kernel_rfl) (fun _ _ _ h => h) (Or.inl ⟨by rfl, ?_⟩) hS0 ?_
  · rintro w' -
    go_simp
  try simp only [Act.put]
  refine wpT_take (i := 14) (v := .pointer pr) rfl (by kernel_rfl) (by kernel_rfl) (by kernel_rfl) (by kernel_rfl) (by kernel_rfl) (by kernel_rfl) (by kernel_rfl) (by kernel_rfl) (fun _ _ _ h => h) (Or.inl ⟨by rfl, ?_⟩) hS0 ?_
  · rintro w' ⟨s0, s4, s5⟩
    go_simp
  try simp only [Act.put]
  refine wpT_one (i := 15) (by kernel_rfl) rfl ?_
  intro KK hKK
  go_simp
  refine (HM.out _ hp0).mono ?_
  rintro e' w2 ⟨p2, rfl, ht2, hb2⟩
  have hp2 := hp0.step hb2
  have hS2 : (fun w' : World => w'.cell? ⟨B, 0, none⟩ = some (.pointer (some ⟨b, 0, none⟩)) ∧ w'.cell? ⟨b, 4, none⟩ = some (.pointer pl) ∧ w'.cell? ⟨b, 5, none⟩ = some (.pointer pr)) w2 := ⟨(three_cells hp2.blk).1, hp2.it.cells.2.2.2.2.1, hp2.it.cells.2.2.2.2.2⟩
  refine hKK _ _ ⟨fun _ => hS2, ?_⟩
  clear hKK hS0 hS2
  try simp only [Act.put]
  refine wpT_tail 16 3 rfl rfl (by kernel_rfl) (by kernel_rfl) ?_
  obtain ⟨d0, d1, d2, df⟩ := three_cells hp2.blk
  have HB2 := Lib.hid hp2
  have HT2 := Lib.hid ht2
  have f0 := df 0
  have f1 := df 1
  have f2 := df 2
  clear hp0 hb2 hp2 ht2 df
  by_cases hm : m = 0
  · have hz : ((m : Int) == 0) = true := by rw [beq_iff_eq]; omega
    have hz' : (m : Int) = 0 := by omega
    have HZ := Lib.hid hm
    clear hm
    go_wp2_with fail
    go_ret3
    refine ⟨rfl, ⟨0, by omega, p2, _, ?_, ?_, HQ.out, ?_, by omega⟩, ?_⟩
    · have e := set_three w2 416 B (.pointer (some ⟨b, 0, none⟩)) (.int .i64 (m + 1)) (.int .u64 n) (.pointer p2) (.int .i64 0) (.int .u64 0) HB2.out.blk
      rw [HMQ.out, show (m : Int) = 0 from by have := HZ.out; omega]
      exact e
    · exact HT2.out.step fun b hb hlt' => ((heap_setCell_other _ _ _ _ (by show b ≠ B; omega)).trans (heap_setCell_other _ _ _ _ (by show b ≠ B; omega))).trans (heap_setCell_other _ _ _ _ (by show b ≠ B; omega))
    · have e0 : q = [] := List.eq_nil_of_length_eq_zero (HMQ.out.trans HZ.out)
      rw [e0]
      exact fun y hy => by cases hy
    · exact grown_trans (grown_trans (grown_trans (grown_below HB2.out.below _) (grown_set _ _ _ _)) (grown_set _ _ _ _)) (grown_set _ _ _ _)
  · have hz : ((m : Int) == 0) = false := by rw [beq_eq_false_iff_ne]; omega
    have HZ := Lib.hid hm
    clear hm
    go_wp2_with fail
    go_ret3
    refine ⟨rfl, ⟨n, Int.le_refl _, p2, _, ?_, ?_, HQ.out, HT.out, g4⟩, ?_⟩
    · have e := set_two w2 416 B (.pointer (some ⟨b, 0, none⟩)) (.int .i64 (m + 1)) (.int .u64 n) (.pointer p2) (.int .i64 m) HB2.out.blk
      rw [HMQ.out]
      exact e
    · exact HT2.out.step fun b hb hlt' => (heap_setCell_other _ _ _ _ (by show b ≠ B; omega)).trans (heap_setCell_other _ _ _ _ (by show b ≠ B; omega))
    · exact grown_trans (grown_trans (grown_below HB2.out.below _) (grown_set _ _ _ _)) (grown_set _ _ _ _)
end Go.Proofs.YtbhkfifmgbcknaaGreatDoor
