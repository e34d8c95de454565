/-
  Package ops by contracts, fifth part: whether an op is known; what may stand under a label of some kinds.
  Package ops by contracts, sixth part: what is guessed of tops behind an op.
  Package ops by contracts, seventh part: Check. (Written by genops.py.)
  Chapter 10's example, and what is gone through, by contract.
-/
import Derived.Test.YtlcpbfklnjlgnaaGreatDoorGi
import Derived.Test.YtlcpbfklnjlgnaaGreatDoorGg
import Derived.Test.YtlcpbfklnjlgnaaGreatDoorGb
namespace Go.Proofs.YtlcpbfklnjlgnaaGreatDoor
open Go.RowKit Go.Extern.Stop Go.Stop Go.Extern Go.Shelf
attribute [local go_sem] Oper.semAt_some

set_option maxHeartbeats 1000000 in
theorem known_any (ks : List Int) (vk : Value) (o l : Int) (w : World) (hk : IntsAt w vk ks) :
    Calls Tryz.prog 91 #[vk, .agg #[.int .i64 o, .int .i64 l]] w fun e w' => e = .returned (.bool (knownB ks (o, l))) ∧ Below w.heap.size w w' := by
  have hB := below_new w (.cells #[.int .i64 o, .int .i64 l] 114)
  obtain ⟨k, hkv⟩ : ∃ k, KV ks l k := ⟨_, rfl⟩
  have HK := Lib.hid (kind_kv ks vk l k _ (hk.step hB) hkv)
  have HB := Lib.hid hB
  have e1 : o = 1 → knownB ks (o, l) = true := fun h => by unfold knownB; rw [if_pos h]
  have e2 : (o = 2 ∨ o = 3) → knownB ks (o, l) = decide (k ≠ 0) := fun h => by
    unfold knownB
    simp only
    rw [if_neg (by omega), if_pos h, show kindI ks l = k from hkv]
  have e3 : o ≠ 1 → o ≠ 2 → o ≠ 3 → knownB ks (o, l) = false := fun h1 h2 h3 => by
    unfold knownB
    simp only
    rw [if_neg h1, if_neg (by omega)]
  have hq : (k != 0) = decide (k ≠ 0) := by by_cases h : k = 0 <;> simp [h]
  clear hk hkv hB
  by_cases h1 : o = 1
  · rw [e1 h1]
    subst h1
    clear e1 e2 e3
    go_enter Tryz.func91, Tryz.ntmps91
    go_wp2_with fail
    go_ret
    exact ⟨rfl, HB.out⟩
  by_cases h2 : o = 2
  · rw [e2 (.inl h2)]
    subst h2
    clear e1 e2 e3
    go_enter Tryz.func91, Tryz.ntmps91
    go_wp2_with fail
    refine HK.out.mono ?_
    rintro e w2 ⟨rfl, rfl⟩
    go_wp2_with fail
    go_ret
    exact ⟨by rw [← hq]; rfl, HB.out⟩
  by_cases h3 : o = 3
  · rw [e2 (.inr h3)]
    subst h3
    clear e1 e2 e3
    go_enter Tryz.func91, Tryz.ntmps91
    go_wp2_with fail
    refine HK.out.mono ?_
    rintro e w2 ⟨rfl, rfl⟩
    go_wp2_with fail
    go_ret
    exact ⟨by rw [← hq]; rfl, HB.out⟩
  rw [e3 h1 h2 h3]
  have q1 : (o == 1) = false := by simpa using h1
  have q2 : (o == 2) = false := by simpa using h2
  have q3 : (o == 3) = false := by simpa using h3
  clear e1 e2 e3 h1 h2 h3
  go_enter Tryz.func91, Tryz.ntmps91
  go_wp2_with fail
  go_ret
  exact ⟨rfl, HB.out⟩

/-- What stands under labels of some kinds, one by one. -/
def foldU (l : List Nat) : Nat := l.foldl (fun (s k : Nat) => s ||| belowW (k : Int)) 0
theorem foldU_snoc (l : List Nat) (k : Nat) : foldU (l ++ [k]) = foldU l ||| belowW (k : Int) := by unfold foldU; rw [List.foldl_append]; rfl
set_option maxRecDepth 100000 in
theorem foldU_under : ∀ a < 16, foldU (setL a 0) = underW a := by decide
theorem foldU_u64 : ∀ l : List Nat, U64 (foldU l) := fun l => by
  suffices h : ∀ (l : List Nat) (s : Nat), s < 16 → l.foldl (fun (s k : Nat) => s ||| belowW (k : Int)) s < 16 by
    have := h l 0 (by omega)
    unfold foldU U64
    omega
  intro l
  induction l with
  | nil => exact fun s h => h
  | cons k l ih =>
    intro s h
    refine ih _ (Nat.or_lt_two_pow (n := 4) h ?_)
    unfold belowW
    split
    · omega
    · split <;> omega
/-- What the loop's own cells hold. -/
def UI (B : Nat) (x : Nat) (W : World) : Prop :=
  (W.cell? ⟨B + 1, 0, none⟩ = some (.int .u64 0) ∧ W.frozen? ⟨B + 1, 0, none⟩ = false) ∧ (W.cell? ⟨B + 1, 1, none⟩ = some (.int .u64 0) ∧ W.frozen? ⟨B + 1, 1, none⟩ = false) ∧
    (W.cell? ⟨B + 2, 0, none⟩ = some (.int .u64 (x : Int)) ∧ W.frozen? ⟨B + 2, 0, none⟩ = false) ∧ (W.cell? ⟨B + 2, 1, none⟩ = some (.int .u64 0) ∧ W.frozen? ⟨B + 2, 1, none⟩ = false)
theorem UI.kept {B x : Nat} {W W' : World} {row : Option Nat} (h : UI B x W) (hg : W.grownBy W' row) (hr : ∀ r, row = some r → ∃ o : Obj, W.heap[r]? = some o ∧ o.isCells = false) : UI B x W' := by
  obtain ⟨⟨c0, f0⟩, ⟨c1, f1⟩, ⟨c2, f2⟩, ⟨c3, f3⟩⟩ := h
  exact ⟨⟨cell_kept c0 hg hr, (frozen_kept c0 hg hr).trans f0⟩, ⟨cell_kept c1 hg hr, (frozen_kept c1 hg hr).trans f1⟩, ⟨cell_kept c2 hg hr, (frozen_kept c2 hg hr).trans f2⟩, ⟨cell_kept c3 hg hr, (frozen_kept c3 hg hr).trans f3⟩⟩
theorem UI.step {B x : Nat} {W W' : World} (h : UI B x W) (hb : Below W.heap.size W W') : UI B x W' :=
  h.kept (row := none) ⟨hb.os, hb.tape, hb.output, hb.size, fun k hk _ => hb.block k hk⟩ (fun _ e => by cases e)
theorem ufar {W : World} {q i r j : Nat} {v u : Value} (h : W.cell? ⟨q, i, none⟩ = some v) (hq : q ≠ r) : (W.setCell ⟨r, j, none⟩ u).cell? ⟨q, i, none⟩ = some v :=
  (World.cell?_of_block (w := W) (a := ⟨q, i, none⟩) (heap_setCell_other _ _ _ _ hq)).trans h
theorem ukeeps {W W' : World} (hb : Below W.heap.size W W') : KeepsOthers W W' := ⟨hb.size, fun k _ h _ => (hb.block k (Array.getElem?_eq_some_iff.1 h).1).trans h⟩
theorem ult {W : World} {b o : Nat} {v : Value} (h : W.cell? ⟨b, o, none⟩ = some v) : b < W.heap.size := World.block_lt_of_cell? W _ h
theorem UI.next {B x : Nat} {W : World} (h : UI B x W) (y : Nat) : UI B y ((W.setCell ⟨B + 2, 0, none⟩ (.int .u64 (y : Int))).setCell ⟨B + 2, 1, none⟩ (.int .u64 0)) := by
  obtain ⟨⟨c0, f0⟩, ⟨c1, f1⟩, ⟨c2, f2⟩, ⟨c3, f3⟩⟩ := h
  have ne : ∀ i j : Nat, i ≠ j → (⟨B + 2, i, none⟩ : Addr) ≠ ⟨B + 2, j, none⟩ := fun i j h e => h (by injection e)
  refine ⟨⟨ufar (ufar c0 (by omega)) (by omega), ?_⟩, ⟨ufar (ufar c1 (by omega)) (by omega), ?_⟩, ⟨?_, ?_⟩, ⟨?_, ?_⟩⟩
  · rw [World.frozen?_setCell, World.frozen?_setCell]; exact f0
  · rw [World.frozen?_setCell, World.frozen?_setCell]; exact f1
  · rw [World.cell?_setCell_other _ _ _ _ (ne 1 0 (by decide))]; exact World.cell?_setCell_same _ _ _ c2
  · rw [World.frozen?_setCell, World.frozen?_setCell]; exact f2
  · exact World.cell?_setCell_same _ _ _ ((World.cell?_setCell_other _ _ _ _ (ne 0 1 (by decide))).trans c3)
  · rw [World.frozen?_setCell, World.frozen?_setCell]; exact f3

set_option maxRecDepth 100000 in
set_option maxHeartbeats 4000000 in
theorem opunder_any (a : Nat) (ha : a < 16) (w : World) (ht : TabB w) :
    Calls Tryz.prog 120 #[setV a 0] w fun e w' => e = .returned (setV (underW a) 0) ∧ Below w.heap.size w w' := by
  have ua : U64 a := by unfold U64; omega
  refine (callsIn_wide (n := 3)).1 ?_
  have h1 : 1 ≤ 3 := by omega
  refine callsIn_of_wp_marks Tryz.func120 rfl trivial ?_ rfl
  simp only [Tryz.ntmps120, List.size_toArray, List.length_cons, List.length_nil, Nat.reduceAdd, Nat.reduceSub, Array.replicate_succ, Array.replicate_zero, List.push_toArray, List.append_toArray, List.nil_append, List.cons_append]
  gi_wp2_with (refine ⟨trivial, ?_⟩; gi_at_call 101; refine (callsIn_wide.2 (all_any a 0 _)).mono ?_; rintro e w' ⟨rfl, rfl⟩)
  have hB0 : Below w.heap.size w ((((w.alloc (.cells #[.int .u64 (a : Int), .int .u64 0] 56)).alloc (.cells #[.int .u64 0, .int .u64 0] 56)).alloc (.cells #[.int .u64 0, .int .u64 0] 56)).alloc (.cells #[.int .u64 (a : Int), .int .u64 0] 56)) :=
    ((((Below.refl _ w).alloc (Nat.le_refl _) _).alloc (by simp) _).alloc (by simp; omega) _).alloc (by simp; omega) _
  have hA0 : SetAt ((((w.alloc (.cells #[.int .u64 (a : Int), .int .u64 0] 56)).alloc (.cells #[.int .u64 0, .int .u64 0] 56)).alloc (.cells #[.int .u64 0, .int .u64 0] 56)).alloc (.cells #[.int .u64 (a : Int), .int .u64 0] 56)) (w.heap.size + 1 + 1 + 1) a 0 := by
    have := heap_alloc_new (((w.alloc (.cells #[.int .u64 (a : Int), .int .u64 0] 56)).alloc (.cells #[.int .u64 0, .int .u64 0] 56)).alloc (.cells #[.int .u64 0, .int .u64 0] 56)) (.cells #[.int .u64 (a : Int), .int .u64 0] 56)
    rwa [World.size_alloc, World.size_alloc, World.size_alloc] at this
  have hR0 : ((((w.alloc (.cells #[.int .u64 (a : Int), .int .u64 0] 56)).alloc (.cells #[.int .u64 0, .int .u64 0] 56)).alloc (.cells #[.int .u64 0, .int .u64 0] 56)).alloc (.cells #[.int .u64 (a : Int), .int .u64 0] 56)).heap[w.heap.size + 1]? = some (.cells #[.int .u64 0, .int .u64 0] 56 (0, 0)) := by
    have := heap_alloc_new (w.alloc (.cells #[.int .u64 (a : Int), .int .u64 0] 56)) (.cells #[.int .u64 0, .int .u64 0] 56)
    rw [World.size_alloc] at this
    exact ((heap_alloc_old _ _ (by simp)).trans (heap_alloc_old _ _ (by simp))).trans this
  have hS0 : ((((w.alloc (.cells #[.int .u64 (a : Int), .int .u64 0] 56)).alloc (.cells #[.int .u64 0, .int .u64 0] 56)).alloc (.cells #[.int .u64 0, .int .u64 0] 56)).alloc (.cells #[.int .u64 (a : Int), .int .u64 0] 56)).heap[w.heap.size + 2]? = some (.cells #[.int .u64 0, .int .u64 0] 56 (0, 0)) := by
    have := heap_alloc_new ((w.alloc (.cells #[.int .u64 (a : Int), .int .u64 0] 56)).alloc (.cells #[.int .u64 0, .int .u64 0] 56)) (.cells #[.int .u64 0, .int .u64 0] 56)
    rw [World.size_alloc, World.size_alloc] at this
    exact (heap_alloc_old _ _ (by simp)).trans this
  have hT0 := ht.below ht.lt hB0
  have hI0 : UI w.heap.size 0 ((((w.alloc (.cells #[.int .u64 (a : Int), .int .u64 0] 56)).alloc (.cells #[.int .u64 0, .int .u64 0] 56)).alloc (.cells #[.int .u64 0, .int .u64 0] 56)).alloc (.cells #[.int .u64 (a : Int), .int .u64 0] 56)) := by
    refine ⟨⟨by rw [Lib.cell_of_heap hR0]; rfl, by unfold World.frozen?; rw [hR0]; simp⟩, ⟨by rw [Lib.cell_of_heap hR0]; rfl, by unfold World.frozen?; rw [hR0]; simp⟩, ⟨by rw [Lib.cell_of_heap hS0]; rfl, by unfold World.frozen?; rw [hS0]; simp⟩, ⟨by rw [Lib.cell_of_heap hS0]; rfl, by unfold World.frozen?; rw [hS0]; simp⟩⟩
  refine wpIn_rangeFunc_ownF rfl h1 (gf := 126) (lb := #[.pointer (some ⟨w.heap.size + 1 + 1 + 1, 0, none⟩)]) rfl trivial (enters_of Tryz.func126 (by kernel_rfl) rfl)
    (all1_stops 2 (by omega) (w.heap.size + 1 + 1 + 1) w.heap.size a 0 ua zero_u64 _ hA0 hT0 ht.lt) belowK_t (belowK_b (by simp; omega)) (Below.refl _ _) (fun _ => rfl)
    (fun pre W => UI w.heap.size (foldU (pre.map (·.1))) W ∧ Below w.heap.size w W)
    (fun _ _ _ => False)
    (OwnFrom.and (Own.from (fun s A B row hs hg hr => hs.kept hg hr) _) (ownFrom_below (Nat.le_refl _) (by simp; omega)))
    (fun _ _ _ _ _ hs _ _ => hs)
    ⟨hI0, hB0⟩
    (fun x => { tmps := #[setV a 0, .pointer (some ⟨w.heap.size, 0, none⟩), .pointer (some ⟨w.heap.size + 1, 0, none⟩), .pointer (some ⟨w.heap.size + 1 + 1, 0, none⟩), .int .i64 ((x.1 : Nat) : Int), .agg #[.int .u64 (a : Int), .int .u64 0], .func (.func 126) #[] #[.pointer (some ⟨w.heap.size + 1 + 1 + 1, 0, none⟩)], .int .i64 ((x.1 : Nat) : Int), undef, undef, undef, undef, undef], defers := [] }) ?assign ?body ?done ?stop
  case assign =>
    intro l x W K hK
    gi_wp2
    exact hK
  case body =>
    rintro l pre x W ⟨hI, hB⟩ _
    have HI := Lib.hid hI
    have HBB := Lib.hid hB
    have HF : Hid (foldU ((pre ++ [x]).map (·.1)) = foldU (pre.map (·.1)) ||| belowW ((x.1 : Nat) : Int)) := Lib.hid (by rw [List.map_append, List.map_cons, List.map_nil, foldU_snoc])
    have uf := foldU_u64 (pre.map (·.1))
    generalize foldU (pre.map (·.1)) = y at *
    have HE := Lib.hid (fun w' => below_any ((x.1 : Nat) : Int) w')
    have HO := Lib.hid (fun w' => or_any y 0 (belowW ((x.1 : Nat) : Int)) 0 uf zero_u64 (belowW_u64 _) zero_u64 w')
    generalize belowW ((x.1 : Nat) : Int) = z at *
    obtain ⟨⟨c0, f0⟩, ⟨c1, f1⟩, ⟨c2, f2⟩, ⟨c3, f3⟩⟩ := hI
    have hmx : Tryz.prog.follows .mixedOrders = true := by kernel_rfl
    gi_wp2
    gi_region_with_o (first
      | (refine ⟨trivial, ?_⟩; gi_at_call 118; refine (CallsIn.inRound l (callsIn_wide.2 (HE.out _))).mono ?_; rintro e w3 ⟨rfl, b3⟩; have m2 := (b3.cell (p := ⟨w.heap.size + 2, 0, none⟩) (ult c2)).trans c2; have m3 := (b3.cell (p := ⟨w.heap.size + 2, 1, none⟩) (ult c3)).trans c3)
      | (refine ⟨trivial, ?_⟩; gi_at_call 67; refine (CallsIn.inRound l (callsIn_wide.2 (HO.out _))).mono ?_; rintro e w4 ⟨rfl, b4⟩; have b34 : Below W.heap.size W w4 := ((Below.refl W.heap.size W).drew.trans b3).trans (b4.mono b3.size); have n2 := (b34.cell (p := ⟨w.heap.size + 2, 0, none⟩) (ult c2)).trans c2; have n3 := (b34.cell (p := ⟨w.heap.size + 2, 1, none⟩) (ult c3)).trans c3; have g2 := (b34.frozen (p := ⟨w.heap.size + 2, 0, none⟩) (ult c2)).trans f2; have g3 := (b34.frozen (p := ⟨w.heap.size + 2, 1, none⟩) (ult c3)).trans f3))
    all_goals gi_wp2
    all_goals exact ⟨((ukeeps b34).trans (KeepsOthers.setCell _ _ _)).trans (KeepsOthers.setCell _ _ _), ((b34.mono HBB.out.size).setCell (p := ⟨w.heap.size + 2, 0, none⟩) (by show _ ≤ w.heap.size + 2; omega) _).setCell (p := ⟨w.heap.size + 2, 1, none⟩) (by show _ ≤ w.heap.size + 2; omega) _, by rw [HF.out]; exact (HI.out.step b34).next _, ((HBB.out.trans (b34.mono HBB.out.size)).setCell (p := ⟨w.heap.size + 2, 0, none⟩) (by show _ ≤ w.heap.size + 2; omega) _).setCell (p := ⟨w.heap.size + 2, 1, none⟩) (by show _ ≤ w.heap.size + 2; omega) _⟩
  case done =>
    rintro D xs W hD hxs ⟨hI, hB⟩ hK
    have hU : foldU (xs.map (·.1)) = underW a := by rw [hxs, listN_val, foldU_under a ha]
    obtain ⟨u, hu⟩ : ∃ u, underW a = u := ⟨_, rfl⟩
    rw [hU, hu] at hI
    obtain ⟨⟨c0, f0⟩, ⟨c1, f1⟩, ⟨c2, f2⟩, ⟨c3, f3⟩⟩ := hI
    clear hxs hU
    gi_wp2
    have hK' := ((KeepsOthers.setCell W ⟨w.heap.size + 1, 0, none⟩ (.int .u64 (u : Int))).trans (KeepsOthers.setCell _ ⟨w.heap.size + 1, 1, none⟩ (.int .u64 0))).same D _ hK rfl
    refine ⟨by simp, .inl ⟨_, _, rfl, run_takeDeferred hK', ?_⟩⟩
    have ne : ∀ i j : Nat, i ≠ j → (⟨w.heap.size + 1, i, none⟩ : Addr) ≠ ⟨w.heap.size + 1, j, none⟩ := fun i j h e => h (by injection e)
    have d0 : ((W.setCell ⟨w.heap.size + 1, 0, none⟩ (.int .u64 (u : Int))).setCell ⟨w.heap.size + 1, 1, none⟩ (.int .u64 0)).cell? ⟨w.heap.size + 1, 0, none⟩ = some (.int .u64 (u : Int)) := by
      rw [World.cell?_setCell_other _ _ _ _ (ne 1 0 (by decide))]; exact World.cell?_setCell_same _ _ _ c0
    have d1 : ((W.setCell ⟨w.heap.size + 1, 0, none⟩ (.int .u64 (u : Int))).setCell ⟨w.heap.size + 1, 1, none⟩ (.int .u64 0)).cell? ⟨w.heap.size + 1, 1, none⟩ = some (.int .u64 0) :=
      World.cell?_setCell_same _ _ _ ((World.cell?_setCell_other _ _ _ _ (ne 0 1 (by decide))).trans c1)
    have hc0 := cell_kept d0 (grownBy_putObj' _ D (.deferred none)) (fun r e => by cases e; exact ⟨_, hK', rfl⟩)
    have hc1 := cell_kept d1 (grownBy_putObj' _ D (.deferred none)) (fun r e => by cases e; exact ⟨_, hK', rfl⟩)
    refine ⟨setV u 0, ?_, by rw [hu], ((hB.setCell (p := ⟨w.heap.size + 1, 0, none⟩) (Nat.le_succ _) _).setCell (p := ⟨w.heap.size + 1, 1, none⟩) (Nat.le_succ _) _).trans (belowK_b (w := w) (Nat.le_refl _) _ D _ _ (by simp at hD; omega) hK' rfl rfl)⟩
    simp [results, Tryz.f120, go_sem, hc0, hc1]
  case stop =>
    rintro D c pre W _ _ h _
    exact h.elim
end Go.Proofs.YtlcpbfklnjlgnaaGreatDoor

namespace Go.Proofs.YtlcpbfklnjlgnaaGreatDoor
open Go.RowKit Go.Extern.Stop Go.Stop Go.Extern

/-- A row of sets of kinds. -/
def setCells (l : List Nat) : List Value := l.flatMap fun (m : Nat) => [.int .u64 (m : Int), .int .u64 0]
theorem setCells_length (l : List Nat) : (setCells l).length = l.length * 2 := by unfold setCells; rw [List.length_flatMap]; simp; induction l with | nil => rfl | cons a c ih => simp [ih]; omega
theorem setCells_append (a b : List Nat) : setCells (a ++ b) = setCells a ++ setCells b := by unfold setCells; rw [List.flatMap_append]
theorem setCells_one (l : List Nat) : ∀ u ∈ setCells l, u.oneCell' = true := by
  intro u hu
  obtain ⟨o, -, ho⟩ := List.mem_flatMap.1 hu
  simp at ho
  rcases ho with rfl | rfl <;> rfl
theorem setCells_rev (m : Nat) (l : List Nat) : setCells (m :: l).reverse = setCells l.reverse ++ [.int .u64 (m : Int), .int .u64 0] := by rw [List.reverse_cons, setCells_append]; rfl
theorem infoSet : (Tryz.prog.info? 56).map (fun i => (i.zero, i.size, i.bytes)) = some (some (.agg #[.int .u64 0, .int .u64 0]), 2, 16) := by kernel_rfl
/-- The top's own cells. -/
theorem may_cells {w : World} {base g cap : Nat} {m : Nat} {l : List Nat} (h : w.ownsRow base 56 2 (.slice (some ⟨g, 0, none⟩) (l.length + 1) cap) (l.length + 1) (setCells (m :: l).reverse)) :
    w.cell? ⟨g, l.length * 2, none⟩ = some (.int .u64 (m : Int)) ∧ w.cell? ⟨g, l.length * 2 + 1, none⟩ = some (.int .u64 0) := by
  have hl : (setCells l.reverse).length = l.length * 2 := by rw [setCells_length]; simp
  constructor
  · rw [h.cellAt _ (by omega), setCells_rev, List.getElem?_append_right (by omega), hl, Nat.sub_self]
    rfl
  · rw [h.cellAt _ (by omega), setCells_rev, List.getElem?_append_right (by omega), hl, show l.length * 2 + 1 - l.length * 2 = 1 by omega]
    rfl
theorem oneK_lt {k : Int} (h : 0 ≤ k ∧ k ≤ 3) : oneK k < 16 := by
  have : k = 0 ∨ k = 1 ∨ k = 2 ∨ k = 3 := by omega
  rcases this with rfl | rfl | rfl | rfl <;> decide
set_option maxRecDepth 100000 in
set_option maxHeartbeats 4000000 in
theorem guessed_any (ks : List Int) (vk v : Value) (o l : Int) (m : Nat) (rest : List Nat) (base : Nat) (w : World) (hk : IntsAt w vk ks) (hown : w.ownsRow base 56 2 v (rest.length + 1) (setCells (m :: rest).reverse)) (hz : base ≤ w.heap.size) (hm : m < 16)
    (hl : rest.length ≤ 1000) (ht : TabB w) (ho : o = 1 ∨ o = 2 ∨ o = 3) :
    Calls Tryz.prog 93 #[vk, v, .agg #[.int .i64 o, .int .i64 l]] w fun e w' => ∃ v', e = .returned v' ∧ w'.ownsRow base 56 2 v' (guessL o (kindI ks l) (m :: rest)).length (setCells (guessL o (kindI ks l) (m :: rest)).reverse) ∧ Below base w w' := by
  obtain ⟨g, cap, rfl⟩ := ownsRow_succ hown
  obtain ⟨i0, hi, hz0, hz1, hz2⟩ := info_parts infoSet
  have hB := below_new w (.cells #[.int .i64 o, .int .i64 l] 114)
  have HB := Lib.hid hB
  have HZ := Lib.hid hz
  have HBb := Lib.hid ((Below.refl base w).alloc hz (.cells #[.int .i64 o, .int .i64 l] 114))
  have HO := Lib.hid (hown.alloc (.cells #[.int .i64 o, .int .i64 l] 114))
  have e1 : ((rest.length + 1 : Nat) : Int) - 1 = (rest.length : Int) := by omega
  have j2 : rest.length + 1 ≤ cap := by
    rcases hown.2 with ⟨h, -⟩ | ⟨_, _, _, e, _, _, h, -⟩
    · cases h
    · injection e with _ _ e
      subst e
      exact h
  have j3 : (rest.length : Int) ≤ (cap : Int) := by omega
  have hkr := kindI_range ks l
  obtain ⟨k, hkv⟩ : ∃ k, KV ks l k := ⟨_, rfl⟩
  rw [show kindI ks l = k from hkv] at hkr ⊢
  rcases ho with rfl | rfl | rfl
  · by_cases hr : rest = []
    · subst hr
      have HU := Lib.hid (opunder_any m hm _ (ht.below ht.lt hB))
      have hc := may_cells hown
      have hgl := (hown.lt g rfl).2
      have c0 : (w.alloc (.cells #[.int .i64 1, .int .i64 l] 114)).cell? ⟨g, 0, none⟩ = some (.int .u64 (m : Int)) := (hB.cell (p := ⟨g, 0, none⟩) hgl).trans hc.1
      have c1 : (w.alloc (.cells #[.int .i64 1, .int .i64 l] 114)).cell? ⟨g, 1, none⟩ = some (.int .u64 0) := (hB.cell (p := ⟨g, 1, none⟩) hgl).trans hc.2
      have d0 : w.cell? ⟨g, 0, none⟩ = some (.int .u64 (m : Int)) := hc.1
      have d1 : w.cell? ⟨g, 1, none⟩ = some (.int .u64 0) := hc.2
      obtain ⟨u, hu⟩ : ∃ u, underW m = u := ⟨_, rfl⟩
      rw [hu] at HU
      have HUe := Lib.hid hu
      clear hown hc hu hk ht hkv hB hz
      go_enter Tryz.func93, Tryz.ntmps93
      go_wp2_with fail
      refine HU.out.mono ?_
      rintro e w2 ⟨rfl, b2⟩
      have hb2 : Below base w w2 := HBb.out.trans (b2.mono (Nat.le_trans HZ.out HB.out.size))
      have hs2 : base ≤ w2.heap.size := Nat.le_trans HZ.out (Nat.le_trans HB.out.size b2.size)
      have HN : Hid ((w2.alloc (.cells #[.int .u64 (u : Int), .int .u64 0] 56)).ownsRow base 56 2 (.slice (some ⟨w2.heap.size, 0, none⟩) 1 1) 1 (setCells [u])) := Lib.hid (World.ownsRow_lit w2 #[.int .u64 (u : Int), .int .u64 0] 1 hs2 (by unfold maxLen; omega) rfl)
      have HB2 := Lib.hid (hb2.alloc hs2 (.cells #[.int .u64 (u : Int), .int .u64 0] 56))
      clear hb2 b2
      go_wp2_with fail
      go_ret
      refine ⟨_, rfl, ?_, HB2.out⟩
      have e : guessL 1 k [m] = [u] := by show [underW m] = [u]; rw [HUe.out]
      rw [e]
      exact HN.out
    · have hg : guessL 1 k (m :: rest) = rest := by unfold guessL; simp [hr]
      have hpos : 0 < rest.length := List.length_pos_iff.2 hr
      have q0 : (0 : Int) < (rest.length : Int) := by omega
      have HP : Hid ((w.alloc (.cells #[.int .i64 1, .int .i64 l] 114)).ownsRow base 56 2 (.slice (some ⟨g, 0, none⟩) rest.length cap) rest.length (setCells rest.reverse)) := Lib.hid (by
        have h := HO.out
        rw [setCells_rev] at h
        exact ownsRow_pop (by rw [setCells_length]; simp) h)
      rw [hg]
      clear hown hk ht hkv hB hz hg hr
      generalize hn : rest.length = n at *
      go_enter Tryz.func93, Tryz.ntmps93
      go_wp2_with fail
      go_ret
      exact ⟨_, rfl, HP.out, HBb.out⟩
  · have hg : guessL 2 k (m :: rest) = m :: rest := by unfold guessL; simp
    rw [hg]
    clear hown hk ht hkv hB hz hg
    go_enter Tryz.func93, Tryz.ntmps93
    go_wp2_with fail
    go_ret
    exact ⟨_, rfl, HO.out, HBb.out⟩
  · have hg : guessL 3 k (m :: rest) = oneK k :: m :: rest := by unfold guessL; simp
    rw [hg]
    have HK := Lib.hid (kind_kv ks vk l k _ (hk.step hB) hkv)
    have hi1 := ints_new (w.alloc (.cells #[.int .i64 3, .int .i64 l] 114)) k
    have hO1 := of_any [k] _ _ hi1 (by simp)
    rw [ofS_one hkr, World.size_alloc] at hO1
    have HOf := Lib.hid hO1
    have HBi := Lib.hid (below_new (w.alloc (.cells #[.int .i64 3, .int .i64 l] 114)) (.cells #[.int .i64 k] 3))
    generalize oneK k = x at *
    clear hown hk ht hkv hB hz hg hi1 hO1
    go_enter Tryz.func93, Tryz.ntmps93
    go_wp2_with fail
    refine HK.out.mono ?_
    rintro e w2 ⟨rfl, rfl⟩
    go_wp2_with fail
    refine HOf.out.mono ?_
    rintro e w3 ⟨rfl, b3⟩
    have b13 : Below (w.alloc (.cells #[.int .i64 3, .int .i64 l] 114)).heap.size (w.alloc (.cells #[.int .i64 3, .int .i64 l] 114)) w3 := HBi.out.trans (b3.mono HBi.out.size)
    have hs3 : base ≤ w3.heap.size := Nat.le_trans HZ.out (Nat.le_trans HB.out.size b13.size)
    have HO3 := Lib.hid ((ownsRow_below_up HO.out b13).alloc (.cells #[.int .u64 (x : Int), .int .u64 0] 56))
    have HB3 := Lib.hid ((HBb.out.trans (b13.mono (Nat.le_trans HZ.out HB.out.size))).alloc hs3 (.cells #[.int .u64 (x : Int), .int .u64 0] 56))
    have HN3 := Lib.hid (heap_alloc_new w3 (.cells #[.int .u64 (x : Int), .int .u64 0] 56))
    clear b3 b13
    go_wp2_with (at_builtin; refine wpList_append_own _ rfl _ _ 149 rfl base 56 i0 (.agg #[.int .u64 0, .int .u64 0]) 2 16 Tryz.underlying149 hi hz0 hz1 hz2 rfl (by decide) _ _ _ rfl HO3.out ⟨w3.heap.size, 0, none⟩ 1 1 (setCells [x]) rfl rfl ?_ (setCells_one _) ?_ ?_ ?_ ?_)
    · intro j u hu
      first
      | exact hu
      | (have e0 : (⟨w3.heap.size, 0, none⟩ : Addr).add j = ⟨w3.heap.size, j, none⟩ := by unfold Addr.add; split <;> simp_all
         rw [e0, Lib.cell_of_heap HN3.out, List.getElem?_toArray]
         exact hu)
    · unfold maxLen; omega
    · omega
    · (try simp only [World.size_alloc]); omega
    intro v4 w4 hown4 hgrow4 _
    have HB4 := Lib.hid (HB3.out.grown hgrow4 (by simp; omega) (fun k' e => (HO3.out.lt k' e).1))
    have HO4 : Hid (w4.ownsRow base 56 2 v4 (x :: m :: rest).length (setCells (x :: m :: rest).reverse)) := Lib.hid (by
      rw [show (x :: m :: rest).reverse = (rest.reverse ++ [m]) ++ [x] by simp, setCells_append]
      exact hown4)
    clear hown4 hgrow4
    go_wp2_with fail
    go_ret
    exact ⟨_, rfl, HO4.out, HB4.out⟩
end Go.Proofs.YtlcpbfklnjlgnaaGreatDoor

namespace Go.Proofs.YtlcpbfklnjlgnaaGreatDoor
open Go.RowKit Go.Extern.Stop Go.Stop Go.Extern

/-- What Check answers; a fault's block is new. -/
def CheckPostN (ks : List Int) (top : Int) (c : List (Int × Int)) (w : World) (e : Ending) (w' : World) : Prop :=
  ∃ v, e = .returned v ∧ ((chkE ks top c).1 = 0 → v = .nilIface ∧ (chkE ks top c).2 = 0) ∧ ((chkE ks top c).1 ≠ 0 → ∃ b, w.heap.size ≤ b ∧ ChainAt w' (.fault b (chkE ks top c).1 (chkE ks top c).2) [] v) ∧ Below w.heap.size w w'
theorem fault_post {ks : List Int} {top : Int} {c : List (Int × Int)} {w w1 : World} {code a : Int} (he : chkE ks top c = (code, a)) (hc : code ≠ 0) (hb : Below w.heap.size w w1) :
    CheckPostN ks top c w (.returned (.iface 99 (.pointer (some ⟨w1.heap.size, 0, none⟩)))) (w1.alloc (.cells #[.int .i64 code, .int .i64 a] 102)) :=
  ⟨_, rfl, fun h => absurd (by rw [he] at h; exact h) hc, fun _ => ⟨w1.heap.size, hb.size, by rw [he]; exact new_chain code a w1⟩, hb.alloc hb.size _⟩
def CR (ks : List Int) (top : Int) (c : List (Int × Int)) (w : World) (g : Nat) (u mv : Value) (wr : World) : Prop :=
  ∃ (i m : Nat) (rest : List Nat), i ≤ c.length ∧ g = c.length - i ∧ u = .int .i64 i ∧ (∀ x ∈ m :: rest, x < 16) ∧ chkE ks top c = chkL ks (c.drop i) i (m :: rest) ∧ rest.length ≤ i ∧
    wr.ownsRow w.heap.size 56 2 mv (rest.length + 1) (setCells (m :: rest).reverse) ∧ Below w.heap.size w wr
theorem chkL_cons (ks : List Int) (o : Int × Int) (c : List (Int × Int)) (i m : Nat) (rest : List Nat) : chkL ks (o :: c) i (m :: rest) =
    if knownB ks o = true then (if m &&& topsW o.1 (kindI ks o.2) = 0 then (9, (i : Int)) else chkL ks c (i + 1) (guessL o.1 (kindI ks o.2) ((m &&& topsW o.1 (kindI ks o.2)) :: rest))) else (2, (i : Int)) := rfl
theorem guessL_eq (o lk : Int) (m : Nat) (rest : List Nat) : guessL o lk (m :: rest) = if o = 3 then oneK lk :: m :: rest else if o = 1 then (if rest = [] then [underW m] else rest) else m :: rest := rfl
theorem guessL_small {o lk : Int} (hk : 0 ≤ lk ∧ lk ≤ 3) {m : Nat} {rest : List Nat} (h : ∀ x ∈ m :: rest, x < 16) : ∀ x ∈ guessL o lk (m :: rest), x < 16 := by
  intro x hx
  rw [guessL_eq] at hx
  by_cases h3 : o = 3
  · rw [if_pos h3] at hx
    rcases List.mem_cons.1 hx with rfl | hx
    · exact oneK_lt hk
    · exact h x hx
  · rw [if_neg h3] at hx
    by_cases h1 : o = 1
    · rw [if_pos h1] at hx
      by_cases hr : rest = []
      · rw [if_pos hr, List.mem_singleton] at hx
        subst hx
        exact (under_bits m (h m (by simp))).2.1
      · rw [if_neg hr] at hx
        exact h x (List.mem_cons_of_mem _ hx)
    · rw [if_neg h1] at hx
      exact h x hx
theorem guessL_cons {o lk : Int} {m : Nat} {rest : List Nat} : ∃ m' r', guessL o lk (m :: rest) = m' :: r' ∧ r'.length ≤ rest.length + 1 := by
  rw [guessL_eq]
  by_cases h3 : o = 3
  · rw [if_pos h3]
    exact ⟨_, _, rfl, by simp⟩
  · rw [if_neg h3]
    by_cases h1 : o = 1
    · rw [if_pos h1]
      cases rest with
      | nil => exact ⟨_, _, rfl, by simp⟩
      | cons a r => exact ⟨a, r, rfl, by simp; omega⟩
    · rw [if_neg h1]
      exact ⟨_, _, rfl, by omega⟩

set_option maxRecDepth 100000 in
set_option maxHeartbeats 8000000 in
theorem opCheck_new (ks : List Int) (top : Int) (c : List (Int × Int)) (vk vc : Value) (w : World) (hk : IntsAt w vk ks) (hc : OpsAt w vc c) (ht : TabB w) :
    Calls Tryz.prog 60 #[vk, .int .i64 top, vc] w (CheckPostN ks top c w) := by
  have HK := Lib.hid hk
  have HC := Lib.hid hc
  have HT := Lib.hid ht
  obtain ⟨ac, capc, rfl⟩ := hc.form
  obtain ⟨kt, hkt⟩ : ∃ k, KV ks top k := ⟨_, rfl⟩
  have HKt := Lib.hid ((kind_kv ks vk top kt w hk hkt).mono fun _ w2 h => (⟨h.1, h.2.symm⟩ : _ ∧ w = w2))
  have hkr := kindI_range ks top
  rw [show kindI ks top = kt from hkt] at hkr
  clear hk hc ht
  by_cases h0 : kt = 0
  · subst h0
    have hE : chkE ks top c = (2, -1) := by unfold chkE; rw [if_pos (show kindI ks top = 0 from hkt)]
    have HP := Lib.hid (fault_post hE (by omega) (Below.refl _ w))
    have HN := Lib.hid (new_any 2 (-1) (by decide) w)
    clear hE hkt hkr
    go_enter Tryz.func60, Tryz.ntmps60
    go_wp2_with fail
    refine HKt.out.mono ?_
    rintro e w1 ⟨rfl, rfl⟩
    go_wp2_with fail
    refine HN.out.mono ?_
    rintro e w1 ⟨rfl, rfl⟩
    go_wp2_with fail
    go_ret
    exact HP.out
  have q0 : (kt == 0) = false := by simpa using h0
  by_cases h8 : 8 < c.length
  · have q8 : (8 : Int) < c.length := by omega
    have hE : chkE ks top c = (6, 8) := by unfold chkE; rw [if_neg (by rw [show kindI ks top = kt from hkt]; exact h0), if_pos h8]
    have HP := Lib.hid (fault_post hE (by omega) (Below.refl _ w))
    have HN := Lib.hid (new_any 6 8 (by decide) w)
    clear hE hkt hkr h0
    go_enter Tryz.func60, Tryz.ntmps60
    go_wp2_with fail
    refine HKt.out.mono ?_
    rintro e w1 ⟨rfl, rfl⟩
    go_wp2_with fail
    refine HN.out.mono ?_
    rintro e w1 ⟨rfl, rfl⟩
    go_wp2_with fail
    go_ret
    exact HP.out
  have q8 : ¬ (8 : Int) < c.length := by omega
  have hE : chkE ks top c = chkL ks c 0 [oneK kt] := by unfold chkE; rw [if_neg (by rw [show kindI ks top = kt from hkt]; exact h0), if_neg h8, show kindI ks top = kt from hkt]
  have HE := Lib.hid hE
  have hi1 := ints_new w kt
  have hO1 := of_any [kt] _ _ hi1 (by simp)
  rw [ofS_one hkr] at hO1
  have HOf := Lib.hid hO1
  have HBi := Lib.hid (below_new w (.cells #[.int .i64 kt] 3))
  have hsm := oneK_lt hkr
  obtain ⟨m0, hm0⟩ : ∃ m0, oneK kt = m0 := ⟨_, rfl⟩
  rw [hm0] at HOf HE hsm
  clear hE hkt hkr h0 hi1 hO1 hm0
  go_enter Tryz.func60, Tryz.ntmps60
  go_wp2_with fail
  refine HKt.out.mono ?_
  rintro e w1 ⟨rfl, rfl⟩
  go_wp2_with fail
  refine HOf.out.mono ?_
  rintro e w2 ⟨rfl, b2⟩
  have hb2 : Below w.heap.size w w2 := HBi.out.trans (b2.mono HBi.out.size)
  have H0 : Hid (CR ks top c w c.length (.int .i64 0) (.slice (some ⟨w2.heap.size, 0, none⟩) 1 1) (w2.alloc (.cells #[.int .u64 (m0 : Int), .int .u64 0] 56))) := Lib.hid
    ⟨0, m0, [], Nat.zero_le _, by omega, rfl, fun x hx => (by rw [List.mem_singleton] at hx; rw [hx]; exact hsm), HE.out, Nat.le_refl _, World.ownsRow_lit w2 #[.int .u64 (m0 : Int), .int .u64 0] 1 hb2.size (by unfold maxLen; omega) rfl, hb2.alloc hb2.size _⟩
  clear hb2 b2 HE hsm
  go_wp2_with fail
  go_loopg [28, 8] c.length (fun g u mv wr => CR ks top c w g u mv wr)
  case atStart => exact H0.out
  case round =>
    obtain ⟨i, m, rest, hi, hgi, rfl, hsm, hchk, hrl, hown, hb⟩ := hrel
    have HB := Lib.hid hb
    by_cases hlt : i < c.length
    · obtain ⟨o, ho⟩ : ∃ o, c[i]? = some o := ⟨_, List.getElem?_eq_getElem hlt⟩
      obtain ⟨b, off, rfl, p0, p1⟩ := HC.out.at ho hb
      have hdrop : c.drop i = o :: c.drop (i + 1) := by
        obtain ⟨hi', rfl⟩ := List.getElem?_eq_some_iff.1 ho
        exact List.drop_eq_getElem_cons hi'
      rw [hdrop, chkL_cons] at hchk
      obtain ⟨o1, o2⟩ := o
      simp only at hchk
      have hb1 := below_new wr (.cells #[.int .i64 o1, .int .i64 o2] 114)
      have hB1 := hb.trans (hb1.mono hb.size)
      have HB1 := Lib.hid hB1
      have HKn := Lib.hid (known_any ks vk o1 o2 _ (HK.out.step hB1))
      have HN := Lib.hid (heap_alloc_new wr (.cells #[.int .i64 o1, .int .i64 o2] 114))
      have HO1 := Lib.hid (hown.alloc (.cells #[.int .i64 o1, .int .i64 o2] 114))
      cases hkn : knownB ks (o1, o2) with
      | false =>
        rw [hkn] at HKn
        have hE : chkE ks top c = (2, (i : Int)) := by rw [hchk, hkn]; rfl
        have HNw := Lib.hid (fun w' => new_any 2 (i : Int) (by decide) w')
        have HP := Lib.hid (fun (w' : World) (hb : Below w.heap.size w w') => fault_post hE (by omega) hb)
        clear hE hchk hkn hown hb hdrop ho hsm hb1 hB1
        go_wp2_with fail
        refine HKn.out.mono ?_
        rintro e w4 ⟨rfl, b4⟩
        have HB4 := Lib.hid (HB1.out.trans (b4.mono HB1.out.size))
        clear b4
        go_wp2_with fail
        refine (HNw.out _).mono ?_
        rintro e w5 ⟨rfl, rfl⟩
        go_wp2_with fail
        go_ret
        exact HP.out _ HB4.out
      | true =>
        rw [hkn] at HKn hchk
        simp only [if_true] at hchk
        have hok := known_kind hkn
        have hlr := kindI_range ks o2
        have hTm : m &&& topsW o1 (kindI ks o2) < 16 := Nat.lt_of_le_of_lt Nat.and_le_left (hsm m (by simp))
        have hum : U64 m := by have := hsm m (by simp); unfold U64; omega
        have HTp := Lib.hid (fun w' (hb : Below w.heap.size w w') => tops_any ks vk o1 o2 w' (HK.out.step hb))
        have HAn := Lib.hid (fun w' => and_any m 0 (topsW o1 (kindI ks o2)) 0 hum zero_u64 (topsW_u64 hlr) zero_u64 w')
        have hsm2 : ∀ x ∈ (m &&& topsW o1 (kindI ks o2)) :: rest, x < 16 := fun x hx => by
          rcases List.mem_cons.1 hx with rfl | hx
          · exact hTm
          · exact hsm x (List.mem_cons_of_mem _ hx)
        have HSm := Lib.hid (guessL_small (o := o1) hlr hsm2)
        have HGc := Lib.hid (guessL_cons (o := o1) (lk := kindI ks o2) (m := m &&& topsW o1 (kindI ks o2)) (rest := rest))
        have HGu := Lib.hid (fun (v : Value) (w' : World) (hb : Below w.heap.size w w') (hown : w'.ownsRow w.heap.size 56 2 v (rest.length + 1) (setCells ((m &&& topsW o1 (kindI ks o2)) :: rest).reverse)) => guessed_any ks vk v o1 o2 (m &&& topsW o1 (kindI ks o2)) rest w.heap.size w' (HK.out.step hb) hown hb.size hTm (by omega) (HT.out.below HT.out.lt hb) hok)
        obtain ⟨g, cap, rfl⟩ := ownsRow_succ hown
        have hgl := hown.lt g rfl
        have HGL := Lib.hid hgl
        have HCk := Lib.hid hchk
        clear hown hb hdrop ho hsm hb1 hB1 hkn hlr hsm2 hum hchk
        obtain ⟨lk, hlk⟩ : ∃ lk, kindI ks o2 = lk := ⟨_, rfl⟩
        obtain ⟨tw, htw⟩ : ∃ tw, topsW o1 lk = tw := ⟨_, rfl⟩
        obtain ⟨mm, hmm⟩ : ∃ mm, m &&& tw = mm := ⟨_, rfl⟩
        have hz : (0 : Nat) &&& 0 = 0 := rfl
        simp only [hlk, htw, hmm, hz] at HTp HAn HSm HGc HGu HCk hTm
        clear hlk htw hmm hz
        have e1 : ((rest.length + 1 : Nat) : Int) - 1 = (rest.length : Int) := by omega
        have j0 : (0 : Int) ≤ (rest.length : Int) := by omega
        have j1 : (rest.length : Int) < ((rest.length + 1 : Nat) : Int) := by omega
        have j1' : (rest.length : Int) < (rest.length : Int) + 1 := by omega
        go_wp2_with fail
        refine HKn.out.mono ?_
        rintro e w4 ⟨rfl, b4⟩
        have hB4 := HB1.out.trans (b4.mono HB1.out.size)
        have HO4 := Lib.hid (ownsRow_below_up HO1.out b4)
        have hn4 := (b4.block _ (Array.getElem?_eq_some_iff.1 HN.out).1).trans HN.out
        have HN4 := Lib.hid hn4
        have hq4 : wr.heap.size < w4.heap.size := (Array.getElem?_eq_some_iff.1 hn4).1
        have hg4 : g < wr.heap.size := HGL.out.2
        have k0 : w4.cell? ⟨wr.heap.size, 0, none⟩ = some (.int .i64 o1) := by rw [Lib.cell_of_heap hn4]; rfl
        have k1 : w4.cell? ⟨wr.heap.size, 1, none⟩ = some (.int .i64 o2) := by rw [Lib.cell_of_heap hn4]; rfl
        have hc4 : w4.cell? ⟨g, rest.length * 2, none⟩ = some (.int .u64 (m : Int)) ∧ w4.cell? ⟨g, rest.length * 2 + 1, none⟩ = some (.int .u64 0) := by
          exact may_cells HO4.out
        obtain ⟨c0, c1⟩ := hc4
        have HQ := Lib.hid hq4
        clear b4 hn4 hq4 HKn HO1 HN
        generalize wr.heap.size = q at *
        go_wp2_with fail
        refine region_T (fun w' : World => (w'.cell? ⟨g, rest.length * 2, none⟩ = some (.int .u64 (m : Int)) ∧ w'.cell? ⟨g, rest.length * 2 + 1, none⟩ = some (.int .u64 0)) ∧ w'.cell? ⟨q, 0, none⟩ = some (.int .i64 o1) ∧ w'.cell? ⟨q, 1, none⟩ = some (.int .i64 o2)) 10 (by kernel_rfl) ?_
        have hS0 : (fun w' : World => (w'.cell? ⟨g, rest.length * 2, none⟩ = some (.int .u64 (m : Int)) ∧ w'.cell? ⟨g, rest.length * 2 + 1, none⟩ = some (.int .u64 0)) ∧ w'.cell? ⟨q, 0, none⟩ = some (.int .i64 o1) ∧ w'.cell? ⟨q, 1, none⟩ = some (.int .i64 o2)) w4.drew := ⟨⟨c0, c1⟩, k0, k1⟩
        refine wpT_take (i := 0) (v := .slice (some ⟨g, 0, none⟩) (rest.length + 1) cap) rfl (by kernel_rfl) (by kernel_rfl) (by kernel_rfl) (by kernel_rfl) (by kernel_rfl) (by kernel_rfl) (by kernel_rfl) (by kernel_rfl) (fun _ _ _ h => h) (Or.inl ⟨by rfl, ?_⟩) hS0 ?_
        · rintro w' -
          go_simp
        try simp only [Act.put]
        refine wpT_take (i := 1) (v := .int .i64 (rest.length : Int)) rfl (by kernel_rfl) (by kernel_rfl) (by kernel_rfl) (by kernel_rfl) (by kernel_rfl) (by kernel_rfl) (by kernel_rfl) (by kernel_rfl) (fun _ _ _ h => h) (Or.inl ⟨by rfl, ?_⟩) hS0 ?_
        · rintro w' -
          go_simp
        try simp only [Act.put]
        refine wpT_take (i := 2) (v := .slice (some ⟨g, 0, none⟩) (rest.length + 1) cap) rfl (by kernel_rfl) (by kernel_rfl) (by kernel_rfl) (by kernel_rfl) (by kernel_rfl) (by kernel_rfl) (by kernel_rfl) (by kernel_rfl) (fun _ _ _ h => h) (Or.inl ⟨by rfl, ?_⟩) hS0 ?_
        · rintro w' -
          go_simp
        try simp only [Act.put]
        refine wpT_take (i := 3) (v := .int .i64 (rest.length : Int)) rfl (by kernel_rfl) (by kernel_rfl) (by kernel_rfl) (by kernel_rfl) (by kernel_rfl) (by kernel_rfl) (by kernel_rfl) (by kernel_rfl) (fun _ _ _ h => h) (Or.inl ⟨by rfl, ?_⟩) hS0 ?_
        · rintro w' -
          go_simp
        try simp only [Act.put]
        refine wpT_take (i := 4) (v := .pointer (some ⟨g, rest.length * 2, none⟩)) rfl (by kernel_rfl) (by kernel_rfl) (by kernel_rfl) (by kernel_rfl) (by kernel_rfl) (by kernel_rfl) (by kernel_rfl) (by kernel_rfl) (fun _ _ _ h => h) (Or.inl ⟨by rfl, ?_⟩) hS0 ?_
        · rintro w' -
          go_simp
        try simp only [Act.put]
        refine wpT_take (i := 5) (v := .agg #[.int .u64 (m : Int), .int .u64 0]) rfl (by kernel_rfl) (by kernel_rfl) (by kernel_rfl) (by kernel_rfl) (by kernel_rfl) (by kernel_rfl) (by kernel_rfl) (by kernel_rfl) (fun _ _ _ h => h) (Or.inl ⟨by rfl, ?_⟩) hS0 ?_
        · rintro w' ⟨⟨s0, s1⟩, -⟩
          go_simp
        try simp only [Act.put]
        refine wpT_take (i := 6) (v := vk) rfl (by kernel_rfl) (by kernel_rfl) (by kernel_rfl) (by kernel_rfl) (by kernel_rfl) (by kernel_rfl) (by kernel_rfl) (by kernel_rfl) (fun _ _ _ h => h) (Or.inl ⟨by rfl, ?_⟩) hS0 ?_
        · rintro w' -
          go_simp
        try simp only [Act.put]
        refine wpT_take (i := 7) (v := .agg #[.int .i64 o1, .int .i64 o2]) rfl (by kernel_rfl) (by kernel_rfl) (by kernel_rfl) (by kernel_rfl) (by kernel_rfl) (by kernel_rfl) (by kernel_rfl) (by kernel_rfl) (fun _ _ _ h => h) (Or.inl ⟨by rfl, ?_⟩) hS0 ?_
        · rintro w' ⟨-, s2, s3⟩
          go_simp
        try simp only [Act.put]
        refine wpT_one (i := 8) (by kernel_rfl) rfl ?_
        intro KK hKK
        go_simp
        refine (HTp.out _ hB4.drew).mono ?_
        rintro e w5 ⟨rfl, b5⟩
        have hB5 := hB4.drew.trans (b5.mono hB4.size)
        have hO5 := ownsRow_below_up HO4.out ((Below.refl w4.heap.size w4).drew.trans b5)
        have hn5 := (((Below.refl w4.heap.size w4).drew.trans b5).block _ (Array.getElem?_eq_some_iff.1 HN4.out).1).trans HN4.out
        have hS5 : (fun w' : World => (w'.cell? ⟨g, rest.length * 2, none⟩ = some (.int .u64 (m : Int)) ∧ w'.cell? ⟨g, rest.length * 2 + 1, none⟩ = some (.int .u64 0)) ∧ w'.cell? ⟨q, 0, none⟩ = some (.int .i64 o1) ∧ w'.cell? ⟨q, 1, none⟩ = some (.int .i64 o2)) w5 := ⟨may_cells hO5, by rw [Lib.cell_of_heap hn5]; rfl, by rw [Lib.cell_of_heap hn5]; rfl⟩
        refine hKK _ _ ⟨fun _ => hS5, ?_⟩
        clear hKK hS0
        try simp only [Act.put]
        refine wpT_one (i := 9) (by kernel_rfl) rfl ?_
        intro KK hKK
        go_simp
        refine (HAn.out _).mono ?_
        rintro e w6 ⟨rfl, b6⟩
        have hB6 := hB5.trans (b6.mono hB5.size)
        have hO6 := ownsRow_below_up hO5 b6
        have hn6 := (b6.block _ (Array.getElem?_eq_some_iff.1 hn5).1).trans hn5
        have hS6 : (fun w' : World => (w'.cell? ⟨g, rest.length * 2, none⟩ = some (.int .u64 (m : Int)) ∧ w'.cell? ⟨g, rest.length * 2 + 1, none⟩ = some (.int .u64 0)) ∧ w'.cell? ⟨q, 0, none⟩ = some (.int .i64 o1) ∧ w'.cell? ⟨q, 1, none⟩ = some (.int .i64 o2)) w6 := ⟨may_cells hO6, by rw [Lib.cell_of_heap hn6]; rfl, by rw [Lib.cell_of_heap hn6]; rfl⟩
        refine hKK _ _ ⟨fun _ => hS6, ?_⟩
        clear hKK hS5
        try simp only [Act.put]
        refine wpT_tail 10 2 rfl rfl (by kernel_rfl) (by kernel_rfl) ?_
        obtain ⟨⟨d0, d1⟩, d2, d3⟩ := hS6
        have df0 := hO6.frozenAt (rest.length * 2)
        have df1 := hO6.frozenAt (rest.length * 2 + 1)
        have hO7 : ((w6.setCell ⟨g, rest.length * 2, none⟩ (.int .u64 (mm : Int))).setCell ⟨g, rest.length * 2 + 1, none⟩ (.int .u64 0)).ownsRow w.heap.size 56 2 (.slice (some ⟨g, 0, none⟩) (rest.length + 1) cap) (rest.length + 1) (setCells (mm :: rest).reverse) := by
          have h1 := (hO6.stored (rest.length * 2) (.int .u64 (mm : Int))).1
          have h2 := (h1.stored (rest.length * 2 + 1) (.int .u64 0)).1
          have hl : (setCells rest.reverse).length = rest.length * 2 := by rw [setCells_length]; simp
          have e : ((setCells (m :: rest).reverse).set (rest.length * 2) (.int .u64 (mm : Int))).set (rest.length * 2 + 1) (.int .u64 0) = setCells (mm :: rest).reverse := by
            rw [setCells_rev, setCells_rev, List.set_append_right _ _ (by omega), hl, Nat.sub_self, List.set_append_right _ _ (by omega), hl, show rest.length * 2 + 1 - rest.length * 2 = 1 by omega]
            rfl
          rwa [e] at h2
        have hB7 := (hB6.setCell (p := ⟨g, rest.length * 2, none⟩) HGL.out.1 (.int .u64 (mm : Int))).setCell (p := ⟨g, rest.length * 2 + 1, none⟩) HGL.out.1 (.int .u64 0)
        have hgq : g ≠ q := by omega
        have hn7 : ((w6.setCell ⟨g, rest.length * 2, none⟩ (.int .u64 (mm : Int))).setCell ⟨g, rest.length * 2 + 1, none⟩ (.int .u64 0)).heap[q]? = some (.cells #[.int .i64 o1, .int .i64 o2] 114 (0, 0)) :=
          ((heap_setCell_other _ _ _ _ (by show q ≠ g; omega)).trans (heap_setCell_other _ _ _ _ (by show q ≠ g; omega))).trans hn6
        have HO7 := Lib.hid hO7
        have HB7 := Lib.hid hB7
        have HN7 := Lib.hid hn7
        clear hO7 hB7 hn7 hn6 hO6 hB6 b6 hn5 hO5 hB5 b5 hB4 HO4 HN4 HQ
        go_wp2_with fail
        generalize (w6.setCell ⟨g, rest.length * 2, none⟩ (.int .u64 (mm : Int))).setCell ⟨g, rest.length * 2 + 1, none⟩ (.int .u64 0) = w7 at *
        have HEm := Lib.hid (empty_any mm 0 w7)
        by_cases hz : mm = 0
        · have hE : chkE ks top c = (9, (i : Int)) := by rw [HCk.out, if_pos hz]
          have hem : emptyB mm 0 = true := by unfold emptyB; simp [hz]
          rw [hem] at HEm
          have HNw := Lib.hid (fun w' => new_any 9 (i : Int) (by decide) w')
          have HP := Lib.hid (fun (w' : World) (hb : Below w.heap.size w w') => fault_post hE (by omega) hb)
          clear hE hem hz HGu HGc HSm
          refine HEm.out.mono ?_
          rintro e w8 ⟨rfl, b8⟩
          have HB8 := Lib.hid (HB7.out.trans (b8.mono HB7.out.size))
          clear b8
          go_wp2_with fail
          refine (HNw.out _).mono ?_
          rintro e w9 ⟨rfl, rfl⟩
          go_wp2_with fail
          go_ret
          exact HP.out _ HB8.out
        · have hem : emptyB mm 0 = false := by unfold emptyB; simp [hz]
          rw [hem] at HEm
          have HCn : Hid (chkE ks top c = chkL ks (c.drop (i + 1)) (i + 1) (guessL o1 lk (mm :: rest))) := Lib.hid (by rw [HCk.out, if_neg hz])
          clear hem hz
          refine HEm.out.mono ?_
          rintro e w8 ⟨rfl, b8⟩
          have HB8 := Lib.hid (HB7.out.trans (b8.mono HB7.out.size))
          have HO8 := Lib.hid (ownsRow_below_up HO7.out b8)
          have hn8 := (b8.block _ (Array.getElem?_eq_some_iff.1 HN7.out).1).trans HN7.out
          have r0 : w8.cell? ⟨q, 0, none⟩ = some (.int .i64 o1) := by rw [Lib.cell_of_heap hn8]; rfl
          have r1 : w8.cell? ⟨q, 1, none⟩ = some (.int .i64 o2) := by rw [Lib.cell_of_heap hn8]; rfl
          clear b8 hn8
          go_wp2_with fail
          refine (HGu.out _ _ HB8.out HO8.out).mono ?_
          rintro e w9 ⟨v9, rfl, hown9, b9⟩
          have HR9 : Hid (CR ks top c w (c.length - (i + 1)) (.int .i64 ((i : Int) + 1)) v9 w9) := Lib.hid (by
            obtain ⟨m', r', hg, hrl'⟩ := HGc.out
            have hs9 := HSm.out
            have hc9 := HCn.out
            rw [hg] at hown9 hs9 hc9
            exact ⟨i + 1, m', r', by omega, rfl, by go_num, hs9, hc9, by omega, hown9, HB8.out.trans b9⟩)
          clear hown9 b9
          go_wp2_with fail
          go_roundg (c.length - (i + 1))
          case measure => omega
          case rel => exact HR9.out
    · obtain rfl : i = c.length := by omega
      have hE : chkE ks top c = (0, 0) := by rw [hchk, List.drop_length]; rfl
      have HE2 := Lib.hid hE
      clear hE hchk hown hb hsm
      go_wp2_with fail
      go_ret
      exact ⟨_, rfl, fun _ => ⟨rfl, by rw [HE2.out]⟩, fun h => absurd (by rw [HE2.out]) h, HB.out⟩
/-- What Check answers. -/
def CheckPost (ks : List Int) (top : Int) (c : List (Int × Int)) (w : World) (e : Ending) (w' : World) : Prop :=
  ∃ v, e = .returned v ∧ ((chkE ks top c).1 = 0 → v = .nilIface ∧ (chkE ks top c).2 = 0) ∧ ((chkE ks top c).1 ≠ 0 → ∃ b, ChainAt w' (.fault b (chkE ks top c).1 (chkE ks top c).2) [] v) ∧ Below w.heap.size w w'
theorem opCheck_any (ks : List Int) (top : Int) (c : List (Int × Int)) (vk vc : Value) (w : World) (hk : IntsAt w vk ks) (hc : OpsAt w vc c) (ht : TabB w) :
    Calls Tryz.prog 60 #[vk, .int .i64 top, vc] w (CheckPost ks top c w) :=
  (opCheck_new ks top c vk vc w hk hc ht).mono fun _ _ ⟨v, h0, h1, h2, h3⟩ => ⟨v, h0, h1, fun h => by obtain ⟨b, -, hb⟩ := h2 h; exact ⟨b, hb⟩, h3⟩
end Go.Proofs.YtlcpbfklnjlgnaaGreatDoor

namespace Go.Proofs.YtlcpbfklnjlgnaaGreatDoor
open Go.RowKit Go.Extern.Stop Go.Stop Go.Extern

theorem Awake9_any (w : World) (ht : TabB w) : Calls Tryz.prog 57 #[] w fun e w' => e = .returned (.bool true) ∧ Below w.heap.size w w' := by
  have HA := Lib.hid (awake9_any w ht)
  clear ht
  go_enter Tryz.func57, Tryz.ntmps57
  go_wp2_with fail
  refine HA.out.mono ?_
  rintro e w' ⟨rfl, hb⟩
  go_wp2_with fail
  go_ret
  exact ⟨rfl, hb⟩
/-- What a body keeps: a list of kinds, the library's table, the handle, old memory. -/
structure KW (w : World) (ks : List Int) (vk : Value) (W : World) : Prop where
  ints : IntsAt W vk ks
  tab : TabB W
  han : Handle W
  below : Below w.heap.size w W
theorem KW.step {w : World} {ks : List Int} {vk : Value} {W W' : World} (h : KW w ks vk W) (hb : Below W.heap.size W W') : KW w ks vk W' :=
  ⟨h.ints.step hb, h.tab.below h.tab.lt hb, h.han.below hb, h.below.trans (hb.mono h.below.size)⟩
theorem ops_lit (w : World) (o l : Int) : OpsAt (w.alloc (.cells #[.int .i64 o, .int .i64 l] 114)) (.slice (some ⟨w.heap.size, 0, none⟩) 1 1) [(o, l)] := by
  refine .inr ⟨w.heap.size, 0, 1, rfl, by simp, fun i x hi => ?_⟩
  rw [Lib.cell_of_heap (heap_alloc_new w _), Lib.cell_of_heap (heap_alloc_new w _)]
  rcases i with _ | i
  · obtain rfl : (o, l) = x := by simpa using hi
    exact ⟨rfl, rfl⟩
  · simp at hi
theorem do_ex : doO [1, 2, 3] [0] [(3, 1)] = some [1, 0] := by decide
theorem chk_ex : chkE [1, 2, 3] 0 [(1, 0)] = (9, 0) := by decide
set_option maxRecDepth 100000 in
set_option maxHeartbeats 4000000 in
theorem awake10_any (w : World) (ht : TabB w) (hg : Handle w) : Calls Tryz.prog 35 #[] w fun e w' => e = .returned (.bool true) ∧ Below w.heap.size w w' := by
  have hb1 := below_new w (.cells #[.int .i64 1, .int .i64 2, .int .i64 3] 3)
  have hK1 : KW w [1, 2, 3] (.slice (some ⟨w.heap.size, 0, none⟩) 3 3) (w.alloc (.cells #[.int .i64 1, .int .i64 2, .int .i64 3] 3)) := ⟨ints3 w 1 2 3, ht.below ht.lt hb1, hg.below hb1, hb1⟩
  have hb2 := below_new (w.alloc (.cells #[.int .i64 1, .int .i64 2, .int .i64 3] 3)) (.cells #[.int .i64 0] 3)
  have hi2 := ints_new (w.alloc (.cells #[.int .i64 1, .int .i64 2, .int .i64 3] 3)) 0
  have hK2 := hK1.step hb2
  have hb3 := below_new ((w.alloc (.cells #[.int .i64 1, .int .i64 2, .int .i64 3] 3)).alloc (.cells #[.int .i64 0] 3)) (.cells #[.int .i64 3, .int .i64 1] 114)
  have ho3 := ops_lit ((w.alloc (.cells #[.int .i64 1, .int .i64 2, .int .i64 3] 3)).alloc (.cells #[.int .i64 0] 3)) 3 1
  have hK3 := hK2.step hb3
  have hD := opDo_any [1, 2, 3] [0] [(3, 1)] _ _ _ _ hK3.ints (hi2.step hb3) ho3 (by simp) (by simp)
  unfold DoPost at hD
  rw [do_ex] at hD
  simp only [World.size_alloc] at hD
  have HD := Lib.hid hD
  have HK := Lib.hid hK3
  clear hb1 hK1 hb2 hi2 hK2 hb3 ho3 hK3 hD ht hg
  go_enter Tryz.func35, Tryz.ntmps35
  go_wp2_with fail
  refine HD.out.mono ?_
  rintro e w4 ⟨u, rfl, hu, -, b4⟩
  have hI4 : IntsAt w4 u [1, 0] := IntsAt.own (hu _ rfl) rfl
  have HI4 := Lib.hid hI4
  have b4' : Below (((w.alloc (.cells #[.int .i64 1, .int .i64 2, .int .i64 3] 3)).alloc (.cells #[.int .i64 0] 3)).alloc (.cells #[.int .i64 3, .int .i64 1] 114)).heap.size (((w.alloc (.cells #[.int .i64 1, .int .i64 2, .int .i64 3] 3)).alloc (.cells #[.int .i64 0] 3)).alloc (.cells #[.int .i64 3, .int .i64 1] 114)) w4 := by simpa [World.size_alloc] using b4
  have HK4 := Lib.hid (HK.out.step b4')
  clear b4 b4' hu hI4 HD HK
  go_wp2_with fail
  refine (Awake1_any _ HK4.out.han).mono ?_
  rintro e w5 ⟨rfl, b5⟩
  have HI5 := Lib.hid (HI4.out.step b5)
  have HK5 := Lib.hid (HK4.out.step b5)
  clear b5
  go_wp2_with fail
  refine (Awake9_any _ HK5.out.tab).mono ?_
  rintro e w6 ⟨rfl, b6⟩
  have HI6 := Lib.hid (HI5.out.step b6)
  have HK6 := Lib.hid (HK5.out.step b6)
  clear b6
  have hb7 := below_new w6 (.cells #[.int .i64 1, .int .i64 0] 3)
  have HEq := Lib.hid (equalI_same [1, 0] u _ _ (HI6.out.step hb7) (ints2 w6 1 0) (by simp))
  have HK7 := Lib.hid (HK6.out.step hb7)
  clear hb7
  go_wp2_with fail
  refine HEq.out.mono ?_
  rintro e w8 ⟨rfl, b8⟩
  have hK8 := HK7.out.step b8
  have hb9 := below_new w8 (.cells #[.int .i64 1, .int .i64 0] 114)
  have hK9 := hK8.step hb9
  have hC := opCheck_any [1, 2, 3] 0 [(1, 0)] _ _ _ hK9.ints (ops_lit w8 1 0) hK9.tab
  unfold CheckPost at hC
  rw [chk_ex] at hC
  have HC := Lib.hid hC
  have HK9 := Lib.hid hK9
  clear b8 hK8 hb9 hK9 hC HEq
  go_wp2_with fail
  refine HC.out.mono ?_
  rintro e w10 ⟨v, rfl, -, hv, b10⟩
  obtain ⟨fb, hch⟩ := hv (by decide)
  have HK10 := Lib.hid (HK9.out.step b10)
  have HIs := Lib.hid (lawIs_fault fb 9 0 (by decide) v _ hch HK10.out.han)
  obtain ⟨T, V, rfl⟩ := ChainAt.iface hch
  clear b10 hv hch
  go_wp2_with fail
  refine HIs.out.mono ?_
  rintro e w11 ⟨rfl, b11⟩
  have HK11 := Lib.hid (HK10.out.step b11)
  clear b11
  go_wp2_with fail
  go_ret
  exact ⟨rfl, HK11.out.below⟩

def lightB (ks h : List Int) (c : List (Int × Int)) : Bool := decide (ks.length ≤ 100) && (decide (h.length ≤ 40) && decide (c.length ≤ 20))
end Go.Proofs.YtlcpbfklnjlgnaaGreatDoor
