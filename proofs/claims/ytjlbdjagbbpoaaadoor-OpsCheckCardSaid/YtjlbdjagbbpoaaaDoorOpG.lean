/-
  Package ops by contracts, fifth part: whether an op is known; what may stand under a label of some kinds.
-/
import Derived.Test.YtjlbdjagbbpoaaaDoorOpF
namespace Go.Proofs.YtjlbdjagbbpoaaaDoor
open Go.RowKit Go.Extern.Stop Go.Stop Go.Extern Go.Shelf
attribute [local go_sem] Oper.semAt_some

set_option maxHeartbeats 1000000 in
theorem known_any (ks : List Int) (vk : Value) (o l : Int) (w : World) (hk : IntsAt w vk ks) :
    Calls Tryd.prog 56 #[vk, .agg #[.int .i64 o, .int .i64 l]] w fun e w' => e = .returned (.bool (knownB ks (o, l))) ∧ Below w.heap.size w w' := by
  have hB := below_new w (.cells #[.int .i64 o, .int .i64 l] 60)
  obtain ⟨k, hkv⟩ : ∃ k, KV ks l k := ⟨_, rfl⟩
  have HK := Lib.hid (kind_kv ks vk l k _ (hk.step hB) hkv)
  have HB := Lib.hid hB
  have e1 : o = 1 → knownB ks (o, l) = true := fun h => by unfold knownB; rw [if_pos h]
  have e2 : (o = 2 ∨ o = 3) → knownB ks (o, l) = decide (k ≠ 0) := fun h => by
    unfold knownB
    simp only
    rw [if_neg (by omega), if_pos h, show kindI ks l = k from hkv]
  have e3 : o ≠ 1 → o ≠ 2 → o ≠ 3 → knownB ks (o, l) = false := fun h1 h2 h3 => by
    unfold knownB
    simp only
    rw [if_neg h1, if_neg (by omega)]
  have hq : (k != 0) = decide (k ≠ 0) := by by_cases h : k = 0 <;> simp [h]
  clear hk hkv hB
  by_cases h1 : o = 1
  · rw [e1 h1]
    subst h1
    clear e1 e2 e3
    go_enter Tryd.func56, Tryd.ntmps56
    go_wp2_with fail
    go_ret
    exact ⟨rfl, HB.out⟩
  by_cases h2 : o = 2
  · rw [e2 (.inl h2)]
    subst h2
    clear e1 e2 e3
    go_enter Tryd.func56, Tryd.ntmps56
    go_wp2_with fail
    refine HK.out.mono ?_
    rintro e w2 ⟨rfl, rfl⟩
    go_wp2_with fail
    go_ret
    exact ⟨by rw [← hq]; rfl, HB.out⟩
  by_cases h3 : o = 3
  · rw [e2 (.inr h3)]
    subst h3
    clear e1 e2 e3
    go_enter Tryd.func56, Tryd.ntmps56
    go_wp2_with fail
    refine HK.out.mono ?_
    rintro e w2 ⟨rfl, rfl⟩
    go_wp2_with fail
    go_ret
    exact ⟨by rw [← hq]; rfl, HB.out⟩
  rw [e3 h1 h2 h3]
  have q1 : (o == 1) = false := by simpa using h1
  have q2 : (o == 2) = false := by simpa using h2
  have q3 : (o == 3) = false := by simpa using h3
  clear e1 e2 e3 h1 h2 h3
  go_enter Tryd.func56, Tryd.ntmps56
  go_wp2_with fail
  go_ret
  exact ⟨rfl, HB.out⟩

/-- What stands under labels of some kinds, one by one. -/
def foldU (l : List Nat) : Nat := l.foldl (fun (s k : Nat) => s ||| belowW (k : Int)) 0
theorem foldU_snoc (l : List Nat) (k : Nat) : foldU (l ++ [k]) = foldU l ||| belowW (k : Int) := by unfold foldU; rw [List.foldl_append]; rfl
set_option maxRecDepth 100000 in
theorem foldU_under : ∀ a < 16, foldU (setL a 0) = underW a := by decide
theorem foldU_u64 : ∀ l : List Nat, U64 (foldU l) := fun l => by
  suffices h : ∀ (l : List Nat) (s : Nat), s < 16 → l.foldl (fun (s k : Nat) => s ||| belowW (k : Int)) s < 16 by
    have := h l 0 (by omega)
    unfold foldU U64
    omega
  intro l
  induction l with
  | nil => exact fun s h => h
  | cons k l ih =>
    intro s h
    refine ih _ (Nat.or_lt_two_pow (n := 4) h ?_)
    unfold belowW
    split
    · omega
    · split <;> omega
/-- What the loop's own cells hold. -/
def UI (B : Nat) (x : Nat) (W : World) : Prop :=
  (W.cell? ⟨B + 1, 0, none⟩ = some (.int .u64 0) ∧ W.frozen? ⟨B + 1, 0, none⟩ = false) ∧ (W.cell? ⟨B + 1, 1, none⟩ = some (.int .u64 0) ∧ W.frozen? ⟨B + 1, 1, none⟩ = false) ∧
    (W.cell? ⟨B + 2, 0, none⟩ = some (.int .u64 (x : Int)) ∧ W.frozen? ⟨B + 2, 0, none⟩ = false) ∧ (W.cell? ⟨B + 2, 1, none⟩ = some (.int .u64 0) ∧ W.frozen? ⟨B + 2, 1, none⟩ = false)
theorem UI.kept {B x : Nat} {W W' : World} {row : Option Nat} (h : UI B x W) (hg : W.grownBy W' row) (hr : ∀ r, row = some r → ∃ o : Obj, W.heap[r]? = some o ∧ o.isCells = false) : UI B x W' := by
  obtain ⟨⟨c0, f0⟩, ⟨c1, f1⟩, ⟨c2, f2⟩, ⟨c3, f3⟩⟩ := h
  exact ⟨⟨cell_kept c0 hg hr, (frozen_kept c0 hg hr).trans f0⟩, ⟨cell_kept c1 hg hr, (frozen_kept c1 hg hr).trans f1⟩, ⟨cell_kept c2 hg hr, (frozen_kept c2 hg hr).trans f2⟩, ⟨cell_kept c3 hg hr, (frozen_kept c3 hg hr).trans f3⟩⟩
theorem UI.step {B x : Nat} {W W' : World} (h : UI B x W) (hb : Below W.heap.size W W') : UI B x W' :=
  h.kept (row := none) ⟨hb.os, hb.tape, hb.output, hb.size, fun k hk _ => hb.block k hk⟩ (fun _ e => by cases e)
theorem ufar {W : World} {q i r j : Nat} {v u : Value} (h : W.cell? ⟨q, i, none⟩ = some v) (hq : q ≠ r) : (W.setCell ⟨r, j, none⟩ u).cell? ⟨q, i, none⟩ = some v :=
  (World.cell?_of_block (w := W) (a := ⟨q, i, none⟩) (heap_setCell_other _ _ _ _ hq)).trans h
theorem ukeeps {W W' : World} (hb : Below W.heap.size W W') : KeepsOthers W W' := ⟨hb.size, fun k _ h _ => (hb.block k (Array.getElem?_eq_some_iff.1 h).1).trans h⟩
theorem ult {W : World} {b o : Nat} {v : Value} (h : W.cell? ⟨b, o, none⟩ = some v) : b < W.heap.size := World.block_lt_of_cell? W _ h
theorem UI.next {B x : Nat} {W : World} (h : UI B x W) (y : Nat) : UI B y ((W.setCell ⟨B + 2, 0, none⟩ (.int .u64 (y : Int))).setCell ⟨B + 2, 1, none⟩ (.int .u64 0)) := by
  obtain ⟨⟨c0, f0⟩, ⟨c1, f1⟩, ⟨c2, f2⟩, ⟨c3, f3⟩⟩ := h
  have ne : ∀ i j : Nat, i ≠ j → (⟨B + 2, i, none⟩ : Addr) ≠ ⟨B + 2, j, none⟩ := fun i j h e => h (by injection e)
  refine ⟨⟨ufar (ufar c0 (by omega)) (by omega), ?_⟩, ⟨ufar (ufar c1 (by omega)) (by omega), ?_⟩, ⟨?_, ?_⟩, ⟨?_, ?_⟩⟩
  · rw [World.frozen?_setCell, World.frozen?_setCell]; exact f0
  · rw [World.frozen?_setCell, World.frozen?_setCell]; exact f1
  · rw [World.cell?_setCell_other _ _ _ _ (ne 1 0 (by decide))]; exact World.cell?_setCell_same _ _ _ c2
  · rw [World.frozen?_setCell, World.frozen?_setCell]; exact f2
  · exact World.cell?_setCell_same _ _ _ ((World.cell?_setCell_other _ _ _ _ (ne 0 1 (by decide))).trans c3)
  · rw [World.frozen?_setCell, World.frozen?_setCell]; exact f3

set_option maxRecDepth 100000 in
set_option maxHeartbeats 4000000 in
theorem under_any (a : Nat) (ha : a < 16) (w : World) (ht : TabB w) :
    Calls Tryd.prog 64 #[setV a 0] w fun e w' => e = .returned (setV (underW a) 0) ∧ Below w.heap.size w w' := by
  have ua : U64 a := by unfold U64; omega
  refine (callsIn_wide (n := 3)).1 ?_
  have h1 : 1 ≤ 3 := by omega
  refine callsIn_of_wp_marks Tryd.func64 rfl trivial ?_ rfl
  simp only [Tryd.ntmps64, List.size_toArray, List.length_cons, List.length_nil, Nat.reduceAdd, Nat.reduceSub, Array.replicate_succ, Array.replicate_zero, List.push_toArray, List.append_toArray, List.nil_append, List.cons_append]
  gi_wp2_with (refine ⟨trivial, ?_⟩; gi_at_call 72; refine (callsIn_wide.2 (all_any a 0 _)).mono ?_; rintro e w' ⟨rfl, rfl⟩)
  have hB0 : Below w.heap.size w ((((w.alloc (.cells #[.int .u64 (a : Int), .int .u64 0] 34)).alloc (.cells #[.int .u64 0, .int .u64 0] 34)).alloc (.cells #[.int .u64 0, .int .u64 0] 34)).alloc (.cells #[.int .u64 (a : Int), .int .u64 0] 34)) :=
    ((((Below.refl _ w).alloc (Nat.le_refl _) _).alloc (by simp) _).alloc (by simp; omega) _).alloc (by simp; omega) _
  have hA0 : SetAt ((((w.alloc (.cells #[.int .u64 (a : Int), .int .u64 0] 34)).alloc (.cells #[.int .u64 0, .int .u64 0] 34)).alloc (.cells #[.int .u64 0, .int .u64 0] 34)).alloc (.cells #[.int .u64 (a : Int), .int .u64 0] 34)) (w.heap.size + 1 + 1 + 1) a 0 := by
    have := heap_alloc_new (((w.alloc (.cells #[.int .u64 (a : Int), .int .u64 0] 34)).alloc (.cells #[.int .u64 0, .int .u64 0] 34)).alloc (.cells #[.int .u64 0, .int .u64 0] 34)) (.cells #[.int .u64 (a : Int), .int .u64 0] 34)
    rwa [World.size_alloc, World.size_alloc, World.size_alloc] at this
  have hR0 : ((((w.alloc (.cells #[.int .u64 (a : Int), .int .u64 0] 34)).alloc (.cells #[.int .u64 0, .int .u64 0] 34)).alloc (.cells #[.int .u64 0, .int .u64 0] 34)).alloc (.cells #[.int .u64 (a : Int), .int .u64 0] 34)).heap[w.heap.size + 1]? = some (.cells #[.int .u64 0, .int .u64 0] 34 (0, 0)) := by
    have := heap_alloc_new (w.alloc (.cells #[.int .u64 (a : Int), .int .u64 0] 34)) (.cells #[.int .u64 0, .int .u64 0] 34)
    rw [World.size_alloc] at this
    exact ((heap_alloc_old _ _ (by simp)).trans (heap_alloc_old _ _ (by simp))).trans this
  have hS0 : ((((w.alloc (.cells #[.int .u64 (a : Int), .int .u64 0] 34)).alloc (.cells #[.int .u64 0, .int .u64 0] 34)).alloc (.cells #[.int .u64 0, .int .u64 0] 34)).alloc (.cells #[.int .u64 (a : Int), .int .u64 0] 34)).heap[w.heap.size + 2]? = some (.cells #[.int .u64 0, .int .u64 0] 34 (0, 0)) := by
    have := heap_alloc_new ((w.alloc (.cells #[.int .u64 (a : Int), .int .u64 0] 34)).alloc (.cells #[.int .u64 0, .int .u64 0] 34)) (.cells #[.int .u64 0, .int .u64 0] 34)
    rw [World.size_alloc, World.size_alloc] at this
    exact (heap_alloc_old _ _ (by simp)).trans this
  have hT0 := ht.below ht.lt hB0
  have hI0 : UI w.heap.size 0 ((((w.alloc (.cells #[.int .u64 (a : Int), .int .u64 0] 34)).alloc (.cells #[.int .u64 0, .int .u64 0] 34)).alloc (.cells #[.int .u64 0, .int .u64 0] 34)).alloc (.cells #[.int .u64 (a : Int), .int .u64 0] 34)) := by
    refine ⟨⟨by rw [Lib.cell_of_heap hR0]; rfl, by unfold World.frozen?; rw [hR0]; simp⟩, ⟨by rw [Lib.cell_of_heap hR0]; rfl, by unfold World.frozen?; rw [hR0]; simp⟩, ⟨by rw [Lib.cell_of_heap hS0]; rfl, by unfold World.frozen?; rw [hS0]; simp⟩, ⟨by rw [Lib.cell_of_heap hS0]; rfl, by unfold World.frozen?; rw [hS0]; simp⟩⟩
  refine wpIn_rangeFunc_ownF rfl h1 (gf := 76) (lb := #[.pointer (some ⟨w.heap.size + 1 + 1 + 1, 0, none⟩)]) rfl trivial (enters_of Tryd.func76 (by kernel_rfl) rfl)
    (all1_stops 2 (by omega) (w.heap.size + 1 + 1 + 1) w.heap.size a 0 ua zero_u64 _ hA0 hT0 ht.lt) belowK_t (belowK_b (by simp; omega)) (Below.refl _ _) (fun _ => rfl)
    (fun pre W => UI w.heap.size (foldU (pre.map (·.1))) W ∧ Below w.heap.size w W)
    (fun _ _ _ => False)
    (OwnFrom.and (Own.from (fun s A B row hs hg hr => hs.kept hg hr) _) (ownFrom_below (Nat.le_refl _) (by simp; omega)))
    (fun _ _ _ _ _ hs _ _ => hs)
    ⟨hI0, hB0⟩
    (fun x => { tmps := #[setV a 0, .pointer (some ⟨w.heap.size, 0, none⟩), .pointer (some ⟨w.heap.size + 1, 0, none⟩), .pointer (some ⟨w.heap.size + 1 + 1, 0, none⟩), .int .i64 ((x.1 : Nat) : Int), .agg #[.int .u64 (a : Int), .int .u64 0], .func (.func 76) #[] #[.pointer (some ⟨w.heap.size + 1 + 1 + 1, 0, none⟩)], .int .i64 ((x.1 : Nat) : Int), undef, undef, undef, undef, undef], defers := [] }) ?assign ?body ?done ?stop
  case assign =>
    intro l x W K hK
    gi_wp2
    exact hK
  case body =>
    rintro l pre x W ⟨hI, hB⟩ _
    have HI := Lib.hid hI
    have HBB := Lib.hid hB
    have HF : Hid (foldU ((pre ++ [x]).map (·.1)) = foldU (pre.map (·.1)) ||| belowW ((x.1 : Nat) : Int)) := Lib.hid (by rw [List.map_append, List.map_cons, List.map_nil, foldU_snoc])
    have uf := foldU_u64 (pre.map (·.1))
    generalize foldU (pre.map (·.1)) = y at *
    have HE := Lib.hid (fun w' => below_any ((x.1 : Nat) : Int) w')
    have HO := Lib.hid (fun w' => or_any y 0 (belowW ((x.1 : Nat) : Int)) 0 uf zero_u64 (belowW_u64 _) zero_u64 w')
    generalize belowW ((x.1 : Nat) : Int) = z at *
    obtain ⟨⟨c0, f0⟩, ⟨c1, f1⟩, ⟨c2, f2⟩, ⟨c3, f3⟩⟩ := hI
    have hmx : Tryd.prog.follows .mixedOrders = true := by kernel_rfl
    gi_wp2
    gi_region_with_o (first
      | (refine ⟨trivial, ?_⟩; gi_at_call 20; refine (CallsIn.inRound l (callsIn_wide.2 (HE.out _))).mono ?_; rintro e w3 ⟨rfl, b3⟩; have m2 := (b3.cell (p := ⟨w.heap.size + 2, 0, none⟩) (ult c2)).trans c2; have m3 := (b3.cell (p := ⟨w.heap.size + 2, 1, none⟩) (ult c3)).trans c3)
      | (refine ⟨trivial, ?_⟩; gi_at_call 66; refine (CallsIn.inRound l (callsIn_wide.2 (HO.out _))).mono ?_; rintro e w4 ⟨rfl, b4⟩; have b34 : Below W.heap.size W w4 := ((Below.refl W.heap.size W).drew.trans b3).trans (b4.mono b3.size); have n2 := (b34.cell (p := ⟨w.heap.size + 2, 0, none⟩) (ult c2)).trans c2; have n3 := (b34.cell (p := ⟨w.heap.size + 2, 1, none⟩) (ult c3)).trans c3; have g2 := (b34.frozen (p := ⟨w.heap.size + 2, 0, none⟩) (ult c2)).trans f2; have g3 := (b34.frozen (p := ⟨w.heap.size + 2, 1, none⟩) (ult c3)).trans f3))
    all_goals gi_wp2
    all_goals exact ⟨((ukeeps b34).trans (KeepsOthers.setCell _ _ _)).trans (KeepsOthers.setCell _ _ _), ((b34.mono HBB.out.size).setCell (p := ⟨w.heap.size + 2, 0, none⟩) (by show _ ≤ w.heap.size + 2; omega) _).setCell (p := ⟨w.heap.size + 2, 1, none⟩) (by show _ ≤ w.heap.size + 2; omega) _, by rw [HF.out]; exact (HI.out.step b34).next _, ((HBB.out.trans (b34.mono HBB.out.size)).setCell (p := ⟨w.heap.size + 2, 0, none⟩) (by show _ ≤ w.heap.size + 2; omega) _).setCell (p := ⟨w.heap.size + 2, 1, none⟩) (by show _ ≤ w.heap.size + 2; omega) _⟩
  case done =>
    rintro D xs W hD hxs ⟨hI, hB⟩ hK
    have hU : foldU (xs.map (·.1)) = underW a := by rw [hxs, listN_val, foldU_under a ha]
    obtain ⟨u, hu⟩ : ∃ u, underW a = u := ⟨_, rfl⟩
    rw [hU, hu] at hI
    obtain ⟨⟨c0, f0⟩, ⟨c1, f1⟩, ⟨c2, f2⟩, ⟨c3, f3⟩⟩ := hI
    clear hxs hU
    gi_wp2
    have hK' := ((KeepsOthers.setCell W ⟨w.heap.size + 1, 0, none⟩ (.int .u64 (u : Int))).trans (KeepsOthers.setCell _ ⟨w.heap.size + 1, 1, none⟩ (.int .u64 0))).same D _ hK rfl
    refine ⟨by simp, .inl ⟨_, _, rfl, run_takeDeferred hK', ?_⟩⟩
    have ne : ∀ i j : Nat, i ≠ j → (⟨w.heap.size + 1, i, none⟩ : Addr) ≠ ⟨w.heap.size + 1, j, none⟩ := fun i j h e => h (by injection e)
    have d0 : ((W.setCell ⟨w.heap.size + 1, 0, none⟩ (.int .u64 (u : Int))).setCell ⟨w.heap.size + 1, 1, none⟩ (.int .u64 0)).cell? ⟨w.heap.size + 1, 0, none⟩ = some (.int .u64 (u : Int)) := by
      rw [World.cell?_setCell_other _ _ _ _ (ne 1 0 (by decide))]; exact World.cell?_setCell_same _ _ _ c0
    have d1 : ((W.setCell ⟨w.heap.size + 1, 0, none⟩ (.int .u64 (u : Int))).setCell ⟨w.heap.size + 1, 1, none⟩ (.int .u64 0)).cell? ⟨w.heap.size + 1, 1, none⟩ = some (.int .u64 0) :=
      World.cell?_setCell_same _ _ _ ((World.cell?_setCell_other _ _ _ _ (ne 0 1 (by decide))).trans c1)
    have hc0 := cell_kept d0 (grownBy_putObj' _ D (.deferred none)) (fun r e => by cases e; exact ⟨_, hK', rfl⟩)
    have hc1 := cell_kept d1 (grownBy_putObj' _ D (.deferred none)) (fun r e => by cases e; exact ⟨_, hK', rfl⟩)
    refine ⟨setV u 0, ?_, by rw [hu], ((hB.setCell (p := ⟨w.heap.size + 1, 0, none⟩) (Nat.le_succ _) _).setCell (p := ⟨w.heap.size + 1, 1, none⟩) (Nat.le_succ _) _).trans (belowK_b (w := w) (Nat.le_refl _) _ D _ _ (by simp at hD; omega) hK' rfl rfl)⟩
    simp [results, Tryd.f64, go_sem, hc0, hc1]
  case stop =>
    rintro D c pre W _ _ h _
    exact h.elim
end Go.Proofs.YtjlbdjagbbpoaaaDoor
