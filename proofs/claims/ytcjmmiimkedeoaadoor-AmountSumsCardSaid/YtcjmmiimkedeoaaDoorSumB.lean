/-
  slices.Grow of the nil slice, slices.Concat of two cuts, slices.Reverse: by contracts, as far as a sum asks.
-/
import Derived.Test.YtcjmmiimkedeoaaDoorSumA
namespace Go.Proofs.YtcjmmiimkedeoaaDoor
open Go.RowKit

theorem infoU64 : (Tryd.prog.info? 57).map (fun i => (i.zero, i.size, i.bytes)) = some (some (.int .u64 0), 1, 8) := by kernel_rfl

set_option maxHeartbeats 400000 in
theorem grow_zero (w : World) : Calls Tryd.prog 61 #[.slice none 0 0, .int .i64 0] w fun e w' => e = .returned (.slice none 0 0) ∧ w' = w := by
  go_enter Tryd.func61, Tryd.ntmps61
  go_wp2
  go_ret
  exact ⟨rfl, rfl⟩

set_option maxRecDepth 100000 in
set_option maxHeartbeats 1600000 in
theorem grow_some (n : Nat) (h0 : 0 < n) (hn : n ≤ 1000) (w : World) : Calls Tryd.prog 61 #[.slice none 0 0, .int .i64 n] w fun e w' =>
    ∃ sl, e = .returned sl ∧ w'.ownsRow w.heap.size 57 1 sl 0 [] ∧ Below w.heap.size w w' := by
  obtain ⟨i0, hi, hz0, hz1, hz2⟩ := info_parts infoU64
  have hrz : ∀ ty, (Builtin.append_ #[58, 3] ty #[.slice none 0 0, .int .i64 (n : Int)]).run Tryd.prog w =
      .ok (.slice (some ⟨w.heap.size, 0, none⟩) (0 + n) (grownCap w (0 + n) 0 57)) (w.drew.alloc (.cells (([] : List Value).toArray ++ Builtin.zeroCells (Value.int .u64 0).cells n ++ Builtin.zeroCells (Value.int .u64 0).cells (grownCap w (0 + n) 0 57 - (0 + n))) 57)) := fun ty =>
    Lib.run_append_grow_zeros w 58 3 ty 57 i0 (.int .u64 0) .i64 .i64 Tryd.underlying58 Tryd.underlying3 hi hz0 none 0 0 [] (run_firstCells_none w.drew i0.size 0 0 0) n h0 (by rw [hz1]; decide) (by omega) (by omega) (by rw [hz2]; omega) (by rw [hz2]; exact growslice_fits (by omega) (by omega))
  have hG := grownCap_ge w (0 + n) 0 57
  have hGm := grownCap_le_maxLen w (0 + n) 0 57 (by unfold maxLen; omega)
  have hown : (w.drew.alloc (.cells (([] : List Value).toArray ++ Builtin.zeroCells (Value.int .u64 0).cells n ++ Builtin.zeroCells (Value.int .u64 0).cells (grownCap w (0 + n) 0 57 - (0 + n))) 57)).ownsRow w.heap.size 57 1 (.slice (some ⟨w.heap.size, 0, none⟩) 0 (grownCap w (0 + n) 0 57)) 0 [] := by
    refine World.ownsRow_made w.drew _ _ (Nat.le_refl _) hGm ?_
    have hG' := grownCap_ge w n 0 57
    simp [Builtin.zeroCells, Value.cells]
    omega
  obtain ⟨W2, hW2⟩ : ∃ W2, W2 = w.drew.alloc (.cells (([] : List Value).toArray ++ Builtin.zeroCells (Value.int .u64 0).cells n ++ Builtin.zeroCells (Value.int .u64 0).cells (grownCap w (0 + n) 0 57 - (0 + n))) 57) := ⟨_, rfl⟩
  have hb2 : Below w.heap.size w W2 := by rw [hW2]; exact ((Below.refl _ _).drew).alloc (Nat.le_refl _) _
  rw [← hW2] at hrz hown
  obtain ⟨G, hGG⟩ : ∃ G, G = grownCap w (0 + n) 0 57 := ⟨_, rfl⟩
  rw [← hGG] at hrz hown hG hGm
  rw [Nat.zero_add] at hrz hG
  have HO := Lib.hid hown
  have HB := Lib.hid hb2
  unfold maxLen at hGm
  clear hW2 hGG hown hb2
  go_enter Tryd.func61, Tryd.ntmps61
  go_wp2_with (at_builtin; refine Lib.wpList_append_run _ rfl _ _ _ _ rfl _ _ rfl rfl _ _ (hrz _) ?_)
  all_goals go_ret
  all_goals exact ⟨_, rfl, HO.out, HB.out⟩

theorem grow_any (x : Int) (n : Nat) (hx : x = n) (hn : n ≤ 1000) (w : World) : Calls Tryd.prog 61 #[.slice none 0 0, .int .i64 x] w fun e w' =>
    ∃ sl, e = .returned sl ∧ w'.ownsRow w.heap.size 57 1 sl 0 [] ∧ Below w.heap.size w w' := by
  subst hx
  by_cases h : n = 0
  · subst h
    exact (grow_zero w).mono fun _ _ ⟨he, hw⟩ => ⟨_, he, World.ownsRow_nil _ _ _ _, by rw [hw]; exact Below.refl _ _⟩
  · exact grow_some n (by omega) hn w

/-- The numbers of a cut, at their address. -/
def CellsAt (w : World) (a : Addr) (zs : List Int) : Prop := ∀ j u, (zs.map (Value.int .u64))[j]? = some u → w.cell? (a.add j) = some u
theorem CellsAt.keep {w w' : World} {a : Addr} {zs : List Int} (h : CellsAt w a zs) (hb : Below w.heap.size w w') : CellsAt w' a zs :=
  fun j u hj => (hb.cell (p := a.add j) (World.block_lt_of_cell? w _ (h j u hj))).trans (h j u hj)
theorem one_nums (zs : List Int) : ∀ u ∈ zs.map (Value.int .u64), u.oneCell' = true := fun u hu => by
  obtain ⟨z, -, rfl⟩ := List.mem_map.1 hu
  rfl

set_option maxRecDepth 100000 in
set_option maxHeartbeats 3200000 in
theorem concat_some (q : Nat) (a1 a2 : Addr) (c1 c2 : Nat) (z1 z2 : List Int) (w : World) (hq : q < w.heap.size) (k0 : w.cell? ⟨q, 0, none⟩ = some (.slice (some a1) z1.length c1)) (k1 : w.cell? ⟨q, 1, none⟩ = some (.slice (some a2) z2.length c2))
    (h1 : CellsAt w a1 z1) (h2 : CellsAt w a2 z2) (l1 : z1.length ≤ 100) (l2 : z2.length ≤ 100) :
    Calls Tryd.prog 44 #[.slice (some ⟨q, 0, none⟩) 2 2] w fun e w' => ∃ sl, e = .returned sl ∧ w'.ownsRow w.heap.size 57 1 sl (z1.length + z2.length) ((z1 ++ z2).map (Value.int .u64)) ∧ Below w.heap.size w w' := by
  obtain ⟨i0, hi, hz0, hz1, hz2⟩ := info_parts infoU64
  have HG := Lib.hid (grow_any ((z1.length : Int) + z2.length) (z1.length + z2.length) (by omega) (by omega) w)
  obtain ⟨n1, hn1⟩ : ∃ n, n = z1.length := ⟨_, rfl⟩
  obtain ⟨n2, hn2⟩ : ∃ n, n = z2.length := ⟨_, rfl⟩
  rw [← hn1] at k0 l1 HG ⊢
  rw [← hn2] at k1 l2 HG ⊢
  have N1 := Lib.hid hn1
  have N2 := Lib.hid hn2
  clear hn1 hn2
  go_enter Tryd.func44, Tryd.ntmps44
  go_wp2
  refine wp_loop_rounds 3 ?_
  rw [rounds_succ]
  go_wp2
  rw [rounds_succ]
  go_wp2
  rw [rounds_succ]
  go_wp2_with fail
  refine HG.out.mono ?_
  rintro e w1 ⟨sl, rfl, hown, hb1⟩
  have g0 := (hb1.cell (p := ⟨q, 0, none⟩) hq).trans k0
  have g1 := (hb1.cell (p := ⟨q, 1, none⟩) hq).trans k1
  have C1 := h1.keep hb1
  go_wp2_with fail
  refine wp_loop_rounds 3 ?_
  rw [rounds_succ]
  go_wp2_with (at_builtin; refine wpList_append_own _ rfl _ _ 58 rfl w.heap.size 57 i0 (.int .u64 0) 1 8 Tryd.underlying58 hi hz0 hz1 hz2 rfl (by decide) _ _ _ rfl hown a1 n1 c1 (z1.map (Value.int .u64)) rfl ?c1 ?c2 ?c3 ?c4 ?c5 ?c6 ?_)
  case c1 => rw [N1.out]; simp
  case c2 => exact C1
  case c3 => exact one_nums z1
  case c4 => unfold maxLen; omega
  case c5 => omega
  case c6 => exact hb1.size
  intro v1 w2 hown2 hgrow2 _
  have hb2 : Below w.heap.size w1 w2 := (Below.refl _ _).grown hgrow2 hb1.size (fun k e => (hown.lt k e).1)
  have hb02 := hb1.trans hb2
  have g1' := (hb02.cell (p := ⟨q, 1, none⟩) hq).trans k1
  have C2' := h2.keep hb02
  clear hown hgrow2
  go_wp2_with fail
  rw [rounds_succ]
  go_wp2_with (at_builtin; refine wpList_append_own _ rfl _ _ 58 rfl w.heap.size 57 i0 (.int .u64 0) 1 8 Tryd.underlying58 hi hz0 hz1 hz2 rfl (by decide) _ _ _ rfl hown2 a2 n2 c2 (z2.map (Value.int .u64)) rfl ?c1 ?c2 ?c3 ?c4 ?c5 ?c6 ?_)
  case c1 => rw [N2.out]; simp
  case c2 => exact C2'
  case c3 => exact one_nums z2
  case c4 => unfold maxLen; omega
  case c5 => omega
  case c6 => exact hb02.size
  intro v2 w3 hown3 hgrow3 _
  have hb3 : Below w.heap.size w2 w3 := (Below.refl _ _).grown hgrow3 hb02.size (fun k e => (hown2.lt k e).1)
  have hb03 := hb02.trans hb3
  have HO := Lib.hid hown3
  clear hown2 hown3 hgrow3
  go_wp2_with fail
  rw [rounds_succ]
  go_wp2_with fail
  go_ret
  exact ⟨_, rfl, by rw [List.map_append]; exact HO.out, hb03⟩

set_option maxRecDepth 100000 in
set_option maxHeartbeats 3200000 in
theorem concat_nil (q : Nat) (w : World) (hq : q < w.heap.size) (k0 : w.cell? ⟨q, 0, none⟩ = some (.slice none 0 0)) (k1 : w.cell? ⟨q, 1, none⟩ = some (.slice none 0 0)) :
    Calls Tryd.prog 44 #[.slice (some ⟨q, 0, none⟩) 2 2] w fun e w' => ∃ sl, e = .returned sl ∧ w'.ownsRow w.heap.size 57 1 sl 0 [] ∧ Below w.heap.size w w' := by
  obtain ⟨i0, hi, hz0, hz1, hz2⟩ := info_parts infoU64
  have HG := Lib.hid (grow_zero w)
  have hown : w.ownsRow w.heap.size 57 1 (.slice none 0 0) 0 [] := World.ownsRow_nil _ _ _ _
  go_enter Tryd.func44, Tryd.ntmps44
  go_wp2
  refine wp_loop_rounds 3 ?_
  rw [rounds_succ]
  go_wp2
  rw [rounds_succ]
  go_wp2
  rw [rounds_succ]
  go_wp2_with fail
  refine HG.out.mono ?_
  rintro e w1 ⟨rfl, rfl⟩
  go_wp2_with fail
  refine wp_loop_rounds 3 ?_
  rw [rounds_succ]
  go_wp2_with (at_builtin; refine wpList_append_own_none rfl _ _ 58 rfl w1.heap.size 57 i0 1 Tryd.underlying58 hi _ _ _ rfl hown rfl ?_)
  rw [rounds_succ]
  go_wp2_with (at_builtin; refine wpList_append_own_none rfl _ _ 58 rfl w1.heap.size 57 i0 1 Tryd.underlying58 hi _ _ _ rfl hown rfl ?_)
  rw [rounds_succ]
  go_wp2_with fail
  go_ret
  exact ⟨_, rfl, hown, Below.refl _ _⟩
end Go.Proofs.YtcjmmiimkedeoaaDoor
