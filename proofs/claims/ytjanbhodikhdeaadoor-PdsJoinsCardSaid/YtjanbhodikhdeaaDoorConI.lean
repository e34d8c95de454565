/-
  slices.Grow of nil, slices.Concat of two rows of numbers, by contracts.
-/
import Derived.Test.YtjanbhodikhdeaaDoorIntA
import Derived.Lib.AppendZerosOnto
import Derived.Laws.OwnMore
import Derived.Laws.AppendOwnNone
namespace Go.Proofs.YtjanbhodikhdeaaDoor
open Go.RowKit Go.Extern.Stop Go.Stop Go.Extern

set_option maxHeartbeats 400000 in
theorem growI_zero (w : World) : Calls Tryd.prog 27 #[.slice none 0 0, .int .i64 0] w fun e w' => e = .returned (.slice none 0 0) ∧ w' = w := by
  go_enter Tryd.func27, Tryd.ntmps27
  go_wp2
  go_ret
  exact ⟨rfl, rfl⟩

set_option maxRecDepth 100000 in
set_option maxHeartbeats 1600000 in
theorem growI_some (n : Nat) (h0 : 0 < n) (hn : n ≤ 1000) (w : World) : Calls Tryd.prog 27 #[.slice none 0 0, .int .i64 n] w fun e w' =>
    ∃ sl, e = .returned sl ∧ w'.ownsRow w.heap.size 3 1 sl 0 [] ∧ Below w.heap.size w w' := by
  obtain ⟨i0, hi, hz0, hz1, hz2⟩ := info_parts infoInt
  have hrz : ∀ ty, (Builtin.append_ #[25, 3] ty #[.slice none 0 0, .int .i64 (n : Int)]).run Tryd.prog w =
      .ok (.slice (some ⟨w.heap.size, 0, none⟩) (0 + n) (grownCap w (0 + n) 0 3)) (w.drew.alloc (.cells (([] : List Value).toArray ++ Builtin.zeroCells (Value.int .i64 0).cells n ++ Builtin.zeroCells (Value.int .i64 0).cells (grownCap w (0 + n) 0 3 - (0 + n))) 3)) := fun ty =>
    Lib.run_append_grow_zeros w 25 3 ty 3 i0 (.int .i64 0) .i64 .i64 Tryd.underlying25 Tryd.underlying3 hi hz0 none 0 0 [] (run_firstCells_none w.drew i0.size 0 0 0) n h0 (by rw [hz1]; decide) (by omega) (by omega) (by rw [hz2]; omega) (by rw [hz2]; exact growslice_fits (by omega) (by omega))
  have hG := grownCap_ge w (0 + n) 0 3
  have hGm := grownCap_le_maxLen w (0 + n) 0 3 (by unfold maxLen; omega)
  have hown : (w.drew.alloc (.cells (([] : List Value).toArray ++ Builtin.zeroCells (Value.int .i64 0).cells n ++ Builtin.zeroCells (Value.int .i64 0).cells (grownCap w (0 + n) 0 3 - (0 + n))) 3)).ownsRow w.heap.size 3 1 (.slice (some ⟨w.heap.size, 0, none⟩) 0 (grownCap w (0 + n) 0 3)) 0 [] := by
    refine World.ownsRow_made w.drew _ _ (Nat.le_refl _) hGm ?_
    have hG' := grownCap_ge w n 0 3
    simp [Builtin.zeroCells, Value.cells]
    omega
  obtain ⟨W2, hW2⟩ : ∃ W2, W2 = w.drew.alloc (.cells (([] : List Value).toArray ++ Builtin.zeroCells (Value.int .i64 0).cells n ++ Builtin.zeroCells (Value.int .i64 0).cells (grownCap w (0 + n) 0 3 - (0 + n))) 3) := ⟨_, rfl⟩
  have hb2 : Below w.heap.size w W2 := by rw [hW2]; exact ((Below.refl _ _).drew).alloc (Nat.le_refl _) _
  rw [← hW2] at hrz hown
  obtain ⟨G, hGG⟩ : ∃ G, G = grownCap w (0 + n) 0 3 := ⟨_, rfl⟩
  rw [← hGG] at hrz hown hG hGm
  rw [Nat.zero_add] at hrz hG
  have HO := Lib.hid hown
  have HB := Lib.hid hb2
  unfold maxLen at hGm
  clear hW2 hGG hown hb2
  go_enter Tryd.func27, Tryd.ntmps27
  go_wp2_with (at_builtin; refine Lib.wpList_append_run _ rfl _ _ _ _ rfl _ _ rfl rfl _ _ (hrz _) ?_)
  all_goals go_ret
  all_goals exact ⟨_, rfl, HO.out, HB.out⟩

theorem growI_any (x : Int) (n : Nat) (hx : x = n) (hn : n ≤ 1000) (w : World) : Calls Tryd.prog 27 #[.slice none 0 0, .int .i64 x] w fun e w' =>
    ∃ sl, e = .returned sl ∧ w'.ownsRow w.heap.size 3 1 sl 0 [] ∧ Below w.heap.size w w' := by
  subst hx
  by_cases h : n = 0
  · subst h
    exact (growI_zero w).mono fun _ _ ⟨he, hw⟩ => ⟨_, he, World.ownsRow_nil _ _ _ _, by rw [hw]; exact Below.refl _ _⟩
  · exact growI_some n (by omega) hn w


set_option maxRecDepth 100000 in
set_option maxHeartbeats 3200000 in
theorem concatI_any (q : Nat) (v1 v2 : Value) (z1 z2 : List Int) (w : World) (hq : q < w.heap.size) (k0 : w.cell? ⟨q, 0, none⟩ = some v1) (k1 : w.cell? ⟨q, 1, none⟩ = some v2)
    (h1 : IntsAt w v1 z1) (h2 : IntsAt w v2 z2) (l1 : z1.length ≤ 400) (l2 : z2.length ≤ 400) :
    Calls Tryd.prog 8 #[.slice (some ⟨q, 0, none⟩) 2 2] w fun e w' => ∃ sl, e = .returned sl ∧ w'.ownsRow w.heap.size 3 1 sl (z1.length + z2.length) (encI (z1 ++ z2)) ∧ Below w.heap.size w w' := by
  obtain ⟨a1, c1, rfl⟩ := h1.form
  obtain ⟨a2, c2, rfl⟩ := h2.form
  have HG := Lib.hid (growI_any ((z1.length : Int) + z2.length) (z1.length + z2.length) (by omega) (by omega) w)
  have H1 := Lib.hid h1
  have H2 := Lib.hid h2
  clear h1 h2
  obtain ⟨n1, hn1⟩ : ∃ n, n = z1.length := ⟨_, rfl⟩
  obtain ⟨n2, hn2⟩ : ∃ n, n = z2.length := ⟨_, rfl⟩
  rw [← hn1] at k0 l1 HG ⊢
  rw [← hn2] at k1 l2 HG ⊢
  have N1 := Lib.hid hn1
  have N2 := Lib.hid hn2
  clear hn1 hn2
  go_enter Tryd.func8, Tryd.ntmps8
  go_wp2
  refine wp_loop_rounds 3 ?_
  rw [rounds_succ]
  go_wp2
  rw [rounds_succ]
  go_wp2
  rw [rounds_succ]
  go_wp2_with fail
  refine HG.out.mono ?_
  rintro e w1 ⟨sl, rfl, hown, hb1⟩
  have g0 := (hb1.cell (p := ⟨q, 0, none⟩) hq).trans k0
  have g1 := (hb1.cell (p := ⟨q, 1, none⟩) hq).trans k1
  go_wp2_with fail
  refine wp_loop_rounds 3 ?_
  rw [rounds_succ]
  go_wp2_with (at_builtin; refine wpList_append_ints _ rfl _ _ rfl w.heap.size _ _ _ rfl hown _ z1 rfl ?c1 ?c2 ?c3 ?_)
  case c1 => have := H1.out.step hb1; rw [N1.out]; exact this
  case c2 => have := N1.out; omega
  case c3 => exact hb1.size
  intro v1 w2 hown2 hgrow2
  have hb2 : Below w.heap.size w1 w2 := (Below.refl _ _).grown hgrow2 hb1.size (fun k e => (hown.lt k e).1)
  have hb02 := hb1.trans hb2
  have g1' := (hb02.cell (p := ⟨q, 1, none⟩) hq).trans k1
  clear hown hgrow2
  go_wp2_with fail
  rw [rounds_succ]
  go_wp2_with (at_builtin; refine wpList_append_ints _ rfl _ _ rfl w.heap.size _ _ _ rfl hown2 _ z2 rfl ?c1 ?c2 ?c3 ?_)
  case c1 => have := H2.out.step hb02; rw [N2.out]; exact this
  case c2 => have := N1.out; have := N2.out; omega
  case c3 => exact hb02.size
  intro v2 w3 hown3 hgrow3
  have hb3 : Below w.heap.size w2 w3 := (Below.refl _ _).grown hgrow3 hb02.size (fun k e => (hown2.lt k e).1)
  have hb03 := hb02.trans hb3
  have HO : Hid (w3.ownsRow w.heap.size 3 1 v2 (n1 + n2) (encI (z1 ++ z2))) := Lib.hid (by
    have e : encI (z1 ++ z2) = [] ++ encI z1 ++ encI z2 := by unfold encI; simp
    rw [e, N1.out, N2.out]
    simpa using hown3)
  clear hown2 hown3 hgrow3
  go_wp2_with fail
  rw [rounds_succ]
  go_wp2_with fail
  go_ret
  exact ⟨_, rfl, HO.out, hb03⟩
end Go.Proofs.YtjanbhodikhdeaaDoor
