/-
  append of a row of ops, slices.Grow of nil and slices.Concat of two rows of ops, by contracts.
-/
import Derived.Test.YtjlbdjagbbpoaaaDoorOpB
import Derived.Lib.AppendZerosOnto
import Derived.Laws.OwnMore
import Derived.Laws.AppendOwnNone
namespace Go.Proofs.YtjlbdjagbbpoaaaDoor
open Go.RowKit Go.Extern.Stop Go.Stop Go.Extern

theorem infoOpT : (Tryd.prog.info? 60).map (fun i => (i.zero, i.size, i.bytes)) = some (some (.agg #[.int .i64 0, .int .i64 0]), 2, 16) := by kernel_rfl
/-- One more row behind a row of the call's own, wherever it lies. -/
theorem run_append_ops (w : World) (base : Nat) (ty : TypeId) (v : Value) (n : Nat) (xs : List Value) (hown : w.ownsRow base 60 2 v n xs) (vx : Value) (l : List (Int × Int)) (hv : OpsAt w vx l) (hn : n + l.length ≤ 1000000) (hbase : base ≤ w.heap.size) :
    ∃ v' w', (Builtin.append_ #[41, 41] ty #[v, vx]).run Tryd.prog w = .ok v' w' ∧ w'.ownsRow base 60 2 v' (n + l.length) (xs ++ opCells l) ∧ w.grownBy w' v.ownBlock := by
  obtain ⟨i0, hi, hz0, hz1, hz2⟩ := info_parts infoOpT
  rcases hv with ⟨a, cap, rfl, rfl⟩ | ⟨b, off, cap, rfl, hb, hc⟩
  · rcases a with _ | a
    · refine ⟨v, w, ?_, by simpa [opCells] using hown, World.grownBy.refl w _⟩
      rcases hown.2 with ⟨rfl, -⟩ | ⟨g, cp, cur, rfl, -, -, hle, -⟩
      · simp [Builtin.append_, run_underlying Tryd.underlying41, sizeOf, typeInfo, hi, Builtin.lenOf, Builtin.firstCells]
      · simp [Builtin.append_, run_underlying Tryd.underlying41, sizeOf, typeInfo, hi, Builtin.lenOf, Builtin.firstCells, hle, storeCells]
    · obtain ⟨v', w', h1, h2, h3, -⟩ := run_append_own (P := Tryd.prog) w base 41 ty 60 i0 (.agg #[.int .i64 0, .int .i64 0]) 2 16 Tryd.underlying41 hi hz0 hz1 hz2 rfl (by decide) v n xs hown a 0 cap [] rfl (by intro j u hu; cases hu) (by intro u hu; cases hu) (by unfold maxLen; omega) (by omega) hbase
      exact ⟨v', w', h1, by simpa [opCells] using h2, h3⟩
  · obtain ⟨v', w', h1, h2, h3, -⟩ := run_append_own (P := Tryd.prog) w base 41 ty 60 i0 (.agg #[.int .i64 0, .int .i64 0]) 2 16 Tryd.underlying41 hi hz0 hz1 hz2 rfl (by decide) v n xs hown ⟨b, off, none⟩ l.length cap (opCells l) (opCells_length l) (by
      intro j u hu
      have hj : j < l.length * 2 := by have := (List.getElem?_eq_some_iff.1 hu).1; rwa [opCells_length] at this
      have e0 : (⟨b, off, none⟩ : Addr).add j = ⟨b, off + j, none⟩ := by unfold Addr.add; split <;> simp_all
      rw [e0]
      obtain ⟨o, ho⟩ : ∃ o, l[j / 2]? = some o := ⟨_, List.getElem?_eq_getElem (by omega)⟩
      obtain ⟨k0, k1⟩ := opCells_at ho
      obtain ⟨d0, d1⟩ := hc _ _ ho
      rcases Nat.mod_two_eq_zero_or_one j with hm | hm
      · have ej : j / 2 * 2 = j := by omega
        rw [ej] at k0 d0
        rw [d0, ← k0, hu]
      · have ej : j / 2 * 2 + 1 = j := by omega
        rw [ej] at k1
        rw [show off + j / 2 * 2 + 1 = off + j by omega] at d1
        rw [d1, ← k1, hu]) (opCells_one l) (by unfold maxLen; omega) (by omega) hbase
    exact ⟨v', w', h1, h2, h3⟩
theorem wpList_append_ops {ops : Array Oper} {rest : List Oper} {o : Oper} {a : Act} {Q : Exit → Act → World → Prop} (w : World) (hgd : o.guard = none) (s x : Operand) (ho : o.op = .call { callee := .builtin .append, args := #[s, x], argTypes := #[41, 41] })
    (base : Nat) (v : Value) (n : Nat) (xs : List Value) (hs : a.eval s = v) (hown : w.ownsRow base 60 2 v n xs) (vx : Value) (l : List (Int × Int)) (hx : a.eval x = vx) (hv : OpsAt w vx l) (hn : n + l.length ≤ 1000000) (hbase : base ≤ w.heap.size)
    (h : ∀ v' w', w'.ownsRow base 60 2 v' (n + l.length) (xs ++ opCells l) → w.grownBy w' v.ownBlock → wpList Tryd.prog ops Q rest (a.put o.dst v') w') : wpList Tryd.prog ops Q (o :: rest) a w := by
  refine wpList_plain hgd fun K hK => ?_
  obtain ⟨v', w', h1, h2, h3⟩ := run_append_ops w base o.type v n xs hown vx l hv hn hbase
  unfold Oper.wp execOp
  simp only [ho, resolve, invoke, builtin, Sem.run_bind, Sem.run_pure, Result.andThen_ok, List.map_toArray, List.map_cons, List.map_nil, hs, hx, h1]
  exact hK _ _ (h v' w' h2 h3)

set_option maxHeartbeats 400000 in
theorem growO_zero (w : World) : Calls Tryd.prog 59 #[.slice none 0 0, .int .i64 0] w fun e w' => e = .returned (.slice none 0 0) ∧ w' = w := by
  go_enter Tryd.func59, Tryd.ntmps59
  go_wp2
  go_ret
  exact ⟨rfl, rfl⟩

set_option maxRecDepth 100000 in
set_option maxHeartbeats 1600000 in
theorem growO_some (n : Nat) (h0 : 0 < n) (hn : n ≤ 1000) (w : World) : Calls Tryd.prog 59 #[.slice none 0 0, .int .i64 n] w fun e w' =>
    ∃ sl, e = .returned sl ∧ w'.ownsRow w.heap.size 60 2 sl 0 [] ∧ Below w.heap.size w w' := by
  obtain ⟨i0, hi, hz0, hz1, hz2⟩ := info_parts infoOpT
  have hrz : ∀ ty, (Builtin.append_ #[41, 3] ty #[.slice none 0 0, .int .i64 (n : Int)]).run Tryd.prog w =
      .ok (.slice (some ⟨w.heap.size, 0, none⟩) (0 + n) (grownCap w (0 + n) 0 60)) (w.drew.alloc (.cells (([] : List Value).toArray ++ Builtin.zeroCells (Value.agg #[.int .i64 0, .int .i64 0]).cells n ++ Builtin.zeroCells (Value.agg #[.int .i64 0, .int .i64 0]).cells (grownCap w (0 + n) 0 60 - (0 + n))) 60)) := fun ty =>
    Lib.run_append_grow_zeros w 41 3 ty 60 i0 (.agg #[.int .i64 0, .int .i64 0]) .i64 .i64 Tryd.underlying41 Tryd.underlying3 hi hz0 none 0 0 [] (run_firstCells_none w.drew i0.size 0 0 0) n h0 (by rw [hz1]; decide) (by omega) (by omega) (by rw [hz2]; omega) (by rw [hz2]; exact growslice_fits (by omega) (by omega))
  have hG := grownCap_ge w (0 + n) 0 60
  have hGm := grownCap_le_maxLen w (0 + n) 0 60 (by unfold maxLen; omega)
  have hown : (w.drew.alloc (.cells (([] : List Value).toArray ++ Builtin.zeroCells (Value.agg #[.int .i64 0, .int .i64 0]).cells n ++ Builtin.zeroCells (Value.agg #[.int .i64 0, .int .i64 0]).cells (grownCap w (0 + n) 0 60 - (0 + n))) 60)).ownsRow w.heap.size 60 2 (.slice (some ⟨w.heap.size, 0, none⟩) 0 (grownCap w (0 + n) 0 60)) 0 [] := by
    refine World.ownsRow_made w.drew _ _ (Nat.le_refl _) hGm ?_
    have hG' := grownCap_ge w n 0 60
    simp [Builtin.zeroCells, Value.cells]
    omega
  obtain ⟨W2, hW2⟩ : ∃ W2, W2 = w.drew.alloc (.cells (([] : List Value).toArray ++ Builtin.zeroCells (Value.agg #[.int .i64 0, .int .i64 0]).cells n ++ Builtin.zeroCells (Value.agg #[.int .i64 0, .int .i64 0]).cells (grownCap w (0 + n) 0 60 - (0 + n))) 60) := ⟨_, rfl⟩
  have hb2 : Below w.heap.size w W2 := by rw [hW2]; exact ((Below.refl _ _).drew).alloc (Nat.le_refl _) _
  rw [← hW2] at hrz hown
  obtain ⟨G, hGG⟩ : ∃ G, G = grownCap w (0 + n) 0 60 := ⟨_, rfl⟩
  rw [← hGG] at hrz hown hG hGm
  rw [Nat.zero_add] at hrz hG
  have HO := Lib.hid hown
  have HB := Lib.hid hb2
  unfold maxLen at hGm
  clear hW2 hGG hown hb2
  go_enter Tryd.func59, Tryd.ntmps59
  go_wp2_with (at_builtin; refine Lib.wpList_append_run _ rfl _ _ _ _ rfl _ _ rfl rfl _ _ (hrz _) ?_)
  all_goals go_ret
  all_goals exact ⟨_, rfl, HO.out, HB.out⟩

theorem growO_any (x : Int) (n : Nat) (hx : x = n) (hn : n ≤ 1000) (w : World) : Calls Tryd.prog 59 #[.slice none 0 0, .int .i64 x] w fun e w' =>
    ∃ sl, e = .returned sl ∧ w'.ownsRow w.heap.size 60 2 sl 0 [] ∧ Below w.heap.size w w' := by
  subst hx
  by_cases h : n = 0
  · subst h
    exact (growO_zero w).mono fun _ _ ⟨he, hw⟩ => ⟨_, he, World.ownsRow_nil _ _ _ _, by rw [hw]; exact Below.refl _ _⟩
  · exact growO_some n (by omega) hn w


set_option maxRecDepth 100000 in
set_option maxHeartbeats 3200000 in
theorem concatO_any (q : Nat) (v1 v2 : Value) (z1 z2 : List (Int × Int)) (w : World) (hq : q < w.heap.size) (k0 : w.cell? ⟨q, 0, none⟩ = some v1) (k1 : w.cell? ⟨q, 1, none⟩ = some v2)
    (h1 : OpsAt w v1 z1) (h2 : OpsAt w v2 z2) (l1 : z1.length ≤ 100) (l2 : z2.length ≤ 100) :
    Calls Tryd.prog 38 #[.slice (some ⟨q, 0, none⟩) 2 2] w fun e w' => ∃ sl, e = .returned sl ∧ w'.ownsRow w.heap.size 60 2 sl (z1.length + z2.length) (opCells (z1 ++ z2)) ∧ Below w.heap.size w w' := by
  obtain ⟨a1, c1, rfl⟩ := h1.form
  obtain ⟨a2, c2, rfl⟩ := h2.form
  have HG := Lib.hid (growO_any ((z1.length : Int) + z2.length) (z1.length + z2.length) (by omega) (by omega) w)
  have H1 := Lib.hid h1
  have H2 := Lib.hid h2
  clear h1 h2
  obtain ⟨n1, hn1⟩ : ∃ n, n = z1.length := ⟨_, rfl⟩
  obtain ⟨n2, hn2⟩ : ∃ n, n = z2.length := ⟨_, rfl⟩
  rw [← hn1] at k0 l1 HG ⊢
  rw [← hn2] at k1 l2 HG ⊢
  have N1 := Lib.hid hn1
  have N2 := Lib.hid hn2
  clear hn1 hn2
  go_enter Tryd.func38, Tryd.ntmps38
  go_wp2
  refine wp_loop_rounds 3 ?_
  rw [rounds_succ]
  go_wp2
  rw [rounds_succ]
  go_wp2
  rw [rounds_succ]
  go_wp2_with fail
  refine HG.out.mono ?_
  rintro e w1 ⟨sl, rfl, hown, hb1⟩
  have g0 := (hb1.cell (p := ⟨q, 0, none⟩) hq).trans k0
  have g1 := (hb1.cell (p := ⟨q, 1, none⟩) hq).trans k1
  go_wp2_with fail
  refine wp_loop_rounds 3 ?_
  rw [rounds_succ]
  go_wp2_with (at_builtin; refine wpList_append_ops _ rfl _ _ rfl w.heap.size _ _ _ rfl hown _ z1 rfl ?c1 ?c2 ?c3 ?_)
  case c1 => have := H1.out.step hb1; rw [N1.out]; exact this
  case c2 => have := N1.out; omega
  case c3 => exact hb1.size
  intro v1 w2 hown2 hgrow2
  have hb2 : Below w.heap.size w1 w2 := (Below.refl _ _).grown hgrow2 hb1.size (fun k e => (hown.lt k e).1)
  have hb02 := hb1.trans hb2
  have g1' := (hb02.cell (p := ⟨q, 1, none⟩) hq).trans k1
  clear hown hgrow2
  go_wp2_with fail
  rw [rounds_succ]
  go_wp2_with (at_builtin; refine wpList_append_ops _ rfl _ _ rfl w.heap.size _ _ _ rfl hown2 _ z2 rfl ?c1 ?c2 ?c3 ?_)
  case c1 => have := H2.out.step hb02; rw [N2.out]; exact this
  case c2 => have := N1.out; have := N2.out; omega
  case c3 => exact hb02.size
  intro v2 w3 hown3 hgrow3
  have hb3 : Below w.heap.size w2 w3 := (Below.refl _ _).grown hgrow3 hb02.size (fun k e => (hown2.lt k e).1)
  have hb03 := hb02.trans hb3
  have HO : Hid (w3.ownsRow w.heap.size 60 2 v2 (n1 + n2) (opCells (z1 ++ z2))) := Lib.hid (by
    have e : opCells (z1 ++ z2) = [] ++ opCells z1 ++ opCells z2 := by rw [List.nil_append, opCells_append]
    rw [e, N1.out, N2.out]
    simpa using hown3)
  clear hown2 hown3 hgrow3
  go_wp2_with fail
  rw [rounds_succ]
  go_wp2_with fail
  go_ret
  exact ⟨_, rfl, HO.out, hb03⟩
end Go.Proofs.YtjlbdjagbbpoaaaDoor
