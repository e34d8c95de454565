/-
  TopoJoins' law, by contract.
  The statement TopoJoins, proved: for every topology, three routers and two sets of links, and in whatever memory, the law answers true and each argument reads afterwards as it did; what it lists of package-level variables is tied to the program's text.
-/
import Derived.Test.YtkijbiaenfeijaaGreatDoorGq
import Derived.Test.YtkijbiaenfeijaaGreatDoorGk
import Derived.Test.YtkijbiaenfeijaaGreatDoorGr
namespace Go.Proofs.YtkijbiaenfeijaaGreatDoor
open Go.RowKit Go.Extern.Stop Go.Stop Go.Extern

/-- What the law keeps: its boxes, the topology's rows, the handle, the table. -/
structure JnS (w0 : World) (vr vl : Value) (rs : List ByteArray) (ls : List Lk) (fa fb ma mb : Nat) (W : World) : Prop where
  tb : TB w0 w0.heap.size vr vl rs ls W
  fl : SetAt W (w0.heap.size + 1) fa fb
  mo : SetAt W (w0.heap.size + 1 + 1) ma mb
  han : Handle W
  tab : TabB W
theorem JnS.step {w0 : World} {vr vl : Value} {rs : List ByteArray} {ls : List Lk} {fa fb ma mb : Nat} {W W' : World} (h : JnS w0 vr vl rs ls fa fb ma mb W) (hb : Below W.heap.size W W') : JnS w0 vr vl rs ls fa fb ma mb W' :=
  ⟨h.tb.step hb, h.fl.step hb, h.mo.step hb, h.han.below hb, h.tab.below h.tab.lt hb⟩
theorem JnS.cells {w0 : World} {vr vl : Value} {rs : List ByteArray} {ls : List Lk} {fa fb ma mb : Nat} {W : World} (h : JnS w0 vr vl rs ls fa fb ma mb W) : W.cell? ⟨w0.heap.size, 0, none⟩ = some vr ∧ W.cell? ⟨w0.heap.size, 1, none⟩ = some vl ∧
    W.cell? ⟨w0.heap.size + 1, 0, none⟩ = some (.int .u64 (fa : Int)) ∧ W.cell? ⟨w0.heap.size + 1, 1, none⟩ = some (.int .u64 (fb : Int)) ∧ W.cell? ⟨w0.heap.size + 1 + 1, 0, none⟩ = some (.int .u64 (ma : Int)) ∧ W.cell? ⟨w0.heap.size + 1 + 1, 1, none⟩ = some (.int .u64 (mb : Int)) :=
  ⟨h.tb.c0, h.tb.c1, h.fl.cells.1, h.fl.cells.2.1, h.mo.cells.1, h.mo.cells.2.1⟩
theorem JnS.start {w : World} {vr vl : Value} {rs : List ByteArray} {ls : List Lk} (ht : TpAt w vr vl rs ls) (hg : Handle w) (htab : TabB w) (fa fb ma mb : Nat) :
    JnS w vr vl rs ls fa fb ma mb (((w.alloc (.cells #[vr, vl] 25)).alloc (.cells #[.int .u64 (fa : Int), .int .u64 (fb : Int)] 35)).alloc (.cells #[.int .u64 (ma : Int), .int .u64 (mb : Int)] 35)) := by
  have hT := (TB.start ht).step (below_new (w.alloc (.cells #[vr, vl] 25)) (.cells #[.int .u64 (fa : Int), .int .u64 (fb : Int)] 35))
  have hT2 := hT.step (below_new _ (.cells #[.int .u64 (ma : Int), .int .u64 (mb : Int)] 35))
  refine ⟨hT2, ?_, ?_, hg.below hT2.below, htab.below htab.lt hT2.below⟩
  · have := heap_alloc_new (w.alloc (.cells #[vr, vl] 25)) (.cells #[.int .u64 (fa : Int), .int .u64 (fb : Int)] 35)
    rw [World.size_alloc] at this
    exact (heap_alloc_old _ _ (by simp)).trans this
  · have := heap_alloc_new ((w.alloc (.cells #[vr, vl] 25)).alloc (.cells #[.int .u64 (fa : Int), .int .u64 (fb : Int)] 35)) (.cells #[.int .u64 (ma : Int), .int .u64 (mb : Int)] 35)
    rwa [World.size_alloc, World.size_alloc] at this
theorem or_less {fa fb ma mb : Nat} (i : Nat) (h : hasB (fa ||| ma) (fb ||| mb) i = false) : hasB fa fb i = false := by
  rw [hasB_or, Bool.or_eq_false_iff] at h
  exact h.1
theorem under_reach {ls : List Lk} {n : Nat} {a : Int} {fa fb ma mb p1 q1 p2 q2 : Nat} (h2 : ∀ v, hasI p2 q2 v = true ↔ Comes ls n (hasB (fa ||| ma) (fb ||| mb)) a v) (h1 : ∀ v, hasI p1 q1 v = true ↔ Comes ls n (hasB fa fb) a v)
    (u3 : U64 p2) (u4 : U64 q2) : sameB (p2 &&& p1) (q2 &&& q1) p2 q2 = true := by
  unfold sameB
  refine decide_eq_true (set_ext (u3.and _) (u4.and _) u3 u4 fun i => ?_)
  rw [hasB_and]
  cases h : hasB p2 q2 i with
  | false => rfl
  | true =>
    have h3 := (h2 (i : Int)).1 (by unfold hasI; simpa using h)
    obtain ⟨d, hd⟩ := h3
    have h4 := (h1 (i : Int)).2 ⟨d, hd.fewer (fun i => or_less i)⟩
    unfold hasI at h4
    simpa using h4
theorem told_join {ls : List Lk} {n : Nat} {F : Nat → Bool} (hm : MayL n ls) {a b c x y z : Int} {g : Bool} (h1 : Told ls n F a b x true) (h2 : Told ls n F b c y true) (h3 : Told ls n F a c z g) : g = true ∧ z ≤ addI x y := by
  rcases h1 with ⟨-, h1⟩ | ⟨h, -⟩
  · rcases h2 with ⟨-, h2⟩ | ⟨h, -⟩
    · have hw := Way.join (h1.1.bd hm).2 h1.1 hm h2.1
      rcases h3 with ⟨rfl, h3⟩ | ⟨-, -, h3⟩
      · exact ⟨rfl, h3.2 _ hw⟩
      · exact absurd hw (h3 _)
    · cases h
  · cases h
theorem told_fewer {ls : List Lk} {n : Nat} {fa fb ma mb : Nat} {a c z x : Int} {g : Bool} (h1 : Told ls n (hasB fa fb) a c z g) (h2 : Told ls n (hasB (fa ||| ma) (fb ||| mb)) a c x true) : g = true ∧ z ≤ x := by
  rcases h2 with ⟨-, h2⟩ | ⟨h, -⟩
  · have hw := h2.1.fewer (fun i => or_less (fa := fa) (fb := fb) i)
    rcases h1 with ⟨rfl, h1⟩ | ⟨-, -, h1⟩
    · exact ⟨rfl, h1.2 _ hw⟩
    · exact absurd hw (h1 _)
  · cases h
set_option maxRecDepth 100000 in
set_option maxHeartbeats 20000000 in
theorem topoJoins_any (a b c : Int) (fa fb ma mb : Nat) (ua : U64 fa) (ub : U64 fb) (va : U64 ma) (vb : U64 mb) (vr vl : Value) (rs : List ByteArray) (ls : List Lk) (w : World) (ht : TpAt w vr vl rs ls) (hds : ∀ (i : Nat) (l : Lk), ls[i]? = some l → 0 ≤ l.ds) (hg : Handle w) (htab : TabB w) :
    Calls Tryz.prog 5 #[.agg #[vr, vl], .int .i64 a, .int .i64 b, .int .i64 c, setV fa fb, setV ma mb] w fun e w' => e = .returned (.bool true) ∧ Below w.heap.size w w' := by
  have HI := Lib.hid (JnS.start ht hg htab fa fb ma mb)
  have HAw := Lib.hid (fun W h1 h2 => awake11_any W h1 h2)
  have HMay := Lib.hid (fun W h => may11_any vr vl rs ls W h hds)
  clear ht hg htab hds
  go_enter Tryz.func5, Tryz.ntmps5
  go_wp2_with fail
  refine (HAw.out _ HI.out.han HI.out.tab).mono ?_
  rintro e w1 ⟨rfl, b1⟩
  have HI1 := Lib.hid (HI.out.step b1)
  clear b1 HI HAw
  obtain ⟨k0, k1, k2, k3, k4, k5⟩ := HI1.out.cells
  go_wp2_with fail
  refine (HMay.out _ HI1.out.tb.tp).mono ?_
  rintro e w2 ⟨m, rfl, hp, b2⟩
  have HI2 := Lib.hid (HI1.out.step b2)
  clear b2 HI1 HMay k0 k1 k2 k3 k4 k5
  cases m with
  | false =>
    clear hp
    go_wp2_with fail
    go_ret
    exact ⟨rfl, HI2.out.tb.below⟩
  | true =>
    have HG := Lib.hid (hp rfl).2
    have HLe := Lib.hid (fun (s t : Int) W (h : TpAt W vr vl rs ls) (h2 : TabB W) => least_any s t fa fb ua ub vr vl rs ls W h HG.out.may HG.out.nr HG.out.nl h2)
    have HLm := Lib.hid (fun (s t : Int) W (h : TpAt W vr vl rs ls) (h2 : TabB W) => least_any s t (fa ||| ma) (fb ||| mb) (ua.or va) (ub.or vb) vr vl rs ls W h HG.out.may HG.out.nr HG.out.nl h2)
    clear hp
    obtain ⟨k0, k1, k2, k3, k4, k5⟩ := HI2.out.cells
    go_wp2_with fail
    refine (HLe.out a b _ HI2.out.tb.tp HI2.out.tab).mono ?_
    rintro e w3 ⟨x, o1, rfl, t1, b3⟩
    have HI3 := Lib.hid (HI2.out.step b3)
    clear b3 HI2 k0 k1 k2 k3 k4 k5
    obtain ⟨k0, k1, k2, k3, k4, k5⟩ := HI3.out.cells
    have T1 := Lib.hid t1
    clear t1
    go_wp2_with fail
    refine (HLe.out b c _ HI3.out.tb.tp HI3.out.tab).mono ?_
    rintro e w4 ⟨y, o2, rfl, t2, b4⟩
    have HI4 := Lib.hid (HI3.out.step b4)
    clear b4 HI3 k0 k1 k2 k3 k4 k5
    obtain ⟨k0, k1, k2, k3, k4, k5⟩ := HI4.out.cells
    have T2 := Lib.hid t2
    clear t2
    go_wp2_with fail
    refine (HLe.out a c _ HI4.out.tb.tp HI4.out.tab).mono ?_
    rintro e w5 ⟨z, o3, rfl, t3, b5⟩
    have HI5 := Lib.hid (HI4.out.step b5)
    clear b5 HI4 k0 k1 k2 k3 k4 k5
    have T3 := Lib.hid t3
    clear t3
    have HRx := Lib.hid (fun X Y (hX : U64 X) (hY : U64 Y) W (h : TpAt W vr vl rs ls) (h2 : TabB W) => reach_any a X Y hX hY vr vl rs ls W h HG.out.may HG.out.nr HG.out.nl h2)
    have vo1 : U64 (fa ||| ma) := ua.or va
    have vo2 : U64 (fb ||| mb) := ub.or vb
    cases o1 with
    | false =>
      obtain ⟨k0, k1, k2, k3, k4, k5⟩ := HI5.out.cells
      go_wp2_with fail
      clear k0 k1 k2 k3 k4 k5
      have hI := HI5.out.step (Below.refl _ _).drew
      clear HI5
      have kk := hI.cells
      go_region_held3 (fun w' => w'.cell? ⟨w.heap.size, 0, none⟩ = some vr ∧ w'.cell? ⟨w.heap.size, 1, none⟩ = some vl ∧ w'.cell? ⟨w.heap.size + 1, 0, none⟩ = some (.int .u64 (fa : Int)) ∧ w'.cell? ⟨w.heap.size + 1, 1, none⟩ = some (.int .u64 (fb : Int)) ∧ w'.cell? ⟨w.heap.size + 1 + 1, 0, none⟩ = some (.int .u64 (ma : Int)) ∧ w'.cell? ⟨w.heap.size + 1 + 1, 1, none⟩ = some (.int .u64 (mb : Int)))
        (first | exact kk | exact hI.cells)
        (first
        | (go_at_call 24; refine (or_any fa fb ma mb ua ub va vb _).mono ?_; rintro e w6 ⟨rfl, b6⟩; replace hI := hI.step b6)
        | (go_at_call 17; refine (HLm.out a c _ hI.tb.tp hI.tab).mono ?_; rintro e w7 ⟨x4, o4, rfl, t4, b7⟩; replace hI := hI.step b7))
      cases o4 with
      | false =>
        have HI6 := Lib.hid hI
        clear hI kk t4
        go_wp2_with fail
        go_quiet (fail)
        have HI7 := Lib.hid (HI6.out.step (below_drewN _ nq))
        go_wp2_with fail
        go_ret
        exact ⟨rfl, HI7.out.tb.below⟩
      | true =>
        obtain ⟨hg3, hge⟩ := told_fewer T3.out t4
        try subst hg3
        have HI6 := Lib.hid hI
        clear hI kk t4
        go_wp2_with fail
        have hI := HI6.out.step (Below.refl _ _).drew
        clear HI6
        have kk := hI.cells
        go_region_held3 (fun w' => w'.cell? ⟨w.heap.size, 0, none⟩ = some vr ∧ w'.cell? ⟨w.heap.size, 1, none⟩ = some vl ∧ w'.cell? ⟨w.heap.size + 1, 0, none⟩ = some (.int .u64 (fa : Int)) ∧ w'.cell? ⟨w.heap.size + 1, 1, none⟩ = some (.int .u64 (fb : Int)) ∧ w'.cell? ⟨w.heap.size + 1 + 1, 0, none⟩ = some (.int .u64 (ma : Int)) ∧ w'.cell? ⟨w.heap.size + 1 + 1, 1, none⟩ = some (.int .u64 (mb : Int)))
          (first | exact kk | exact hI.cells)
          (first
          | (go_at_call 24; refine (or_any fa fb ma mb ua ub va vb _).mono ?_; rintro e w6 ⟨rfl, b6⟩; replace hI := hI.step b6)
          | (go_at_call 21; refine (HRx.out _ _ (by assumption) (by assumption) _ hI.tb.tp hI.tab).mono ?_; rintro e w7 ⟨p1, q1, rfl, u1, u2, hr1, b7⟩; replace hI := hI.step b7)
          | (go_at_call 25; refine (under_any _ _ _ _ (by assumption) (by assumption) (by assumption) (by assumption) _).mono ?_; rintro e w9 ⟨rfl, b9⟩; rw [under_reach (ls := ls) (n := rs.length) (a := a) (fa := fa) (fb := fb) (ma := ma) (mb := mb) (by assumption) (by assumption) (by assumption) (by assumption)]; replace hI := hI.step b9))
        all_goals
          go_wp2_with fail
          go_ret
          exact ⟨rfl, hI.tb.below⟩
    | true =>
      cases o2 with
      | false =>
        obtain ⟨k0, k1, k2, k3, k4, k5⟩ := HI5.out.cells
        go_wp2_with fail
        clear k0 k1 k2 k3 k4 k5
        have hI := HI5.out.step (Below.refl _ _).drew
        clear HI5
        have kk := hI.cells
        go_region_held3 (fun w' => w'.cell? ⟨w.heap.size, 0, none⟩ = some vr ∧ w'.cell? ⟨w.heap.size, 1, none⟩ = some vl ∧ w'.cell? ⟨w.heap.size + 1, 0, none⟩ = some (.int .u64 (fa : Int)) ∧ w'.cell? ⟨w.heap.size + 1, 1, none⟩ = some (.int .u64 (fb : Int)) ∧ w'.cell? ⟨w.heap.size + 1 + 1, 0, none⟩ = some (.int .u64 (ma : Int)) ∧ w'.cell? ⟨w.heap.size + 1 + 1, 1, none⟩ = some (.int .u64 (mb : Int)))
          (first | exact kk | exact hI.cells)
          (first
          | (go_at_call 24; refine (or_any fa fb ma mb ua ub va vb _).mono ?_; rintro e w6 ⟨rfl, b6⟩; replace hI := hI.step b6)
          | (go_at_call 17; refine (HLm.out a c _ hI.tb.tp hI.tab).mono ?_; rintro e w7 ⟨x4, o4, rfl, t4, b7⟩; replace hI := hI.step b7))
        cases o4 with
        | false =>
          have HI6 := Lib.hid hI
          clear hI kk t4
          go_wp2_with fail
          go_quiet (fail)
          have HI7 := Lib.hid (HI6.out.step (below_drewN _ nq))
          go_wp2_with fail
          go_ret
          exact ⟨rfl, HI7.out.tb.below⟩
        | true =>
          obtain ⟨hg3, hge⟩ := told_fewer T3.out t4
          try subst hg3
          have HI6 := Lib.hid hI
          clear hI kk t4
          go_wp2_with fail
          have hI := HI6.out.step (Below.refl _ _).drew
          clear HI6
          have kk := hI.cells
          go_region_held3 (fun w' => w'.cell? ⟨w.heap.size, 0, none⟩ = some vr ∧ w'.cell? ⟨w.heap.size, 1, none⟩ = some vl ∧ w'.cell? ⟨w.heap.size + 1, 0, none⟩ = some (.int .u64 (fa : Int)) ∧ w'.cell? ⟨w.heap.size + 1, 1, none⟩ = some (.int .u64 (fb : Int)) ∧ w'.cell? ⟨w.heap.size + 1 + 1, 0, none⟩ = some (.int .u64 (ma : Int)) ∧ w'.cell? ⟨w.heap.size + 1 + 1, 1, none⟩ = some (.int .u64 (mb : Int)))
            (first | exact kk | exact hI.cells)
            (first
            | (go_at_call 24; refine (or_any fa fb ma mb ua ub va vb _).mono ?_; rintro e w6 ⟨rfl, b6⟩; replace hI := hI.step b6)
            | (go_at_call 21; refine (HRx.out _ _ (by assumption) (by assumption) _ hI.tb.tp hI.tab).mono ?_; rintro e w7 ⟨p1, q1, rfl, u1, u2, hr1, b7⟩; replace hI := hI.step b7)
            | (go_at_call 25; refine (under_any _ _ _ _ (by assumption) (by assumption) (by assumption) (by assumption) _).mono ?_; rintro e w9 ⟨rfl, b9⟩; rw [under_reach (ls := ls) (n := rs.length) (a := a) (fa := fa) (fb := fb) (ma := ma) (mb := mb) (by assumption) (by assumption) (by assumption) (by assumption)]; replace hI := hI.step b9))
          all_goals
            go_wp2_with fail
            go_ret
            exact ⟨rfl, hI.tb.below⟩
      | true =>
        obtain ⟨rfl, hle⟩ := told_join HG.out.may T1.out T2.out T3.out
        have HAdd := Lib.hid (fun W => add_any x y (T1.out.nonneg HG.out.may).1 (T2.out.nonneg HG.out.may).1 W)
        have hle' : ¬ addI x y < z := by omega
        clear hle
        generalize addI x y = xy at *
        go_wp2_with fail
        refine (HAdd.out _).mono ?_
        rintro e w6 ⟨rfl, rfl⟩
        obtain ⟨k0, k1, k2, k3, k4, k5⟩ := HI5.out.cells
        go_wp2_with fail
        clear k0 k1 k2 k3 k4 k5
        have hI := HI5.out.step (Below.refl _ _).drew
        clear HI5
        have kk := hI.cells
        go_region_held3 (fun w' => w'.cell? ⟨w.heap.size, 0, none⟩ = some vr ∧ w'.cell? ⟨w.heap.size, 1, none⟩ = some vl ∧ w'.cell? ⟨w.heap.size + 1, 0, none⟩ = some (.int .u64 (fa : Int)) ∧ w'.cell? ⟨w.heap.size + 1, 1, none⟩ = some (.int .u64 (fb : Int)) ∧ w'.cell? ⟨w.heap.size + 1 + 1, 0, none⟩ = some (.int .u64 (ma : Int)) ∧ w'.cell? ⟨w.heap.size + 1 + 1, 1, none⟩ = some (.int .u64 (mb : Int)))
          (first | exact kk | exact hI.cells)
          (first
          | (go_at_call 24; refine (or_any fa fb ma mb ua ub va vb _).mono ?_; rintro e w6 ⟨rfl, b6⟩; replace hI := hI.step b6)
          | (go_at_call 17; refine (HLm.out a c _ hI.tb.tp hI.tab).mono ?_; rintro e w7 ⟨x4, o4, rfl, t4, b7⟩; replace hI := hI.step b7))
        cases o4 with
        | false =>
          have HI6 := Lib.hid hI
          clear hI kk t4
          go_wp2_with fail
          go_quiet (fail)
          have HI7 := Lib.hid (HI6.out.step (below_drewN _ nq))
          go_wp2_with fail
          go_ret
          exact ⟨rfl, HI7.out.tb.below⟩
        | true =>
          obtain ⟨hg3, hge⟩ := told_fewer T3.out t4
          try subst hg3
          have HI6 := Lib.hid hI
          clear hI kk t4
          go_wp2_with fail
          have hI := HI6.out.step (Below.refl _ _).drew
          clear HI6
          have kk := hI.cells
          go_region_held3 (fun w' => w'.cell? ⟨w.heap.size, 0, none⟩ = some vr ∧ w'.cell? ⟨w.heap.size, 1, none⟩ = some vl ∧ w'.cell? ⟨w.heap.size + 1, 0, none⟩ = some (.int .u64 (fa : Int)) ∧ w'.cell? ⟨w.heap.size + 1, 1, none⟩ = some (.int .u64 (fb : Int)) ∧ w'.cell? ⟨w.heap.size + 1 + 1, 0, none⟩ = some (.int .u64 (ma : Int)) ∧ w'.cell? ⟨w.heap.size + 1 + 1, 1, none⟩ = some (.int .u64 (mb : Int)))
            (first | exact kk | exact hI.cells)
            (first
            | (go_at_call 24; refine (or_any fa fb ma mb ua ub va vb _).mono ?_; rintro e w6 ⟨rfl, b6⟩; replace hI := hI.step b6)
            | (go_at_call 21; refine (HRx.out _ _ (by assumption) (by assumption) _ hI.tb.tp hI.tab).mono ?_; rintro e w7 ⟨p1, q1, rfl, u1, u2, hr1, b7⟩; replace hI := hI.step b7)
            | (go_at_call 25; refine (under_any _ _ _ _ (by assumption) (by assumption) (by assumption) (by assumption) _).mono ?_; rintro e w9 ⟨rfl, b9⟩; rw [under_reach (ls := ls) (n := rs.length) (a := a) (fa := fa) (fb := fb) (ma := ma) (mb := mb) (by assumption) (by assumption) (by assumption) (by assumption)]; replace hI := hI.step b9))
          all_goals
            go_wp2_with fail
            go_ret
            exact ⟨rfl, hI.tb.below⟩
end Go.Proofs.YtkijbiaenfeijaaGreatDoor

namespace Go.Proofs.YtkijbiaenfeijaaGreatDoor
open Go.ChangeShapes Go.WideShapes Go.ChangeAt Go.RowKit

set_option maxRecDepth 100000 in
theorem topoJoins_lifted (os : Os) (started : os.Started) (H : Type) (enc : TypeId × Value → H) :
    ReturnsInHanded {} Tryz.checked os 5 .any (fun w args => (Rows.topoJoinsSpec.pre enc Tryz.prog Tryz.f5 [] false w args ∧ laidMetH Tryz.prog loneH w) ∧ sizedMet enc Tryz.prog Tryz.f5 (OpenSpec.ofChange Rows.topoJoinsSpec) false w args)
      (Rows.topoJoinsSpec.post enc Tryz.prog Tryz.f5 false true false false) := by
  refine returnsInHanded_of_change_and (C := Tryz.checked) (X := fun w _ => laidMetH Tryz.prog loneH w) (fun _ _ _ hh h => h.of_heap hh) Tryz.own started (by kernel_rfl) Tryz.func5
    (ChangeSpec.witness_shaped (enc := enc) (C := Tryz.checked) (os := os) (X := fun w _ => laidMetH Tryz.prog loneH w) false (laidWorldT os) #[.agg #[.slice none 0 0, .slice none 0 0], .int .i64 0, .int .i64 0, .int .i64 0, .agg #[.int .u64 0, .int .u64 0], .agg #[.int .u64 0, .int .u64 0]] 8 rfl (World.shaped_of_RefB (by kernel_rfl) (by kernel_rfl)) (by kernel_rfl) (by kernel_rfl) (by kernel_rfl) (laidWorldT_metH os _)) ?_
  intro W base args ds gs before hval0 hW _ _ hL _
  have hval : ∀ (j : Nat) t v, Tryz.f5.params[j]? = some t → args[j]? = some v → Value.okWide Tryz.prog W .any base t v := hval0
  have hW' := hW
  obtain ⟨p, q, hA0, hV, rfl, hfz, hnd⟩ := hW
  have hA : DataW.TrodAll enc Tryz.prog W 0 (fun _ => true) true Tryz.f5.params.toList args.toList ds p := hA0
  rw [Tryz.params5] at hA hval
  obtain ⟨v0, vs0, d0, ds0, p0, q0, hargs, rfl, rfl, h0, hr0⟩ := trodAll_cons hA
  obtain ⟨v1, vs1, d1, ds1, p1, q1, rfl, rfl, rfl, h1, hr1⟩ := trodAll_cons hr0
  obtain ⟨v2, vs2, d2, ds2, p2, q2, rfl, rfl, rfl, h2, hr2⟩ := trodAll_cons hr1
  obtain ⟨v3, vs3, d3, ds3, p3, q3, rfl, rfl, rfl, h3, hr3⟩ := trodAll_cons hr2
  obtain ⟨v4, vs4, d4, ds4, p4, q4, rfl, rfl, rfl, h4, hr4⟩ := trodAll_cons hr3
  obtain ⟨v5, vs5, d5, ds5, p5, q5, rfl, rfl, rfl, h5, hr5⟩ := trodAll_cons hr4
  obtain ⟨rfl, rfl, rfl⟩ := trodAll_nil hr5
  obtain rfl : args = #[v0, v1, v2, v3, v4, v5] := by cases args; simp_all
  obtain ⟨vr, vl, rs, ls, rfl, ht0, hd0⟩ := topo_of_trod h0
  obtain ⟨a, rfl, rfl, rfl, wa⟩ := open_int Tryz.underlying3 (hval 1 3 v1 rfl rfl) h1
  obtain ⟨b, rfl, rfl, rfl, wb⟩ := open_int Tryz.underlying3 (hval 2 3 v2 rfl rfl) h2
  obtain ⟨c, rfl, rfl, rfl, wc⟩ := open_int Tryz.underlying3 (hval 3 3 v3 rfl rfl) h3
  obtain ⟨f, f', rfl, uf, uf'⟩ := set_of_trod h4
  obtain ⟨m, m', rfl, um, um'⟩ := set_of_trod h5
  refine (topoJoins_any a b c f f' m m' uf uf' um um' vr vl rs ls W ht0 hd0 (handle_of_laidH hL) (tab_of_laidH hL)).mono fun e W' ⟨he, hb⟩ => ?_
  subst he
  exact ⟨_, rfl, law_post (by kernel_rfl) rfl (by rw [Tryz.params5]; decide +kernel) hW' hb (by simp [Rows.topoJoinsSpec]) (by simp [Rows.topoJoinsSpec]) (by simp [Rows.topoJoinsSpec])⟩

theorem topoJoins_holds : Rows.TopoJoinsSaid :=
  OpenClaim.holds_of_wide 5 Tryz.f5 rfl rfl rfl rfl rfl rfl rfl ⟨rfl, rfl, rfl, rfl, rfl⟩ rfl rfl rfl rfl rfl (by kernel_rfl) Tryz.func5 (by kernel_rfl)
    (of_decide_eq_true (by kernel_rfl)) (by unfold Func.isWrapper; rw [if_neg (of_decide_eq_false (by kernel_rfl))]; exact ⟨rfl, rfl⟩)
    (fun os started H enc _ => topoJoins_lifted os started H enc)

theorem topoJoins_card : Rows.TopoJoinsCardSaid :=
  Claim7.holds_tied_plain_at .later [] [.data, .handle] true Rows.topoJoinsCard.stood.harness true
    topoJoins_holds (fun _ h => by cases h) (by kernel_rfl) (fun _ h => by cases h) topoJoins_row_tie rfl ⟨rfl, rfl⟩ (by kernel_rfl) rfl
    (fun f fn hf hfn => by
      obtain rfl : f = 5 := Option.some.inj ((show Tryz.prog.funcNamed "fairlead/fairleadlaw11.TopoJoins" = some 5 by kernel_rfl).symm.trans hf) |>.symm
      obtain rfl : fn = Tryz.f5 := (Option.some.inj (Tryz.func5.symm.trans hfn)).symm
      exact ⟨by kernel_rfl, fun j t ht => by
        have hk : ∀ t ∈ Tryz.f5.params.toList, Tryz.prog.wantsStandIn t = false := by rw [Tryz.params5]; decide +kernel
        exact hk t (by
          obtain ⟨hj, e⟩ := Array.getElem?_eq_some_iff.1 ht
          rw [← e]
          simp)⟩)
    (by kernel_rfl)
#print axioms topoJoins_card
end Go.Proofs.YtkijbiaenfeijaaGreatDoor
