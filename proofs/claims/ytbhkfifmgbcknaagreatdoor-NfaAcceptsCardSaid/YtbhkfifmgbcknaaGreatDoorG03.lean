/-
  A part of the proof of the statement NfaAccepts.
-/
import Derived.Test.YtbhkfifmgbcknaaGreatDoorG02
import Derived.Deep.QuietTactic
import Derived.BigQuiet
import Derived.StillTailTactics
import Derived.Deep.RegionHeld3
import Derived.Test.YtbhkfifmgbcknaaGreatDoorProg
import Derived.WalkKit
import Derived.WalkLawsBesides
import Derived.Deep.LoopGhost
import Derived.Lib.Hide
import Derived.Outline
import Derived.Below
import Derived.Deep.AppendSrc
import Derived.Maps.AppendAt
import Derived.Laws.OwnMore
import Derived.Deep.AppendLies
set_option linter.unusedSimpArgs false
set_option linter.unusedVariables false
namespace Go.Proofs.YtbhkfifmgbcknaaGreatDoor
open Go.RowKit Go.Extern.Stop Go.Stop Go.Extern
theorem size64 : (Tryz.prog.info? 41).map (fun i => (i.zero, i.size, i.bytes)) = some (some (.int .u64 0), 1, 8) := by kernel_rfl
theorem eq_deep (d : Nat) (x y c e : Int) (w : World) : (Op.equalIn (d + 2) 43 (.agg #[.int .u64 x, .int .u64 y]) (.agg #[.int .u64 c, .int .u64 e])).run Tryz.prog w = .ok (x == c && y == e) w := by
  have h26 := Tryz.underlying43
  have h24 := Tryz.underlying41
  obtain ⟨i0, hi, hz0, hz1, hz2⟩ := info_parts size64
  have hin := fun a b => run_equalIn_int (P := Tryz.prog) (w := w) d 41 .u64 .u64 a b h24
  rw [Op.equalIn]
  have ha : ∀ w : World, (isAgg 41).run Tryz.prog w = .ok false w := fun w => by simp [isAgg, run_underlying h24]
  cases h1 : x == c <;> cases h2 : y == e <;>
    simp [run_underlying h26, sizeOf, typeInfo, hi, hz1, part, show List.range' 0 2 = [0, 1] from rfl, ha, hin, h1, h2]
theorem eq_set (x y c e : Int) (w : World) : (Op.equalIn 10000 43 (.agg #[.int .u64 x, .int .u64 y]) (.agg #[.int .u64 c, .int .u64 e])).run Tryz.prog w = .ok (x == c && y == e) w := eq_deep 9998 x y c e w
def SetAt (w : World) (b : Nat) (x y : Nat) : Prop := w.heap[b]? = some (.cells #[.int .u64 (x : Int), .int .u64 (y : Int)] 43 (0, 0))
theorem SetAt.lt {w : World} {b x y : Nat} (h : SetAt w b x y) : b < w.heap.size := (Array.getElem?_eq_some_iff.1 h).1
theorem SetAt.cells {w : World} {b x y : Nat} (h : SetAt w b x y) : w.cell? ⟨b, 0, none⟩ = some (.int .u64 (x : Int)) ∧ w.cell? ⟨b, 1, none⟩ = some (.int .u64 (y : Int)) ∧ ∀ i, w.frozen? ⟨b, i, none⟩ = false :=
  ⟨by rw [Lib.cell_of_heap h]; rfl, by rw [Lib.cell_of_heap h]; rfl, fun i => by unfold World.frozen?; rw [h]; simp⟩
theorem SetAt.step {w w' : World} {b x y : Nat} (h : SetAt w b x y) (hb : Below w.heap.size w w') : SetAt w' b x y := (hb.block b h.lt).trans h
structure SW (w0 : World) (b x y r : Nat) (w : World) : Prop where
  set : SetAt w b x y
  res : SetAt w r 0 0
  below : Below w0.heap.size w0 w
theorem SW.step {w0 : World} {b x y r : Nat} {w w' : World} (h : SW w0 b x y r w) (hb : Below w.heap.size w w') : SW w0 b x y r w' := ⟨h.set.step hb, h.res.step hb, h.below.trans (hb.mono h.below.size)⟩
theorem SW.start (w : World) (x y : Nat) : SW w w.heap.size x y (w.heap.size + 1) ((w.alloc (.cells #[.int .u64 (x : Int), .int .u64 (y : Int)] 43)).alloc (.cells #[.int .u64 0, .int .u64 0] 43)) :=
  ⟨(heap_alloc_old _ _ (by simp)).trans (heap_alloc_new w _), by have := heap_alloc_new (w.alloc (.cells #[.int .u64 (x : Int), .int .u64 (y : Int)] 43)) (.cells #[.int .u64 0, .int .u64 0] 43); rwa [World.size_alloc] at this,
    (below_new w _).trans ((below_new _ _).mono (below_new w _).size)⟩
theorem ret_int {k : IntKind} {a b : Int} (h : a = b) : Ending.returned (.int k a) = .returned (.int k b) := by rw [h]
theorem below_drewN (w : World) (n : Nat) : Below w.heap.size w (w.drewN n) := by
  induction n with
  | zero => exact Below.refl _ _
  | succ n ih => exact ⟨ih.os, ih.tape, ih.output, ih.size, ih.block⟩
set_option maxRecDepth 100000 in
set_option maxHeartbeats 2000000 in
theorem with_any (a b : Nat) (i : Int) (ha : U64 a) (hb : U64 b) (w : World) :
    Calls Tryz.prog 35 #[setV a b, .int .i64 i] w fun e w' => e = .returned (setV (a ||| (oneW i).1) (b ||| (oneW i).2)) ∧ Below w.heap.size w w' := by
  have HI := Lib.hid (SW.start w a b)
  have HO := Lib.hid (fun w' => or_any a b (oneW i).1 (oneW i).2 ha hb (oneW_u64 i).1 (oneW_u64 i).2 w')
  have HN := Lib.hid (fun w' => one_any i w')
  generalize (oneW i).1 = c at *
  generalize (oneW i).2 = d at *
  go_enter Tryz.func35, Tryz.ntmps35
  go_wp2_with fail
  have hI := HI.out.step (Below.refl _ _).drew
  clear HI
  generalize (w.alloc (.cells #[.int .u64 (a : Int), .int .u64 (b : Int)] 43)).alloc (.cells #[.int .u64 0, .int .u64 0] 43) = w1 at *
  have k0 := hI.set.cells.1
  have k1 := hI.set.cells.2.1
  go_region_held3 (fun w' => w'.cell? ⟨w.heap.size, 0, none⟩ = some (.int .u64 (a : Int)) ∧ w'.cell? ⟨w.heap.size, 1, none⟩ = some (.int .u64 (b : Int)))
    (first | exact ⟨k0, k1⟩ | exact ⟨hI.set.cells.1, hI.set.cells.2.1⟩ | go_keep)
    (first
    | (go_at_call 51; refine (HN.out _).mono ?_; rintro e w2 ⟨rfl, b2⟩; replace hI := hI.step b2)
    | (go_at_call 50; refine (HO.out _).mono ?_; rintro e w3 ⟨rfl, b3⟩; replace hI := hI.step b3; have r0 := hI.res.cells.1; have r1 := hI.res.cells.2.1; have r2 := hI.res.cells.2.2 0; have r3 := hI.res.cells.2.2 1; have s0 := hI.set.cells.1; have s1 := hI.set.cells.2.1))
  all_goals
    go_wp2_with fail
    refine bodyPost_ret (v := setV (a ||| c) (b ||| d)) (by simp [results, Tryz.f35, go_sem, r0, r1]) rfl ⟨rfl, ?_⟩
    exact (hI.below.setCell (p := ⟨w.heap.size + 1, 0, none⟩) (Nat.le_succ _) _).setCell (p := ⟨w.heap.size + 1, 1, none⟩) (Nat.le_succ _) _
set_option maxRecDepth 100000 in
set_option maxHeartbeats 2000000 in
theorem without_any (a b : Nat) (i : Int) (ha : U64 a) (hb : U64 b) (w : World) :
    Calls Tryz.prog 373 #[setV a b, .int .i64 i] w fun e w' => e = .returned (setV (lessN a (oneW i).1) (lessN b (oneW i).2)) ∧ Below w.heap.size w w' := by
  have HI := Lib.hid (SW.start w a b)
  have HO := Lib.hid (fun w' => less_any a b (oneW i).1 (oneW i).2 ha hb (oneW_u64 i).1 (oneW_u64 i).2 w')
  have HN := Lib.hid (fun w' => one_any i w')
  generalize (oneW i).1 = c at *
  generalize (oneW i).2 = d at *
  go_enter Tryz.func373, Tryz.ntmps373
  go_wp2_with fail
  have hI := HI.out.step (Below.refl _ _).drew
  clear HI
  generalize (w.alloc (.cells #[.int .u64 (a : Int), .int .u64 (b : Int)] 43)).alloc (.cells #[.int .u64 0, .int .u64 0] 43) = w1 at *
  have k0 := hI.set.cells.1
  have k1 := hI.set.cells.2.1
  go_region_held3 (fun w' => w'.cell? ⟨w.heap.size, 0, none⟩ = some (.int .u64 (a : Int)) ∧ w'.cell? ⟨w.heap.size, 1, none⟩ = some (.int .u64 (b : Int)))
    (first | exact ⟨k0, k1⟩ | exact ⟨hI.set.cells.1, hI.set.cells.2.1⟩ | go_keep)
    (first
    | (go_at_call 51; refine (HN.out _).mono ?_; rintro e w2 ⟨rfl, b2⟩; replace hI := hI.step b2)
    | (go_at_call 36; refine (HO.out _).mono ?_; rintro e w3 ⟨rfl, b3⟩; replace hI := hI.step b3; have r0 := hI.res.cells.1; have r1 := hI.res.cells.2.1; have r2 := hI.res.cells.2.2 0; have r3 := hI.res.cells.2.2 1; have s0 := hI.set.cells.1; have s1 := hI.set.cells.2.1))
  all_goals
    go_wp2_with fail
    refine bodyPost_ret (v := setV (lessN a c) (lessN b d)) (by simp [results, Tryz.f373, go_sem, r0, r1]) rfl ⟨rfl, ?_⟩
    exact (hI.below.setCell (p := ⟨w.heap.size + 1, 0, none⟩) (Nat.le_succ _) _).setCell (p := ⟨w.heap.size + 1, 1, none⟩) (Nat.le_succ _) _
theorem boxed_set (w : World) (a b : Nat) : SetAt (w.alloc (.cells #[.int .u64 (a : Int), .int .u64 (b : Int)] 43)) w.heap.size a b := heap_alloc_new w _
def emptyB (a b : Nat) : Bool := decide (a = 0 ∧ b = 0)
set_option maxRecDepth 100000 in
set_option maxHeartbeats 2000000 in
theorem has_go (a b c d : Nat) (i : Int) (ha : U64 a) (hb : U64 b) (hc : U64 c) (hd : U64 d) (ho : oneW i = (c, d)) (r : Bool) (hr : emptyB (a &&& c) (b &&& d) = !r) (w : World) :
    Calls Tryz.prog 46 #[setV a b, .int .i64 i] w fun e w' => e = .returned (.bool r) ∧ Below w.heap.size w w' := by
  have HI : Hid (SetAt (w.alloc (.cells #[.int .u64 (a : Int), .int .u64 (b : Int)] 43)) w.heap.size a b) := Lib.hid (boxed_set w a b)
  have HB : Hid (Below w.heap.size w (w.alloc (.cells #[.int .u64 (a : Int), .int .u64 (b : Int)] 43)).drew) := Lib.hid (below_new w _).drew
  have HO := Lib.hid (fun w' => and_any a b c d ha hb hc hd w')
  have HN := Lib.hid (fun w' => one_any i w')
  rw [ho] at HN
  generalize a &&& c = x at *
  generalize b &&& d = y at *
  have heq := eq_set x y 0 0
  cases r with
  | true =>
    have hq : ((x : Int) == 0 && (y : Int) == 0) = false := by
      unfold emptyB at hr
      simp at hr ⊢
      omega
    rw [hq] at heq
    clear hq hr
    go_enter Tryz.func46, Tryz.ntmps46
    go_wp2_with fail
    have hI := HI.out.step (Below.refl _ _).drew
    have hB := HB.out
    clear HI HB
    generalize w.alloc (.cells #[.int .u64 (a : Int), .int .u64 (b : Int)] 43) = w1 at *
    have k0 := hI.cells.1
    have k1 := hI.cells.2.1
    go_region_held3 (fun w' => w'.cell? ⟨w.heap.size, 0, none⟩ = some (.int .u64 (a : Int)) ∧ w'.cell? ⟨w.heap.size, 1, none⟩ = some (.int .u64 (b : Int)))
      (first | exact ⟨k0, k1⟩ | exact ⟨hI.cells.1, hI.cells.2.1⟩ | go_keep)
      (first
      | (go_at_call 51; refine (HN.out _).mono ?_; rintro e w2 ⟨rfl, b2⟩; replace hI := hI.step b2; replace hB := hB.trans (b2.mono hB.size))
      | (go_at_call 66; refine (HO.out _).mono ?_; rintro e w3 ⟨rfl, b3⟩; replace hI := hI.step b3; replace hB := hB.trans (b3.mono hB.size)))
    all_goals
      go_wp2_with fail
      go_ret
      exact ⟨rfl, hB⟩
  | false =>
    have hq : ((x : Int) == 0 && (y : Int) == 0) = true := by
      unfold emptyB at hr
      simp at hr ⊢
      omega
    rw [hq] at heq
    clear hq hr
    go_enter Tryz.func46, Tryz.ntmps46
    go_wp2_with fail
    have hI := HI.out.step (Below.refl _ _).drew
    have hB := HB.out
    clear HI HB
    generalize w.alloc (.cells #[.int .u64 (a : Int), .int .u64 (b : Int)] 43) = w1 at *
    have k0 := hI.cells.1
    have k1 := hI.cells.2.1
    go_region_held3 (fun w' => w'.cell? ⟨w.heap.size, 0, none⟩ = some (.int .u64 (a : Int)) ∧ w'.cell? ⟨w.heap.size, 1, none⟩ = some (.int .u64 (b : Int)))
      (first | exact ⟨k0, k1⟩ | exact ⟨hI.cells.1, hI.cells.2.1⟩ | go_keep)
      (first
      | (go_at_call 51; refine (HN.out _).mono ?_; rintro e w2 ⟨rfl, b2⟩; replace hI := hI.step b2; replace hB := hB.trans (b2.mono hB.size))
      | (go_at_call 66; refine (HO.out _).mono ?_; rintro e w3 ⟨rfl, b3⟩; replace hI := hI.step b3; replace hB := hB.trans (b3.mono hB.size)))
    all_goals
      go_wp2_with fail
      go_ret
      exact ⟨rfl, hB⟩
theorem ext_zero {a b : Nat} (ha : U64 a) (hb : U64 b) : emptyB a b = true ↔ ∀ i, hasB a b i = false := by
  unfold emptyB
  rw [decide_eq_true_iff]
  constructor
  · rintro ⟨rfl, rfl⟩ i
    unfold hasB
    simp
  · intro h
    exact set_ext ha hb zero_u64 zero_u64 (fun i => by rw [h i]; unfold hasB; simp)
def hasI (a b : Nat) (i : Int) : Bool := decide (0 ≤ i) && hasB a b i.toNat
theorem has_empty (a b : Nat) (i : Int) (ha : U64 a) (hb : U64 b) : emptyB (a &&& (oneW i).1) (b &&& (oneW i).2) = !hasI a b i := by
  rw [Bool.eq_iff_iff, ext_zero (ha.and _) (hb.and _)]
  unfold hasI
  constructor
  · intro h
    rw [Bool.not_eq_true', Bool.and_eq_false_iff]
    by_cases h0 : 0 ≤ i
    · right
      by_cases h1 : i < 128
      · have := h i.toNat
        rw [hasB_and, hasB_one, show ((i.toNat : Int) = i) by omega] at this
        simpa [show i.toNat < 128 by omega] using this
      · exact hasB_ge _ _ (by omega)
    · left; simpa using h0
  · intro h j
    rw [hasB_and, hasB_one]
    by_cases hj : (j : Int) = i
    · subst hj
      simp at h
      simp [h]
    · simp [hj]
theorem has_any (a b : Nat) (i : Int) (ha : U64 a) (hb : U64 b) (w : World) :
    Calls Tryz.prog 46 #[setV a b, .int .i64 i] w fun e w' => e = .returned (.bool (hasI a b i)) ∧ Below w.heap.size w w' :=
  has_go a b _ _ i ha hb (oneW_u64 i).1 (oneW_u64 i).2 rfl _ (has_empty a b i ha hb) w
theorem ones_same (x : Nat) (hx : U64 x) (w : World) : Calls Tryz.prog 79 #[.int .u64 (x : Int)] w fun e w' => e = .returned (.int .i64 (bitsOf 64 x).length) ∧ w' = w :=
  (ones_any x hx w).mono fun _ _ h => ⟨h.1, h.2.symm⟩
theorem bitsOf_le (n x : Nat) : (bitsOf n x).length ≤ n := by
  unfold bitsOf
  have := List.length_filter_le x.testBit (List.range n)
  simpa using this
theorem setL_len (a b : Nat) : (setL a b).length = (bitsOf 64 a).length + (bitsOf 64 b).length := by unfold setL; simp
set_option maxHeartbeats 1000000 in
theorem len_any (a b : Nat) (ha : U64 a) (hb : U64 b) (w : World) : Calls Tryz.prog 56 #[setV a b] w fun e w' => e = .returned (.int .i64 (setL a b).length) ∧ Below w.heap.size w w' := by
  have l1 := bitsOf_le 64 a
  have l2 := bitsOf_le 64 b
  have H1 := Lib.hid (fun w' => ones_same a ha w')
  have H2 := Lib.hid (fun w' => ones_same b hb w')
  rw [setL_len]
  generalize (bitsOf 64 a).length = x at *
  generalize (bitsOf 64 b).length = y at *
  have hw : IntKind.i64.wrap ((x : Int) + y) = (x : Int) + y := IntWalk.i64_in _ (by omega)
  have hbn := Lib.hid (below_new w (.cells #[.int .u64 (a : Int), .int .u64 (b : Int)] 43))
  go_enter Tryz.func56, Tryz.ntmps56
  go_wp2_with fail
  go_quiet ((first | (go_at_call_of 79 (Value.int IntKind.u64 (a : Int)); exact Calls.quiet_of_same (H1.out _)) | (go_at_call_of 79 (Value.int IntKind.u64 (b : Int)); exact Calls.quiet_of_same (H2.out _))))
  go_wp2_with fail
  go_ret
  refine ⟨ret_int (by simp), ?_⟩
  exact hbn.out.trans ((below_drewN _ _).mono hbn.out.size)
end Go.Proofs.YtbhkfifmgbcknaaGreatDoor
namespace Go.Proofs.YtbhkfifmgbcknaaGreatDoor
open Go.RowKit Go.Extern.Stop Go.Stop Go.Extern
def IntsAt (w : World) (v : Value) (l : List Int) : Prop :=
  (∃ a cap, v = .slice a 0 cap ∧ l = []) ∨ ∃ b off cap, v = .slice (some ⟨b, off, none⟩) l.length cap ∧ b < w.heap.size ∧ ∀ i c, l[i]? = some c → w.cell? ⟨b, off + i, none⟩ = some (.int .i64 c)
theorem IntsAt.form {w : World} {v : Value} {l : List Int} (h : IntsAt w v l) : ∃ a cap, v = .slice a l.length cap := by
  rcases h with ⟨a, cap, rfl, rfl⟩ | ⟨b, off, cap, rfl, -⟩
  · exact ⟨a, cap, rfl⟩
  · exact ⟨_, cap, rfl⟩
theorem IntsAt.at {w w' : World} {a : Option Addr} {n cap : Nat} {l : List Int} (h : IntsAt w (.slice a n cap) l) {i : Nat} {c : Int} (hi : l[i]? = some c) (hb : Below w.heap.size w w') :
    ∃ b off, a = some ⟨b, off, none⟩ ∧ w'.cell? ⟨b, off + i, none⟩ = some (.int .i64 c) := by
  rcases h with ⟨a, cap, -, rfl⟩ | ⟨b, off, cap, e, hlt, hc⟩
  · simp at hi
  · injection e with e
    exact ⟨b, off, e, (hb.cell (p := ⟨b, off + i, none⟩) hlt).trans (hc i c hi)⟩
theorem IntsAt.step {w w' : World} {v : Value} {l : List Int} (h : IntsAt w v l) (hb : Below w.heap.size w w') : IntsAt w' v l := by
  rcases h with h | ⟨b, off, cap, e, hlt, hc⟩
  · exact .inl h
  · exact .inr ⟨b, off, cap, e, Nat.lt_of_lt_of_le hlt hb.size, fun i c hi => (hb.cell (p := ⟨b, off + i, none⟩) hlt).trans (hc i c hi)⟩
theorem infoInt : (Tryz.prog.info? 3).map (fun i => (i.zero, i.size, i.bytes)) = some (some (.int .i64 0), 1, 8) := by kernel_rfl
def encI (l : List Int) : List Value := l.map (Value.int .i64)
theorem encI_one (l : List Int) : ∀ u ∈ encI l, u.oneCell' = true := by
  intro u hu
  obtain ⟨x, -, rfl⟩ := List.mem_map.1 hu
  rfl
theorem IntsAt.own {w : World} {base : Nat} {v : Value} {n : Nat} {l : List Int} (h : w.ownsRow base 3 1 v n (encI l)) (hn : n = l.length) : IntsAt w v l := by
  subst hn
  obtain ⟨h1, h2⟩ := h
  rcases h2 with ⟨rfl, h3⟩ | ⟨g, cap, cur, rfl, hg, hh, h3, h4, h5, h6⟩
  · exact .inl ⟨none, 0, rfl, List.eq_nil_of_length_eq_zero h3⟩
  · refine .inr ⟨g, 0, cap, rfl, (Array.getElem?_eq_some_iff.1 hh).1, fun i c hi => ?_⟩
    have e := congrArg (fun l => l[i]?) h6
    obtain ⟨hl, rfl⟩ := List.getElem?_eq_some_iff.1 hi
    simp [encI, hl] at e
    rw [Lib.cell_of_heap hh]
    simpa using e
theorem run_append_ints (w : World) (base : Nat) (ty : TypeId) (v : Value) (n : Nat) (xs : List Value) (hown : w.ownsRow base 3 1 v n xs) (vx : Value) (l : List Int) (hv : IntsAt w vx l) (hn : n + l.length ≤ 1000000) (hbase : base ≤ w.heap.size) :
    ∃ v' w', (Builtin.append_ #[27, 27] ty #[v, vx]).run Tryz.prog w = .ok v' w' ∧ w'.ownsRow base 3 1 v' (n + l.length) (xs ++ encI l) ∧ w.grownBy w' v.ownBlock := by
  obtain ⟨i0, hi, hz0, hz1, hz2⟩ := info_parts infoInt
  rcases hv with ⟨a, cap, rfl, rfl⟩ | ⟨b, off, cap, rfl, hb, hc⟩
  · rcases a with _ | a
    · refine ⟨v, w, ?_, by simpa [encI] using hown, World.grownBy.refl w _⟩
      rcases hown.2 with ⟨rfl, -⟩ | ⟨g, cp, cur, rfl, -, -, hle, -⟩
      · simp [Builtin.append_, run_underlying Tryz.underlying27, sizeOf, typeInfo, hi, Builtin.lenOf, Builtin.firstCells]
      · simp [Builtin.append_, run_underlying Tryz.underlying27, sizeOf, typeInfo, hi, Builtin.lenOf, Builtin.firstCells, hle, storeCells]
    · obtain ⟨v', w', h1, h2, h3, -⟩ := run_append_own (P := Tryz.prog) w base 27 ty 3 i0 (.int .i64 0) 1 8 Tryz.underlying27 hi hz0 hz1 hz2 rfl (by decide) v n xs hown a 0 cap [] rfl (by intro j u hu; cases hu) (by intro u hu; cases hu) (by unfold maxLen; omega) (by omega) hbase
      exact ⟨v', w', h1, by simpa [encI] using h2, h3⟩
  · obtain ⟨v', w', h1, h2, h3, -⟩ := run_append_own (P := Tryz.prog) w base 27 ty 3 i0 (.int .i64 0) 1 8 Tryz.underlying27 hi hz0 hz1 hz2 rfl (by decide) v n xs hown ⟨b, off, none⟩ l.length cap (encI l) (by simp [encI]) (by
      intro j u hu
      obtain ⟨c, hj, rfl⟩ : ∃ c, l[j]? = some c ∧ Value.int .i64 c = u := by simpa [encI] using hu
      have e0 : (⟨b, off, none⟩ : Addr).add j = ⟨b, off + j, none⟩ := by unfold Addr.add; split <;> simp_all
      rw [e0]
      exact hc j c hj) (encI_one l) (by unfold maxLen; omega) (by omega) hbase
    exact ⟨v', w', h1, h2, h3⟩
theorem wpList_append_ints {ops : Array Oper} {rest : List Oper} {o : Oper} {a : Act} {Q : Exit → Act → World → Prop} (w : World) (hgd : o.guard = none) (s x : Operand) (ho : o.op = .call { callee := .builtin .append, args := #[s, x], argTypes := #[27, 27] })
    (base : Nat) (v : Value) (n : Nat) (xs : List Value) (hs : a.eval s = v) (hown : w.ownsRow base 3 1 v n xs) (vx : Value) (l : List Int) (hx : a.eval x = vx) (hv : IntsAt w vx l) (hn : n + l.length ≤ 1000000) (hbase : base ≤ w.heap.size)
    (h : ∀ v' w', w'.ownsRow base 3 1 v' (n + l.length) (xs ++ encI l) → w.grownBy w' v.ownBlock → wpList Tryz.prog ops Q rest (a.put o.dst v') w') : wpList Tryz.prog ops Q (o :: rest) a w := by
  refine wpList_plain hgd fun K hK => ?_
  obtain ⟨v', w', h1, h2, h3⟩ := run_append_ints w base o.type v n xs hown vx l hv hn hbase
  unfold Oper.wp execOp
  simp only [ho, resolve, invoke, builtin, Sem.run_bind, Sem.run_pure, Result.andThen_ok, List.map_toArray, List.map_cons, List.map_nil, hs, hx, h1]
  exact hK _ _ (h v' w' h2 h3)
theorem step_append_ints {ops : Array Oper} {o : Oper} {a : Act} {K : Act → World → Prop} {Q : Exit → Act → World → Prop} {E : Prop} (w : World) (hgd : o.guard = none) (s x : Operand) (ho : o.op = .call { callee := .builtin .append, args := #[s, x], argTypes := #[27, 27] })
    (base : Nat) (v : Value) (n : Nat) (xs : List Value) (hs : a.eval s = v) (hown : w.ownsRow base 3 1 v n xs) (vx : Value) (l : List Int) (hx : a.eval x = vx) (hv : IntsAt w vx l) (hn : n + l.length ≤ 1000000) (hbase : base ≤ w.heap.size)
    (h : ∀ v' w', w'.ownsRow base 3 1 v' (n + l.length) (xs ++ encI l) → w.grownBy w' v.ownBlock → K (a.put o.dst v') w') : if Region.wanted o (yielded ops a.tmps) = true then Oper.wp Tryz.prog o a w K Q else E := by
  have hw : Region.wanted o (yielded ops a.tmps) = true := by simp [Region.wanted, hgd]
  rw [if_pos hw]
  obtain ⟨v', w', h1, h2, h3⟩ := run_append_ints w base o.type v n xs hown vx l hv hn hbase
  unfold Oper.wp execOp
  simp only [ho, resolve, invoke, builtin, Sem.run_bind, Sem.run_pure, Result.andThen_ok, List.map_toArray, List.map_cons, List.map_nil, hs, hx, h1]
  exact h _ _ h2 h3
theorem ints_new (w : World) (x : Int) : IntsAt (w.alloc (.cells #[.int .i64 x] 3)) (.slice (some ⟨w.heap.size, 0, none⟩) 1 1) [x] := by
  refine .inr ⟨w.heap.size, 0, 1, rfl, by simp, fun i c hi => ?_⟩
  rcases i with _ | i
  · obtain rfl : x = c := by simpa using hi
    rw [Lib.cell_of_heap (heap_alloc_new w _)]
    rfl
  · simp at hi
theorem below_own {w w1 w2 : World} {v : Value} {n : Nat} {xs : List Value} (hb : Below w.heap.size w w1) (hown : w1.ownsRow w.heap.size 3 1 v n xs) (hg : w1.grownBy w2 v.ownBlock) : Below w.heap.size w w2 :=
  hb.grown hg hb.size (fun k' e => (hown.lt k' e).1)
def IntsC (w : World) (v : Value) (l : List Int) : Prop := IntsAt w v l ∧ ∀ a n c, v = .slice a n c → n ≤ c
theorem IntsC.step {w w' : World} {v : Value} {l : List Int} (h : IntsC w v l) (hb : Below w.heap.size w w') : IntsC w' v l := ⟨h.1.step hb, h.2⟩
theorem IntsC.own {w : World} {base : Nat} {v : Value} {n : Nat} {l : List Int} (h : w.ownsRow base 3 1 v n (encI l)) (hn : n = l.length) : IntsC w v l := by
  refine ⟨IntsAt.own h hn, ?_⟩
  rintro a m c rfl
  rcases h.2 with ⟨e, -⟩ | ⟨g, cap, cur, e, -, -, hc, -⟩
  · injection e with _ e1 e2
    omega
  · injection e with _ e1 e2
    omega
theorem IntsC.form {w : World} {v : Value} {top : Int} {t : List Int} (h : IntsC w v (top :: t)) : ∃ b off cap, v = .slice (some ⟨b, off, none⟩) (t.length + 1) cap ∧ t.length + 1 ≤ cap ∧ b < w.heap.size ∧ w.cell? ⟨b, off, none⟩ = some (.int .i64 top) ∧
    (cap = 1 → t = []) ∧ IntsAt w (.slice (some ⟨b, off + 1, none⟩) t.length (cap - 1)) t := by
  obtain ⟨h, hc⟩ := h
  rcases h with ⟨a, cap, -, h⟩ | ⟨b, off, cap, rfl, hlt, hcell⟩
  · cases h
  · have hle := hc _ _ _ rfl
    simp only [List.length_cons] at hle
    refine ⟨b, off, cap, rfl, hle, hlt, hcell 0 top rfl, fun h => List.eq_nil_of_length_eq_zero (by omega), ?_⟩
    refine .inr ⟨b, off + 1, cap - 1, rfl, hlt, fun i c hi => ?_⟩
    have := hcell (i + 1) c (by simpa using hi)
    rw [Nat.add_assoc, Nat.add_comm 1 i]
    exact this
end Go.Proofs.YtbhkfifmgbcknaaGreatDoor
namespace Go.Proofs.YtbhkfifmgbcknaaGreatDoor
open Go.RowKit Go.Extern.Stop Go.Stop Go.Extern
def ofS (l : List Int) : Nat × Nat := l.foldl (fun s i => (s.1 ||| (oneW i).1, s.2 ||| (oneW i).2)) (0, 0)
theorem ofS_snoc (l : List Int) (i : Int) : ofS (l ++ [i]) = ((ofS l).1 ||| (oneW i).1, (ofS l).2 ||| (oneW i).2) := by unfold ofS; rw [List.foldl_append]; rfl
theorem ofS_take {l : List Int} {k : Nat} {i : Int} (h : l[k]? = some i) : ofS (l.take (k + 1)) = ((ofS (l.take k)).1 ||| (oneW i).1, (ofS (l.take k)).2 ||| (oneW i).2) := by
  rw [List.take_add_one, h, Option.toList_some, ofS_snoc]
theorem fold_u64 : ∀ (l : List Int) (s : Nat × Nat), U64 s.1 → U64 s.2 → U64 (l.foldl (fun s i => (s.1 ||| (oneW i).1, s.2 ||| (oneW i).2)) s).1 ∧ U64 (l.foldl (fun s i => (s.1 ||| (oneW i).1, s.2 ||| (oneW i).2)) s).2
  | [], _, h1, h2 => ⟨h1, h2⟩
  | i :: l, _, h1, h2 => fold_u64 l _ (h1.or (oneW_u64 i).1) (h2.or (oneW_u64 i).2)
theorem ofS_u64 (l : List Int) : U64 (ofS l).1 ∧ U64 (ofS l).2 := fold_u64 l (0, 0) zero_u64 zero_u64
theorem fold_has : ∀ (l : List Int) (s : Nat × Nat) (j : Nat), hasB (l.foldl (fun s i => (s.1 ||| (oneW i).1, s.2 ||| (oneW i).2)) s).1 (l.foldl (fun s i => (s.1 ||| (oneW i).1, s.2 ||| (oneW i).2)) s).2 j = (hasB s.1 s.2 j || (decide (j < 128) && l.any fun i => decide ((j : Int) = i)))
  | [], s, j => by simp
  | i :: l, s, j => by
    rw [List.foldl_cons, fold_has l _ j, hasB_or, hasB_one, List.any_cons]
    cases hasB s.1 s.2 j <;> cases decide ((j : Int) = i) <;> cases decide (j < 128) <;> simp
theorem hasB_ofS (l : List Int) (j : Nat) : hasB (ofS l).1 (ofS l).2 j = (decide (j < 128) && l.any fun i => decide ((j : Int) = i)) := by
  unfold ofS
  rw [fold_has]
  unfold hasB
  simp
theorem SetAt.put {w : World} {b x y : Nat} (h : SetAt w b x y) (c d : Nat) : SetAt ((w.setCell ⟨b, 0, none⟩ (.int .u64 (c : Int))).setCell ⟨b, 1, none⟩ (.int .u64 (d : Int))) b c d :=
  heap_setCell_same _ b 1 _ _ _ (heap_setCell_same w b 0 _ _ _ h)
theorem SetAt.far {w : World} {b x y : Nat} (h : SetAt w b x y) {q : Nat} (hq : b ≠ q) (i : Nat) (u : Value) : SetAt (w.setCell ⟨q, i, none⟩ u) b x y := (heap_setCell_other _ _ _ _ hq).trans h
def OfR (w : World) (l : List Int) (g : Nat) (v : Value) (wr : World) : Prop :=
  ∃ i : Nat, i ≤ l.length ∧ g = l.length - i ∧ v = .int .i64 i ∧ SetAt wr (w.heap.size + 1) (ofS (l.take i)).1 (ofS (l.take i)).2 ∧ SetAt wr w.heap.size 0 0 ∧ Below w.heap.size w wr
set_option maxRecDepth 100000 in
set_option maxHeartbeats 4000000 in
theorem of_any (l : List Int) (v : Value) (w : World) (hv : IntsAt w v l) (hl : l.length ≤ 1000000) :
    Calls Tryz.prog 21 #[v] w fun e w' => e = .returned (setV (ofS l).1 (ofS l).2) ∧ Below w.heap.size w w' := by
  obtain ⟨a, cap, rfl⟩ := hv.form
  have HV := Lib.hid hv
  have HS := SW.start w 0 0
  have H0 : Hid (OfR w l l.length (.int .i64 0) ((w.alloc (.cells #[.int .u64 0, .int .u64 0] 43)).alloc (.cells #[.int .u64 0, .int .u64 0] 43))) :=
    Lib.hid ⟨0, Nat.zero_le _, by omega, rfl, HS.res, HS.set, HS.below⟩
  clear hv HS
  go_enter Tryz.func21, Tryz.ntmps21
  go_wp2_with fail
  generalize (w.alloc (.cells #[.int .u64 0, .int .u64 0] 43)).alloc (.cells #[.int .u64 0, .int .u64 0] 43) = w1 at *
  go_loopg [8] l.length (fun g u wr => OfR w l g u wr)
  case atStart => exact H0.out
  case round =>
    obtain ⟨i, hi, hgi, rfl, hs, hr, hb⟩ := hrel
    by_cases hlt : i < l.length
    · obtain ⟨x, hx⟩ : ∃ x, l[i]? = some x := ⟨_, List.getElem?_eq_getElem hlt⟩
      obtain ⟨b, off, rfl, hcell⟩ := HV.out.at hx hb
      obtain ⟨u1, u2⟩ := ofS_u64 (l.take i)
      have HW := Lib.hid (with_any _ _ x u1 u2 wr)
      have e := ofS_take hx
      have e1 : (ofS (l.take i)).1 ||| (oneW x).1 = (ofS (l.take (i + 1))).1 := by rw [e]
      have e2 : (ofS (l.take i)).2 ||| (oneW x).2 = (ofS (l.take (i + 1))).2 := by rw [e]
      rw [e1, e2] at HW
      clear e e1 e2 u1 u2 hx
      generalize (ofS (l.take i)).1 = p at *
      generalize (ofS (l.take i)).2 = q at *
      generalize hp' : (ofS (l.take (i + 1))).1 = p' at *
      generalize hq' : (ofS (l.take (i + 1))).2 = q' at *
      have HP := Lib.hid hp'
      have HQ := Lib.hid hq'
      have HB := Lib.hid hb
      have HR := Lib.hid hr
      have HS := Lib.hid hs
      obtain ⟨k0, k1, kf⟩ := hs.cells
      clear hp' hq' hb hr hs kf
      go_wp2_with fail
      refine HW.out.mono ?_
      rintro e w3 ⟨rfl, b3⟩
      have hs3 := HS.out.step b3
      obtain ⟨k0, k1, kf⟩ := hs3.cells
      have k2 := kf 0
      have k3 := kf 1
      have H3 : Hid (OfR w l (l.length - (i + 1)) (.int .i64 ((i : Int) + 1)) ((w3.setCell ⟨w.heap.size + 1, 0, none⟩ (.int .u64 (p' : Int))).setCell ⟨w.heap.size + 1, 1, none⟩ (.int .u64 (q' : Int)))) := Lib.hid
        ⟨i + 1, by omega, rfl, by go_num, by rw [HP.out, HQ.out]; exact hs3.put _ _, ((HR.out.step b3).far (by omega) _ _).far (by omega) _ _,
          ((HB.out.trans (b3.mono HB.out.size)).setCell (p := ⟨w.heap.size + 1, 0, none⟩) (Nat.le_succ _) _).setCell (p := ⟨w.heap.size + 1, 1, none⟩) (Nat.le_succ _) _⟩
      clear b3 hs3 kf HW
      go_wp2_with fail
      go_roundg (l.length - (i + 1))
      case measure => omega
      case rel => exact H3.out
    · obtain rfl : i = l.length := by omega
      rw [List.take_length] at hs
      obtain ⟨k0, k1, -⟩ := hs.cells
      obtain ⟨r0, r1, rf⟩ := hr.cells
      have r2 := rf 0
      have r3 := rf 1
      have HB := Lib.hid hb
      clear hs hr rf hb hlt hi
      generalize hp : (ofS l).1 = p at *
      generalize hq : (ofS l).2 = q at *
      have HP := Lib.hid hp
      have HQ := Lib.hid hq
      clear hp hq
      go_wp2_with fail
      refine bodyPost_ret (v := setV p q) (by simp [results, Tryz.f21, go_sem, r0, r1]) rfl ⟨by rw [HP.out, HQ.out], ?_⟩
      exact (HB.out.setCell (p := ⟨w.heap.size, 0, none⟩) (Nat.le_refl _) _).setCell (p := ⟨w.heap.size, 1, none⟩) (Nat.le_refl _) _
def firstN (k : Nat) : List Int := (List.range k).map Int.ofNat
theorem firstN_succ (k : Nat) : firstN (k + 1) = firstN k ++ [(k : Int)] := by unfold firstN; rw [List.range_succ, List.map_append]; rfl
def UpR (w : World) (N : Nat) (g : Nat) (v : Value) (wr : World) : Prop :=
  ∃ i : Nat, i ≤ N ∧ g = N - i ∧ v = .int .i64 i ∧ SetAt wr (w.heap.size + 1) (ofS (firstN i)).1 (ofS (firstN i)).2 ∧ SetAt wr w.heap.size 0 0 ∧ Below w.heap.size w wr
set_option maxRecDepth 100000 in
set_option maxHeartbeats 4000000 in
theorem upto_any (n : Int) (hn : -9223372036854775808 ≤ n ∧ n ≤ 9223372036854775807) (w : World) :
    Calls Tryz.prog 34 #[.int .i64 n] w fun e w' => e = .returned (setV (ofS (firstN (min n 128).toNat)).1 (ofS (firstN (min n 128).toNat)).2) ∧ Below w.heap.size w w' := by
  obtain ⟨N, hN⟩ : ∃ N : Nat, N = (min n 128).toNat := ⟨_, rfl⟩
  rw [← hN]
  have hN1 : N ≤ 128 := by omega
  have HN := Lib.hid hN
  have HS := SW.start w 0 0
  have H0 : Hid (UpR w N N (.int .i64 0) ((w.alloc (.cells #[.int .u64 0, .int .u64 0] 43)).alloc (.cells #[.int .u64 0, .int .u64 0] 43))) :=
    Lib.hid ⟨0, Nat.zero_le _, by omega, rfl, HS.res, HS.set, HS.below⟩
  clear HS hN
  obtain ⟨m, hm⟩ : ∃ m : Int, m = min n 128 := ⟨_, rfl⟩
  have hmin : ∀ w : World, (Builtin.min_ #[3, 3] 3 #[.int .i64 n, .int .i64 128]).run Tryz.prog w = .ok (.int .i64 m) w := by
    intro w
    rw [run_min_int2]
    congr 2
    omega
  have HM := Lib.hid hm
  clear hm
  go_enter Tryz.func34, Tryz.ntmps34
  go_wp2_with fail
  generalize (w.alloc (.cells #[.int .u64 0, .int .u64 0] 43)).alloc (.cells #[.int .u64 0, .int .u64 0] 43) = w1 at *
  clear hmin
  go_loopg [7] N (fun g u wr => UpR w N g u wr)
  case atStart => exact H0.out
  case round =>
    obtain ⟨i, hi, hgi, rfl, hs, hr, hb⟩ := hrel
    by_cases hlt : i < N
    · have hmi : (i : Int) < m := by have := HN.out; have := HM.out; omega
      obtain ⟨u1, u2⟩ := ofS_u64 (firstN i)
      have HW := Lib.hid (with_any _ _ (i : Int) u1 u2 wr)
      have e := (congrArg ofS (firstN_succ i)).trans (ofS_snoc (firstN i) i)
      have e1 : (ofS (firstN i)).1 ||| (oneW (i : Int)).1 = (ofS (firstN (i + 1))).1 := by rw [e]
      have e2 : (ofS (firstN i)).2 ||| (oneW (i : Int)).2 = (ofS (firstN (i + 1))).2 := by rw [e]
      rw [e1, e2] at HW
      clear e e1 e2 u1 u2
      generalize (ofS (firstN i)).1 = p at *
      generalize (ofS (firstN i)).2 = q at *
      generalize hp' : (ofS (firstN (i + 1))).1 = p' at *
      generalize hq' : (ofS (firstN (i + 1))).2 = q' at *
      have HP := Lib.hid hp'
      have HQ := Lib.hid hq'
      have HB := Lib.hid hb
      have HR := Lib.hid hr
      have HS := Lib.hid hs
      obtain ⟨k0, k1, kf⟩ := hs.cells
      clear hp' hq' hb hr hs kf
      go_wp2_with fail
      refine HW.out.mono ?_
      rintro e w3 ⟨rfl, b3⟩
      have hs3 := HS.out.step b3
      obtain ⟨k0, k1, kf⟩ := hs3.cells
      have k2 := kf 0
      have k3 := kf 1
      have H3 : Hid (UpR w N (N - (i + 1)) (.int .i64 ((i : Int) + 1)) ((w3.setCell ⟨w.heap.size + 1, 0, none⟩ (.int .u64 (p' : Int))).setCell ⟨w.heap.size + 1, 1, none⟩ (.int .u64 (q' : Int)))) := Lib.hid
        ⟨i + 1, by omega, rfl, by go_num, by rw [HP.out, HQ.out]; exact hs3.put _ _, ((HR.out.step b3).far (by omega) _ _).far (by omega) _ _,
          ((HB.out.trans (b3.mono HB.out.size)).setCell (p := ⟨w.heap.size + 1, 0, none⟩) (Nat.le_succ _) _).setCell (p := ⟨w.heap.size + 1, 1, none⟩) (Nat.le_succ _) _⟩
      clear b3 hs3 kf HW
      go_wp2_with fail
      go_roundg (N - (i + 1))
      case measure => omega
      case rel => exact H3.out
    · obtain rfl : i = N := by omega
      have hmi : decide ((i : Int) < m) = false := decide_eq_false (by have := HN.out; have := HM.out; omega)
      obtain ⟨k0, k1, -⟩ := hs.cells
      obtain ⟨r0, r1, rf⟩ := hr.cells
      have r2 := rf 0
      have r3 := rf 1
      have HB := Lib.hid hb
      clear hs hr rf hb hlt hi
      generalize hp : (ofS (firstN i)).1 = p at *
      generalize hq : (ofS (firstN i)).2 = q at *
      have HP := Lib.hid hp
      have HQ := Lib.hid hq
      clear hp hq
      go_wp2_with fail
      refine bodyPost_ret (v := setV p q) (by simp [results, Tryz.f34, go_sem, r0, r1]) rfl ⟨by rw [HP.out, HQ.out], ?_⟩
      exact (HB.out.setCell (p := ⟨w.heap.size, 0, none⟩) (Nat.le_refl _) _).setCell (p := ⟨w.heap.size, 1, none⟩) (Nat.le_refl _) _
end Go.Proofs.YtbhkfifmgbcknaaGreatDoor
