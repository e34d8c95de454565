/-
  Package bits by contracts, second part: Has, With, Without, Under, Empty, Len, Of, Upto.
-/
import Derived.Test.YtjlbdjagbbpoaaaDoorBitB
import Derived.Deep.QuietTactic
import Derived.BigQuiet
import Derived.StillTailTactics
import Derived.Deep.RegionHeld3
namespace Go.Proofs.YtjlbdjagbbpoaaaDoor
open Go.RowKit Go.Extern.Stop Go.Stop Go.Extern

theorem size64 : (Tryd.prog.info? 32).map (fun i => (i.zero, i.size, i.bytes)) = some (some (.int .u64 0), 1, 8) := by kernel_rfl
theorem eq_deep (d : Nat) (x y c e : Int) (w : World) : (Op.equalIn (d + 2) 34 (.agg #[.int .u64 x, .int .u64 y]) (.agg #[.int .u64 c, .int .u64 e])).run Tryd.prog w = .ok (x == c && y == e) w := by
  have h26 := Tryd.underlying34
  have h24 := Tryd.underlying32
  obtain ⟨i0, hi, hz0, hz1, hz2⟩ := info_parts size64
  have hin := fun a b => run_equalIn_int (P := Tryd.prog) (w := w) d 32 .u64 .u64 a b h24
  rw [Op.equalIn]
  have ha : ∀ w : World, (isAgg 32).run Tryd.prog w = .ok false w := fun w => by simp [isAgg, run_underlying h24]
  cases h1 : x == c <;> cases h2 : y == e <;>
    simp [run_underlying h26, sizeOf, typeInfo, hi, hz1, part, show List.range' 0 2 = [0, 1] from rfl, ha, hin, h1, h2]
theorem eq_set (x y c e : Int) (w : World) : (Op.equalIn 10000 34 (.agg #[.int .u64 x, .int .u64 y]) (.agg #[.int .u64 c, .int .u64 e])).run Tryd.prog w = .ok (x == c && y == e) w := eq_deep 9998 x y c e w
/-- A set in a block of its own. -/
def SetAt (w : World) (b : Nat) (x y : Nat) : Prop := w.heap[b]? = some (.cells #[.int .u64 (x : Int), .int .u64 (y : Int)] 34 (0, 0))
theorem SetAt.lt {w : World} {b x y : Nat} (h : SetAt w b x y) : b < w.heap.size := (Array.getElem?_eq_some_iff.1 h).1
theorem SetAt.cells {w : World} {b x y : Nat} (h : SetAt w b x y) : w.cell? ⟨b, 0, none⟩ = some (.int .u64 (x : Int)) ∧ w.cell? ⟨b, 1, none⟩ = some (.int .u64 (y : Int)) ∧ ∀ i, w.frozen? ⟨b, i, none⟩ = false :=
  ⟨by rw [Lib.cell_of_heap h]; rfl, by rw [Lib.cell_of_heap h]; rfl, fun i => by unfold World.frozen?; rw [h]; simp⟩
theorem SetAt.step {w w' : World} {b x y : Nat} (h : SetAt w b x y) (hb : Below w.heap.size w w') : SetAt w' b x y := (hb.block b h.lt).trans h
/-- On the way: a set of the call's own, the result's block, and old memory. -/
structure SW (w0 : World) (b x y r : Nat) (w : World) : Prop where
  set : SetAt w b x y
  res : SetAt w r 0 0
  below : Below w0.heap.size w0 w
theorem SW.step {w0 : World} {b x y r : Nat} {w w' : World} (h : SW w0 b x y r w) (hb : Below w.heap.size w w') : SW w0 b x y r w' := ⟨h.set.step hb, h.res.step hb, h.below.trans (hb.mono h.below.size)⟩
theorem SW.start (w : World) (x y : Nat) : SW w w.heap.size x y (w.heap.size + 1) ((w.alloc (.cells #[.int .u64 (x : Int), .int .u64 (y : Int)] 34)).alloc (.cells #[.int .u64 0, .int .u64 0] 34)) :=
  ⟨(heap_alloc_old _ _ (by simp)).trans (heap_alloc_new w _), by have := heap_alloc_new (w.alloc (.cells #[.int .u64 (x : Int), .int .u64 (y : Int)] 34)) (.cells #[.int .u64 0, .int .u64 0] 34); rwa [World.size_alloc] at this,
    (below_new w _).trans ((below_new _ _).mono (below_new w _).size)⟩
theorem ret_int {k : IntKind} {a b : Int} (h : a = b) : Ending.returned (.int k a) = .returned (.int k b) := by rw [h]
theorem below_drewN (w : World) (n : Nat) : Below w.heap.size w (w.drewN n) := by
  induction n with
  | zero => exact Below.refl _ _
  | succ n ih => exact ⟨ih.os, ih.tape, ih.output, ih.size, ih.block⟩

set_option maxRecDepth 100000 in
set_option maxHeartbeats 2000000 in
theorem with_any (a b : Nat) (i : Int) (ha : U64 a) (hb : U64 b) (w : World) :
    Calls Tryd.prog 61 #[setV a b, .int .i64 i] w fun e w' => e = .returned (setV (a ||| (oneW i).1) (b ||| (oneW i).2)) ∧ Below w.heap.size w w' := by
  have HI := Lib.hid (SW.start w a b)
  have HO := Lib.hid (fun w' => or_any a b (oneW i).1 (oneW i).2 ha hb (oneW_u64 i).1 (oneW_u64 i).2 w')
  have HN := Lib.hid (fun w' => one_any i w')
  generalize (oneW i).1 = c at *
  generalize (oneW i).2 = d at *
  go_enter Tryd.func61, Tryd.ntmps61
  go_wp2_with fail
  have hI := HI.out.step (Below.refl _ _).drew
  clear HI
  generalize (w.alloc (.cells #[.int .u64 (a : Int), .int .u64 (b : Int)] 34)).alloc (.cells #[.int .u64 0, .int .u64 0] 34) = w1 at *
  have k0 := hI.set.cells.1
  have k1 := hI.set.cells.2.1
  go_region_held3 (fun w' => w'.cell? ⟨w.heap.size, 0, none⟩ = some (.int .u64 (a : Int)) ∧ w'.cell? ⟨w.heap.size, 1, none⟩ = some (.int .u64 (b : Int)))
    (first | exact ⟨k0, k1⟩ | exact ⟨hI.set.cells.1, hI.set.cells.2.1⟩ | go_keep)
    (first
    | (go_at_call 43; refine (HN.out _).mono ?_; rintro e w2 ⟨rfl, b2⟩; replace hI := hI.step b2)
    | (go_at_call 66; refine (HO.out _).mono ?_; rintro e w3 ⟨rfl, b3⟩; replace hI := hI.step b3; have r0 := hI.res.cells.1; have r1 := hI.res.cells.2.1; have r2 := hI.res.cells.2.2 0; have r3 := hI.res.cells.2.2 1; have s0 := hI.set.cells.1; have s1 := hI.set.cells.2.1))
  all_goals
    go_wp2_with fail
    refine bodyPost_ret (v := setV (a ||| c) (b ||| d)) (by simp [results, Tryd.f61, go_sem, r0, r1]) rfl ⟨rfl, ?_⟩
    exact (hI.below.setCell (p := ⟨w.heap.size + 1, 0, none⟩) (Nat.le_succ _) _).setCell (p := ⟨w.heap.size + 1, 1, none⟩) (Nat.le_succ _) _

theorem boxed_set (w : World) (a b : Nat) : SetAt (w.alloc (.cells #[.int .u64 (a : Int), .int .u64 (b : Int)] 34)) w.heap.size a b := heap_alloc_new w _
/-- Is a set empty? -/
def emptyB (a b : Nat) : Bool := decide (a = 0 ∧ b = 0)
set_option maxRecDepth 100000 in
set_option maxHeartbeats 2000000 in
theorem has_go (a b c d : Nat) (i : Int) (ha : U64 a) (hb : U64 b) (hc : U64 c) (hd : U64 d) (ho : oneW i = (c, d)) (r : Bool) (hr : emptyB (a &&& c) (b &&& d) = !r) (w : World) :
    Calls Tryd.prog 21 #[setV a b, .int .i64 i] w fun e w' => e = .returned (.bool r) ∧ Below w.heap.size w w' := by
  have HI : Hid (SetAt (w.alloc (.cells #[.int .u64 (a : Int), .int .u64 (b : Int)] 34)) w.heap.size a b) := Lib.hid (boxed_set w a b)
  have HB : Hid (Below w.heap.size w (w.alloc (.cells #[.int .u64 (a : Int), .int .u64 (b : Int)] 34)).drew) := Lib.hid (below_new w _).drew
  have HO := Lib.hid (fun w' => and_any a b c d ha hb hc hd w')
  have HN := Lib.hid (fun w' => one_any i w')
  rw [ho] at HN
  generalize a &&& c = x at *
  generalize b &&& d = y at *
  have heq := eq_set x y 0 0
  cases r with
  | true =>
    have hq : ((x : Int) == 0 && (y : Int) == 0) = false := by
      unfold emptyB at hr
      simp at hr ⊢
      omega
    rw [hq] at heq
    clear hq hr
    go_enter Tryd.func21, Tryd.ntmps21
    go_wp2_with fail
    have hI := HI.out.step (Below.refl _ _).drew
    have hB := HB.out
    clear HI HB
    generalize w.alloc (.cells #[.int .u64 (a : Int), .int .u64 (b : Int)] 34) = w1 at *
    have k0 := hI.cells.1
    have k1 := hI.cells.2.1
    go_region_held3 (fun w' => w'.cell? ⟨w.heap.size, 0, none⟩ = some (.int .u64 (a : Int)) ∧ w'.cell? ⟨w.heap.size, 1, none⟩ = some (.int .u64 (b : Int)))
      (first | exact ⟨k0, k1⟩ | exact ⟨hI.cells.1, hI.cells.2.1⟩ | go_keep)
      (first
      | (go_at_call 43; refine (HN.out _).mono ?_; rintro e w2 ⟨rfl, b2⟩; replace hI := hI.step b2; replace hB := hB.trans (b2.mono hB.size))
      | (go_at_call 42; refine (HO.out _).mono ?_; rintro e w3 ⟨rfl, b3⟩; replace hI := hI.step b3; replace hB := hB.trans (b3.mono hB.size)))
    all_goals
      go_wp2_with fail
      go_ret
      exact ⟨rfl, hB⟩
  | false =>
    have hq : ((x : Int) == 0 && (y : Int) == 0) = true := by
      unfold emptyB at hr
      simp at hr ⊢
      omega
    rw [hq] at heq
    clear hq hr
    go_enter Tryd.func21, Tryd.ntmps21
    go_wp2_with fail
    have hI := HI.out.step (Below.refl _ _).drew
    have hB := HB.out
    clear HI HB
    generalize w.alloc (.cells #[.int .u64 (a : Int), .int .u64 (b : Int)] 34) = w1 at *
    have k0 := hI.cells.1
    have k1 := hI.cells.2.1
    go_region_held3 (fun w' => w'.cell? ⟨w.heap.size, 0, none⟩ = some (.int .u64 (a : Int)) ∧ w'.cell? ⟨w.heap.size, 1, none⟩ = some (.int .u64 (b : Int)))
      (first | exact ⟨k0, k1⟩ | exact ⟨hI.cells.1, hI.cells.2.1⟩ | go_keep)
      (first
      | (go_at_call 43; refine (HN.out _).mono ?_; rintro e w2 ⟨rfl, b2⟩; replace hI := hI.step b2; replace hB := hB.trans (b2.mono hB.size))
      | (go_at_call 42; refine (HO.out _).mono ?_; rintro e w3 ⟨rfl, b3⟩; replace hI := hI.step b3; replace hB := hB.trans (b3.mono hB.size)))
    all_goals
      go_wp2_with fail
      go_ret
      exact ⟨rfl, hB⟩

theorem ext_zero {a b : Nat} (ha : U64 a) (hb : U64 b) : emptyB a b = true ↔ ∀ i, hasB a b i = false := by
  unfold emptyB
  rw [decide_eq_true_iff]
  constructor
  · rintro ⟨rfl, rfl⟩ i
    unfold hasB
    simp
  · intro h
    exact set_ext ha hb zero_u64 zero_u64 (fun i => by rw [h i]; unfold hasB; simp)
/-- Is a number in a set? -/
def hasI (a b : Nat) (i : Int) : Bool := decide (0 ≤ i) && hasB a b i.toNat
theorem has_empty (a b : Nat) (i : Int) (ha : U64 a) (hb : U64 b) : emptyB (a &&& (oneW i).1) (b &&& (oneW i).2) = !hasI a b i := by
  rw [Bool.eq_iff_iff, ext_zero (ha.and _) (hb.and _)]
  unfold hasI
  constructor
  · intro h
    rw [Bool.not_eq_true', Bool.and_eq_false_iff]
    by_cases h0 : 0 ≤ i
    · right
      by_cases h1 : i < 128
      · have := h i.toNat
        rw [hasB_and, hasB_one, show ((i.toNat : Int) = i) by omega] at this
        simpa [show i.toNat < 128 by omega] using this
      · exact hasB_ge _ _ (by omega)
    · left; simpa using h0
  · intro h j
    rw [hasB_and, hasB_one]
    by_cases hj : (j : Int) = i
    · subst hj
      simp at h
      simp [h]
    · simp [hj]
theorem has_any (a b : Nat) (i : Int) (ha : U64 a) (hb : U64 b) (w : World) :
    Calls Tryd.prog 21 #[setV a b, .int .i64 i] w fun e w' => e = .returned (.bool (hasI a b i)) ∧ Below w.heap.size w w' :=
  has_go a b _ _ i ha hb (oneW_u64 i).1 (oneW_u64 i).2 rfl _ (has_empty a b i ha hb) w

set_option maxHeartbeats 1000000 in
theorem empty_any (a b : Nat) (w : World) : Calls Tryd.prog 57 #[setV a b] w fun e w' => e = .returned (.bool (emptyB a b)) ∧ Below w.heap.size w w' := by
  have heq := eq_set a b 0 0
  have he : ((a : Int) == 0 && (b : Int) == 0) = emptyB a b := by unfold emptyB; rw [Bool.eq_iff_iff]; simp
  rw [he] at heq
  go_enter Tryd.func57, Tryd.ntmps57
  go_wp2_with fail
  go_ret
  exact ⟨rfl, below_new _ _⟩

theorem ones_same (x : Nat) (hx : U64 x) (w : World) : Calls Tryd.prog 44 #[.int .u64 (x : Int)] w fun e w' => e = .returned (.int .i64 (bitsOf 64 x).length) ∧ w' = w :=
  (ones_any x hx w).mono fun _ _ h => ⟨h.1, h.2.symm⟩
theorem bitsOf_le (n x : Nat) : (bitsOf n x).length ≤ n := by
  unfold bitsOf
  have := List.length_filter_le x.testBit (List.range n)
  simpa using this
theorem setL_len (a b : Nat) : (setL a b).length = (bitsOf 64 a).length + (bitsOf 64 b).length := by unfold setL; simp
set_option maxHeartbeats 1000000 in
theorem len_any (a b : Nat) (ha : U64 a) (hb : U64 b) (w : World) : Calls Tryd.prog 23 #[setV a b] w fun e w' => e = .returned (.int .i64 (setL a b).length) ∧ Below w.heap.size w w' := by
  have l1 := bitsOf_le 64 a
  have l2 := bitsOf_le 64 b
  have H1 := Lib.hid (fun w' => ones_same a ha w')
  have H2 := Lib.hid (fun w' => ones_same b hb w')
  rw [setL_len]
  generalize (bitsOf 64 a).length = x at *
  generalize (bitsOf 64 b).length = y at *
  have hw : IntKind.i64.wrap ((x : Int) + y) = (x : Int) + y := IntWalk.i64_in _ (by omega)
  have hbn := Lib.hid (below_new w (.cells #[.int .u64 (a : Int), .int .u64 (b : Int)] 34))
  go_enter Tryd.func23, Tryd.ntmps23
  go_wp2_with fail
  go_quiet ((first | (go_at_call_of 44 (Value.int IntKind.u64 (a : Int)); exact Calls.quiet_of_same (H1.out _)) | (go_at_call_of 44 (Value.int IntKind.u64 (b : Int)); exact Calls.quiet_of_same (H2.out _))))
  go_wp2_with fail
  go_ret
  refine ⟨ret_int (by simp), ?_⟩
  exact hbn.out.trans ((below_drewN _ _).mono hbn.out.size)
end Go.Proofs.YtjlbdjagbbpoaaaDoor
