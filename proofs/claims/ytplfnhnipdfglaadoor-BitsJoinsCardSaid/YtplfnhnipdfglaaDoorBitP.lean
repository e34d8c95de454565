/-
  BitsJoins' law, by contract.
-/
import Derived.Test.YtplfnhnipdfglaaDoorBitN
namespace Go.Proofs.YtplfnhnipdfglaaDoor
open Go.RowKit Go.Extern.Stop Go.Stop Go.Extern

/-- On the way: two boxed sets, and the lists of both. -/
structure JSt (w0 : World) (B a a' b b' : Nat) (va vb : Value) (W : World) : Prop where
  sa : SetAt W B a a'
  sb : SetAt W (B + 1) b b'
  la : IntsAt W va (intsL a a')
  lb : IntsAt W vb (intsL b b')
  tab : TabB W
  below : Below w0.heap.size w0 W
theorem JSt.step {w0 : World} {B a a' b b' : Nat} {va vb : Value} {W W' : World} (h : JSt w0 B a a' b b' va vb W) (hb : Below W.heap.size W W') : JSt w0 B a a' b b' va vb W' :=
  ⟨h.sa.step hb, h.sb.step hb, h.la.step hb, h.lb.step hb, h.tab.below h.tab.lt hb, h.below.trans (hb.mono h.below.size)⟩
theorem JSt.cells {w0 : World} {B a a' b b' : Nat} {va vb : Value} {W : World} (h : JSt w0 B a a' b b' va vb W) : W.cell? ⟨B, 0, none⟩ = some (.int .u64 (a : Int)) ∧ W.cell? ⟨B, 1, none⟩ = some (.int .u64 (a' : Int)) ∧
    W.cell? ⟨B + 1, 0, none⟩ = some (.int .u64 (b : Int)) ∧ W.cell? ⟨B + 1, 1, none⟩ = some (.int .u64 (b' : Int)) := ⟨h.sa.cells.1, h.sa.cells.2.1, h.sb.cells.1, h.sb.cells.2.1⟩
structure TwoSt (w0 : World) (B a a' b b' : Nat) (W : World) : Prop where
  sa : SetAt W B a a'
  sb : SetAt W (B + 1) b b'
  tab : TabB W
  below : Below w0.heap.size w0 W
theorem TwoSt.step {w0 : World} {B a a' b b' : Nat} {W W' : World} (h : TwoSt w0 B a a' b b' W) (hb : Below W.heap.size W W') : TwoSt w0 B a a' b b' W' :=
  ⟨h.sa.step hb, h.sb.step hb, h.tab.below h.tab.lt hb, h.below.trans (hb.mono h.below.size)⟩
theorem TwoSt.cells {w0 : World} {B a a' b b' : Nat} {W : World} (h : TwoSt w0 B a a' b b' W) : W.cell? ⟨B, 0, none⟩ = some (.int .u64 (a : Int)) ∧ W.cell? ⟨B, 1, none⟩ = some (.int .u64 (a' : Int)) ∧
    W.cell? ⟨B + 1, 0, none⟩ = some (.int .u64 (b : Int)) ∧ W.cell? ⟨B + 1, 1, none⟩ = some (.int .u64 (b' : Int)) := ⟨h.sa.cells.1, h.sa.cells.2.1, h.sb.cells.1, h.sb.cells.2.1⟩
theorem TwoSt.start (w : World) (a a' b b' : Nat) (ht : TabB w) : TwoSt w w.heap.size a a' b b' ((w.alloc (.cells #[.int .u64 (a : Int), .int .u64 (a' : Int)] 26)).alloc (.cells #[.int .u64 (b : Int), .int .u64 (b' : Int)] 26)) := by
  have hB := (below_new w (.cells #[.int .u64 (a : Int), .int .u64 (a' : Int)] 26)).trans ((below_new (w.alloc (.cells #[.int .u64 (a : Int), .int .u64 (a' : Int)] 26)) (.cells #[.int .u64 (b : Int), .int .u64 (b' : Int)] 26)).mono (below_new w _).size)
  refine ⟨(heap_alloc_old _ _ (by simp)).trans (heap_alloc_new w _), ?_, ht.below ht.lt hB, hB⟩
  have := heap_alloc_new (w.alloc (.cells #[.int .u64 (a : Int), .int .u64 (a' : Int)] 26)) (.cells #[.int .u64 (b : Int), .int .u64 (b' : Int)] 26)
  rwa [World.size_alloc] at this

set_option maxRecDepth 100000 in
set_option maxHeartbeats 20000000 in
theorem bitsJoins_any (a a' b b' : Nat) (ha : U64 a) (ha' : U64 a') (hb : U64 b) (hb' : U64 b') (w : World) (ht : TabB w) :
    Calls Tryd.prog 4 #[setV a a', setV b b'] w fun e w' => e = .returned (.bool true) ∧ Below w.heap.size w w' := by
  have H0 := TwoSt.start w a a' b b' ht
  have HA := Lib.hid (awake7_any _ H0.tab)
  have HH := Lib.hid H0
  have hla := intsL_le a a'
  have hlb := intsL_le b b'
  have hU := under_less ha ha' hb hb'
  rw [intsL_nil (U64.less _ ha) (U64.less _ ha')] at hU
  clear H0 ht
  go_enter Tryd.func4, Tryd.ntmps4
  go_wp2_with fail
  refine HA.out.mono ?_
  rintro e w1 ⟨rfl, b1⟩
  have hI := (HH.out.step b1).step (Below.refl _ _).drew
  clear b1 HA HH
  go_wp2_with fail
  have kk := hI.cells
  go_region_held3 (fun w' => w'.cell? ⟨w.heap.size, 0, none⟩ = some (.int .u64 (a : Int)) ∧ w'.cell? ⟨w.heap.size, 1, none⟩ = some (.int .u64 (a' : Int)) ∧ w'.cell? ⟨w.heap.size + 1, 0, none⟩ = some (.int .u64 (b : Int)) ∧ w'.cell? ⟨w.heap.size + 1, 1, none⟩ = some (.int .u64 (b' : Int)))
    (first | exact kk | exact hI.cells)
    ((go_at_call 19; refine (list_ints _ _ (by assumption) (by assumption) _ hI.tab).mono ?_; rintro e w2 ⟨vl, rfl, hx, b2⟩; replace hI := hI.step b2; (first | (replace hA := hA.step b2; have hB := hx; clear hx b2) | (have hA := hx; clear hx b2))))
  have hJ : JSt w w.heap.size a a' b b' _ _ _ := ⟨hI.sa, hI.sb, hA, hB, hI.tab, hI.below⟩
  clear hI hA hB kk
  have hI := hJ.step (Below.refl _ _).drew
  clear hJ
  by_cases hz : (intsL (lessN a b) (lessN a' b')).length = 0
  · have HU : Hid (sameB (a &&& b) (a' &&& b') a a' = true) := Lib.hid (by rw [hU]; exact decide_eq_true hz)
    have hz' : ((intsL (lessN a b) (lessN a' b')).length : Int) = 0 := by omega
    clear hU hz
    go_wp2_with fail
    have kk := hI.cells
    go_region_held3 (fun w' => w'.cell? ⟨w.heap.size, 0, none⟩ = some (.int .u64 (a : Int)) ∧ w'.cell? ⟨w.heap.size, 1, none⟩ = some (.int .u64 (a' : Int)) ∧ w'.cell? ⟨w.heap.size + 1, 0, none⟩ = some (.int .u64 (b : Int)) ∧ w'.cell? ⟨w.heap.size + 1, 1, none⟩ = some (.int .u64 (b' : Int)))
      (first | exact kk | exact hI.cells)
      (first
      | (go_at_call 9; refine (rof_any (intsL a a') _ _ hI.la (by omega)).mono ?_; rintro e w2 ⟨y, rfl, hy, b2⟩; replace hI := hI.step b2; have hY := IntsAt.own hy rfl; clear hy b2; rw [rof_ints] at hY)
      | (go_at_call 10; refine (is_any _ _ (by repeat (first | assumption | apply U64.or | apply U64.and | apply U64.less)) (by repeat (first | assumption | apply U64.or | apply U64.and | apply U64.less)) _ _ hY hI.tab).mono ?_; rintro e w2 ⟨rfl, b2⟩; replace hI := hI.step b2; clear b2 hY)
      | (go_at_call 16; refine (ror_any (intsL a a') (intsL b b') _ _ _ hI.la hI.lb (by omega) (by omega)).mono ?_; rintro e w2 ⟨y, rfl, hy, b2⟩; replace hI := hI.step b2; have hY := IntsAt.own hy rfl; clear hy b2; rw [rof_or] at hY)
      | (go_at_call 22; refine (rand_any (intsL a a') (intsL b b') _ _ _ hI.la hI.lb (by omega) (by omega)).mono ?_; rintro e w2 ⟨y, rfl, hy, b2⟩; replace hI := hI.step b2; have hY := IntsAt.own hy rfl; clear hy b2; rw [filt_and] at hY)
      | (go_at_call 18; refine (rless_any (intsL a a') (intsL b b') _ _ _ hI.la hI.lb (by omega) (by omega)).mono ?_; rintro e w2 ⟨y, rfl, hy, b2⟩; replace hI := hI.step b2; have hY := IntsAt.own hy rfl; clear hy b2; rw [filt_less ha ha' hb hb'] at hY; obtain ⟨py, cy, rfl⟩ := hY.form)
      | (go_at_call 20; refine (or_any _ _ _ _ (by repeat (first | assumption | apply U64.or | apply U64.and | apply U64.less)) (by repeat (first | assumption | apply U64.or | apply U64.and | apply U64.less)) (by repeat (first | assumption | apply U64.or | apply U64.and | apply U64.less)) (by repeat (first | assumption | apply U64.or | apply U64.and | apply U64.less)) _).mono ?_; rintro e w2 ⟨rfl, b2⟩; replace hI := hI.step b2; clear b2)
      | (go_at_call 21; refine (and_any _ _ _ _ (by repeat (first | assumption | apply U64.or | apply U64.and | apply U64.less)) (by repeat (first | assumption | apply U64.or | apply U64.and | apply U64.less)) (by repeat (first | assumption | apply U64.or | apply U64.and | apply U64.less)) (by repeat (first | assumption | apply U64.or | apply U64.and | apply U64.less)) _).mono ?_; rintro e w2 ⟨rfl, b2⟩; replace hI := hI.step b2; clear b2)
      | (go_at_call 23; refine (less_any _ _ _ _ (by repeat (first | assumption | apply U64.or | apply U64.and | apply U64.less)) (by repeat (first | assumption | apply U64.or | apply U64.and | apply U64.less)) (by repeat (first | assumption | apply U64.or | apply U64.and | apply U64.less)) (by repeat (first | assumption | apply U64.or | apply U64.and | apply U64.less)) _).mono ?_; rintro e w2 ⟨rfl, b2⟩; replace hI := hI.step b2; clear b2)
      | (go_at_call 24; refine (under_any _ _ _ _ (by repeat (first | assumption | apply U64.or | apply U64.and | apply U64.less)) (by repeat (first | assumption | apply U64.or | apply U64.and | apply U64.less)) (by repeat (first | assumption | apply U64.or | apply U64.and | apply U64.less)) (by repeat (first | assumption | apply U64.or | apply U64.and | apply U64.less)) _).mono ?_; rintro e w2 ⟨rfl, b2⟩; rw [HU.out]; replace hI := hI.step b2; clear b2))
    go_wp2_with fail
    go_ret
    exact ⟨rfl, hI.below⟩
  · have HU : Hid (sameB (a &&& b) (a' &&& b') a a' = false) := Lib.hid (by rw [hU]; exact decide_eq_false hz)
    have hz' : ¬ ((intsL (lessN a b) (lessN a' b')).length : Int) = 0 := by omega
    clear hU hz
    go_wp2_with fail
    have kk := hI.cells
    go_region_held3 (fun w' => w'.cell? ⟨w.heap.size, 0, none⟩ = some (.int .u64 (a : Int)) ∧ w'.cell? ⟨w.heap.size, 1, none⟩ = some (.int .u64 (a' : Int)) ∧ w'.cell? ⟨w.heap.size + 1, 0, none⟩ = some (.int .u64 (b : Int)) ∧ w'.cell? ⟨w.heap.size + 1, 1, none⟩ = some (.int .u64 (b' : Int)))
      (first | exact kk | exact hI.cells)
      (first
      | (go_at_call 9; refine (rof_any (intsL a a') _ _ hI.la (by omega)).mono ?_; rintro e w2 ⟨y, rfl, hy, b2⟩; replace hI := hI.step b2; have hY := IntsAt.own hy rfl; clear hy b2; rw [rof_ints] at hY)
      | (go_at_call 10; refine (is_any _ _ (by repeat (first | assumption | apply U64.or | apply U64.and | apply U64.less)) (by repeat (first | assumption | apply U64.or | apply U64.and | apply U64.less)) _ _ hY hI.tab).mono ?_; rintro e w2 ⟨rfl, b2⟩; replace hI := hI.step b2; clear b2 hY)
      | (go_at_call 16; refine (ror_any (intsL a a') (intsL b b') _ _ _ hI.la hI.lb (by omega) (by omega)).mono ?_; rintro e w2 ⟨y, rfl, hy, b2⟩; replace hI := hI.step b2; have hY := IntsAt.own hy rfl; clear hy b2; rw [rof_or] at hY)
      | (go_at_call 22; refine (rand_any (intsL a a') (intsL b b') _ _ _ hI.la hI.lb (by omega) (by omega)).mono ?_; rintro e w2 ⟨y, rfl, hy, b2⟩; replace hI := hI.step b2; have hY := IntsAt.own hy rfl; clear hy b2; rw [filt_and] at hY)
      | (go_at_call 18; refine (rless_any (intsL a a') (intsL b b') _ _ _ hI.la hI.lb (by omega) (by omega)).mono ?_; rintro e w2 ⟨y, rfl, hy, b2⟩; replace hI := hI.step b2; have hY := IntsAt.own hy rfl; clear hy b2; rw [filt_less ha ha' hb hb'] at hY; obtain ⟨py, cy, rfl⟩ := hY.form)
      | (go_at_call 20; refine (or_any _ _ _ _ (by repeat (first | assumption | apply U64.or | apply U64.and | apply U64.less)) (by repeat (first | assumption | apply U64.or | apply U64.and | apply U64.less)) (by repeat (first | assumption | apply U64.or | apply U64.and | apply U64.less)) (by repeat (first | assumption | apply U64.or | apply U64.and | apply U64.less)) _).mono ?_; rintro e w2 ⟨rfl, b2⟩; replace hI := hI.step b2; clear b2)
      | (go_at_call 21; refine (and_any _ _ _ _ (by repeat (first | assumption | apply U64.or | apply U64.and | apply U64.less)) (by repeat (first | assumption | apply U64.or | apply U64.and | apply U64.less)) (by repeat (first | assumption | apply U64.or | apply U64.and | apply U64.less)) (by repeat (first | assumption | apply U64.or | apply U64.and | apply U64.less)) _).mono ?_; rintro e w2 ⟨rfl, b2⟩; replace hI := hI.step b2; clear b2)
      | (go_at_call 23; refine (less_any _ _ _ _ (by repeat (first | assumption | apply U64.or | apply U64.and | apply U64.less)) (by repeat (first | assumption | apply U64.or | apply U64.and | apply U64.less)) (by repeat (first | assumption | apply U64.or | apply U64.and | apply U64.less)) (by repeat (first | assumption | apply U64.or | apply U64.and | apply U64.less)) _).mono ?_; rintro e w2 ⟨rfl, b2⟩; replace hI := hI.step b2; clear b2)
      | (go_at_call 24; refine (under_any _ _ _ _ (by repeat (first | assumption | apply U64.or | apply U64.and | apply U64.less)) (by repeat (first | assumption | apply U64.or | apply U64.and | apply U64.less)) (by repeat (first | assumption | apply U64.or | apply U64.and | apply U64.less)) (by repeat (first | assumption | apply U64.or | apply U64.and | apply U64.less)) _).mono ?_; rintro e w2 ⟨rfl, b2⟩; rw [HU.out]; replace hI := hI.step b2; clear b2))
    go_wp2_with fail
    go_ret
    refine ⟨?_, hI.below⟩
    show Ending.returned (Value.bool (!(((intsL (lessN a b) (lessN a' b')).length : Int) == 0))) = Ending.returned (Value.bool true)
    rw [beq_eq_false_iff_ne.2 hz']
    rfl
end Go.Proofs.YtplfnhnipdfglaaDoor
