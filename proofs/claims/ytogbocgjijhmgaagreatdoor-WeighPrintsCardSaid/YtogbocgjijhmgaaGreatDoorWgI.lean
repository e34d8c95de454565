/-
  A weight's reader by contracts: isNought, of, Parse.
-/
import Derived.Test.YtogbocgjijhmgaaGreatDoorWgH
namespace Go.Proofs.YtogbocgjijhmgaaGreatDoor
open Go.RowKit Go.Extern.Stop Go.Stop Go.Extern

set_option maxRecDepth 100000 in
set_option maxHeartbeats 2000000 in
theorem gnought_any (s : ByteArray) (hs : s.size ≤ 100000) (w : World) :
    Calls Tryz.prog 54 #[.agg #[.string s, .int .i64 0]] w fun e w' => e = .returned (.bool (noughtB s)) ∧ Below w.heap.size w w' := by
  have hj := (skp_le (Nat.zero_le s.size)).2
  have HS : Hid (∀ W, Calls Tryz.prog 35 #[.agg #[.string s, .int .i64 0]] W fun e w' => e = .returned (.agg #[.string s, .int .i64 (skp s 0)]) ∧ Below W.heap.size W w') := Lib.hid (fun W => skip_any s 0 hs (Nat.zero_le _) W)
  have HH := Lib.hid (fun W => has_one s (skp s 0) 48 (by decide) hs hj W)
  rw [show ((48 : UInt8).toNat : Int) = 48 from rfl] at HH
  unfold noughtB
  by_cases h48 : byteI s (skp s 0) = 48
  · have hlt := byteI_in h48 (by decide)
    have HS2 : Hid (∀ W, Calls Tryz.prog 35 #[.agg #[.string s, .int .i64 (skp s 0 + 1 : Nat)]] W fun e w' => e = .returned (.agg #[.string s, .int .i64 (skp s (skp s 0 + 1))]) ∧ Below W.heap.size W w') := Lib.hid (fun W => skip_any s (skp s 0 + 1) hs hlt W)
    have HEN := Lib.hid (fun W => end_any s (skp s (skp s 0 + 1)) W)
    rw [decide_eq_true h48, Bool.true_and]
    rw [decide_eq_true h48, if_pos h48] at HH
    generalize skp s (skp s 0 + 1) = j2 at *
    generalize skp s 0 + 1 = j1 at *
    generalize skp s 0 = j at *
    clear h48 hlt hj
    go_enter Tryz.func54, Tryz.ntmps54
    go_wp2_with fail
    refine (HS.out _).mono ?_
    rintro e w1 ⟨rfl, b1⟩
    go_wp2_with fail
    refine (HH.out _).mono ?_
    rintro e w2 ⟨rfl, b2⟩
    have hb0 := sbelow_new w (.cells #[.string s, .int .i64 0] 42)
    have hS0 := ScanAt.new w s 0 42
    have hS2 := (hS0.step b1).step b2
    have HB2 := Lib.hid ((hb0.trans (b1.mono hb0.size)).trans (b2.mono (hb0.trans (b1.mono hb0.size)).size))
    have HS3 := Lib.hid (hS2.set s j1)
    have hput := hS2.put s j1
    have HB3 := Lib.hid ((HB2.out.setCell (p := ⟨w.heap.size, 0, none⟩) (Nat.le_refl _) (.string s)).setCell (p := ⟨w.heap.size, 1, none⟩) (Nat.le_refl _) (.int .i64 j1))
    obtain ⟨-, c0, c1, cf⟩ := hS2
    have f0 := cf 0
    have f1 := cf 1
    obtain ⟨d0, d1⟩ := hput
    clear b1 b2 hb0 hS0
    go_wp2_with fail
    refine (HS2.out _).mono ?_
    rintro e w3 ⟨rfl, b3⟩
    have HB4 := Lib.hid (HB3.out.trans (b3.mono HB3.out.size))
    clear b3
    go_wp2_with fail
    refine (HEN.out _).mono ?_
    rintro e w4 ⟨rfl, b4⟩
    go_wp2_with fail
    go_ret
    exact ⟨rfl, HB4.out.trans (b4.mono HB4.out.size)⟩
  · rw [decide_eq_false h48, Bool.false_and]
    rw [decide_eq_false h48, if_neg h48] at HH
    generalize skp s 0 = j at *
    clear h48 hj
    go_enter Tryz.func54, Tryz.ntmps54
    go_wp2_with fail
    refine (HS.out _).mono ?_
    rintro e w1 ⟨rfl, b1⟩
    go_wp2_with fail
    refine (HH.out _).mono ?_
    rintro e w2 ⟨rfl, b2⟩
    have hb0 := sbelow_new w (.cells #[.string s, .int .i64 0] 42)
    have hS2 := ((ScanAt.new w s 0 42).step b1).step b2
    have HB2 := Lib.hid ((hb0.trans (b1.mono hb0.size)).trans (b2.mono (hb0.trans (b1.mono hb0.size)).size))
    have HB3 := Lib.hid ((HB2.out.setCell (p := ⟨w.heap.size, 0, none⟩) (Nat.le_refl _) (.string s)).setCell (p := ⟨w.heap.size, 1, none⟩) (Nat.le_refl _) (.int .i64 j))
    obtain ⟨-, c0, c1, cf⟩ := hS2
    have f0 := cf 0
    have f1 := cf 1
    clear b1 b2 hb0
    go_wp2_with fail
    go_ret
    exact ⟨rfl, HB3.out⟩
set_option maxRecDepth 100000 in
set_option maxHeartbeats 1000000 in
theorem gof_any (h d p : Int) (w : World) :
    Calls Tryz.prog 56 #[.agg #[.int .u64 h, .int .u64 d, .int .u64 p]] w fun e w' => e = .returned (.agg #[.int .u64 h, .int .u64 d, .int .u64 p]) ∧ Below w.heap.size w w' := by
  go_enter Tryz.func56, Tryz.ntmps56
  go_wp2
  exact bodyPost_ret (v := .agg #[.int .u64 h, .int .u64 d, .int .u64 p]) (by simp [results, Tryz.results56, go_sem]) rfl ⟨rfl, ((Below.refl _ _).alloc (Nat.le_refl _) _).alloc (by simp) _⟩

/-! ### Parse -/
def PgOut (w : World) : WO → Ending → World → Prop
  | .er c a, e, w' => ∃ fb, e = .returned (.tuple #[.agg #[.int .u64 0, .int .u64 0, .int .u64 0], pf fb]) ∧ FaultAt w' fb c a ∧ Below w.heap.size w w'
  | .ok p, e, w' => e = .returned (.tuple #[.agg #[.int .u64 (p 0), .int .u64 (p 1), .int .u64 (p 2)], .nilIface]) ∧ Below w.heap.size w w'
/-- Three cells in a block of their own. -/
def TriAt (w : World) (b : Nat) (x y z : Int) : Prop := w.heap[b]? = some (.cells #[.int .u64 x, .int .u64 y, .int .u64 z] 55 (0, 0))
section
variable {w w' : World} {b : Nat} {x y z : Int}
theorem TriAt.lt (h : TriAt w b x y z) : b < w.heap.size := (Array.getElem?_eq_some_iff.1 h).1
theorem TriAt.step (h : TriAt w b x y z) (hb : Below w.heap.size w w') : TriAt w' b x y z := (hb.block b h.lt).trans h
theorem TriAt.keeps {D : Nat → Prop} (h : TriAt w b x y z) (hk : Keeps D w w') (hD : ¬ D b) : TriAt w' b x y z := (hk.block b h.lt hD).trans h
theorem TriAt.cells (h : TriAt w b x y z) : w.cell? ⟨b, 0, none⟩ = some (.int .u64 x) ∧ w.cell? ⟨b, 1, none⟩ = some (.int .u64 y) ∧ w.cell? ⟨b, 2, none⟩ = some (.int .u64 z) :=
  ⟨by rw [Lib.cell_of_heap h]; rfl, by rw [Lib.cell_of_heap h]; rfl, by rw [Lib.cell_of_heap h]; rfl⟩
theorem TriAt.fz (h : TriAt w b x y z) (i : Nat) : w.frozen? ⟨b, i, none⟩ = false := by
  unfold World.frozen?
  rw [h]
  simp
theorem TriAt.put (h : TriAt w b x y z) (x' y' z' : Int) : TriAt (((w.setCell ⟨b, 0, none⟩ (.int .u64 x')).setCell ⟨b, 1, none⟩ (.int .u64 y')).setCell ⟨b, 2, none⟩ (.int .u64 z')) b x' y' z' := by
  have h0 : TriAt (w.setCell ⟨b, 0, none⟩ (.int .u64 x')) b x' y z := heap_setCell_same w b 0 _ _ (.int .u64 x') h
  have h1 : TriAt ((w.setCell ⟨b, 0, none⟩ (.int .u64 x')).setCell ⟨b, 1, none⟩ (.int .u64 y')) b x' y' z := heap_setCell_same _ b 1 _ _ (.int .u64 y') h0
  exact heap_setCell_same _ b 2 _ _ (.int .u64 z') h1
end
theorem below_tri {w0 w : World} (h : Below w0.heap.size w0 w) (x y z : Value) : Below w0.heap.size w0 (((w.setCell ⟨w0.heap.size, 0, none⟩ x).setCell ⟨w0.heap.size, 1, none⟩ y).setCell ⟨w0.heap.size, 2, none⟩ z) :=
  ((h.setCell (p := ⟨w0.heap.size, 0, none⟩) (Nat.le_refl _) x).setCell (p := ⟨w0.heap.size, 1, none⟩) (Nat.le_refl _) y).setCell (p := ⟨w0.heap.size, 2, none⟩) (Nat.le_refl _) z
theorem FaultAt.ne0 {w : World} {fb : Nat} {c a : Int} (h : FaultAt w fb c a) : c ≠ 0 := by
  rcases h with ⟨-, h⟩ | ⟨h, -⟩
  · unfold pf at h; cases h
  · exact h
theorem FaultAt.farW {w : World} {fb : Nat} {c a : Int} (h : FaultAt w fb c a) {q : Addr} (hq : fb ≠ q.block) (u : Value) : FaultAt (w.setCell q u) fb c a := by
  rcases h with ⟨h, e⟩ | ⟨h0, fb', e, hlt, h1, h2⟩
  · exact .inl ⟨h, e⟩
  · have e' := e
    unfold pf at e
    simp only [Value.iface.injEq, Value.pointer.injEq, Option.some.injEq, Addr.mk.injEq, true_and, and_true] at e
    subst e
    refine .inr ⟨h0, fb, e', by rw [World.size_setCell]; exact hlt, ?_, ?_⟩
    · rw [World.cell?_setCell_other _ _ _ _ (by rintro rfl; exact hq rfl)]; exact h1
    · rw [World.cell?_setCell_other _ _ _ _ (by rintro rfl; exact hq rfl)]; exact h2
theorem FaultAt.cell {w : World} {fb : Nat} {c a : Int} (h : FaultAt w fb c a) : w.cell? ⟨fb, 0, none⟩ = some (.int .i64 c) := by
  rcases h with ⟨-, h⟩ | ⟨h0, fb', e, hlt, h1, h2⟩
  · unfold pf at h; cases h
  · unfold pf at e
    simp only [Value.iface.injEq, Value.pointer.injEq, Option.some.injEq, Addr.mk.injEq, true_and, and_true] at e
    subst e
    exact h1
set_option maxRecDepth 100000 in
set_option maxHeartbeats 8000000 in
theorem gparse_any (s : ByteArray) (hs : s.size ≤ 65536) (w : World) (hw : Wds w) (hg : Handle w) :
    Calls Tryz.prog 26 #[.string s] w (PgOut w (wgP s)) := by
  have HN := Lib.hid (fun W => scanNew_any s hs W)
  have HNG := Lib.hid (fun W => gnought_any s (by omega) W)
  have HW := Lib.hid hw
  have HG := Lib.hid hg
  have HT0 := Lib.hid (show TriAt (w.alloc (.cells #[.int .u64 0, .int .u64 0, .int .u64 0] 55)) w.heap.size 0 0 0 from heap_alloc_new w _)
  have HB0 := Lib.hid (sbelow_new w (.cells #[.int .u64 0, .int .u64 0, .int .u64 0] 55))
  unfold wgP
  cases hn : noughtB s with
  | true =>
    rw [hn] at HNG
    rw [if_pos rfl]
    clear hw hg hn hs
    go_enter Tryz.func26, Tryz.ntmps26
    go_wp2_with fail
    refine (HN.out _).mono ?_
    rintro e w1 ⟨rfl, b1⟩
    have bn := sbelow_new w1 (.cells #[.string s, .int .i64 0] 42)
    have HT2 := Lib.hid ((HT0.out.step b1).step bn)
    have HB2 := Lib.hid ((HB0.out.trans (b1.mono HB0.out.size)).trans (bn.mono (HB0.out.trans (b1.mono HB0.out.size)).size))
    clear b1 bn
    go_wp2_with fail
    generalize w1.alloc (.cells #[.string s, .int .i64 0] 42) = w2 at *
    refine (HNG.out _).mono ?_
    rintro e w3 ⟨rfl, b3⟩
    have HT3 := HT2.out.step b3
    have HB3 := Lib.hid (HB2.out.trans (b3.mono HB2.out.size))
    obtain ⟨k0, k1, k2⟩ := HT3.cells
    have f0 := HT3.fz 0
    have f1 := HT3.fz 1
    have f2 := HT3.fz 2
    obtain ⟨q0, q1, q2⟩ := (HT3.put 0 0 0).cells
    clear b3
    go_wp2_with fail
    refine bodyPost_ret (v := .tuple #[.agg #[.int .u64 0, .int .u64 0, .int .u64 0], .nilIface]) (by simp [results, Tryz.results26, go_sem, q0, q1, q2]) rfl ?_
    exact ⟨rfl, below_tri HB3.out _ _ _⟩
  | false =>
    rw [hn] at HNG
    rw [if_neg (by decide)]
    have HTS := Lib.hid (fun W rb (h : Wr W rb s 0 (fun _ => 0) (fun _ => false)) (h2 : Wds W) (h3 : Handle W) (h4 : rb ≠ 0) (h5 : rb ≠ 1) => gRterms_any s 0 rb (s.size + 1) _ _ (by omega) (Nat.zero_le _) (by omega) W h h2 h3 h4 h5)
    generalize wgR s (s.size + 1) 0 (fun _ => 0) (fun _ => false) = R at *
    clear hw hg hn hs
    go_enter Tryz.func26, Tryz.ntmps26
    go_wp2_with fail
    refine (HN.out _).mono ?_
    rintro e w1 ⟨rfl, b1⟩
    have bn := sbelow_new w1 (.cells #[.string s, .int .i64 0] 42)
    have HT2 := Lib.hid ((HT0.out.step b1).step bn)
    have HB2 := Lib.hid ((HB0.out.trans (b1.mono HB0.out.size)).trans (bn.mono (HB0.out.trans (b1.mono HB0.out.size)).size))
    have HF2 := Lib.hid (ScanAt.new w1 s 0 42)
    clear b1 bn
    go_wp2_with fail
    generalize w1.alloc (.cells #[.string s, .int .i64 0] 42) = w2 at *
    generalize w1.heap.size = sb at *
    refine (HNG.out _).mono ?_
    rintro e w3 ⟨rfl, b3⟩
    obtain ⟨-, c0, c1, -⟩ := HF2.out.step b3
    have HT3 := Lib.hid (HT2.out.step b3)
    have HB3 := Lib.hid (HB2.out.trans (b3.mono HB2.out.size))
    clear b3 HT2 HB2 HF2
    have HR4 : Hid (Wr (w3.alloc (.cells #[.string s, .int .i64 0, .int .u64 0, .int .u64 0, .int .u64 0, .int .i64 0, .int .i64 0, .int .i64 0] 103)) w3.heap.size s 0 (fun _ => 0) (fun _ => false)) := Lib.hid (heap_alloc_new w3 _)
    have bn := sbelow_new w3 (.cells #[.string s, .int .i64 0, .int .u64 0, .int .u64 0, .int .u64 0, .int .i64 0, .int .i64 0, .int .i64 0] 103)
    have HT4 := Lib.hid (HT3.out.step bn)
    have HB4 := Lib.hid (HB3.out.trans (bn.mono HB3.out.size))
    have HNE : Hid (w3.heap.size ≠ 0 ∧ w3.heap.size ≠ 1 ∧ w3.heap.size ≠ w.heap.size ∧ w.heap.size ≤ w3.heap.size) := Lib.hid (by
      have h1 := HB3.out.size
      have h2 := HW.out.1
      have h3 := HG.out.pos
      have h4 := HT3.out.lt
      exact ⟨by omega, by omega, by omega, h1⟩)
    clear bn
    go_wp2_with fail
    generalize w3.alloc (.cells #[.string s, .int .i64 0, .int .u64 0, .int .u64 0, .int .u64 0, .int .i64 0, .int .i64 0, .int .i64 0] 103) = w4 at *
    generalize w3.heap.size = rb at *
    have HC := Lib.hid (HTS.out _ _ HR4.out (HW.out.below HB4.out) (HG.out.below HB4.out) HNE.out.1 HNE.out.2.1)
    clear HTS c0 c1 HT3 HB3
    cases R with
    | er c a =>
      refine HC.out.mono ?_
      rintro e w5 ⟨fb, rfl, hf, hk5⟩
      have HT5 := HT4.out.keeps hk5 (fun e => HNE.out.2.2.1 e.symm)
      have HB5 := Lib.hid (HB4.out.trans (hk5.below HB4.out.size (fun q e => by have := HNE.out.2.2.2; omega)))
      have hne : fb ≠ w.heap.size := by
        intro e
        have h1 := hf.cell
        rw [e, HT5.cells.1] at h1
        cases h1
      obtain ⟨k0, k1, k2⟩ := HT5.cells
      have f0 := HT5.fz 0
      have f1 := HT5.fz 1
      have f2 := HT5.fz 2
      obtain ⟨q0, q1, q2⟩ := (HT5.put 0 0 0).cells
      have HF := Lib.hid (((hf.farW (q := ⟨w.heap.size, 0, none⟩) hne (.int .u64 0)).farW (q := ⟨w.heap.size, 1, none⟩) hne (.int .u64 0)).farW (q := ⟨w.heap.size, 2, none⟩) hne (.int .u64 0))
      clear hk5 hf
      unfold pf
      go_wp2_with fail
      refine bodyPost_ret (v := .tuple #[.agg #[.int .u64 0, .int .u64 0, .int .u64 0], pf fb]) (by simp [results, Tryz.results26, go_sem, q0, q1, q2, pf]) rfl ?_
      exact ⟨fb, rfl, HF.out, below_tri HB5.out _ _ _⟩
    | ok p =>
      refine HC.out.mono ?_
      rintro e w5 ⟨rfl, ⟨k5, q5, hr5⟩, hk5⟩
      have HT5 := Lib.hid (HT4.out.keeps hk5 (fun e => HNE.out.2.2.1 e.symm))
      have HB5 := Lib.hid (HB4.out.trans (hk5.below HB4.out.size (fun q e => by have := HNE.out.2.2.2; omega)))
      obtain ⟨p2, p3, p4⟩ := hr5.parts
      have HO := Lib.hid (fun W => gof_any (p 0) (p 1) (p 2) W)
      clear hk5 hr5
      go_wp2_with fail
      refine (HO.out _).mono ?_
      rintro e w6 ⟨rfl, b6⟩
      have HT6 := HT5.out.step b6
      have HB6 := Lib.hid (HB5.out.trans (b6.mono HB5.out.size))
      obtain ⟨k0, k1, k2⟩ := HT6.cells
      have f0 := HT6.fz 0
      have f1 := HT6.fz 1
      have f2 := HT6.fz 2
      obtain ⟨q0, q1, q2⟩ := (HT6.put (p 0) (p 1) (p 2)).cells
      clear b6
      go_wp2_with fail
      refine bodyPost_ret (v := .tuple #[.agg #[.int .u64 (p 0), .int .u64 (p 1), .int .u64 (p 2)], .nilIface]) (by simp [results, Tryz.results26, go_sem, q0, q1, q2]) rfl ?_
      exact ⟨rfl, below_tri HB6.out _ _ _⟩
end Go.Proofs.YtogbocgjijhmgaaGreatDoor
