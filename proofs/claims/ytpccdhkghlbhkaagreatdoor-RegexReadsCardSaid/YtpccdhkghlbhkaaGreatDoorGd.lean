/-
  Package regex's Read and Parse, by contract: the expression that stands at a place of a text; that of all of it.
  How many expressions, by contract; chapter 15's example holds.
  Package regex's Parse, by contract, of any text: an expression, or what is wrong, and where.
-/
import Derived.Test.YtpccdhkghlbhkaaGreatDoorGc
import Derived.Test.YtpccdhkghlbhkaaGreatDoorGn
import Derived.Test.YtpccdhkghlbhkaaGreatDoorRxS
import Derived.Test.YtpccdhkghlbhkaaGreatDoorAwk3
namespace Go.Proofs.YtpccdhkghlbhkaaGreatDoor
open Go.RowKit Go.Extern.Stop Go.Stop Go.Extern Go.WideMaps

/-- What Read answers. -/
def ReadOut (w : World) (s : ByteArray) (k0 : Nat) : RO Rx → Ending → World → Prop
  | .er c a, e, w' => ∃ fb : Nat, e = .returned (.tuple #[.agg #[.string s, .int .i64 k0], .agg #[.int .i64 0, .bool false, .slice none 0 0, .slice none 0 0], pf fb]) ∧ FaultAt w' fb c a ∧ Below w.heap.size w w'
  | .ok k' _ x, e, w' => ∃ (k : Int) (t : Bool) (a1 : Option Addr) (l1 c1 : Nat) (a2 : Option Addr) (l2 c2 : Nat), e = .returned (.tuple #[.agg #[.string s, .int .i64 k'], .agg #[.int .i64 k, .bool t, .slice a1 l1 c1, .slice a2 l2 c2], .nilIface]) ∧ ExC (fun q => w.heap.size ≤ q) w' [.int .i64 k, .bool t, .slice a1 l1 c1, .slice a2 l2 c2] x ∧ Below w.heap.size w w'
theorem ScanAt.put2 {w : World} {b : Nat} {s s' : ByteArray} {j : Int} (h : ScanAt w b s' j) (z : Int) : ((w.setCell ⟨b, 0, none⟩ (.string s)).setCell ⟨b, 1, none⟩ (.int .i64 z)).cell? ⟨b, 0, none⟩ = some (.string s) ∧ ((w.setCell ⟨b, 0, none⟩ (.string s)).setCell ⟨b, 1, none⟩ (.int .i64 z)).cell? ⟨b, 1, none⟩ = some (.int .i64 z) := h.put s z
theorem drew_cell (w : World) (p : Addr) : w.drew.cell? p = w.cell? p := rfl
theorem far_cell {w : World} {b i q j : Nat} {u v : Value} (h : w.cell? ⟨b, i, none⟩ = some v) (hne : b ≠ q) : (w.setCell ⟨q, j, none⟩ u).cell? ⟨b, i, none⟩ = some v :=
  (World.cell?_setCell_other _ _ _ _ (by intro e; injection e with e; exact hne e.symm)).trans h
theorem kD2 {w : World} {b i q : Nat} {u u1 v : Value} (h : w.cell? ⟨b, i, none⟩ = some v) (hne : b ≠ q) : (((w.setCell ⟨q, 0, none⟩ u).setCell ⟨q, 1, none⟩ u1).drew).cell? ⟨b, i, none⟩ = some v := far_cell (far_cell h hne) hne
theorem kD6 {w : World} {b i q r : Nat} {u u1 v v0 v1 v2 v3 : Value} (h : w.cell? ⟨b, i, none⟩ = some v) (hne : b ≠ q) (hne2 : b ≠ r) :
    (((((((w.setCell ⟨q, 0, none⟩ u).setCell ⟨q, 1, none⟩ u1).setCell ⟨r, 0, none⟩ v0).setCell ⟨r, 1, none⟩ v1).setCell ⟨r, 2, none⟩ v2).setCell ⟨r, 3, none⟩ v3).drew).cell? ⟨b, i, none⟩ = some v := by
  have h1 := far_cell (j := 0) (u := u) h hne
  have h2 := far_cell (j := 1) (u := u1) h1 hne
  have h3 := far_cell (j := 0) (u := v0) h2 hne2
  have h4 := far_cell (j := 1) (u := v1) h3 hne2
  have h5 := far_cell (j := 2) (u := v2) h4 hne2
  have h6 := far_cell (j := 3) (u := v3) h5 hne2
  rw [drew_cell]
  exact h6
/-- A place stored in a block of its own. -/
theorem keeps_two (w : World) (b : Nat) (u v : Value) : Keeps (· = b) w ((w.setCell ⟨b, 0, none⟩ u).setCell ⟨b, 1, none⟩ v) :=
  ((Keeps.refl (· = b) w).setCell (q := ⟨b, 0, none⟩) (.inr rfl) u).setCell (q := ⟨b, 1, none⟩) (.inr rfl) v
set_option maxRecDepth 100000 in
set_option maxHeartbeats 8000000 in
theorem read_any (s : ByteArray) (k : Nat) (hs : s.size ≤ 100000) (hk : k ≤ s.size) (w : World) :
    Calls Tryz.prog 14 #[.agg #[.string s, .int .i64 k]] w (ReadOut w s k (alR s 64 k 0)) := by
  have hb1 := sbelow_new w (.cells #[.string s, .int .i64 k] 42)
  have hS1 := ScanAt.new w s k 42
  have hz1 : (w.alloc (.cells #[.string s, .int .i64 k] 42)).heap.size = w.heap.size + 1 := World.size_alloc _ _
  generalize hw1 : w.alloc (.cells #[.string s, .int .i64 k] 42) = w1 at *
  have hb2 := sbelow_new w1 (.cells #[.string ⟨#[]⟩, .int .i64 0] 42)
  have hS2 := ScanAt.new w1 ⟨#[]⟩ 0 42
  have hz2 : (w1.alloc (.cells #[.string ⟨#[]⟩, .int .i64 0] 42)).heap.size = w1.heap.size + 1 := World.size_alloc _ _
  have hS1b := hS1.step hb2
  generalize hw2 : w1.alloc (.cells #[.string ⟨#[]⟩, .int .i64 0] 42) = w2 at *
  have hb3 := sbelow_new w2 (.cells #[.int .i64 0, .bool false, .slice none 0 0, .slice none 0 0] 26)
  have hq3 := quad_new w2 26 (.int .i64 0) (.bool false) (.slice none 0 0) (.slice none 0 0)
  have hz3 : (w2.alloc (.cells #[.int .i64 0, .bool false, .slice none 0 0, .slice none 0 0] 26)).heap.size = w2.heap.size + 1 := World.size_alloc _ _
  have hS1c := hS1b.step hb3
  have hS2c := hS2.step hb3
  generalize hw3 : w2.alloc (.cells #[.int .i64 0, .bool false, .slice none 0 0, .slice none 0 0] 26) = w3 at *
  have hb4 := sbelow_new w3 (.cells #[.string s, .int .i64 k, .int .i64 0, .int .i64 0] 65)
  have hr4 : Rd (w3.alloc (.cells #[.string s, .int .i64 k, .int .i64 0, .int .i64 0] 65)) w3.heap.size s k 0 0 := quad_new w3 65 _ _ _ _
  have hS1d := hS1c.step hb4
  have hS2d := hS2c.step hb4
  have hq4 := hq3.step hb4
  have HB : Hid (Below w.heap.size w (w3.alloc (.cells #[.string s, .int .i64 k, .int .i64 0, .int .i64 0] 65))) := Lib.hid (((hb1.trans (hb2.mono hb1.size)).trans (hb3.mono (by omega))).trans (hb4.mono (by omega)))
  have hal := (alt_spec s hs 64 0 rfl)
  have HAL := Lib.hid (hal.2.1 k 0 w3.heap.size _ hk (by omega) hr4)
  have HNZ := Lib.hid (fun c a h => hal.2.2 k 0 c a hk h)
  have HORD : Hid (w1.heap.size = w.heap.size + 1 ∧ w2.heap.size = w.heap.size + 2 ∧ w3.heap.size = w.heap.size + 3) := Lib.hid ⟨hz1, by omega, by omega⟩
  have HS1 := Lib.hid hS1d
  have HS2 := Lib.hid hS2d
  have HQ4 := Lib.hid hq4
  obtain ⟨-, c0, c1, -⟩ := hS1c
  clear hb1 hb2 hb3 hb4 hS1 hS2 hS1b hS2c hS1d hS2d hq3 hq4 hr4 hal hz1 hz2 hz3
  go_enter Tryz.func14, Tryz.ntmps14
  go_wp2_with fail
  refine HAL.out.mono ?_
  intro e w5 hout
  clear hw1 hw2 hw3 c0 c1
  generalize hw4 : w3.alloc (.cells #[.string s, .int .i64 k, .int .i64 0, .int .i64 0] 65) = w4 at *
  have hlt4 : w3.heap.size < w4.heap.size := by rw [← hw4, World.size_alloc]; omega
  have HLT4 := Lib.hid hlt4
  clear hw4 hlt4
  cases ho : alR s 64 k 0 with
  | er cc aa =>
    rw [ho] at hout
    obtain ⟨fb, xk, xt, xa1, xl1, xc1, xa2, xl2, xc2, rfl, hf, hkp⟩ := hout
    have bn := sbelow_new w5 (.cells #[.int .i64 xk, .bool xt, .slice xa1 xl1 xc1, .slice xa2 xl2 xc2] 26)
    have HR := Lib.hid ((HQ4.out.keeps hkp (by have := HORD.out; omega)).step bn)
    have HA := Lib.hid ((HS1.out.keepsX hkp (by have := HORD.out; omega)).step bn)
    have HC := Lib.hid ((HS2.out.keepsX hkp (by have := HORD.out; omega)).step bn)
    have HF := Lib.hid (hf.keep bn)
    have HC0 := Lib.hid (HNZ.out _ _ ho)
    have HO := Lib.hid ho
    have HB6 := Lib.hid ((HB.out.trans (hkp.below (by have := HORD.out; have := HLT4.out; omega) (fun q e => by have := HORD.out; omega))).trans (bn.mono (by have := hkp.size; have := HORD.out; have := HLT4.out; omega)))
    clear ho hf hkp bn
    obtain ⟨-, a0, a1, -⟩ := HA.out
    obtain ⟨-, s0, s1, sf⟩ := HC.out
    have sf0 := sf 0
    have sf1 := sf 1
    have r0 := HR.out.cells.1
    have r1 := HR.out.cells.2.1
    have r2 := HR.out.cells.2.2.1
    have r3 := HR.out.cells.2.2.2
    have rf0 := HR.out.fz 0
    have rf1 := HR.out.fz 1
    have rf2 := HR.out.fz 2
    have rf3 := HR.out.fz 3
    have hne : w1.heap.size ≠ w2.heap.size := by have := HORD.out; omega
    have hne' := hne.symm
    clear sf
    unfold pf
    go_wp2_with fail
    generalize hwx : w5.alloc (.cells #[.int .i64 xk, .bool xt, .slice xa1 xl1 xc1, .slice xa2 xl2 xc2] 26) = w6 at *
    obtain ⟨u0, u1⟩ := HC.out.put2 (s := s) k
    have hR7 := HR.out.keeps (keeps_two w6 w1.heap.size (.string s) (.int .i64 k)) (by have := HORD.out; omega)
    obtain ⟨q0, q1, q2, q3⟩ := (hR7.set4 (.int .i64 0) (.bool false) (.slice none 0 0) (.slice none 0 0)).cells
    have hk8 := keeps_set4 ((w6.setCell ⟨w1.heap.size, 0, none⟩ (.string s)).setCell ⟨w1.heap.size, 1, none⟩ (.int .i64 k)) w2.heap.size 0 (.int .i64 0) (.bool false) (.slice none 0 0) (.slice none 0 0)
    have hf7 := (HF.out.far HC0.out (q := ⟨w1.heap.size, 0, none⟩) (by
      rintro h
      have h1 := HF.out
      rcases h1 with ⟨h1, -⟩ | ⟨-, fb', e, hl, h1, h2⟩
      · exact HC0.out h1
      · unfold pf at e
        simp only [Value.iface.injEq, Value.pointer.injEq, Option.some.injEq, Addr.mk.injEq, true_and, and_true] at e
        subst e
        have h' : fb = w1.heap.size := h
        rw [h', s0] at h1
        cases h1) (.string s)).far HC0.out (q := ⟨w1.heap.size, 1, none⟩) (by
      rintro h
      have h1 := HF.out
      rcases h1 with ⟨h1, -⟩ | ⟨-, fb', e, hl, h1, h2⟩
      · exact HC0.out h1
      · unfold pf at e
        simp only [Value.iface.injEq, Value.pointer.injEq, Option.some.injEq, Addr.mk.injEq, true_and, and_true] at e
        subst e
        have h' : fb = w1.heap.size := h
        rw [h', s0] at h1
        cases h1) (.int .i64 k)
    have hf8 := hf7.setq HC0.out hR7 (.int .i64 0) (.bool false) (.slice none 0 0) (.slice none 0 0)
    have hb8 := (((HB6.out.setCell (p := ⟨w1.heap.size, 0, none⟩) (by show w.heap.size ≤ w1.heap.size; have := HORD.out; omega) (.string s)).setCell (p := ⟨w1.heap.size, 1, none⟩) (by show w.heap.size ≤ w1.heap.size; have := HORD.out; omega) (.int .i64 k)).trans (hk8.below (B := w.heap.size) (by rw [World.size_setCell, World.size_setCell]; have := HR.out.lt; have := HORD.out; omega) (fun q e => by have := HORD.out; omega)))
    have u0' := (World.cell?_of_block (a := ⟨w1.heap.size, 0, none⟩) (hk8.block w1.heap.size (by rw [World.size_setCell, World.size_setCell]; exact HC.out.1) hne)).trans u0
    have u1' := (World.cell?_of_block (a := ⟨w1.heap.size, 1, none⟩) (hk8.block w1.heap.size (by rw [World.size_setCell, World.size_setCell]; exact HC.out.1) hne)).trans u1
    unfold set4 at q0 q1 q2 q3 hf8 hb8 u0' u1'
    refine bodyPost_ret (v := .tuple #[.agg #[.string s, .int .i64 k], .agg #[.int .i64 0, .bool false, .slice none 0 0, .slice none 0 0], pf fb]) (by simp [results, Tryz.results14, go_sem, q0, q1, q2, q3, u0', u1', pf]) rfl ?_
    rw [HO.out]
    exact ⟨fb, rfl, hf8, hb8⟩
  | ok k2 n2 x2 =>
    rw [ho] at hout
    have HO := Lib.hid ho
    obtain ⟨xk, xt, xa1, xl1, xc1, xa2, xl2, xc2, rfl, hv, hrd, hkp⟩ := hout
    have bn := sbelow_new w5 (.cells #[.int .i64 xk, .bool xt, .slice xa1 xl1 xc1, .slice xa2 xl2 xc2] 26)
    have hz5 : w4.heap.size ≤ w5.heap.size := hkp.size
    have HR := Lib.hid ((HQ4.out.keeps hkp (by have := HORD.out; omega)).step bn)
    have HC := Lib.hid ((HS2.out.keepsX hkp (by have := HORD.out; omega)).step bn)
    have HX := Lib.hid (quad_new w5 26 (.int .i64 xk) (.bool xt) (.slice xa1 xl1 xc1) (.slice xa2 xl2 xc2))
    have HD := Lib.hid (hrd.step bn)
    have HV := Lib.hid ((hv.step bn).move (P' := fun q => w3.heap.size < q) (Nat.le_refl _) (fun q hq _ => ⟨by have := HLT4.out; omega, rfl⟩))
    have HB6 := Lib.hid ((HB.out.trans (hkp.below (by have := HORD.out; have := HLT4.out; omega) (fun q e => by have := HORD.out; omega))).trans (bn.mono (by have := hkp.size; have := HORD.out; have := HLT4.out; omega)))
    have hne1 : w1.heap.size ≠ w2.heap.size := by have := HORD.out; omega
    have hne2 : w1.heap.size ≠ w3.heap.size := by have := HORD.out; omega
    have hne3 : w2.heap.size ≠ w3.heap.size := by have := HORD.out; omega
    have hne4 : w1.heap.size ≠ w5.heap.size := by have := HORD.out; have := HLT4.out; omega
    have hne5 : w2.heap.size ≠ w5.heap.size := by have := HORD.out; have := HLT4.out; omega
    have HN : Hid (w.heap.size < w1.heap.size ∧ w1.heap.size < w2.heap.size ∧ w2.heap.size < w3.heap.size) := Lib.hid (by have := HORD.out; omega)
    clear ho hv hrd hkp bn hz5
    go_wp2_with fail
    generalize w5.alloc (.cells #[.int .i64 xk, .bool xt, .slice xa1 xl1 xc1, .slice xa2 xl2 xc2] 26) = w6 at *
    generalize w5.heap.size = xb at *
    generalize w1.heap.size = b1 at *
    generalize w2.heap.size = b2 at *
    generalize w3.heap.size = b3 at *
    have hX : QuadAt 26 w6.drew xb (.int .i64 xk) (.bool xt) (.slice xa1 xl1 xc1) (.slice xa2 xl2 xc2) := HX.out
    have hD : Rd w6.drew b3 s k2 n2 0 := HD.out
    have hC : ScanAt w6.drew b1 ⟨#[]⟩ 0 := HC.out
    have hR : QuadAt 26 w6.drew b2 (.int .i64 0) (.bool false) (.slice none 0 0) (.slice none 0 0) := HR.out
    obtain ⟨x0, x1, x2', x3⟩ := hX.cells
    obtain ⟨c0, c1, -, -⟩ := hD.cells
    obtain ⟨-, s0, s1, sf⟩ := hC
    have sf0 := sf 0
    have sf1 := sf 1
    have r0 := hR.cells.1
    have r1 := hR.cells.2.1
    have r2 := hR.cells.2.2.1
    have r3 := hR.cells.2.2.2
    have rf0 := hR.fz 0
    have rf1 := hR.fz 1
    have rf2 := hR.fz 2
    have rf3 := hR.fz 3
    have hne1' := hne1.symm
    have hne2' := hne2.symm
    have hne3' := hne3.symm
    have hne4' := hne4.symm
    have hne5' := hne5.symm
    clear sf
    obtain ⟨-, s0', s1', sf'⟩ := HC.out
    have sf0' := sf' 0
    have sf1' := sf' 1
    have r0' := HR.out.cells.1
    have r1' := HR.out.cells.2.1
    have r2'' := HR.out.cells.2.2.1
    have r3' := HR.out.cells.2.2.2
    have rf0' := HR.out.fz 0
    have rf1' := HR.out.fz 1
    have rf2' := HR.out.fz 2
    have rf3' := HR.out.fz 3
    clear sf'
    obtain ⟨y0, y1, y2, y3⟩ := HX.out.cells
    obtain ⟨z0, z1, -, -⟩ := HD.out.cells
    go_region_held3 (fun W => W.cell? ⟨xb, 0, none⟩ = some (.int .i64 xk) ∧ W.cell? ⟨xb, 1, none⟩ = some (.bool xt) ∧ W.cell? ⟨xb, 2, none⟩ = some (.slice xa1 xl1 xc1) ∧ W.cell? ⟨xb, 3, none⟩ = some (.slice xa2 xl2 xc2) ∧ W.cell? ⟨b3, 0, none⟩ = some (.string s) ∧ W.cell? ⟨b3, 1, none⟩ = some (.int .i64 k2))
      (first | go_keep | exact ⟨hX.cells.1, hX.cells.2.1, hX.cells.2.2.1, hX.cells.2.2.2, hD.cells.1, hD.cells.2.1⟩ | exact ⟨kD2 y0 hne4', kD2 y1 hne4', kD2 y2 hne4', kD2 y3 hne4', kD2 z0 hne2', kD2 z1 hne2'⟩ | exact ⟨kD6 y0 hne4' hne5', kD6 y1 hne4' hne5', kD6 y2 hne4' hne5', kD6 y3 hne4' hne5', kD6 z0 hne2' hne3', kD6 z1 hne2' hne3'⟩)
      (fail)
    all_goals
      go_wp2
      obtain ⟨u0, u1⟩ := HC.out.put2 (s := s) k2
      have hR7 := HR.out.keeps (keeps_two w6 b1 (.string s) (.int .i64 k2)) hne1'
      obtain ⟨q0, q1, q2, q3⟩ := (hR7.set4 (.int .i64 xk) (.bool xt) (.slice xa1 xl1 xc1) (.slice xa2 xl2 xc2)).cells
      have hk8 := keeps_set4 ((w6.setCell ⟨b1, 0, none⟩ (.string s)).setCell ⟨b1, 1, none⟩ (.int .i64 k2)) b2 0 (.int .i64 xk) (.bool xt) (.slice xa1 xl1 xc1) (.slice xa2 xl2 xc2)
      have hb8 := (((HB6.out.setCell (p := ⟨b1, 0, none⟩) (by show w.heap.size ≤ b1; have := HN.out; omega) (.string s)).setCell (p := ⟨b1, 1, none⟩) (by show w.heap.size ≤ b1; have := HN.out; omega) (.int .i64 k2)).trans (hk8.below (B := w.heap.size) (by rw [World.size_setCell, World.size_setCell]; have := HR.out.lt; have := HN.out; omega) (fun q e => by have := HN.out; omega)))
      have u0' := (World.cell?_of_block (a := ⟨b1, 0, none⟩) (hk8.block b1 (by rw [World.size_setCell, World.size_setCell]; exact HC.out.1) hne1)).trans u0
      have u1' := (World.cell?_of_block (a := ⟨b1, 1, none⟩) (hk8.block b1 (by rw [World.size_setCell, World.size_setCell]; exact HC.out.1) hne1)).trans u1
      have hv7 := HV.out.move (P' := fun q => b3 < q) (keeps_two w6 b1 (.string s) (.int .i64 k2)).size (fun q hq hlt => ⟨hq, (keeps_two w6 b1 (.string s) (.int .i64 k2)).block q hlt (by have := HN.out; omega)⟩)
      have hv8 := hv7.move (P' := fun q => w.heap.size ≤ q) hk8.size (fun q hq hlt => ⟨by have := HN.out; omega, hk8.block q hlt (by have := HN.out; omega)⟩)
      unfold set4 at q0 q1 q2 q3 hb8 u0' u1' hv8
      rw [← drew_cell] at q0 q1 q2 q3 u0' u1'
      refine bodyPost_ret (v := .tuple #[.agg #[.string s, .int .i64 k2], .agg #[.int .i64 xk, .bool xt, .slice xa1 xl1 xc1, .slice xa2 xl2 xc2], .nilIface]) (by simp [results, Tryz.results14, go_sem, q0, q1, q2, q3, u0', u1']) rfl ?_
      rw [HO.out]
      have hv9 := hv8.step (Below.refl _ _).drew
      have hb9 := hb8.drew
      exact ⟨xk, xt, xa1, xl1, xc1, xa2, xl2, xc2, rfl, hv9, hb9⟩

/-! ### Parse -/
/-- The expression of a text, or what is wrong with it, and where. -/
def xpR (s : ByteArray) : RO Rx :=
  match alR s 64 0 0 with
  | .er c a => .er c a
  | .ok k n x => if skp s k = s.size then .ok k n x else .er 4 (skp s k)
def XpOut (w : World) : RO Rx → Ending → World → Prop
  | .er c a, e, w' => ∃ fb : Nat, e = .returned (.tuple #[.agg #[.int .i64 0, .bool false, .slice none 0 0, .slice none 0 0], pf fb]) ∧ FaultAt w' fb c a ∧ Below w.heap.size w w'
  | .ok _ _ x, e, w' => ∃ (k : Int) (t : Bool) (a1 : Option Addr) (l1 c1 : Nat) (a2 : Option Addr) (l2 c2 : Nat), e = .returned (.tuple #[.agg #[.int .i64 k, .bool t, .slice a1 l1 c1, .slice a2 l2 c2], .nilIface]) ∧ ExC (fun q => w.heap.size ≤ q) w' [.int .i64 k, .bool t, .slice a1 l1 c1, .slice a2 l2 c2] x ∧ Below w.heap.size w w'
set_option maxRecDepth 100000 in
set_option maxHeartbeats 8000000 in
/-- Parse, where the text is an expression. -/
theorem parse_ok (s : ByteArray) (hs : s.size ≤ 65536) (k2 n2 : Nat) (x2 : Rx) (ho : alR s 64 0 0 = .ok k2 n2 x2) (hend : skp s k2 = s.size) (hk2 : k2 ≤ s.size) (w : World) :
    Calls Tryz.prog 6 #[.string s] w (XpOut w (.ok k2 n2 x2)) := by
  have hq1 := quad_new w 26 (.int .i64 0) (.bool false) (.slice none 0 0) (.slice none 0 0)
  have hb1 := sbelow_new w (.cells #[.int .i64 0, .bool false, .slice none 0 0, .slice none 0 0] 26)
  have hz1 : (w.alloc (.cells #[.int .i64 0, .bool false, .slice none 0 0, .slice none 0 0] 26)).heap.size = w.heap.size + 1 := World.size_alloc _ _
  generalize hw1 : w.alloc (.cells #[.int .i64 0, .bool false, .slice none 0 0, .slice none 0 0] 26) = w1 at *
  have HN := Lib.hid (fun W => scanNew_any s hs W)
  have HRD : Hid (∀ W, Calls Tryz.prog 14 #[.agg #[.string s, .int .i64 0]] W (ReadOut W s 0 (.ok k2 n2 x2))) := Lib.hid (fun W => by have := read_any s 0 (by omega) (Nat.zero_le _) W; rwa [ho] at this)
  have HSK : Hid (∀ W, Calls Tryz.prog 20 #[.agg #[.string s, .int .i64 k2]] W fun e w' => e = .returned (.agg #[.string s, .int .i64 s.size]) ∧ Below W.heap.size W w') := Lib.hid (fun W => by
    have := skip_any s k2 (by omega) hk2 W
    rwa [show runTo isBl s k2 = s.size from hend] at this)
  have hE := fun W => end_any s s.size W
  rw [decide_eq_true rfl] at hE
  have HE := Lib.hid hE
  have HQ1 := Lib.hid hq1
  have HB1 := Lib.hid hb1
  have HZ1 := Lib.hid hz1
  clear hq1 hb1 hz1 ho hend hE
  generalize hsz : s.size = sz at *
  clear hsz
  go_enter Tryz.func6, Tryz.ntmps6
  go_wp2_with fail
  refine (HN.out _).mono ?_
  rintro e w2 ⟨rfl, b2⟩
  have bn := sbelow_new w2 (.cells #[.string s, .int .i64 0] 42)
  have HQ3 := Lib.hid ((HQ1.out.step b2).step bn)
  have HC3 := Lib.hid (ScanAt.new w2 s 0 42)
  have hz2 : w.heap.size < w2.heap.size := by have := b2.size; have := HZ1.out; omega
  have HB3 := Lib.hid ((HB1.out.trans (b2.mono (by have := HZ1.out; omega))).trans (bn.mono (by omega)))
  have HZ2 := Lib.hid hz2
  clear b2 bn hz2 hw1
  go_wp2_with fail
  generalize w2.alloc (.cells #[.string s, .int .i64 0] 42) = w3 at *
  generalize w2.heap.size = cb at *
  refine (HRD.out _).mono ?_
  rintro e w4 ⟨xk, xt, xa1, xl1, xc1, xa2, xl2, xc2, rfl, hv4, hb4⟩
  have HQ4 := Lib.hid (HQ3.out.step hb4)
  have HC4 := Lib.hid (HC3.out.step hb4)
  have HB4 := Lib.hid (HB3.out.trans (hb4.mono (by have := HB3.out.size; omega)))
  have hlt3 : cb < w3.heap.size := HC3.out.1
  have bx := sbelow_new w4 (.cells #[.int .i64 0, .bool false, .slice none 0 0, .slice none 0 0] 26)
  have HX5 := Lib.hid (quad_new w4 26 (.int .i64 0) (.bool false) (.slice none 0 0) (.slice none 0 0))
  have HV5 := Lib.hid ((hv4.move (P' := fun q => cb < q ∧ q ≠ w4.heap.size) (Nat.le_refl _) (fun q hq hl => ⟨⟨by omega, by omega⟩, rfl⟩)).step bx)
  have HQ5 := Lib.hid (HQ4.out.step bx)
  have HC5 := Lib.hid (HC4.out.step bx)
  have HB5 := Lib.hid (HB4.out.trans (bx.mono HB4.out.size))
  have HXB : Hid (cb < w4.heap.size) := Lib.hid HC4.out.1
  obtain ⟨-, c0, c1, cf⟩ := HC5.out
  have cf0 := cf 0
  have cf1 := cf 1
  have hne : cb ≠ w4.heap.size := by have := HXB.out; omega
  have hne' := hne.symm
  clear hv4 hb4 hlt3 bx cf HQ3 HC3 HB3 HQ4 HC4 HB4
  go_upto_region 5 with (fail)
  have hc6 : ScanAt (((w4.alloc (.cells #[.int .i64 0, .bool false, .slice none 0 0, .slice none 0 0] 26)).setCell ⟨cb, 0, none⟩ (.string s)).setCell ⟨cb, 1, none⟩ (.int .i64 k2)) cb s k2 := HC5.out.set s k2
  have hk6 := keeps_two (w4.alloc (.cells #[.int .i64 0, .bool false, .slice none 0 0, .slice none 0 0] 26)) cb (.string s) (.int .i64 k2)
  have hx6 := HX5.out.keeps hk6 hne'
  have hrb : w.heap.size < cb := HZ2.out
  have hq6 := HQ5.out.keeps hk6 (by omega)
  have hv6 := HV5.out.move (P' := fun q => cb < q ∧ q ≠ w4.heap.size) hk6.size (fun q hq hlt => ⟨hq, hk6.block q hlt (by omega)⟩)
  have hb6 := (HB5.out.setCell (p := ⟨cb, 0, none⟩) (by show w.heap.size ≤ cb; omega) (.string s)).setCell (p := ⟨cb, 1, none⟩) (by show w.heap.size ≤ cb; omega) (.int .i64 k2)
  generalize ((w4.alloc (.cells #[.int .i64 0, .bool false, .slice none 0 0, .slice none 0 0] 26)).setCell ⟨cb, 0, none⟩ (.string s)).setCell ⟨cb, 1, none⟩ (.int .i64 k2) = w6 at *
  have hk7 := keeps_set4 w6 w4.heap.size 0 (.int .i64 xk) (.bool xt) (.slice xa1 xl1 xc1) (.slice xa2 xl2 xc2)
  have HC7 := Lib.hid (hc6.keepsX hk7 hne)
  have HX7 := Lib.hid (hx6.set4 (.int .i64 xk) (.bool xt) (.slice xa1 xl1 xc1) (.slice xa2 xl2 xc2))
  have HQ7 := Lib.hid (hq6.keeps hk7 (by have := HXB.out; omega))
  have HV7 := Lib.hid (hv6.move (P' := fun q => cb < q) hk7.size (fun q hq hlt => ⟨hq.1, hk7.block q hlt hq.2⟩))
  have HB7 := Lib.hid (hb6.trans (hk7.below (B := w.heap.size) hb6.size (fun q e => by have := HXB.out; omega)))
  clear hc6 hk6 hx6 hq6 hv6 hb6 hk7 HX5 HV5 HQ5 HC5 HB5 c0 c1 cf0 cf1
  unfold set4 at HC7 HX7 HQ7 HV7 HB7
  generalize (((w6.setCell ⟨w4.heap.size, 0, none⟩ (.int .i64 xk)).setCell ⟨w4.heap.size, 0 + 1, none⟩ (.bool xt)).setCell ⟨w4.heap.size, 0 + 2, none⟩ (.slice xa1 xl1 xc1)).setCell ⟨w4.heap.size, 0 + 3, none⟩ (.slice xa2 xl2 xc2) = w7 at *
  generalize w4.heap.size = xb at *
  obtain ⟨-, c0, c1, -⟩ := HC7.out
  go_wp2_with fail
  refine (HSK.out _).mono ?_
  rintro e w8 ⟨rfl, b8⟩
  have hc8 := HC7.out.step b8
  have hk9 := keeps_two w8 cb (.string s) (.int .i64 sz)
  have HC9 : Hid (ScanAt ((w8.setCell ⟨cb, 0, none⟩ (.string s)).setCell ⟨cb, 1, none⟩ (.int .i64 sz)) cb s sz) := Lib.hid (hc8.set s sz)
  have HX9 := Lib.hid ((HX7.out.step b8).keeps hk9 hne')
  have HQ9 := Lib.hid ((HQ7.out.step b8).keeps hk9 (by omega))
  have HV9 := Lib.hid ((HV7.out.step b8).move (P' := fun q => cb < q) hk9.size (fun q hq hlt => ⟨hq, hk9.block q hlt (by omega)⟩))
  have HB9 := Lib.hid (((HB7.out.trans (b8.mono HB7.out.size)).setCell (p := ⟨cb, 0, none⟩) (by show w.heap.size ≤ cb; omega) (.string s)).setCell (p := ⟨cb, 1, none⟩) (by show w.heap.size ≤ cb; omega) (.int .i64 sz))
  obtain ⟨-, d0, d1, df⟩ := hc8
  have df0 := df 0
  have df1 := df 1
  clear hk9 b8 df c0 c1
  go_wp2_with fail
  generalize (w8.setCell ⟨cb, 0, none⟩ (.string s)).setCell ⟨cb, 1, none⟩ (.int .i64 sz) = w9 at *
  clear d0 d1 df0 df1
  refine (HE.out _).mono ?_
  rintro e w10 ⟨rfl, b10⟩
  have HX10 := Lib.hid (HX9.out.step b10)
  have HQ10 := Lib.hid (HQ9.out.step b10)
  have HV10 := Lib.hid (HV9.out.step b10)
  have HB10 := Lib.hid (HB9.out.trans (b10.mono HB9.out.size))
  obtain ⟨x0, x1, x2', x3⟩ := HX10.out.cells
  have r0 := HQ10.out.cells.1
  have r1 := HQ10.out.cells.2.1
  have r2 := HQ10.out.cells.2.2.1
  have r3 := HQ10.out.cells.2.2.2
  have rf0 := HQ10.out.fz 0
  have rf1 := HQ10.out.fz 1
  have rf2 := HQ10.out.fz 2
  have rf3 := HQ10.out.fz 3
  clear b10
  go_wp2_with fail
  obtain ⟨q0, q1, q2, q3⟩ := (HQ10.out.set4 (.int .i64 xk) (.bool xt) (.slice xa1 xl1 xc1) (.slice xa2 xl2 xc2)).cells
  have hk11 := keeps_set4 w10 w.heap.size 0 (.int .i64 xk) (.bool xt) (.slice xa1 xl1 xc1) (.slice xa2 xl2 xc2)
  have hv11 := HV10.out.move (P' := fun q => w.heap.size ≤ q) hk11.size (fun q hq hlt => ⟨by omega, hk11.block q hlt (by omega)⟩)
  have hb11 := HB10.out.trans (hk11.below (B := w.heap.size) HB10.out.size (fun q e => by omega))
  unfold set4 at q0 q1 q2 q3 hv11 hb11
  exact bodyPost_ret (v := .tuple #[.agg #[.int .i64 xk, .bool xt, .slice xa1 xl1 xc1, .slice xa2 xl2 xc2], .nilIface]) (by simp [results, Tryz.results6, go_sem, q0, q1, q2, q3]) rfl ⟨xk, xt, xa1, xl1, xc1, xa2, xl2, xc2, rfl, hv11, hb11⟩
end Go.Proofs.YtpccdhkghlbhkaaGreatDoor

namespace Go.Proofs.YtpccdhkghlbhkaaGreatDoor
open Go.RowKit Go.Extern.Stop Go.Stop Go.Extern Go.WideMaps

mutual
theorem sameE_eq : ∀ x y : Rx, sameE x y = true → x = y
  | .mk k t ws ks, .mk k' t' ws' ks', h => by
    rw [sameE] at h
    simp only [Bool.and_eq_true, decide_eq_true_eq] at h
    obtain ⟨rfl, rfl, rfl, h4⟩ := h
    rw [sameEs_eq ks ks' h4]
theorem sameEs_eq : ∀ l m : List Rx, sameEs l m = true → l = m
  | [], [], _ => rfl
  | x :: r, y :: s, h => by
    rw [sameEs] at h
    simp only [Bool.and_eq_true] at h
    rw [sameE_eq x y h.1, sameEs_eq r s h.2]
  | [], _ :: _, h => by rw [sameEs] at h; cases h
  | _ :: _, [], h => by rw [sameEs] at h; cases h
end
set_option maxRecDepth 100000 in
set_option maxHeartbeats 4000000 in
theorem xsize_go (P : Nat → Prop) : ∀ (m : Nat) (x : Rx), SizeOf.sizeOf x < m → rxSize x ≤ 1000000 → ∀ (w : World) (k : Int) (t : Bool) (a : Option Addr) (l c : Nat) (a' : Option Addr) (l' c' : Nat),
    ExC P w [.int .i64 k, .bool t, .slice a l c, .slice a' l' c'] x →
    Calls Tryz.prog 19 #[.agg #[.int .i64 k, .bool t, .slice a l c, .slice a' l' c']] w fun e w' => e = .returned (.int .i64 (rxSize x)) ∧ Below w.heap.size w w' := by
  intro m
  induction m with
  | zero => intro x hx; exact absurd hx (Nat.not_lt_zero _)
  | succ m ih =>
    intro x hx hsz w k t a l c a' l' c' hv
    have IH := Lib.hid ih
    clear ih
    cases x with
    | mk k1 t1 words kids =>
      obtain ⟨rfl, rfl, hk, xs, hl, hvs⟩ := hv.open
      obtain ⟨_, _, es⟩ := hl.form
      simp only [Value.slice.injEq] at es
      obtain ⟨-, el, -⟩ := es
      subst el
      have HROW := Lib.hid hl
      have HVS := Lib.hid hvs
      simp only [Rx.mk.sizeOf_spec] at hx
      have HX := Lib.hid hx
      rw [rxSize] at hsz ⊢
      have HSZ := Lib.hid hsz
      have hB0 := sbelow_new w (.cells #[.int .i64 k, .bool t, .slice a l c, .slice a' kids.length c'] 26)
      have hF := four_new w 26 (.int .i64 k) (.bool t) (.slice a l c) (.slice a' kids.length c')
      have HB0 := Lib.hid hB0
      obtain ⟨p0, p1, p2, p3⟩ := hF.box
      clear hk hl hvs hx hv hB0 hF hsz
      go_enter Tryz.func19, Tryz.ntmps19
      go_wp2_with fail
      generalize w.alloc (.cells #[.int .i64 k, .bool t, .slice a l c, .slice a' kids.length c'] 26) = w1 at *
      clear p0 p1 p2 p3
      go_loopg [3, 9] kids.length (fun g u v wr => ∃ i : Nat, i ≤ kids.length ∧ g = kids.length - i ∧ v = .int .i64 i ∧ u = .int .i64 (1 + rxsSize (kids.take i) : Nat) ∧ Below w.heap.size w wr)
      case atStart => exact ⟨0, Nat.zero_le _, by omega, rfl, by simp [rxsSize], HB0.out⟩
      case round =>
        clear HB0
        obtain ⟨i, hi, hgk, rfl, rfl, hbel⟩ := hrel
        have HB := Lib.hid hbel
        clear hbel
        by_cases hlt : i < kids.length
        · obtain ⟨y, hy⟩ : ∃ y, kids[i]? = some y := ⟨_, List.getElem?_eq_getElem hlt⟩
          obtain ⟨b1, o1, k6, t6, a6, l6, c6, a7, l7, c7, rfl, hvx, hE1⟩ := ex_at HROW.out HVS.out hy HB.out
          have bn := sbelow_new wr (.cells #[.int .i64 k6, .bool t6, .slice a6 l6 c6, .slice a7 l7 c7] 26)
          have hsx : SizeOf.sizeOf y < m := by have := rx_mem hy; have := HX.out; omega
          have hst := rxsSize_take hy
          have hle := rxsSize_le (l := kids) (i + 1)
          have hys : rxSize y ≤ 1000000 := by have := HSZ.out; omega
          have HBN := Lib.hid (HB.out.trans (bn.mono HB.out.size))
          have HC := Lib.hid (IH.out y hsx hys _ _ _ _ _ _ _ _ _ (hvx.step (HB.out.trans (bn.mono HB.out.size))))
          have HST := Lib.hid hst
          have hub : 1 + rxsSize (kids.take i) + rxSize y ≤ 1000000 := by have := HSZ.out; omega
          have HUB := Lib.hid hub
          obtain ⟨-, g0, g1, g2, g3⟩ := hE1
          clear hy bn hsx hvx hst hle hys hub
          generalize rxsSize (kids.take i) = p at *
          generalize hvz : rxSize y = z at *
          have HVZ := Lib.hid hvz
          clear hvz
          go_wp2_with fail
          refine HC.out.mono ?_
          rintro e w4 ⟨rfl, b4⟩
          go_wp2_with fail
          go_roundg (kids.length - (i + 1))
          case measure => omega
          case rel =>
            have h1 := HUB.out
            have h2 := HST.out
            have h4 := len_sizes kids
            have h5 := HSZ.out
            refine ⟨i + 1, by omega, rfl, by first | rfl | (rw [w64x _ (by omega)]; rfl), ?_, HBN.out.trans (b4.mono HBN.out.size)⟩
            rw [h2]
            first
              | rfl
              | (congr 1; omega)
              | (rw [w64x _ (by omega)]; congr 1; omega)
        · obtain rfl : i = kids.length := by omega
          rw [List.take_length]
          go_wp2_with fail
          go_ret
          exact ⟨rfl, HB.out⟩

/-- The chapter's example, and what it is. -/
def t15 : ByteArray := ⟨#[97, 32, 98, 42, 32, 124, 32, 91, 94, 99, 44, 100, 93]⟩
def v15a : Rx := .mk 2 false [] [.mk 1 false [⟨#[97]⟩] [], .mk 4 false [] [.mk 1 false [⟨#[98]⟩] []]]
def v15b : Rx := .mk 1 true [⟨#[99]⟩, ⟨#[100]⟩] []
def isOk15 : RO Rx → Bool
  | .ok k n x => decide (k = 13) && (decide (n = 6) && sameE x (.mk 3 false [] [v15a, v15b]))
  | .er _ _ => false
theorem ok15 : isOk15 (alR t15 64 0 0) = true := by decide +kernel
theorem alR15 : alR t15 64 0 0 = .ok 13 6 (.mk 3 false [] [v15a, v15b]) := by
  have h := ok15
  unfold isOk15 at h
  split at h
  · rename_i k n x e
    simp only [Bool.and_eq_true, decide_eq_true_eq] at h
    obtain ⟨rfl, rfl, h3⟩ := h
    rw [e, sameE_eq _ _ h3]
  · cases h
theorem size15 : rxSize (.mk 3 false [] [v15a, v15b]) = 6 := by decide
theorem end15 : skp t15 13 = t15.size := by decide +kernel
set_option maxRecDepth 100000 in
set_option maxHeartbeats 8000000 in
theorem awake15_any (w : World) (hg : Handle w) : Calls Tryz.prog 5 #[] w fun e w' => e = .returned (.bool true) ∧ Below w.heap.size w w' := by
  have HP : Hid (∀ W, Calls Tryz.prog 6 #[.string ⟨#[97, 32, 98, 42, 32, 124, 32, 91, 94, 99, 44, 100, 93]⟩] W (XpOut W (.ok 13 6 (.mk 3 false [] [v15a, v15b])))) := Lib.hid (fun W => parse_ok t15 (by decide) 13 6 _ alR15 end15 (by decide) W)
  have HG := Lib.hid hg
  clear hg
  go_enter Tryz.func5, Tryz.ntmps5
  go_wp2_with fail
  refine (HP.out _).mono ?_
  rintro e w1 ⟨xk, xt, xa1, xl1, xc1, xa2, xl2, xc2, rfl, hv, hb1⟩
  have bx := sbelow_new w1 (.cells #[.int .i64 xk, .bool xt, .slice xa1 xl1 xc1, .slice xa2 xl2 xc2] 26)
  have HF := Lib.hid (four_new w1 26 (.int .i64 xk) (.bool xt) (.slice xa1 xl1 xc1) (.slice xa2 xl2 xc2))
  have HV := Lib.hid (hv.step bx)
  have HB := Lib.hid (hb1.trans (bx.mono hb1.size))
  clear hv bx hb1
  go_wp2_with fail
  generalize w1.alloc (.cells #[.int .i64 xk, .bool xt, .slice xa1 xl1 xc1, .slice xa2 xl2 xc2] 26) = w2 at *
  generalize w1.heap.size = xb at *
  refine (Awake1_any _ (HG.out.below HB.out)).mono ?_
  rintro e w3 ⟨rfl, b3⟩
  have HF3 := Lib.hid (HF.out.step b3)
  have HV3 := Lib.hid (HV.out.step b3)
  have HB3 := Lib.hid (HB.out.trans (b3.mono HB.out.size))
  clear b3
  go_wp2_with fail
  refine (Awake3_any _ (HG.out.below HB3.out)).mono ?_
  rintro e w4 ⟨rfl, b4⟩
  have HF4 := Lib.hid (HF3.out.step b4)
  have hv4 := HV3.out.step b4
  have HB4 := Lib.hid (HB3.out.trans (b4.mono HB3.out.size))
  have hsz := xsize_go (fun q => w.heap.size ≤ q) _ (.mk 3 false [] [v15a, v15b]) (Nat.lt_succ_self _) (by rw [size15]; omega) w4 _ _ _ _ _ _ _ _ hv4
  rw [size15] at hsz
  obtain ⟨rfl, rfl, -, xs, hr, hvs⟩ := hv4.open
  obtain ⟨_, _, es⟩ := hr.form
  simp only [Value.slice.injEq] at es
  obtain ⟨-, el, -⟩ := es
  have el2 : xl2 = 2 := el
  subst el2
  obtain ⟨b1, o1, k6, t6, a6, l6, c6, a7, l7, c7, rfl, hx0, hE0⟩ := ex_at (i := 0) (x := v15a) hr hvs rfl (Below.refl _ _)
  obtain ⟨b2, o2, k8, t8, a8, l8, c8, a9, l9, c9, eb, hx1, hE1⟩ := ex_at (i := 1) (x := v15b) hr hvs rfl (Below.refl _ _)
  simp only [Option.some.injEq, Addr.mk.injEq, and_true] at eb
  obtain ⟨rfl, rfl⟩ := eb
  have hk6 : k6 = 2 := hx0.open.1
  have ht8 : t8 = true := hx1.open.2.1
  subst hk6 ht8
  have HSZ := Lib.hid hsz
  obtain ⟨p0, p1, p2, p3⟩ := HF4.out.box
  have g0 : w4.cell? ⟨b1, o1, none⟩ = some (.int .i64 2) := by have := hE0.2.1; simpa using this
  have g1 : w4.cell? ⟨b1, o1 + 4 + 1, none⟩ = some (.bool true) := by have := hE1.2.2.1; simpa using this
  have g2 : w4.cell? ⟨b1, o1 + 5, none⟩ = some (.bool true) := g1
  clear hx0 hx1 hE0 hE1 hr hvs hsz hv4 el HV HV3 HF HF3 HB HB3
  go_wp2_with fail
  refine HSZ.out.mono ?_
  rintro e w5 ⟨rfl, b5⟩
  go_wp2_with fail
  go_ret
  exact ⟨rfl, HB4.out.trans (b5.mono HB4.out.size)⟩
end Go.Proofs.YtpccdhkghlbhkaaGreatDoor

namespace Go.Proofs.YtpccdhkghlbhkaaGreatDoor
open Go.RowKit Go.Extern.Stop Go.Stop Go.Extern Go.WideMaps

set_option maxRecDepth 100000 in
set_option maxHeartbeats 8000000 in
/-- Parse, where no expression stands at the text's beginning. -/
theorem parse_er1 (s : ByteArray) (hs : s.size ≤ 65536) (cc : Int) (aa : Nat) (ho : alR s 64 0 0 = .er cc aa) (w : World) :
    Calls Tryz.prog 6 #[.string s] w (XpOut w (.er cc aa)) := by
  have HC0 : Hid (cc ≠ 0) := Lib.hid ((alt_spec s (by omega) 64 0 rfl).2.2 0 0 cc aa (Nat.zero_le _) ho)
  have hq1 := quad_new w 26 (.int .i64 0) (.bool false) (.slice none 0 0) (.slice none 0 0)
  have hb1 := sbelow_new w (.cells #[.int .i64 0, .bool false, .slice none 0 0, .slice none 0 0] 26)
  have hz1 : (w.alloc (.cells #[.int .i64 0, .bool false, .slice none 0 0, .slice none 0 0] 26)).heap.size = w.heap.size + 1 := World.size_alloc _ _
  generalize hw1 : w.alloc (.cells #[.int .i64 0, .bool false, .slice none 0 0, .slice none 0 0] 26) = w1 at *
  have HN := Lib.hid (fun W => scanNew_any s hs W)
  have HRD : Hid (∀ W, Calls Tryz.prog 14 #[.agg #[.string s, .int .i64 0]] W (ReadOut W s 0 (.er cc aa))) := Lib.hid (fun W => by have := read_any s 0 (by omega) (Nat.zero_le _) W; rwa [ho] at this)
  have HQ1 := Lib.hid hq1
  have HB1 := Lib.hid hb1
  have HZ1 := Lib.hid hz1
  clear hq1 hb1 hz1 ho
  go_enter Tryz.func6, Tryz.ntmps6
  go_wp2_with fail
  refine (HN.out _).mono ?_
  rintro e w2 ⟨rfl, b2⟩
  have bn := sbelow_new w2 (.cells #[.string s, .int .i64 0] 42)
  have HQ3 := Lib.hid ((HQ1.out.step b2).step bn)
  have HC3 := Lib.hid (ScanAt.new w2 s 0 42)
  have hz2 : w.heap.size < w2.heap.size := by have := b2.size; have := HZ1.out; omega
  have HB3 := Lib.hid ((HB1.out.trans (b2.mono (by have := HZ1.out; omega))).trans (bn.mono (by omega)))
  have HZ2 := Lib.hid hz2
  clear b2 bn hz2 hw1
  go_wp2_with fail
  generalize w2.alloc (.cells #[.string s, .int .i64 0] 42) = w3 at *
  generalize w2.heap.size = cb at *
  refine (HRD.out _).mono ?_
  rintro e w4 ⟨fb, rfl, hf4, hb4⟩
  have HQ4 := Lib.hid (HQ3.out.step hb4)
  have HC4 := Lib.hid (HC3.out.step hb4)
  have HB4 := Lib.hid (HB3.out.trans (hb4.mono (by have := HB3.out.size; omega)))
  have bx := sbelow_new w4 (.cells #[.int .i64 0, .bool false, .slice none 0 0, .slice none 0 0] 26)
  have HX5 := Lib.hid (quad_new w4 26 (.int .i64 0) (.bool false) (.slice none 0 0) (.slice none 0 0))
  have HF5 := Lib.hid (hf4.keep bx)
  have HQ5 := Lib.hid (HQ4.out.step bx)
  have HC5 := Lib.hid (HC4.out.step bx)
  have HB5 := Lib.hid (HB4.out.trans (bx.mono HB4.out.size))
  have HXB : Hid (cb < w4.heap.size) := Lib.hid HC4.out.1
  obtain ⟨-, c0, c1, cf⟩ := HC5.out
  have cf0 := cf 0
  have cf1 := cf 1
  have hne : cb ≠ w4.heap.size := by have := HXB.out; omega
  have hne' := hne.symm
  clear hf4 hb4 bx cf HQ3 HC3 HB3 HQ4 HC4 HB4
  unfold pf
  go_upto_region 5 with (fail)
  have hk6 := keeps_two (w4.alloc (.cells #[.int .i64 0, .bool false, .slice none 0 0, .slice none 0 0] 26)) cb (.string s) (.int .i64 (0 : Nat))
  have hx6 := HX5.out.keeps hk6 hne'
  have hrb : w.heap.size < cb := HZ2.out
  have hq6 := HQ5.out.keeps hk6 (by omega)
  have hf6 : FaultAt (((w4.alloc (.cells #[.int .i64 0, .bool false, .slice none 0 0, .slice none 0 0] 26)).setCell ⟨cb, 0, none⟩ (.string s)).setCell ⟨cb, 1, none⟩ (.int .i64 (0 : Nat))) fb cc aa := HF5.out.set HC5.out s (0 : Nat)
  have hb6 := (HB5.out.setCell (p := ⟨cb, 0, none⟩) (by show w.heap.size ≤ cb; omega) (.string s)).setCell (p := ⟨cb, 1, none⟩) (by show w.heap.size ≤ cb; omega) (.int .i64 (0 : Nat))
  generalize ((w4.alloc (.cells #[.int .i64 0, .bool false, .slice none 0 0, .slice none 0 0] 26)).setCell ⟨cb, 0, none⟩ (.string s)).setCell ⟨cb, 1, none⟩ (.int .i64 (0 : Nat)) = w6 at *
  have hk7 := keeps_set4 w6 w4.heap.size 0 (.int .i64 0) (.bool false) (.slice none 0 0) (.slice none 0 0)
  have HQ7 := Lib.hid (hq6.keeps hk7 (by have := HXB.out; omega))
  have HF7 := Lib.hid (hf6.setq HC0.out hx6 (.int .i64 0) (.bool false) (.slice none 0 0) (.slice none 0 0))
  have HB7 := Lib.hid (hb6.trans (hk7.below (B := w.heap.size) hb6.size (fun q e => by have := HXB.out; omega)))
  clear hk6 hx6 hq6 hf6 hb6 hk7 HX5 HF5 HQ5 HC5 HB5 c0 c1 cf0 cf1
  unfold set4 at HQ7 HF7 HB7
  generalize (((w6.setCell ⟨w4.heap.size, 0, none⟩ (.int .i64 0)).setCell ⟨w4.heap.size, 0 + 1, none⟩ (.bool false)).setCell ⟨w4.heap.size, 0 + 2, none⟩ (.slice none 0 0)).setCell ⟨w4.heap.size, 0 + 3, none⟩ (.slice none 0 0) = w7 at *
  have r0 := HQ7.out.cells.1
  have r1 := HQ7.out.cells.2.1
  have r2 := HQ7.out.cells.2.2.1
  have r3 := HQ7.out.cells.2.2.2
  have rf0 := HQ7.out.fz 0
  have rf1 := HQ7.out.fz 1
  have rf2 := HQ7.out.fz 2
  have rf3 := HQ7.out.fz 3
  go_wp2_with fail
  obtain ⟨q0, q1, q2, q3⟩ := (HQ7.out.set4 (.int .i64 0) (.bool false) (.slice none 0 0) (.slice none 0 0)).cells
  have hk8 := keeps_set4 w7 w.heap.size 0 (.int .i64 0) (.bool false) (.slice none 0 0) (.slice none 0 0)
  have hf8 := HF7.out.setq HC0.out HQ7.out (.int .i64 0) (.bool false) (.slice none 0 0) (.slice none 0 0)
  have hb8 := HB7.out.trans (hk8.below (B := w.heap.size) HB7.out.size (fun q e => by omega))
  unfold set4 at q0 q1 q2 q3 hf8 hb8
  exact bodyPost_ret (v := .tuple #[.agg #[.int .i64 0, .bool false, .slice none 0 0, .slice none 0 0], pf fb]) (by simp [results, Tryz.results6, go_sem, q0, q1, q2, q3, pf]) rfl ⟨fb, rfl, hf8, hb8⟩
set_option maxRecDepth 100000 in
set_option maxHeartbeats 8000000 in
/-- Parse, where more stands behind an expression. -/
theorem parse_er2 (s : ByteArray) (hs : s.size ≤ 65536) (k2 n2 : Nat) (x2 : Rx) (ho : alR s 64 0 0 = .ok k2 n2 x2) (hend : skp s k2 ≠ s.size) (hk2 : k2 ≤ s.size) (w : World) :
    Calls Tryz.prog 6 #[.string s] w (XpOut w (.er 4 (skp s k2))) := by
  have HNW := Lib.hid (fun (j : Nat) W => new_err 4 (j : Int) (by decide) W)
  have HAT := Lib.hid (fun (j : Nat) W => at_any s j W)
  have hq1 := quad_new w 26 (.int .i64 0) (.bool false) (.slice none 0 0) (.slice none 0 0)
  have hb1 := sbelow_new w (.cells #[.int .i64 0, .bool false, .slice none 0 0, .slice none 0 0] 26)
  have hz1 : (w.alloc (.cells #[.int .i64 0, .bool false, .slice none 0 0, .slice none 0 0] 26)).heap.size = w.heap.size + 1 := World.size_alloc _ _
  generalize hw1 : w.alloc (.cells #[.int .i64 0, .bool false, .slice none 0 0, .slice none 0 0] 26) = w1 at *
  have HN := Lib.hid (fun W => scanNew_any s hs W)
  have HRD : Hid (∀ W, Calls Tryz.prog 14 #[.agg #[.string s, .int .i64 0]] W (ReadOut W s 0 (.ok k2 n2 x2))) := Lib.hid (fun W => by have := read_any s 0 (by omega) (Nat.zero_le _) W; rwa [ho] at this)
  have HSK : Hid (∀ W, Calls Tryz.prog 20 #[.agg #[.string s, .int .i64 k2]] W fun e w' => e = .returned (.agg #[.string s, .int .i64 (skp s k2)]) ∧ Below W.heap.size W w') := Lib.hid (fun W => skip_any s k2 (by omega) hk2 W)
  have hE := fun W => end_any s (skp s k2) W
  rw [decide_eq_false hend] at hE
  have HE := Lib.hid hE
  have HQ1 := Lib.hid hq1
  have HB1 := Lib.hid hb1
  have HZ1 := Lib.hid hz1
  clear hq1 hb1 hz1 ho hend hE
  generalize skp s k2 = sz at *
  go_enter Tryz.func6, Tryz.ntmps6
  go_wp2_with fail
  refine (HN.out _).mono ?_
  rintro e w2 ⟨rfl, b2⟩
  have bn := sbelow_new w2 (.cells #[.string s, .int .i64 0] 42)
  have HQ3 := Lib.hid ((HQ1.out.step b2).step bn)
  have HC3 := Lib.hid (ScanAt.new w2 s 0 42)
  have hz2 : w.heap.size < w2.heap.size := by have := b2.size; have := HZ1.out; omega
  have HB3 := Lib.hid ((HB1.out.trans (b2.mono (by have := HZ1.out; omega))).trans (bn.mono (by omega)))
  have HZ2 := Lib.hid hz2
  clear b2 bn hz2 hw1
  go_wp2_with fail
  generalize w2.alloc (.cells #[.string s, .int .i64 0] 42) = w3 at *
  generalize w2.heap.size = cb at *
  refine (HRD.out _).mono ?_
  rintro e w4 ⟨xk, xt, xa1, xl1, xc1, xa2, xl2, xc2, rfl, hv4, hb4⟩
  have HQ4 := Lib.hid (HQ3.out.step hb4)
  have HC4 := Lib.hid (HC3.out.step hb4)
  have HB4 := Lib.hid (HB3.out.trans (hb4.mono (by have := HB3.out.size; omega)))
  have hlt3 : cb < w3.heap.size := HC3.out.1
  have bx := sbelow_new w4 (.cells #[.int .i64 0, .bool false, .slice none 0 0, .slice none 0 0] 26)
  have HX5 := Lib.hid (quad_new w4 26 (.int .i64 0) (.bool false) (.slice none 0 0) (.slice none 0 0))
  have HV5 := Lib.hid ((hv4.move (P' := fun q => cb < q ∧ q ≠ w4.heap.size) (Nat.le_refl _) (fun q hq hl => ⟨⟨by omega, by omega⟩, rfl⟩)).step bx)
  have HQ5 := Lib.hid (HQ4.out.step bx)
  have HC5 := Lib.hid (HC4.out.step bx)
  have HB5 := Lib.hid (HB4.out.trans (bx.mono HB4.out.size))
  have HXB : Hid (cb < w4.heap.size) := Lib.hid HC4.out.1
  obtain ⟨-, c0, c1, cf⟩ := HC5.out
  have cf0 := cf 0
  have cf1 := cf 1
  have hne : cb ≠ w4.heap.size := by have := HXB.out; omega
  have hne' := hne.symm
  clear hv4 hb4 hlt3 bx cf HQ3 HC3 HB3 HQ4 HC4 HB4
  go_upto_region 5 with (fail)
  have hc6 : ScanAt (((w4.alloc (.cells #[.int .i64 0, .bool false, .slice none 0 0, .slice none 0 0] 26)).setCell ⟨cb, 0, none⟩ (.string s)).setCell ⟨cb, 1, none⟩ (.int .i64 k2)) cb s k2 := HC5.out.set s k2
  have hk6 := keeps_two (w4.alloc (.cells #[.int .i64 0, .bool false, .slice none 0 0, .slice none 0 0] 26)) cb (.string s) (.int .i64 k2)
  have hx6 := HX5.out.keeps hk6 hne'
  have hrb : w.heap.size < cb := HZ2.out
  have hq6 := HQ5.out.keeps hk6 (by omega)
  have hv6 := HV5.out.move (P' := fun q => cb < q ∧ q ≠ w4.heap.size) hk6.size (fun q hq hlt => ⟨hq, hk6.block q hlt (by omega)⟩)
  have hb6 := (HB5.out.setCell (p := ⟨cb, 0, none⟩) (by show w.heap.size ≤ cb; omega) (.string s)).setCell (p := ⟨cb, 1, none⟩) (by show w.heap.size ≤ cb; omega) (.int .i64 k2)
  generalize ((w4.alloc (.cells #[.int .i64 0, .bool false, .slice none 0 0, .slice none 0 0] 26)).setCell ⟨cb, 0, none⟩ (.string s)).setCell ⟨cb, 1, none⟩ (.int .i64 k2) = w6 at *
  have hk7 := keeps_set4 w6 w4.heap.size 0 (.int .i64 xk) (.bool xt) (.slice xa1 xl1 xc1) (.slice xa2 xl2 xc2)
  have HC7 := Lib.hid (hc6.keepsX hk7 hne)
  have HX7 := Lib.hid (hx6.set4 (.int .i64 xk) (.bool xt) (.slice xa1 xl1 xc1) (.slice xa2 xl2 xc2))
  have HQ7 := Lib.hid (hq6.keeps hk7 (by have := HXB.out; omega))
  have HV7 := Lib.hid (hv6.move (P' := fun q => cb < q) hk7.size (fun q hq hlt => ⟨hq.1, hk7.block q hlt hq.2⟩))
  have HB7 := Lib.hid (hb6.trans (hk7.below (B := w.heap.size) hb6.size (fun q e => by have := HXB.out; omega)))
  clear hc6 hk6 hx6 hq6 hv6 hb6 hk7 HX5 HV5 HQ5 HC5 HB5 c0 c1 cf0 cf1
  unfold set4 at HC7 HX7 HQ7 HV7 HB7
  generalize (((w6.setCell ⟨w4.heap.size, 0, none⟩ (.int .i64 xk)).setCell ⟨w4.heap.size, 0 + 1, none⟩ (.bool xt)).setCell ⟨w4.heap.size, 0 + 2, none⟩ (.slice xa1 xl1 xc1)).setCell ⟨w4.heap.size, 0 + 3, none⟩ (.slice xa2 xl2 xc2) = w7 at *
  generalize w4.heap.size = xb at *
  obtain ⟨-, c0, c1, -⟩ := HC7.out
  go_wp2_with fail
  refine (HSK.out _).mono ?_
  rintro e w8 ⟨rfl, b8⟩
  have hc8 := HC7.out.step b8
  have hk9 := keeps_two w8 cb (.string s) (.int .i64 sz)
  have HC9 : Hid (ScanAt ((w8.setCell ⟨cb, 0, none⟩ (.string s)).setCell ⟨cb, 1, none⟩ (.int .i64 sz)) cb s sz) := Lib.hid (hc8.set s sz)
  have HX9 := Lib.hid ((HX7.out.step b8).keeps hk9 hne')
  have HQ9 := Lib.hid ((HQ7.out.step b8).keeps hk9 (by omega))
  have HV9 := Lib.hid ((HV7.out.step b8).move (P' := fun q => cb < q) hk9.size (fun q hq hlt => ⟨hq, hk9.block q hlt (by omega)⟩))
  have HB9 := Lib.hid (((HB7.out.trans (b8.mono HB7.out.size)).setCell (p := ⟨cb, 0, none⟩) (by show w.heap.size ≤ cb; omega) (.string s)).setCell (p := ⟨cb, 1, none⟩) (by show w.heap.size ≤ cb; omega) (.int .i64 sz))
  obtain ⟨-, d0, d1, df⟩ := hc8
  have df0 := df 0
  have df1 := df 1
  clear hk9 b8 df c0 c1
  go_wp2_with fail
  generalize (w8.setCell ⟨cb, 0, none⟩ (.string s)).setCell ⟨cb, 1, none⟩ (.int .i64 sz) = w9 at *
  clear d0 d1 df0 df1
  refine (HE.out _).mono ?_
  rintro e w10 ⟨rfl, b10⟩
  have HC10 := Lib.hid (HC9.out.step b10)
  have HQ10 := Lib.hid (HQ9.out.step b10)
  have HB10 := Lib.hid (HB9.out.trans (b10.mono HB9.out.size))
  obtain ⟨-, c0, c1, -⟩ := HC10.out
  clear b10
  go_wp2_with fail
  refine (HAT.out sz _).mono ?_
  rintro e w11 ⟨rfl, b11⟩
  have HQ11 := Lib.hid (HQ10.out.step b11)
  have HB11 := Lib.hid (HB10.out.trans (b11.mono HB10.out.size))
  clear b11 c0 c1
  go_wp2_with fail
  refine (HNW.out sz _).mono ?_
  rintro e w12 ⟨fb, rfl, hf12, b12⟩
  have HQ12 := Lib.hid (HQ11.out.step b12)
  have HF12 := Lib.hid hf12
  have HB12 := Lib.hid (HB11.out.trans (b12.mono HB11.out.size))
  have r0 := HQ12.out.cells.1
  have r1 := HQ12.out.cells.2.1
  have r2 := HQ12.out.cells.2.2.1
  have r3 := HQ12.out.cells.2.2.2
  have rf0 := HQ12.out.fz 0
  have rf1 := HQ12.out.fz 1
  have rf2 := HQ12.out.fz 2
  have rf3 := HQ12.out.fz 3
  clear b12 hf12
  unfold pf
  go_wp2_with fail
  obtain ⟨q0, q1, q2, q3⟩ := (HQ12.out.set4 (.int .i64 0) (.bool false) (.slice none 0 0) (.slice none 0 0)).cells
  have hk13 := keeps_set4 w12 w.heap.size 0 (.int .i64 0) (.bool false) (.slice none 0 0) (.slice none 0 0)
  have hf13 := HF12.out.setq (by decide) HQ12.out (.int .i64 0) (.bool false) (.slice none 0 0) (.slice none 0 0)
  have hb13 := HB12.out.trans (hk13.below (B := w.heap.size) HB12.out.size (fun q e => by omega))
  unfold set4 at q0 q1 q2 q3 hf13 hb13
  exact bodyPost_ret (v := .tuple #[.agg #[.int .i64 0, .bool false, .slice none 0 0, .slice none 0 0], pf fb]) (by simp [results, Tryz.results6, go_sem, q0, q1, q2, q3, pf]) rfl ⟨fb, rfl, hf13, hb13⟩

theorem xparse_any (s : ByteArray) (hs : s.size ≤ 65536) (w : World) : Calls Tryz.prog 6 #[.string s] w (XpOut w (xpR s)) := by
  unfold xpR
  cases ho : alR s 64 0 0 with
  | er c a => exact parse_er1 s hs c a ho w
  | ok k n x =>
    have hk := (alR_good 64 0 0 k n x (Nat.zero_le _) ho).2.2
    simp only
    by_cases hend : skp s k = s.size
    · rw [if_pos hend]
      exact parse_ok s hs k n x ho hend hk w
    · rw [if_neg hend]
      exact parse_er2 s hs k n x ho hend hk w
end Go.Proofs.YtpccdhkghlbhkaaGreatDoor
