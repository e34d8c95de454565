/-
  The statement RegexSame as a walk: whatever two expressions, the law answers true, and all of old memory stays as it was.
-/
import Derived.Test.YtocfcnhaecmgpaaGreatDoorRxR
namespace Go.Proofs.YtocfcnhaecmgpaaGreatDoor
open Go.RowKit Go.Extern.Stop Go.Stop Go.Extern Go.WideMaps

theorem TwoX.cells {w0 w : World} {x0 x1 x2 x3 y0 y1 y2 y3 : Value} (h : TwoX w0 x0 x1 x2 x3 y0 y1 y2 y3 w) :
    w.cell? ⟨w0.heap.size, 0, none⟩ = some x0 ∧ w.cell? ⟨w0.heap.size, 1, none⟩ = some x1 ∧ w.cell? ⟨w0.heap.size, 2, none⟩ = some x2 ∧ w.cell? ⟨w0.heap.size, 3, none⟩ = some x3 ∧ w.cell? ⟨w0.heap.size + 1, 0, none⟩ = some y0 ∧ w.cell? ⟨w0.heap.size + 1, 1, none⟩ = some y1 ∧ w.cell? ⟨w0.heap.size + 1, 2, none⟩ = some y2 ∧ w.cell? ⟨w0.heap.size + 1, 3, none⟩ = some y3 := by
  obtain ⟨a0, a1, a2, a3⟩ := h.sa.box
  obtain ⟨b0, b1, b2, b3⟩ := h.sb.box
  exact ⟨a0, a1, a2, a3, b0, b1, b2, b3⟩
set_option maxRecDepth 100000 in
set_option maxHeartbeats 8000000 in
theorem regexSame_any (x y : Rx) (xk : Int) (xt : Bool) (xa1 : Option Addr) (xl1 xc1 : Nat) (xa2 : Option Addr) (xl2 xc2 : Nat) (yk : Int) (yt : Bool) (ya1 : Option Addr) (yl1 yc1 : Nat) (ya2 : Option Addr) (yl2 yc2 : Nat) (w : World)
    (hx : ExC (fun _ => True) w [.int .i64 xk, .bool xt, .slice xa1 xl1 xc1, .slice xa2 xl2 xc2] x) (hy : ExC (fun _ => True) w [.int .i64 yk, .bool yt, .slice ya1 yl1 yc1, .slice ya2 yl2 yc2] y) (hg : Handle w) :
    Calls Tryz.prog 8 #[.agg #[.int .i64 xk, .bool xt, .slice xa1 xl1 xc1, .slice xa2 xl2 xc2], .agg #[.int .i64 yk, .bool yt, .slice ya1 yl1 yc1, .slice ya2 yl2 yc2]] w fun e w' => e = .returned (.bool true) ∧ Below w.heap.size w w' := by
  have HLA := Lib.hid (fun W (hb : Below w.heap.size w W) => left_go (fun _ => True) _ x (Nat.lt_succ_self _) 600 (by decide) (by decide) W _ _ _ _ _ _ _ _ (hx.step hb))
  have HLB := Lib.hid (fun W (hb : Below w.heap.size w W) => left_go (fun _ => True) _ y (Nat.lt_succ_self _) 600 (by decide) (by decide) W _ _ _ _ _ _ _ _ (hy.step hb))
  have HTA := Lib.hid (fun (hw : rxWt x ≤ 1000000) W (hb : Below w.heap.size w W) => xto_go (fun _ => True) _ x (Nat.lt_succ_self _) hw W _ _ _ _ _ _ _ _ (hx.step hb))
  have HTB := Lib.hid (fun (hw : rxWt y ≤ 1000000) W (hb : Below w.heap.size w W) => xto_go (fun _ => True) _ y (Nat.lt_succ_self _) hw W _ _ _ _ _ _ _ _ (hy.step hb))
  have HAB := Lib.hid (fun (hw : rxWt x ≤ 1000) W (hb : Below w.heap.size w W) => xsame_go (fun _ => True) (fun _ => True) _ x (Nat.lt_succ_self _) hw y W _ _ _ _ _ _ _ _ _ _ _ _ _ _ _ _ (hx.step hb) (hy.step hb))
  have HBA := Lib.hid (fun (hw : rxWt y ≤ 1000) W (hb : Below w.heap.size w W) => xsame_go (fun _ => True) (fun _ => True) _ y (Nat.lt_succ_self _) hw x W _ _ _ _ _ _ _ _ _ _ _ _ _ _ _ _ (hy.step hb) (hx.step hb))
  have HAA := Lib.hid (fun (hw : rxWt x ≤ 1000) W (hb : Below w.heap.size w W) => xsame_go (fun _ => True) (fun _ => True) _ x (Nat.lt_succ_self _) hw x W _ _ _ _ _ _ _ _ _ _ _ _ _ _ _ _ (hx.step hb) (hx.step hb))
  have HRS := Lib.hid (fun (hw : rxWt x ≤ 1000000) (P P' : Nat → Prop) => rxsame_go P P' _ x (Nat.lt_succ_self _) hw y)
  rw [sameE_symm y x] at HBA
  rw [sameE_refl x] at HAA
  have HWA := Lib.hid (wt_of_left (x := x))
  have HWB := Lib.hid (wt_of_left (x := y))
  have HG := Lib.hid hg
  have H0 := Lib.hid (TwoX.start w 25 (.int .i64 xk) (.bool xt) (.slice xa1 xl1 xc1) (.slice xa2 xl2 xc2) (.int .i64 yk) (.bool yt) (.slice ya1 yl1 yc1) (.slice ya2 yl2 yc2))
  generalize leftE x 600 = la at *
  generalize leftE y 600 = lb at *
  clear hx hy hg
  go_enter Tryz.func8, Tryz.ntmps8
  go_wp2_with fail
  refine (awake15_any _ (HG.out.below H0.out.below)).mono ?_
  rintro e w1 ⟨rfl, b1⟩
  have H1 := Lib.hid (H0.out.step b1)
  clear b1 H0
  obtain ⟨p0, p1, p2, p3⟩ := H1.out.sa.box
  go_wp2_with fail
  refine (HLA.out _ H1.out.below).mono ?_
  rintro e w2 ⟨rfl, b2⟩
  have H2 := Lib.hid (H1.out.step b2)
  clear b2 H1 p0 p1 p2 p3
  by_cases hla : la < 0
  · go_wp2_with fail
    go_ret
    exact ⟨rfl, H2.out.below⟩
  · obtain ⟨q0, q1, q2, q3⟩ := H2.out.sb.box
    go_wp2_with fail
    refine (HLB.out _ H2.out.below).mono ?_
    rintro e w3 ⟨rfl, b3⟩
    have H3 := Lib.hid (H2.out.step b3)
    clear b3 H2 q0 q1 q2 q3
    by_cases hlb : lb < 0
    · go_wp2_with fail
      go_ret
      exact ⟨rfl, H3.out.below⟩
    · have hwa := HWA.out (by omega)
      have hwb := HWB.out (by omega)
      have HAB1 := Lib.hid (HAB.out (by omega))
      have HBA1 := Lib.hid (HBA.out (by omega))
      have HAA1 := Lib.hid (HAA.out (by omega))
      have HTA1 := Lib.hid (HTA.out (by omega))
      have HTB1 := Lib.hid (HTB.out (by omega))
      have HRS1 := Lib.hid (HRS.out (by omega))
      generalize sameE x y = qs at *
      clear HLA HLB HTA HTB HAB HBA HAA HRS HWA HWB hwa hwb
      go_wp2_with fail
      have hI := H3.out.step (Below.refl w3.heap.size w3).drew
      have kk := hI.cells
      cases qs
      all_goals
        go_region_held3 (fun W => W.cell? ⟨w.heap.size, 0, none⟩ = some (.int .i64 xk) ∧ W.cell? ⟨w.heap.size, 1, none⟩ = some (.bool xt) ∧ W.cell? ⟨w.heap.size, 2, none⟩ = some (.slice xa1 xl1 xc1) ∧ W.cell? ⟨w.heap.size, 3, none⟩ = some (.slice xa2 xl2 xc2) ∧ W.cell? ⟨w.heap.size + 1, 0, none⟩ = some (.int .i64 yk) ∧ W.cell? ⟨w.heap.size + 1, 1, none⟩ = some (.bool yt) ∧ W.cell? ⟨w.heap.size + 1, 2, none⟩ = some (.slice ya1 yl1 yc1) ∧ W.cell? ⟨w.heap.size + 1, 3, none⟩ = some (.slice ya2 yl2 yc2))
          (first | exact kk | exact hI.cells)
          (first
          | (go_at_call 29; (with_reducible refine (HAB1.out _ hI.below).mono ?_); rintro e w5 ⟨rfl, b5⟩; replace hI := hI.step b5; clear b5)
          | (go_at_call 29; (with_reducible refine (HAA1.out _ hI.below).mono ?_); rintro e w5 ⟨rfl, b5⟩; replace hI := hI.step b5; clear b5)
          | (go_at_call 29; (with_reducible refine (HBA1.out _ hI.below).mono ?_); rintro e w5 ⟨rfl, b5⟩; replace hI := hI.step b5; clear b5)
          | (go_at_call 11; (with_reducible refine (HTA1.out _ hI.below).mono ?_); rintro e w5 ⟨za1, zl1, zc1, za2, zl2, zc2, rfl, hA, b5⟩; replace hI := hI.step b5; clear b5)
          | (go_at_call 11; (with_reducible refine (HTB1.out _ hI.below).mono ?_); rintro e w5 ⟨ua1, ul1, uc1, ua2, ul2, uc2, rfl, hB, b5⟩; replace hI := hI.step b5; replace hA := hA.step b5; clear b5)
          | (go_at_call 23; refine (HRS1.out _ _ _ _ _ _ _ _ _ _ _ _ _ _ _ _ _ _ _ hA hB).mono ?_; rintro e w5 ⟨rfl, b5⟩; replace hI := hI.step b5; clear b5 hA hB))
        go_wp2
        go_ret
        exact ⟨rfl, hI.below⟩
end Go.Proofs.YtocfcnhaecmgpaaGreatDoor
