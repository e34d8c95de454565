/-
  RegexParses' body, from the contracts of package regex's Parse and Check and of the layer's awake.
-/
import Derived.Test.YtpccdhkghlbhkaaGreatDoorGk
import Derived.Test.YtpccdhkghlbhkaaGreatDoorRxS
import Derived.Test.YtpccdhkghlbhkaaGreatDoorRxT
import Derived.Test.YtpccdhkghlbhkaaGreatDoorAwk3
namespace Go.Proofs.YtpccdhkghlbhkaaGreatDoor
open Go.RowKit Go.Extern.Stop Go.Stop Go.Extern

/-- What package regex's Parse tells. -/
def XpTold (R : RO Rx) (w : World) (e : Ending) (w' : World) : Prop :=
  match R with
  | .er c a => ∃ fb : Nat, e = .returned (.tuple #[.agg #[.int .i64 0, .bool false, .slice none 0 0, .slice none 0 0], pf fb]) ∧ FaultAt w' fb c a ∧ Below w.heap.size w w'
  | .ok _ _ x => ∃ (k : Int) (t : Bool) (a1 : Option Addr) (l1 c1 : Nat) (a2 : Option Addr) (l2 c2 : Nat), e = .returned (.tuple #[.agg #[.int .i64 k, .bool t, .slice a1 l1 c1, .slice a2 l2 c2], .nilIface]) ∧ ExC (fun q => w.heap.size ≤ q) w' [.int .i64 k, .bool t, .slice a1 l1 c1, .slice a2 l2 c2] x ∧ Below w.heap.size w w'
theorem exc_zero (P : Nat → Prop) (w : World) : ExC P w [.int .i64 0, .bool false, .slice none 0 0, .slice none 0 0] (.mk 0 false [] []) := by
  unfold ExC
  exact ⟨_, _, [], rfl, CapV.nil, RowX.nil _ _, RowX.nil _ _, ExsC.nil⟩
set_option maxRecDepth 100000 in
set_option maxHeartbeats 8000000 in
theorem regexParses_from (s : ByteArray) (R : RO Rx) (hR : (match alR s 64 0 0 with | .er c a => RO.er c a | .ok k n x => if skp s k = s.size then .ok k n x else .er 4 (skp s k)) = R)
    (hAW : ∀ W, Handle W → Calls Tryz.prog 5 #[] W fun e w' => e = .returned (.bool true) ∧ Below W.heap.size W w')
    (hP : s.size ≤ 2000 → ∀ W, Calls Tryz.prog 6 #[.string s] W (XpTold R W))
    (hC : s.size ≤ 2000 → ∀ k n x, R = .ok k n x → rxWt x ≤ 60000 ∧ ∀ (P : Nat → Prop) (W : World) (k : Int) (t : Bool) (a : Option Addr) (l c : Nat) (a' : Option Addr) (l' c' : Nat), ExC P W [.int .i64 k, .bool t, .slice a l c, .slice a' l' c'] x → Calls Tryz.prog 11 #[.agg #[.int .i64 k, .bool t, .slice a l c, .slice a' l' c']] W fun e w' => e = .returned .nilIface ∧ Below W.heap.size W w')
    (w : World) (hg : Handle w) :
    Calls Tryz.prog 3 #[.string s] w fun e w' => e = .returned (.bool true) ∧ Below w.heap.size w w' := by
  have HG := Lib.hid hg
  have HAW := Lib.hid hAW
  by_cases hs : 2000 < s.size
  · have hsi : (2000 : Int) < (s.size : Int) := by omega
    clear hP hC hg hAW hR
    go_enter Tryz.func3, Tryz.ntmps3
    go_wp2_with fail
    refine (HAW.out _ HG.out).mono ?_
    rintro e w2 ⟨rfl, b2⟩
    go_wp2_with fail
    go_ret
    exact ⟨rfl, b2⟩
  · have hsi : ¬ (2000 : Int) < (s.size : Int) := by omega
    have HP := Lib.hid (hP (by omega))
    have HCK := Lib.hid (hC (by omega))
    have HR := Lib.hid (fun W => qparse_any s (by omega) R hR W)
    clear hP hC hg hAW hR hs
    go_enter Tryz.func3, Tryz.ntmps3
    go_wp2_with fail
    refine (HAW.out _ HG.out).mono ?_
    rintro e w2 ⟨rfl, b2⟩
    have HB2 := Lib.hid b2
    clear b2
    go_wp2_with fail
    refine (HP.out _).mono ?_
    intro e w3 hout
    rcases R with ⟨c, p⟩ | ⟨k', n', x⟩
    · obtain ⟨fb, rfl, hf, b3⟩ := hout
      have bn := sbelow_new w3 (.cells #[.int .i64 0, .bool false, .slice none 0 0, .slice none 0 0] 26)
      have HV4 := Lib.hid (hf.keep bn)
      have HX4 := Lib.hid (quad_new w3 26 (.int .i64 0) (.bool false) (.slice none 0 0) (.slice none 0 0))
      have HB4 := Lib.hid ((HB2.out.trans (b3.mono HB2.out.size)).trans (bn.mono (HB2.out.trans (b3.mono HB2.out.size)).size))
      clear hf b3 bn HB2 HP HCK
      unfold pf
      go_wp2_with fail
      generalize w3.alloc (.cells #[.int .i64 0, .bool false, .slice none 0 0, .slice none 0 0] 26) = w4 at *
      generalize w3.heap.size = xb at *
      refine (HR.out _).mono ?_
      rintro e w5 ⟨rfl, b5⟩
      have bn := sbelow_new w5 (.cells #[.int .i64 0, .bool false, .slice none 0 0, .slice none 0 0] 33)
      have HV6 := Lib.hid ((HV4.out.keep b5).keep bn)
      have HX6 := Lib.hid ((HX4.out.step b5).step bn)
      have HY6 := Lib.hid (quad_new w5 33 (.int .i64 0) (.bool false) (.slice none 0 0) (.slice none 0 0))
      have HB6 := Lib.hid ((HB4.out.trans (b5.mono HB4.out.size)).trans (bn.mono (HB4.out.trans (b5.mono HB4.out.size)).size))
      have HTO := Lib.hid (fun W => xto_go (fun _ => True) _ (.mk 0 false [] []) (Nat.lt_succ_self _) (by decide) W 0 false none 0 0 none 0 0 (exc_zero _ W))
      have HSM := Lib.hid (fun (P : Nat → Prop) W (za1 : Option Addr) (zl1 zc1 : Nat) (za2 : Option Addr) (zl2 zc2 : Nat) (hz : ExC P W [.int .i64 0, .bool false, .slice za1 zl1 zc1, .slice za2 zl2 zc2] (.mk 0 false [] [])) => rxsame_go P (fun _ => True) _ (.mk 0 false [] []) (Nat.lt_succ_self _) (by decide) (.mk 0 false [] []) W 0 false za1 zl1 zc1 za2 zl2 zc2 0 false none 0 0 none 0 0 hz (exc_zero _ W))
      rw [sameE_refl] at HSM
      clear b5 bn HB4 HV4 HX4 HR
      go_upto_region 7 with (fail)
      generalize w5.alloc (.cells #[.int .i64 0, .bool false, .slice none 0 0, .slice none 0 0] 33) = w6 at *
      generalize w5.heap.size = yb at *
      have hX := HX6.out.step (Below.refl _ _).drew
      have hY := HY6.out.step (Below.refl _ _).drew
      have hV := HV6.out.keep (Below.refl _ _).drew
      have hB := HB6.out.drew
      have kk := And.intro hX.cells.1 (And.intro hX.cells.2.1 (And.intro hX.cells.2.2.1 (And.intro hX.cells.2.2.2 hY.cells)))
      obtain ⟨d0, d1, d2, d3, d4, d5, d6, d7⟩ := kk
      go_region_with (first
        | (go_at_call 8; refine (lawIs_err _ c p _ hV (HG.out.below hB)).mono ?_; rintro e w7 ⟨rfl, b7⟩; replace hX := hX.step b7; replace hY := hY.step b7; replace hV := hV.keep b7; replace hB := hB.trans (b7.mono hB.size); clear b7; obtain ⟨d0, d1, d2, d3⟩ := hX.cells; obtain ⟨d4, d5, d6, d7⟩ := hY.cells)
        | (go_at_call 10; (with_reducible refine (HTO.out _).mono ?_); rintro e w7 ⟨za1, zl1, zc1, za2, zl2, zc2, rfl, hA, b7⟩; replace hX := hX.step b7; replace hY := hY.step b7; replace hV := hV.keep b7; replace hB := hB.trans (b7.mono hB.size); clear b7; obtain ⟨d0, d1, d2, d3⟩ := hX.cells; obtain ⟨d4, d5, d6, d7⟩ := hY.cells)
        | (go_at_call 9; (with_reducible refine (HSM.out _ _ _ _ _ _ _ _ hA).mono ?_); rintro e w7 ⟨rfl, b7⟩; replace hX := hX.step b7; replace hY := hY.step b7; replace hV := hV.keep b7; replace hB := hB.trans (b7.mono hB.size); clear b7))
      all_goals
        go_wp2
        go_ret
        exact ⟨rfl, hB⟩
    · obtain ⟨xk, xt, xa1, xl1, xc1, xa2, xl2, xc2, rfl, hv, b3⟩ := hout
      obtain ⟨hwt, hck⟩ := HCK.out k' n' x rfl
      have bn := sbelow_new w3 (.cells #[.int .i64 xk, .bool xt, .slice xa1 xl1 xc1, .slice xa2 xl2 xc2] 26)
      have HV4 := Lib.hid ((hv.step bn).weak (P' := fun _ => True) (fun _ _ => True.intro))
      have HX4 := Lib.hid (quad_new w3 26 (.int .i64 xk) (.bool xt) (.slice xa1 xl1 xc1) (.slice xa2 xl2 xc2))
      have HB4 := Lib.hid ((HB2.out.trans (b3.mono HB2.out.size)).trans (bn.mono (HB2.out.trans (b3.mono HB2.out.size)).size))
      have HWT := Lib.hid (show rxWt x ≤ 1000000 by omega)
      have HCC := Lib.hid hck
      clear hv b3 bn HB2 HP HCK hwt hck
      go_wp2_with fail
      generalize w3.alloc (.cells #[.int .i64 xk, .bool xt, .slice xa1 xl1 xc1, .slice xa2 xl2 xc2] 26) = w4 at *
      generalize w3.heap.size = xb at *
      refine (HR.out _).mono ?_
      rintro e w5 ⟨yk, yt, ya1, yl1, yc1, ya2, yl2, yc2, rfl, hy, b5⟩
      have bn := sbelow_new w5 (.cells #[.int .i64 yk, .bool yt, .slice ya1 yl1 yc1, .slice ya2 yl2 yc2] 33)
      have HV6 := Lib.hid ((HV4.out.step b5).step bn)
      have HX6 := Lib.hid ((HX4.out.step b5).step bn)
      have HY6 := Lib.hid (quad_new w5 33 (.int .i64 yk) (.bool yt) (.slice ya1 yl1 yc1) (.slice ya2 yl2 yc2))
      have HW6 := Lib.hid ((hy.step bn).weak (P' := fun _ => True) (fun _ _ => True.intro))
      have HB6 := Lib.hid ((HB4.out.trans (b5.mono HB4.out.size)).trans (bn.mono (HB4.out.trans (b5.mono HB4.out.size)).size))
      have HTO := Lib.hid (fun W (hv : ExC (fun _ => True) W [.int .i64 xk, .bool xt, .slice xa1 xl1 xc1, .slice xa2 xl2 xc2] x) => xto_go (fun _ => True) _ x (Nat.lt_succ_self _) HWT.out W xk xt xa1 xl1 xc1 xa2 xl2 xc2 hv)
      have HSM := Lib.hid (fun (P : Nat → Prop) W (za1 : Option Addr) (zl1 zc1 : Nat) (za2 : Option Addr) (zl2 zc2 : Nat) (hz : ExC P W [.int .i64 xk, .bool xt, .slice za1 zl1 zc1, .slice za2 zl2 zc2] x) (hy : ExC (fun _ => True) W [.int .i64 yk, .bool yt, .slice ya1 yl1 yc1, .slice ya2 yl2 yc2] x) => rxsame_go P (fun _ => True) _ x (Nat.lt_succ_self _) HWT.out x W xk xt za1 zl1 zc1 za2 zl2 zc2 yk yt ya1 yl1 yc1 ya2 yl2 yc2 hz hy)
      rw [sameE_refl] at HSM
      have HCX := Lib.hid (fun W h => HCC.out (fun _ => True) W xk xt xa1 xl1 xc1 xa2 xl2 xc2 h)
      clear b5 bn HB4 HV4 HX4 HR hy HCC
      go_upto_region 7 with (fail)
      generalize w5.alloc (.cells #[.int .i64 yk, .bool yt, .slice ya1 yl1 yc1, .slice ya2 yl2 yc2] 33) = w6 at *
      generalize w5.heap.size = yb at *
      have hX := HX6.out.step (Below.refl _ _).drew
      have hY := HY6.out.step (Below.refl _ _).drew
      have hV := HV6.out.step (Below.refl _ _).drew
      have hW := HW6.out.step (Below.refl _ _).drew
      have hB := HB6.out.drew
      have kk := And.intro hX.cells.1 (And.intro hX.cells.2.1 (And.intro hX.cells.2.2.1 (And.intro hX.cells.2.2.2 hY.cells)))
      go_region_held3 (fun W => W.cell? ⟨xb, 0, none⟩ = some (.int .i64 xk) ∧ W.cell? ⟨xb, 1, none⟩ = some (.bool xt) ∧ W.cell? ⟨xb, 2, none⟩ = some (.slice xa1 xl1 xc1) ∧ W.cell? ⟨xb, 3, none⟩ = some (.slice xa2 xl2 xc2) ∧ W.cell? ⟨yb, 0, none⟩ = some (.int .i64 yk) ∧ W.cell? ⟨yb, 1, none⟩ = some (.bool yt) ∧ W.cell? ⟨yb, 2, none⟩ = some (.slice ya1 yl1 yc1) ∧ W.cell? ⟨yb, 3, none⟩ = some (.slice ya2 yl2 yc2))
        (first | go_keep | exact kk | exact And.intro hX.cells.1 (And.intro hX.cells.2.1 (And.intro hX.cells.2.2.1 (And.intro hX.cells.2.2.2 hY.cells))))
        (first
        | (go_at_call 8; refine (lawIs_nil _ _).mono ?_; rintro e w7 ⟨rfl, rfl⟩)
        | (go_at_call 10; (with_reducible refine (HTO.out _ hV).mono ?_); rintro e w7 ⟨za1, zl1, zc1, za2, zl2, zc2, rfl, hA, b7⟩; replace hX := hX.step b7; replace hY := hY.step b7; replace hV := hV.step b7; replace hW := hW.step b7; replace hB := hB.trans (b7.mono hB.size); clear b7)
        | (go_at_call 9; (with_reducible refine (HSM.out _ _ _ _ _ _ _ _ hA hW).mono ?_); rintro e w7 ⟨rfl, b7⟩; replace hX := hX.step b7; replace hY := hY.step b7; replace hV := hV.step b7; replace hW := hW.step b7; replace hB := hB.trans (b7.mono hB.size); clear b7)
        | (go_at_call 11; (with_reducible refine (HCX.out _ hV).mono ?_); rintro e w7 ⟨rfl, b7⟩; replace hX := hX.step b7; replace hY := hY.step b7; replace hV := hV.step b7; replace hW := hW.step b7; replace hB := hB.trans (b7.mono hB.size); clear b7))
      go_wp2
      go_ret
      exact ⟨rfl, hB⟩
end Go.Proofs.YtpccdhkghlbhkaaGreatDoor
