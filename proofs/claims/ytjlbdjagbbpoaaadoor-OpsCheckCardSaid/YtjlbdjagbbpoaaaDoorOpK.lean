/-
  OpsDo's body, by contract.
-/
import Derived.Test.YtjlbdjagbbpoaaaDoorOpJ
namespace Go.Proofs.YtjlbdjagbbpoaaaDoor
open Go.RowKit Go.Extern.Stop Go.Stop Go.Extern

/-- What a law's body keeps. -/
structure OS (w : World) (ks h : List Int) (c : List (Int × Int)) (vk v vc : Value) (W : World) : Prop where
  kw : KW w ks vk W
  row : IntsAt W v h
  ops : OpsAt W vc c
theorem OS.step {w : World} {ks h : List Int} {c : List (Int × Int)} {vk v vc : Value} {W W' : World} (s : OS w ks h c vk v vc W) (hb : Below W.heap.size W W') : OS w ks h c vk v vc W' := ⟨s.kw.step hb, s.row.step hb, s.ops.step hb⟩
theorem do_row {ks h : List Int} {c : List (Int × Int)} {w w' : World} {u : Value} (h1 : ∀ x, doO ks h c = some x → w'.ownsRow w.heap.size 3 1 u x.length (encI x)) (h2 : doO ks h c = none → u = .slice none 0 0) : IntsC w' u ((doO ks h c).getD []) := by
  cases hd : doO ks h c with
  | none =>
    rw [h2 hd]
    exact ⟨.inl ⟨none, 0, rfl, rfl⟩, fun a n c e => by injection e with _ e1 e2; omega⟩
  | some x => exact IntsC.own (h1 x hd) rfl
theorem light_yes {ks h : List Int} {c : List (Int × Int)} (hl : lightB ks h c = true) : ks.length ≤ 100 ∧ h.length ≤ 40 ∧ c.length ≤ 20 := by
  unfold lightB at hl
  simpa using hl
theorem doO_len {ks h x : List Int} {c : List (Int × Int)} (hd : doO ks h c = some x) : x.length ≤ h.length + c.length := by
  unfold doO at hd
  split at hd
  · rename_i hv
    have := doL_len hv hd
    have := countI_le c 3
    omega
  · cases hd
theorem doO_getD_len (ks h : List Int) (c : List (Int × Int)) : ((doO ks h c).getD []).length ≤ h.length + c.length := by
  cases hd : doO ks h c with
  | none => simp
  | some x => exact doO_len hd
set_option maxRecDepth 100000 in
set_option maxHeartbeats 4000000 in
theorem opsDo_any (ks h : List Int) (c : List (Int × Int)) (vk v vc : Value) (w : World) (hk : IntsAt w vk ks) (hv : IntsAt w v h) (hc : OpsAt w vc c) (ht : TabB w) (hg : Handle w) :
    Calls Tryd.prog 7 #[vk, v, vc] w fun e w' => e = .returned (.bool true) ∧ Below w.heap.size w w' := by
  have HS := Lib.hid (⟨⟨hk, ht, hg, Below.refl _ _⟩, hv, hc⟩ : OS w ks h c vk v vc w)
  have HA := Lib.hid (awake10_any w ht hg)
  have HL := Lib.hid (fun w' => light_any ks h c vk v vc w' hk.form hv.form hc.form)
  clear hk hv hc ht hg
  go_enter Tryd.func7, Tryd.ntmps7
  go_wp2_with fail
  refine HA.out.mono ?_
  rintro e w1 ⟨rfl, b1⟩
  have HS1 := Lib.hid (HS.out.step b1)
  clear b1 HA HS
  go_wp2_with fail
  refine (HL.out _).mono ?_
  rintro e w2 ⟨rfl, rfl⟩
  cases hl : lightB ks h c with
  | false =>
    go_wp2_with fail
    go_ret
    exact ⟨rfl, HS1.out.kw.below⟩
  | true =>
    obtain ⟨l1, l2, l3⟩ := light_yes hl
    clear hl HL
    go_wp2_with fail
    refine (cloneI_any h v _ HS1.out.row (by omega)).mono ?_
    rintro e w3 ⟨uw, rfl, hown, -, b3⟩
    have HW3 := Lib.hid (IntsC.own hown rfl)
    have HS3 := Lib.hid (HS1.out.step b3)
    clear hown b3 HS1
    go_wp2_with fail
    refine (opDo_any ks h c _ _ _ _ HS3.out.kw.ints HS3.out.row HS3.out.ops (by omega) (by omega)).mono ?_
    rintro e w4 ⟨x, rfl, hx1, hx2, b4⟩
    have HX4 := Lib.hid (do_row hx1 hx2).1
    have HW4 := Lib.hid (HW3.out.step b4)
    have HS4 := Lib.hid (HS3.out.step b4)
    clear hx1 hx2 b4 HS3 HW3
    go_wp2_with fail
    refine (to_any c _ _ HS4.out.ops (by omega)).mono ?_
    rintro e w5 ⟨r5, rfl, hown5, b5⟩
    have HR5 := Lib.hid (OpsAt.own hown5 rfl)
    have HX5 := Lib.hid (HX4.out.step b5)
    have HW5 := Lib.hid (HW4.out.step b5)
    have HS5 := Lib.hid (HS4.out.step b5)
    clear hown5 b5 HS4 HW4 HX4
    go_wp2_with fail
    refine (rDo_any ks h c _ _ _ _ HS5.out.kw.ints HW5.out HR5.out (by omega) (by omega)).mono ?_
    rintro e w6 ⟨y, rfl, hy1, hy2, b6⟩
    have HY6 := Lib.hid (do_row hy1 hy2).1
    have HX6 := Lib.hid (HX5.out.step b6)
    have HW6 := Lib.hid (HW5.out.step b6)
    have HS6 := Lib.hid (HS5.out.step b6)
    have HRL := Lib.hid (doO_getD_len ks h c)
    clear hy1 hy2 b6 HS5 HW5 HX5 HR5
    obtain ⟨res, hres⟩ : ∃ res, (doO ks h c).getD [] = res := ⟨_, rfl⟩
    rw [hres] at HY6 HX6 HRL
    clear hres
    generalize (doO ks h c).isSome = ok at *
    go_wp2_with fail
    refine (to_any c _ _ HS6.out.ops (by omega)).mono ?_
    rintro e w7 ⟨r7, rfl, hown7, b7⟩
    have HR7 := Lib.hid (OpsAt.own hown7 rfl)
    have HY7 := Lib.hid (HY6.out.step b7)
    have HX7 := Lib.hid (HX6.out.step b7)
    have HW7 := Lib.hid (HW6.out.step b7)
    have HS7 := Lib.hid (HS6.out.step b7)
    clear hown7 b7 HS6 HW6 HX6 HY6
    go_wp2_with fail
    refine (rcount_any c _ 3 _ HR7.out (by omega)).mono ?_
    rintro e w8 ⟨rfl, b8⟩
    have HY8 := Lib.hid (HY7.out.step b8)
    have HX8 := Lib.hid (HX7.out.step b8)
    have HW8 := Lib.hid (HW7.out.step b8)
    have HS8 := Lib.hid (HS7.out.step b8)
    clear b8 HS7 HW7 HX7 HY7 HR7
    go_wp2_with fail
    refine (equalI_same res x y _ HX8.out HY8.out (by have := HRL.out; omega)).mono ?_
    rintro e w9 ⟨rfl, b9⟩
    have HW9 := Lib.hid (HW8.out.step b9)
    have HS9 := Lib.hid (HS8.out.step b9)
    clear b9 HS8 HW8 HX8 HY8
    go_wp2_with fail
    refine (equalI_same h v uw _ HS9.out.row HW9.out.1 (by omega)).mono ?_
    rintro e w10 ⟨rfl, b10⟩
    have HS10 := Lib.hid (HS9.out.step b10)
    clear b10 HS9 HW9
    go_wp2_with fail
    refine (pushes_any c _ _ HS10.out.ops (by omega)).mono ?_
    rintro e w11 ⟨rfl, b11⟩
    have HS11 := Lib.hid (HS10.out.step b11)
    clear b11 HS10
    have hc3 : ((countI c 3 : Nat) : Int) ≤ 20 := by have := countI_le c 3; omega
    have hc1 : ((countI c 1 : Nat) : Int) ≤ 20 := by have := countI_le c 1; omega
    go_wp2_with fail
    refine (grows_any c _ _ HS11.out.ops (by omega)).mono ?_
    rintro e w12 ⟨rfl, b12⟩
    have HS12 := Lib.hid (HS11.out.step b12)
    clear b12 HS11
    go_wp2_with fail
    refine (to_any c _ _ HS12.out.ops (by omega)).mono ?_
    rintro e w13 ⟨r13, rfl, hown13, b13⟩
    have HR13 := Lib.hid (OpsAt.own hown13 rfl)
    have HS13 := Lib.hid (HS12.out.step b13)
    clear hown13 b13 HS12
    go_wp2_with fail
    refine (rcount_any c _ 1 _ HR13.out (by omega)).mono ?_
    rintro e w14 ⟨rfl, b14⟩
    have HS14 := Lib.hid (HS13.out.step b14)
    clear b14 HS13 HR13
    generalize countI c 3 = n3 at *
    generalize countI c 1 = n1 at *
    have hw : IntKind.i64.wrap ((n3 : Int) - n1) = (n3 : Int) - n1 := IntWalk.i64_in _ (by omega)
    go_wp2_with fail
    go_ret
    exact ⟨by simp, HS14.out.kw.below⟩
end Go.Proofs.YtjlbdjagbbpoaaaDoor
