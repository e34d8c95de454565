/-
  OpsKeep's body, by contract.
-/
import Derived.Test.YtjlbdjagbbpoaaaDoorOpK
namespace Go.Proofs.YtjlbdjagbbpoaaaDoor
open Go.RowKit Go.Extern.Stop Go.Stop Go.Extern

theorem doO_some {ks h x : List Int} {c : List (Int × Int)} (hd : doO ks h c = some x) : validH ks h = true ∧ doL ks c h = some x := by
  unfold doO at hd
  split at hd
  · rename_i hv
    exact ⟨hv, hd⟩
  · cases hd
set_option maxRecDepth 100000 in
set_option maxHeartbeats 4000000 in
theorem opsKeep_any (ks h : List Int) (c : List (Int × Int)) (vk v vc : Value) (w : World) (hk : IntsAt w vk ks) (hv : IntsAt w v h) (hc : OpsAt w vc c) (ht : TabB w) (hg : Handle w) :
    Calls Tryd.prog 9 #[vk, v, vc] w fun e w' => e = .returned (.bool true) ∧ Below w.heap.size w w' := by
  have HS := Lib.hid (⟨⟨hk, ht, hg, Below.refl _ _⟩, hv, hc⟩ : OS w ks h c vk v vc w)
  have HA := Lib.hid (awake10_any w ht hg)
  have HL := Lib.hid (fun w' => light_any ks h c vk v vc w' hk.form hv.form hc.form)
  obtain ⟨ah, caph, rfl⟩ := hv.form
  obtain ⟨ac, capc, rfl⟩ := hc.form
  clear hk hv hc ht hg
  go_enter Tryd.func9, Tryd.ntmps9
  go_wp2_with fail
  refine HA.out.mono ?_
  rintro e w1 ⟨rfl, b1⟩
  have HS1 := Lib.hid (HS.out.step b1)
  clear b1 HA HS
  go_wp2_with fail
  refine (HL.out _).mono ?_
  rintro e w2 ⟨rfl, rfl⟩
  cases hl : lightB ks h c with
  | false =>
    go_wp2_with fail
    go_ret
    exact ⟨rfl, HS1.out.kw.below⟩
  | true =>
    obtain ⟨l1, l2, l3⟩ := light_yes hl
    clear hl HL
    by_cases h8 : 8 < c.length
    · have q8 : (8 : Int) < c.length := by omega
      go_wp2_with fail
      go_ret
      exact ⟨rfl, HS1.out.kw.below⟩
    have q8 : ¬ (8 : Int) < c.length := by omega
    by_cases h0 : h.length = 0
    · have q0 : ((h.length : Int) == 0) = true := by simp [h0]
      go_wp2_with fail
      go_ret
      exact ⟨rfl, HS1.out.kw.below⟩
    have q0 : ((h.length : Int) == 0) = false := by rw [beq_eq_false_iff_ne]; omega
    have hD := opDo_any ks h c _ _ _ _ HS1.out.kw.ints HS1.out.row HS1.out.ops (by omega) (by omega)
    unfold DoPost at hD
    have HD := Lib.hid hD
    clear hD
    cases hd : doO ks h c with
    | none =>
      rw [hd] at HD
      clear hd
      go_wp2_with fail
      refine HD.out.mono ?_
      rintro e w4 ⟨x, rfl, -, hx2, b4⟩
      obtain rfl := hx2 trivial
      have HS4 := Lib.hid (HS1.out.step b4)
      clear hx2 b4
      go_wp2_with fail
      go_ret
      exact ⟨rfl, HS4.out.kw.below⟩
    | some x =>
      rw [hd] at HD
      obtain ⟨hvh, hdl⟩ := doO_some hd
      have HVh := Lib.hid hvh
      have HVx := Lib.hid (doL_valid hvh hdl)
      have HLen := Lib.hid (doL_len hvh hdl)
      have HCk := Lib.hid (chkE_ok (c := c) hvh (by rw [hdl]; rfl) (by omega))
      have hxl := doO_len hd
      obtain ⟨top, htop⟩ : ∃ top, h[0]? = some top := ⟨_, List.getElem?_eq_getElem (by omega)⟩
      have hhd : h.headD 0 = top := by cases h with | nil => simp at htop | cons a t => simpa using htop
      have HTop := Lib.hid htop
      rw [hhd] at HCk
      clear hd hvh hdl htop hhd
      go_wp2_with fail
      refine HD.out.mono ?_
      rintro e w4 ⟨u, rfl, hx1, -, b4⟩
      have hX4 := IntsAt.own (hx1 x rfl) rfl
      obtain ⟨ax, capx, rfl⟩ := hX4.form
      have HX4 := Lib.hid hX4
      have HS4 := Lib.hid (HS1.out.step b4)
      clear hx1 hX4 b4 HD HS1
      have HV1 := Lib.hid (valid_any ks h _ _ _ HS4.out.kw.ints HS4.out.row (by omega))
      rw [HVh.out] at HV1
      go_wp2_with fail
      refine HV1.out.mono ?_
      rintro e w5 ⟨rfl, b5⟩
      have HX5 := Lib.hid (HX4.out.step b5)
      have HS5 := Lib.hid (HS4.out.step b5)
      clear b5 HX4 HS4 HV1
      have HV2 := Lib.hid (valid_any ks x _ _ _ HS5.out.kw.ints HX5.out (by omega))
      rw [HVx.out] at HV2
      go_wp2_with fail
      refine HV2.out.mono ?_
      rintro e w6 ⟨rfl, b6⟩
      have HS6 := Lib.hid (HS5.out.step b6)
      clear b6 HX5 HS5 HV2
      have hc3 : ((countI c 3 : Nat) : Int) ≤ 20 := by have := countI_le c 3; omega
      have hc1 : ((countI c 1 : Nat) : Int) ≤ 20 := by have := countI_le c 1; omega
      go_wp2_with fail
      refine (grows_any c _ _ HS6.out.ops (by omega)).mono ?_
      rintro e w7 ⟨rfl, b7⟩
      have HS7 := Lib.hid (HS6.out.step b7)
      clear b7 HS6
      generalize countI c 3 = n3 at *
      generalize countI c 1 = n1 at *
      have hlen := HLen.out
      have ht0 : ∃ b off, ah = some ⟨b, off, none⟩ ∧ w7.cell? ⟨b, off, none⟩ = some (.int .i64 top) := by
        obtain ⟨b, off, e, h⟩ := HS7.out.row.at (HTop.out) (Below.refl _ _)
        exact ⟨b, off, e, h⟩
      obtain ⟨b, off, rfl, ctop⟩ := ht0
      have hC := opCheck_any ks top c vk _ w7 HS7.out.kw.ints HS7.out.ops HS7.out.kw.tab
      unfold CheckPost at hC
      have hck := HCk.out
      rw [hck] at hC
      have HC := Lib.hid hC
      clear hC hck
      have q1 : (x.length : Int) = ((h.length : Nat) : Int) + ((n3 : Int) - n1) := by omega
      have q2 : IntKind.i64.wrap (((h.length : Nat) : Int) + ((n3 : Int) - n1)) = ((h.length : Nat) : Int) + ((n3 : Int) - n1) := IntWalk.i64_in _ (by omega)
      have q3 : ((x.length : Int) == ((h.length : Nat) : Int) + ((n3 : Int) - n1)) = true := by simpa using q1
      go_wp2_with fail
      refine HC.out.mono ?_
      rintro e w8 ⟨v8, rfl, hnil, -, b8⟩
      obtain rfl := (hnil trivial).1
      have HS8 := Lib.hid (HS7.out.step b8)
      clear b8 hnil HC
      go_wp2_with fail
      go_ret
      exact ⟨rfl, HS8.out.kw.below⟩
end Go.Proofs.YtjlbdjagbbpoaaaDoor
