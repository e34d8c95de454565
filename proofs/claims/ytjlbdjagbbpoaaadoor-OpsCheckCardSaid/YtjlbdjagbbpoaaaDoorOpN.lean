/-
  OpsParts's body, by contract.
-/
import Derived.Test.YtjlbdjagbbpoaaaDoorOpL
import Derived.Test.YtjlbdjagbbpoaaaDoorOpM
namespace Go.Proofs.YtjlbdjagbbpoaaaDoor
open Go.RowKit Go.Extern.Stop Go.Stop Go.Extern

theorem doO_parts (ks h : List Int) (a b : List (Int × Int)) : (doO ks h a = none → doO ks h (a ++ b) = none) ∧ ∀ y, doO ks h a = some y → doO ks h (a ++ b) = doO ks y b := by
  constructor
  · intro hd
    unfold doO at hd ⊢
    split
    · rename_i hv
      rw [if_pos hv] at hd
      rw [doL_append, hd]
      rfl
    · rfl
  · intro y hd
    obtain ⟨hv, hl⟩ := doO_some hd
    have hy := doL_valid hv hl
    unfold doO
    rw [if_pos hv, if_pos hy, doL_append, hl]
    rfl
/-- Two rows of ops, side by side, and what they come to. -/
theorem cat_any (a b : List (Int × Int)) (va vb : Value) (W : World) (ha : OpsAt W va a) (hb : OpsAt W vb b) (la : a.length ≤ 20) (lb : b.length ≤ 20) :
    Calls Tryd.prog 38 #[.slice (some ⟨W.heap.size, 0, none⟩) 2 2] (W.alloc (.cells #[va, vb] 41)) fun e w' => ∃ sl, e = .returned sl ∧ OpsAt w' sl (a ++ b) ∧ Below W.heap.size W w' := by
  have hn := heap_alloc_new W (.cells #[va, vb] 41)
  have hbn := below_new W (.cells #[va, vb] 41)
  refine (concatO_any W.heap.size va vb a b _ (by simp) (by rw [Lib.cell_of_heap hn]; rfl) (by rw [Lib.cell_of_heap hn]; rfl) (ha.step hbn) (hb.step hbn) (by omega) (by omega)).mono ?_
  rintro e w' ⟨sl, rfl, hown, b2⟩
  exact ⟨sl, rfl, OpsAt.own hown (by simp), hbn.trans (b2.mono hbn.size)⟩
set_option maxRecDepth 100000 in
set_option maxHeartbeats 4000000 in
theorem opsParts_any (ks h : List Int) (a b : List (Int × Int)) (vk v va vb : Value) (w : World) (hk : IntsAt w vk ks) (hv : IntsAt w v h) (ha : OpsAt w va a) (hb : OpsAt w vb b) (ht : TabB w) (hg : Handle w) :
    Calls Tryd.prog 10 #[vk, v, va, vb] w fun e w' => e = .returned (.bool true) ∧ Below w.heap.size w w' := by
  have HS := Lib.hid (⟨⟨hk, ht, hg, Below.refl _ _⟩, hv, ha⟩ : OS w ks h a vk v va w)
  have HB := Lib.hid hb
  have HA := Lib.hid (awake10_any w ht hg)
  have HL := Lib.hid (fun w' => light_any ks h a vk v va w' hk.form hv.form ha.form)
  have HL2 := Lib.hid (fun w' => light_any ks h b vk v vb w' hk.form hv.form hb.form)
  obtain ⟨aa, capa, rfl⟩ := ha.form
  obtain ⟨ab, capb, rfl⟩ := hb.form
  clear hk hv ha hb ht hg
  go_enter Tryd.func10, Tryd.ntmps10
  go_wp2_with fail
  refine HA.out.mono ?_
  rintro e w1 ⟨rfl, b1⟩
  have HS1 := Lib.hid (HS.out.step b1)
  have HB1 := Lib.hid (HB.out.step b1)
  clear b1 HA HS HB
  go_wp2_with fail
  refine (HL.out _).mono ?_
  rintro e w2 ⟨rfl, rfl⟩
  cases hl : lightB ks h a with
  | false =>
    go_wp2_with fail
    go_ret
    exact ⟨rfl, HS1.out.kw.below⟩
  | true =>
    obtain ⟨l1, l2, l3⟩ := light_yes hl
    clear hl HL
    go_wp2_with fail
    refine (HL2.out _).mono ?_
    rintro e w2 ⟨rfl, rfl⟩
    cases hl : lightB ks h b with
    | false =>
      go_wp2_with fail
      go_ret
      exact ⟨rfl, HS1.out.kw.below⟩
    | true =>
      obtain ⟨-, -, l4⟩ := light_yes hl
      clear hl HL2
      go_wp2_with fail
      refine (cat_any a b _ _ w1 HS1.out.ops HB1.out l3 l4).mono ?_
      rintro e w3 ⟨sl, rfl, hsl, b3⟩
      have HC3 := Lib.hid hsl
      have HS3 := Lib.hid (HS1.out.step b3)
      have HB3 := Lib.hid (HB1.out.step b3)
      clear b3 hsl HS1 HB1
      obtain ⟨hp1, hp2⟩ := doO_parts ks h a b
      go_wp2_with fail
      refine (opDo_any ks h (a ++ b) _ _ _ _ HS3.out.kw.ints HS3.out.row HC3.out (by omega) (by simp; omega)).mono ?_
      rintro e w4 ⟨x, rfl, hx1, hx2, b4⟩
      have HX4 := Lib.hid (do_row hx1 hx2)
      have HS4 := Lib.hid (HS3.out.step b4)
      have HB4 := Lib.hid (HB3.out.step b4)
      clear hx1 hx2 b4 HS3 HB3 HC3
      have hD2 := opDo_any ks h a _ _ _ _ HS4.out.kw.ints HS4.out.row HS4.out.ops (by omega) (by omega)
      unfold DoPost at hD2
      have HD2 := Lib.hid hD2
      clear hD2
      cases hd : doO ks h a with
      | none =>
        rw [hd] at HD2
        have hab := hp1 hd
        rw [hab] at HX4 ⊢
        clear hp1 hp2 hd hab
        go_wp2_with fail
        refine HD2.out.mono ?_
        rintro e w5 ⟨y, rfl, -, hy2, b5⟩
        have HS5 := Lib.hid (HS4.out.step b5)
        clear hy2 b5
        go_wp2_with fail
        go_ret
        exact ⟨rfl, HS5.out.kw.below⟩
      | some y0 =>
        rw [hd] at HD2
        have hab := hp2 y0 hd
        have hyl := doO_len hd
        rw [hab] at HX4 ⊢
        clear hp1 hp2 hd hab
        go_wp2_with fail
        refine HD2.out.mono ?_
        rintro e w5 ⟨y, rfl, hy1, -, b5⟩
        have HY5 := Lib.hid (IntsAt.own (hy1 y0 rfl) rfl)
        have HX5 := Lib.hid (HX4.out.1.step b5)
        have HS5 := Lib.hid (HS4.out.step b5)
        have HB5 := Lib.hid (HB4.out.step b5)
        clear hy1 b5 HS4 HB4 HX4
        go_wp2_with fail
        refine (opDo_any ks y0 b _ _ _ _ HS5.out.kw.ints HY5.out HB5.out (by omega) (by omega)).mono ?_
        rintro e w6 ⟨z, rfl, hz1, hz2, b6⟩
        have HZ6 := Lib.hid (do_row hz1 hz2).1
        have HX6 := Lib.hid (HX5.out.step b6)
        have HS6 := Lib.hid (HS5.out.step b6)
        have HB6 := Lib.hid (HB5.out.step b6)
        have HRL := Lib.hid (doO_getD_len ks y0 b)
        clear hz1 hz2 b6 HS5 HB5 HX5 HY5
        obtain ⟨res, hres⟩ : ∃ res, (doO ks y0 b).getD [] = res := ⟨_, rfl⟩
        rw [hres] at HZ6 HX6 HRL
        clear hres
        generalize (doO ks y0 b).isSome = ok at *
        go_wp2_with fail
        refine (equalI_same res x z _ HX6.out HZ6.out (by have := HRL.out; omega)).mono ?_
        rintro e w7 ⟨rfl, b7⟩
        have HS7 := Lib.hid (HS6.out.step b7)
        have HB7 := Lib.hid (HB6.out.step b7)
        clear b7 HS6 HB6 HX6 HZ6
        go_wp2_with fail
        refine (cat_any a b _ _ w7 HS7.out.ops HB7.out l3 l4).mono ?_
        rintro e w8 ⟨sl8, rfl, hsl8, b8⟩
        have HC8 := Lib.hid hsl8
        have HS8 := Lib.hid (HS7.out.step b8)
        have HB8 := Lib.hid (HB7.out.step b8)
        clear b8 hsl8 HS7 HB7
        have HG1 := grows_any (a ++ b) sl8 w8 HC8.out (by simp; omega)
        rw [countI_append, countI_append] at HG1
        have HG1 := Lib.hid HG1
        have a3 := countI_le a 3
        have a1 := countI_le a 1
        have c3 := countI_le b 3
        have c1 := countI_le b 1
        have HG2 := Lib.hid (fun w' (h : OpsAt w' (.slice aa a.length capa) a) => grows_any a _ w' h (by omega))
        have HG3 := Lib.hid (fun w' (h : OpsAt w' (.slice ab b.length capb) b) => grows_any b _ w' h (by omega))
        generalize countI a 3 = n3 at *
        generalize countI a 1 = n1 at *
        generalize countI b 3 = m3 at *
        generalize countI b 1 = m1 at *
        go_wp2_with fail
        refine HG1.out.mono ?_
        rintro e w9 ⟨rfl, b9⟩
        have HS9 := Lib.hid (HS8.out.step b9)
        have HB9 := Lib.hid (HB8.out.step b9)
        clear b9 HS8 HB8 HG1
        go_wp2_with fail
        refine (HG2.out _ HS9.out.ops).mono ?_
        rintro e w10 ⟨rfl, b10⟩
        have HS10 := Lib.hid (HS9.out.step b10)
        have HB10 := Lib.hid (HB9.out.step b10)
        clear b10 HS9 HB9
        go_wp2_with fail
        refine (HG3.out _ HB10.out).mono ?_
        rintro e w11 ⟨rfl, b11⟩
        have HS11 := Lib.hid (HS10.out.step b11)
        clear b11 HS10 HB10
        have hw : IntKind.i64.wrap (((n3 : Int) - n1) + ((m3 : Int) - m1)) = ((n3 : Int) - n1) + ((m3 : Int) - m1) := IntWalk.i64_in _ (by omega)
        have q3 : ((((n3 + m3 : Nat) : Int) - ((n1 + m1 : Nat) : Int)) == ((n3 : Int) - n1) + ((m3 : Int) - m1)) = true := by rw [beq_iff_eq]; omega
        have q4 : (((n3 : Int) + m3 - ((n1 : Int) + m1)) == ((n3 : Int) - n1) + ((m3 : Int) - m1)) = true := by rw [beq_iff_eq]; omega
        go_wp2_with fail
        go_ret
        refine ⟨?_, HS11.out.kw.below⟩
        simp
end Go.Proofs.YtjlbdjagbbpoaaaDoor
