/-
  HeaderLays's body, by contract.
-/
import Derived.Test.YtjlbdjagbbpoaaaDoorHdE
import Derived.Test.YtjlbdjagbbpoaaaDoorConI
namespace Go.Proofs.YtjlbdjagbbpoaaaDoor
open Go.RowKit Go.Extern.Stop Go.Stop Go.Extern

theorem validH_cons {ks : List Int} {i : Int} {h : List Int} (hv : validH ks h = true) : validH ks (i :: h) = mayB (kindI ks i) (kindI ks (h.headD 0)) := by
  have := step_ref (o := 3) (lab := i) hv (by omega) (by omega)
  simpa [stepL, topsB] using this
set_option maxRecDepth 100000 in
set_option maxHeartbeats 2000000 in
theorem headerLays_any (ks h : List Int) (vk v : Value) (z : Int) (w : World) (hk : IntsAt w vk ks) (hv : IntsAt w v h) (ht : TabB w) :
    Calls Tryd.prog 6 #[vk, v, .int .i64 z] w fun e w' => e = .returned (.bool true) ∧ Below w.heap.size w w' := by
  obtain ⟨a, cap, rfl⟩ := hv.form
  obtain ⟨a', cap', rfl⟩ := hk.form
  have HA := Lib.hid (awake9_any w ht)
  have HV := Lib.hid hv
  have HK := Lib.hid hk
  clear hv hk ht
  go_enter Tryd.func6, Tryd.ntmps6
  go_wp2_with fail
  refine HA.out.mono ?_
  rintro e w1 ⟨rfl, b1⟩
  have HB := Lib.hid b1
  clear b1 HA
  by_cases g1 : 100 < ks.length
  · have q1 : (100 : Int) < ks.length := by omega
    go_wp2_with fail
    go_ret
    exact ⟨rfl, HB.out⟩
  have q1 : ¬ (100 : Int) < ks.length := by omega
  by_cases g2 : 100 < h.length
  · have q2 : (100 : Int) < h.length := by omega
    go_wp2_with fail
    go_ret
    exact ⟨rfl, HB.out⟩
  have q2 : ¬ (100 : Int) < h.length := by omega
  by_cases g3 : h.length = 0
  · have q3 : ((h.length : Int) == 0) = true := by simp [g3]
    go_wp2_with fail
    go_ret
    exact ⟨rfl, HB.out⟩
  have q3 : ((h.length : Int) == 0) = false := by rw [beq_eq_false_iff_ne]; omega
  obtain ⟨x, hx⟩ : ∃ x, h[0]? = some x := ⟨_, List.getElem?_eq_getElem (by omega)⟩
  have hx0 : h.headD 0 = x := by cases h with | nil => simp at hx | cons a t => simpa using hx
  have H3 := Lib.hid (valid_any ks h _ _ _ (HK.out.step HB.out) (HV.out.step HB.out) (by omega))
  cases hr : validH ks h with
  | false =>
    rw [hr] at H3
    clear hr hx hx0
    go_wp2_with fail
    refine H3.out.mono ?_
    rintro e w3 ⟨rfl, b3⟩
    have HB3 := Lib.hid (HB.out.trans (b3.mono HB.out.size))
    clear b3
    go_wp2_with fail
    go_ret
    exact ⟨rfl, HB3.out⟩
  | true =>
    rw [hr] at H3
    have HC := Lib.hid (validH_cons (i := z) hr)
    rw [hx0] at HC
    obtain ⟨b, off, rfl, -⟩ := HV.out.at hx (Below.refl w.heap.size w)
    have HX := Lib.hid hx
    clear hr hx hx0
    have j0 : (0 : Int) < h.length := by omega
    go_wp2_with fail
    refine H3.out.mono ?_
    rintro e w3 ⟨rfl, b3⟩
    have hB3 := HB.out.trans (b3.mono HB.out.size)
    have c0 : w3.cell? ⟨b, off, none⟩ = some (.int .i64 x) := by
      obtain ⟨b1, o1, e1, d1⟩ := HV.out.at HX.out hB3
      injection e1 with e1
      injection e1 with e1 e1'
      subst e1 e1'
      exact d1
    have HB3 := Lib.hid hB3
    have HKx := Lib.hid (kind_any ks _ x _ (HK.out.step hB3))
    clear b3 hB3 H3 HX
    go_wp2_with fail
    refine HKx.out.mono ?_
    rintro e w4 ⟨rfl, rfl⟩
    -- the two rows, side by side
    have i1 := ints_new w4 z
    have b5 := below_new w4 (.cells #[.int .i64 z] 3)
    have b6 := below_new (w4.alloc (.cells #[.int .i64 z] 3)) (.cells #[.slice (some ⟨w4.heap.size, 0, none⟩) 1 1, .slice (some ⟨b, off, none⟩) h.length cap] 22)
    have HB6 := Lib.hid ((HB3.out.trans (b5.mono HB3.out.size)).trans (b6.mono (HB3.out.trans (b5.mono HB3.out.size)).size))
    have hn := heap_alloc_new (w4.alloc (.cells #[.int .i64 z] 3)) (.cells #[.slice (some ⟨w4.heap.size, 0, none⟩) 1 1, .slice (some ⟨b, off, none⟩) h.length cap] 22)
    have HCo := Lib.hid (concatI_any (w4.alloc (.cells #[.int .i64 z] 3)).heap.size _ _ [z] h _ (by simp) (by rw [Lib.cell_of_heap hn]; rfl) (by rw [Lib.cell_of_heap hn]; rfl) (i1.step b6) (HV.out.step HB6.out) (by simp) (by omega))
    rw [World.size_alloc] at HCo
    clear i1 b5 b6 hn HB3 HKx c0
    go_wp2_with fail
    refine HCo.out.mono ?_
    rintro e w7 ⟨sl, rfl, hown, b7⟩
    have HB7 := Lib.hid (HB6.out.trans (b7.mono HB6.out.size))
    have hi : IntsAt w7 sl (z :: h) := IntsAt.own hown (by simp [Nat.add_comm])
    have HVa := Lib.hid (valid_any ks (z :: h) _ _ _ (HK.out.step HB7.out) hi (by simp; omega))
    rw [HC.out] at HVa
    clear hown b7 hi HB6 HCo
    obtain ⟨kx, hkx⟩ : ∃ k, kindI ks x = k := ⟨_, rfl⟩
    obtain ⟨kz, hkz⟩ : ∃ k, kindI ks z = k := ⟨_, rfl⟩
    rw [hkx, hkz] at HVa
    have HKz := Lib.hid (fun w' (hb : Below w.heap.size w w') => kind_any ks _ z w' (HK.out.step hb))
    rw [hkz] at HKz
    rw [hkx]
    have HO := Lib.hid (fun w' => onto_any kz w')
    have HH := Lib.hid (fun w' => has_any (belowW kz) 0 kx (belowW_u64 _) zero_u64 w')
    rw [has_below] at HH
    clear hkx hkz HC
    generalize belowW kz = bw at *
    generalize mayB kz kx = r at *
    go_wp2_with fail
    refine HVa.out.mono ?_
    rintro e w8 ⟨rfl, b8⟩
    have HB8 := Lib.hid (HB7.out.trans (b8.mono HB7.out.size))
    clear b8 HB7 HVa
    go_wp2_with fail
    refine (HKz.out _ HB8.out).mono ?_
    rintro e w9 ⟨rfl, rfl⟩
    go_wp2_with fail
    refine (HO.out _).mono ?_
    rintro e w10 ⟨rfl, b10⟩
    have HB10 := Lib.hid (HB8.out.trans (b10.mono HB8.out.size))
    clear b10
    go_wp2_with fail
    refine (HH.out _).mono ?_
    rintro e w11 ⟨rfl, b11⟩
    have HB11 := Lib.hid (HB10.out.trans (b11.mono HB10.out.size))
    clear b11
    go_wp2_with fail
    go_ret
    exact ⟨by simp, HB11.out⟩
end Go.Proofs.YtjlbdjagbbpoaaaDoor
