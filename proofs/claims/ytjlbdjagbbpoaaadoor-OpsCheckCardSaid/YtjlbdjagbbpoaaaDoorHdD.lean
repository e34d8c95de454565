/-
  Package header by contracts, third part: the document's own Valid; chapter 9's example; HeaderValid's body.
-/
import Derived.Test.YtjlbdjagbbpoaaaDoorHdC
namespace Go.Proofs.YtjlbdjagbbpoaaaDoor
open Go.RowKit Go.Extern.Stop Go.Stop Go.Extern

theorem map_at {ks h : List Int} {i : Nat} {x : Int} (hx : h[i]? = some x) : (h.map (kindI ks)).getD i 0 = kindI ks x := by
  rw [List.getD_eq_getElem?_getD, List.getElem?_map, hx]; rfl
theorem validH_iff (ks h : List Int) : validH ks h = true ↔ (0 < h.length ∧ (∀ x, h[h.length - 1]? = some x → kindI ks x = 1) ∧ (1 < h.length → ∀ x, h[h.length - 2]? = some x → kindI ks x = 2) ∧ ∀ i, i < h.length - 2 → ∀ x, h[i]? = some x → kindI ks x = 3) := by
  unfold validH
  rw [validP_ref, List.length_map]
  constructor
  · rintro ⟨h0, h1, h2, h3⟩
    refine ⟨h0, fun x hx => ?_, fun hl x hx => ?_, fun i hi x hx => ?_⟩
    · rw [map_at hx] at h1; exact h1
    · have := h2 hl; rw [map_at hx] at this; exact this
    · have := h3 i hi; rw [map_at hx] at this; exact this
  · rintro ⟨h0, h1, h2, h3⟩
    have ex : ∀ i, i < h.length → ∃ x, h[i]? = some x := fun i hi => ⟨_, List.getElem?_eq_getElem hi⟩
    refine ⟨h0, ?_, fun hl => ?_, fun i hi => ?_⟩
    · obtain ⟨x, hx⟩ := ex (h.length - 1) (by omega)
      rw [map_at hx]; exact h1 x hx
    · obtain ⟨x, hx⟩ := ex (h.length - 2) (by omega)
      rw [map_at hx]; exact h2 hl x hx
    · obtain ⟨x, hx⟩ := ex i (by omega)
      rw [map_at hx]; exact h3 i hi x hx
theorem rkind_kv (ks : List Int) (v : Value) (z k : Int) (w : World) (hv : IntsAt w v ks) (hk : KV ks z k) : Calls Tryd.prog 13 #[v, .int .i64 z] w fun e w' => e = .returned (.int .i64 k) ∧ w = w' := by
  unfold KV at hk
  subst hk
  exact (rkind_any ks v z w hv).mono fun _ _ h => ⟨h.1, h.2.symm⟩
set_option maxRecDepth 100000 in
set_option maxHeartbeats 4000000 in
theorem rvalid_any (ks h : List Int) (vk v : Value) (w : World) (hk : IntsAt w vk ks) (hv : IntsAt w v h) (lh : h.length ≤ 1000000) :
    Calls Tryd.prog 15 #[vk, v] w fun e w' => e = .returned (.bool (validH ks h)) ∧ w' = w := by
  obtain ⟨a, cap, rfl⟩ := hv.form
  by_cases h0 : h.length = 0
  · obtain rfl : h = [] := List.eq_nil_of_length_eq_zero h0
    clear hv hk
    go_enter Tryd.func15, Tryd.ntmps15
    go_wp2
    go_ret
    exact ⟨rfl, rfl⟩
  have HI := Lib.hid (validH_iff ks h)
  have HK := Lib.hid (fun (z k : Int) (hz : KV ks z k) => rkind_kv ks vk z k w hk hz)
  obtain ⟨m, hm⟩ : ∃ m, h.length = m + 1 := ⟨h.length - 1, by omega⟩
  obtain ⟨x, hx⟩ : ∃ x, h[m]? = some x := ⟨_, List.getElem?_eq_getElem (by omega)⟩
  obtain ⟨b, off, rfl, c1⟩ := hv.at hx (Below.refl w.heap.size w)
  have e0 : ((h.length : Int) == 0) = false := by rw [beq_eq_false_iff_ne]; omega
  have hn : (h.length : Int) - 1 = (m : Int) := by omega
  have j1 : (m : Int) < h.length := by omega
  obtain ⟨kx, hkx⟩ : ∃ k, KV ks x k := ⟨_, rfl⟩
  have HM := Lib.hid hm
  have HX := Lib.hid hx
  have HV := Lib.hid hv
  clear hk hv h0 hm hx
  by_cases g1 : kx = 1
  · subst g1
    have hlast : Hid (∀ z, h[h.length - 1]? = some z → kindI ks z = 1) := Lib.hid (fun z hz => by
      have := HM.out
      rw [show h.length - 1 = m by omega, HX.out] at hz
      injection hz with hz
      rw [← hz]; exact hkx)
    by_cases hl : h.length = 1
    · have q1 : ¬ (1 : Int) < h.length := by omega
      have q2 : ¬ (0 : Int) < (h.length : Int) - 2 := by omega
      have hT : Hid (validH ks h = true) := Lib.hid (HI.out.2 ⟨by omega, hlast.out, fun h => by omega, fun i hi => by omega⟩)
      obtain rfl : m = 0 := by have := HM.out; omega
      have c0 : w.cell? ⟨b, off, none⟩ = some (.int .i64 x) := c1
      have hn0 : (h.length : Int) - 1 = 0 := by omega
      have j0 : (0 : Int) < h.length := by omega
      clear hl c1 hn j1
      go_enter Tryd.func15, Tryd.ntmps15
      go_wp2_with (go_at_call 13; refine (HK.out _ _ (by assumption)).mono ?_; rintro e w' ⟨rfl, rfl⟩)
      refine wp_loop_rounds 1 ?_
      rw [rounds_succ]
      go_wp2
      go_ret
      exact ⟨by rw [hT.out]; rfl, rfl⟩
    · obtain ⟨m', rfl⟩ : ∃ m', m = m' + 1 := ⟨m - 1, by have := HM.out; omega⟩
      obtain ⟨y, hy⟩ : ∃ y, h[m']? = some y := ⟨_, List.getElem?_eq_getElem (by have := HM.out; omega)⟩
      have c2 : w.cell? ⟨b, off + m', none⟩ = some (.int .i64 y) := by
        obtain ⟨b2, o2, e2, d2⟩ := HV.out.at hy (Below.refl w.heap.size w)
        injection e2 with e2
        injection e2 with e2 e2'
        subst e2 e2'
        exact d2
      have hn2 : (h.length : Int) - 2 = (m' : Int) := by omega
      have q1 : (1 : Int) < h.length := by omega
      have j2 : (m' : Int) < h.length := by omega
      obtain ⟨ky, hky⟩ : ∃ k, KV ks y k := ⟨_, rfl⟩
      have HY := Lib.hid hy
      have HL : Hid (h.length - 2 = m') := Lib.hid (by have := HM.out; omega)
      clear hl hy
      by_cases g2 : ky = 2
      · subst g2
        go_enter Tryd.func15, Tryd.ntmps15
        go_wp2_with (go_at_call 13; refine (HK.out _ _ (by assumption)).mono ?_; rintro e w' ⟨rfl, rfl⟩)
        go_loop [6] (fun u => ∃ k : Nat, k ≤ m' ∧ u = .int .i64 k ∧ Hid (∀ i, i < k → ∀ z, h[i]? = some z → kindI ks z = 3)) (fun u => h.length - (intOf u).toNat)
        case atStart => exact ⟨0, Nat.zero_le _, rfl, Lib.hid (fun i hi => by omega)⟩
        case round =>
          obtain ⟨k, hk, rfl, hall⟩ := hrel
          by_cases hlt : k < m'
          · obtain ⟨z, hz⟩ : ∃ z, h[k]? = some z := ⟨_, List.getElem?_eq_getElem (by have := HM.out; omega)⟩
            have c3 : w.cell? ⟨b, off + k, none⟩ = some (.int .i64 z) := by
              obtain ⟨b2, o2, e2, d2⟩ := HV.out.at hz (Below.refl w.heap.size w)
              injection e2 with e2
              injection e2 with e2 e2'
              subst e2 e2'
              exact d2
            obtain ⟨kz, hkz⟩ : ∃ k, KV ks z k := ⟨_, rfl⟩
            have HZ := Lib.hid hz
            have j3 : (k : Int) < h.length := by omega
            clear hz
            by_cases g3 : kz = 3
            · subst g3
              have hnew : Hid (∀ i, i < k + 1 → ∀ u, h[i]? = some u → kindI ks u = 3) := Lib.hid (fun i hi u hu => by
                by_cases hik : i = k
                · subst hik
                  rw [HZ.out] at hu
                  injection hu with hu
                  rw [← hu]; exact hkz
                · exact hall.out i (by omega) u hu)
              clear hall
              go_wp2_with (go_at_call 13; refine (HK.out _ _ (by assumption)).mono ?_; rintro e w' ⟨rfl, rfl⟩)
              go_round
              case rel => exact ⟨k + 1, by omega, by go_num, hnew⟩
              case measure => simp [intOf]; omega
            · have q3 : (kz != 3) = true := by simpa using g3
              have q4 : (kz == 3) = false := by simpa using g3
              have hF : Hid (validH ks h = false) := Lib.hid (by
                cases hc : validH ks h
                · rfl
                · exact absurd ((HI.out.1 hc).2.2.2 k (by have := HL.out; omega) z HZ.out) (by rw [show kindI ks z = kz from hkz]; exact g3))
              clear hall g3
              go_wp2_with (go_at_call 13; refine (HK.out _ _ (by assumption)).mono ?_; rintro e w' ⟨rfl, rfl⟩)
              go_ret
              exact ⟨by rw [hF.out]; rfl, rfl⟩
          · obtain rfl : k = m' := by omega
            have hT : Hid (validH ks h = true) := Lib.hid (HI.out.2 ⟨by omega, hlast.out, fun _ u hu => by
              rw [HL.out, HY.out] at hu
              injection hu with hu
              rw [← hu]; exact hky, fun i hi => hall.out i (by have := HL.out; omega)⟩)
            clear hall
            go_wp2
            go_ret
            exact ⟨by rw [hT.out]; rfl, rfl⟩
      · have q3 : (ky != 2) = true := by simpa using g2
        have q4 : (ky == 2) = false := by simpa using g2
        have hF : Hid (validH ks h = false) := Lib.hid (by
          cases hc : validH ks h
          · rfl
          · exact absurd ((HI.out.1 hc).2.2.1 (by omega) y (by rw [HL.out]; exact HY.out)) (by rw [show kindI ks y = ky from hky]; exact g2))
        clear g2
        go_enter Tryd.func15, Tryd.ntmps15
        go_wp2_with (go_at_call 13; refine (HK.out _ _ (by assumption)).mono ?_; rintro e w' ⟨rfl, rfl⟩)
        go_ret
        exact ⟨by rw [hF.out]; rfl, rfl⟩
  · have q3 : (kx != 1) = true := by simpa using g1
    have q4 : (kx == 1) = false := by simpa using g1
    have hF : Hid (validH ks h = false) := Lib.hid (by
      cases hc : validH ks h
      · rfl
      · exact absurd ((HI.out.1 hc).2.1 x (by rw [show h.length - 1 = m by have := HM.out; omega]; exact HX.out)) (by rw [show kindI ks x = kx from hkx]; exact g1))
    clear g1
    go_enter Tryd.func15, Tryd.ntmps15
    go_wp2_with (go_at_call 13; refine (HK.out _ _ (by assumption)).mono ?_; rintro e w' ⟨rfl, rfl⟩)
    go_ret
    exact ⟨by rw [hF.out]; rfl, rfl⟩
end Go.Proofs.YtjlbdjagbbpoaaaDoor
