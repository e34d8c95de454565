/-
  Package header by contracts, second part: Valid; the document's own Kind and Valid.
-/
import Derived.Test.YtjlbdjagbbpoaaaDoorHdB
namespace Go.Proofs.YtjlbdjagbbpoaaaDoor
open Go.RowKit Go.Extern.Stop Go.Stop Go.Extern

theorem drop_two {h : List Int} {i : Nat} {x y : Int} (hx : h[i]? = some x) (hy : h[i + 1]? = some y) (ks : List Int) :
    validP ((h.drop i).map (kindI ks)) = (mayB (kindI ks x) (kindI ks y) && validP ((h.drop (i + 1)).map (kindI ks))) := by
  obtain ⟨h1, rfl⟩ := List.getElem?_eq_some_iff.1 hx
  obtain ⟨h2, rfl⟩ := List.getElem?_eq_some_iff.1 hy
  rw [List.drop_eq_getElem_cons h1, List.drop_eq_getElem_cons h2]
  rfl
theorem drop_last {h : List Int} {i : Nat} {x : Int} (hx : h[i]? = some x) (hl : h.length = i + 1) (ks : List Int) :
    validP ((h.drop i).map (kindI ks)) = decide (kindI ks x = 1) := by
  obtain ⟨h1, rfl⟩ := List.getElem?_eq_some_iff.1 hx
  rw [List.drop_eq_getElem_cons h1, List.drop_eq_nil_of_le (by omega)]
  rfl
/-- A label's kind, by name. -/
def KV (ks : List Int) (z k : Int) : Prop := kindI ks z = k
theorem kind_kv (ks : List Int) (v : Value) (z k : Int) (w : World) (hv : IntsAt w v ks) (hk : KV ks z k) : Calls Tryd.prog 12 #[v, .int .i64 z] w fun e w' => e = .returned (.int .i64 k) ∧ w' = w := by
  unfold KV at hk
  subst hk
  exact kind_any ks v z w hv
/-- On the way through a header, from its top on. -/
def VR (w : World) (ks h : List Int) (g : Nat) (v : Value) (wr : World) : Prop :=
  ∃ i : Nat, i + 1 ≤ h.length ∧ g = h.length - i ∧ v = .int .i64 i ∧ validH ks h = validP ((h.drop i).map (kindI ks)) ∧ Below w.heap.size w wr
set_option maxRecDepth 100000 in
set_option maxHeartbeats 4000000 in
theorem valid_any (ks h : List Int) (vk v : Value) (w : World) (hk : IntsAt w vk ks) (hv : IntsAt w v h) (lh : h.length ≤ 1000000) :
    Calls Tryd.prog 14 #[vk, v] w fun e w' => e = .returned (.bool (validH ks h)) ∧ Below w.heap.size w w' := by
  obtain ⟨a, cap, rfl⟩ := hv.form
  by_cases h0 : h = []
  · subst h0
    clear hv hk
    go_enter Tryd.func14, Tryd.ntmps14
    go_wp2
    go_ret
    exact ⟨rfl, Below.refl _ _⟩
  have hpos : 0 < h.length := List.length_pos_iff.2 h0
  have e0 : ((h.length : Int) == 0) = false := by rw [beq_eq_false_iff_ne]; omega
  have HV := Lib.hid hv
  have HK := Lib.hid (fun (z k : Int) (w' : World) (hz : KV ks z k) (hb : Below w.heap.size w w') => kind_kv ks vk z k w' (hk.step hb) hz)
  have H0 : Hid (VR w ks h h.length (.int .i64 0) w) := Lib.hid ⟨0, by omega, by omega, rfl, rfl, Below.refl _ _⟩
  clear hk hv h0
  go_enter Tryd.func14, Tryd.ntmps14
  go_wp2_with fail
  go_loopg [14] h.length (fun g u wr => VR w ks h g u wr)
  case atStart => exact H0.out
  case round =>
    obtain ⟨i, hi, hgi, rfl, he, hb⟩ := hrel
    obtain ⟨x, hx⟩ : ∃ x, h[i]? = some x := ⟨_, List.getElem?_eq_getElem (by omega)⟩
    by_cases hlt : i + 1 < h.length
    · obtain ⟨y, hy⟩ : ∃ y, h[i + 1]? = some y := ⟨_, List.getElem?_eq_getElem hlt⟩
      obtain ⟨b, off, rfl, c1⟩ := HV.out.at hx hb
      obtain ⟨b', off', e', c2⟩ := HV.out.at hy hb
      injection e' with e'
      injection e' with e1 e2
      subst e1 e2
      rw [drop_two hx hy] at he
      have HE := Lib.hid he
      have hB := hb
      have HBe := Lib.hid (fun w' => below_any (kindI ks x) w')
      have HHa := Lib.hid (fun w' => has_any (belowW (kindI ks x)) 0 (kindI ks y) (belowW_u64 _) zero_u64 w')
      rw [has_below] at HHa
      obtain ⟨kx, hkx⟩ : ∃ k, KV ks x k := ⟨_, rfl⟩
      obtain ⟨ky, hky⟩ : ∃ k, KV ks y k := ⟨_, rfl⟩
      rw [show kindI ks x = kx from hkx, show kindI ks y = ky from hky] at HE
      rw [show kindI ks x = kx from hkx] at HBe
      rw [show kindI ks x = kx from hkx, show kindI ks y = ky from hky] at HHa
      generalize belowW kx = bw at *
      have HC : Hid (∀ w', Below w.heap.size w w' → w'.cell? ⟨b, off + i, none⟩ = some (.int .i64 x) ∧ w'.cell? ⟨b, off + (i + 1), none⟩ = some (.int .i64 y)) := Lib.hid (fun w' hb' => by
        obtain ⟨b1, o1, e1, d1⟩ := HV.out.at hx hb'
        obtain ⟨b2, o2, e2, d2⟩ := HV.out.at hy hb'
        injection e1 with e1
        injection e1 with e1 e1'
        injection e2 with e2
        injection e2 with e2 e2'
        subst e1 e1' e2 e2'
        exact ⟨d1, d2⟩)
      have hl : (i : Int) < (h.length : Int) - 1 := by omega
      have j0 : (0 : Int) ≤ (i : Int) := by omega
      have j1 : (i : Int) < h.length := by omega
      have j2 : (0 : Int) ≤ (i : Int) + 1 := by omega
      have j3 : (i : Int) + 1 < h.length := by omega
      have j4 : IntKind.i64.wrap ((i : Int) + 1) = (i : Int) + 1 := IntWalk.i64_in _ (by omega)
      have j5 : ((i : Int) + 1).toNat = i + 1 := by omega
      clear he hx hy hb
      cases hm : mayB kx ky with
      | true =>
        rw [hm] at HE HHa
        clear hm
        go_wp2_with fail
        replace hB := hB.drew
        go_region_held3 (fun w' => w'.cell? ⟨b, off + i, none⟩ = some (.int .i64 x) ∧ w'.cell? ⟨b, off + (i + 1), none⟩ = some (.int .i64 y))
          (first | exact ⟨c1, c2⟩ | exact HC.out _ hB | go_keep)
          (first
          | (go_at_call 12; refine (HK.out _ _ _ (by assumption) hB).mono ?_; rintro e w2 ⟨rfl, rfl⟩)
          | (go_at_call 20; refine (HBe.out _).mono ?_; rintro e w2 ⟨rfl, b2⟩; replace hB := hB.trans (b2.mono hB.size))
          | (go_at_call 21; refine (HHa.out _).mono ?_; rintro e w2 ⟨rfl, b2⟩; replace hB := hB.trans (b2.mono hB.size)))
        all_goals
          go_wp2_with fail
          go_roundg (h.length - (i + 1))
          case measure => omega
          case rel => exact ⟨i + 1, by omega, rfl, by go_num, by rw [HE.out]; rfl, hB⟩
      | false =>
        rw [hm] at HE HHa
        clear hm
        go_wp2_with fail
        replace hB := hB.drew
        go_region_held3 (fun w' => w'.cell? ⟨b, off + i, none⟩ = some (.int .i64 x) ∧ w'.cell? ⟨b, off + (i + 1), none⟩ = some (.int .i64 y))
          (first | exact ⟨c1, c2⟩ | exact HC.out _ hB | go_keep)
          (first
          | (go_at_call 12; refine (HK.out _ _ _ (by assumption) hB).mono ?_; rintro e w2 ⟨rfl, rfl⟩)
          | (go_at_call 20; refine (HBe.out _).mono ?_; rintro e w2 ⟨rfl, b2⟩; replace hB := hB.trans (b2.mono hB.size))
          | (go_at_call 21; refine (HHa.out _).mono ?_; rintro e w2 ⟨rfl, b2⟩; replace hB := hB.trans (b2.mono hB.size)))
        all_goals
          go_wp2_with fail
          go_ret
          exact ⟨by rw [HE.out]; rfl, hB⟩
    · obtain ⟨b, off, rfl, c1⟩ := HV.out.at hx hb
      have hl : ¬ ((i : Int) < (h.length : Int) - 1) := by omega
      have hn : (h.length : Int) - 1 = (i : Int) := by omega
      rw [drop_last hx (by omega)] at he
      have HE := Lib.hid he
      obtain ⟨kx, hkx⟩ : ∃ k, KV ks x k := ⟨_, rfl⟩
      rw [show kindI ks x = kx from hkx] at HE
      have HB := Lib.hid hb
      clear he hx hb hlt
      go_wp2_with fail
      refine (HK.out _ _ _ (by assumption) HB.out).mono ?_
      rintro e w2 ⟨rfl, rfl⟩
      go_wp2_with fail
      go_ret
      exact ⟨by rw [HE.out]; rfl, HB.out⟩

/-! ### The document's own -/
set_option maxHeartbeats 1000000 in
theorem rkind_any (ks : List Int) (v : Value) (i : Int) (w : World) (hv : IntsAt w v ks) :
    Calls Tryd.prog 13 #[v, .int .i64 i] w fun e w' => e = .returned (.int .i64 (kindI ks i)) ∧ w' = w := by
  obtain ⟨a, cap, rfl⟩ := hv.form
  by_cases h0 : i < 0
  · have e : kindI ks i = 0 := by unfold kindI; rw [if_neg (by omega)]
    rw [e]
    clear hv e
    go_enter Tryd.func13, Tryd.ntmps13
    go_wp2
    go_ret
    exact ⟨rfl, rfl⟩
  obtain ⟨j, rfl⟩ : ∃ j : Nat, i = j := ⟨i.toNat, by omega⟩
  by_cases h1 : ks.length ≤ j
  · have e : kindI ks (j : Int) = 0 := by unfold kindI; rw [if_neg (by omega)]
    rw [e]
    have hc : (ks.length : Int) ≤ j := by omega
    clear hv e
    go_enter Tryd.func13, Tryd.ntmps13
    go_wp2
    go_ret
    exact ⟨rfl, rfl⟩
  obtain ⟨x, hx⟩ : ∃ x, ks[j]? = some x := ⟨_, List.getElem?_eq_getElem (by omega)⟩
  obtain ⟨b, off, rfl, hcell⟩ := hv.at hx (Below.refl w.heap.size w)
  rw [kindI_at hx]
  have hj : (j : Int) < ks.length := by omega
  clear hv hx
  by_cases g1 : x < 1
  · rw [if_neg (by omega)]
    go_enter Tryd.func13, Tryd.ntmps13
    go_wp2
    go_ret
    exact ⟨rfl, rfl⟩
  by_cases g3 : 3 < x
  · rw [if_neg (by omega)]
    go_enter Tryd.func13, Tryd.ntmps13
    go_wp2
    go_ret
    exact ⟨rfl, rfl⟩
  rw [if_pos (by omega)]
  go_enter Tryd.func13, Tryd.ntmps13
  go_wp2
  go_ret
  exact ⟨rfl, rfl⟩
end Go.Proofs.YtjlbdjagbbpoaaaDoor
