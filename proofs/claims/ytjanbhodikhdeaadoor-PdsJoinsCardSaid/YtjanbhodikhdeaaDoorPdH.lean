/-
  Package pds by contracts: whether two configurations are the same, by the program and by the document; whether a rule can be done, by both; a stack turned about.
-/
import Derived.Test.YtjanbhodikhdeaaDoorPdG
namespace Go.Proofs.YtjanbhodikhdeaaDoor
open Go.RowKit Go.Extern.Stop Go.Stop Go.Extern

theorem bel_drewN (w : World) (q : Nat) : Below w.heap.size w (w.drewN q) := by
  induction q with
  | zero => exact Below.refl _ _
  | succ q ih => exact ih.drew
/-! ### Equal -/
theorem take_next {l m : List Int} {k : Nat} {x y : Int} (hx : l[k]? = some x) (hy : m[k]? = some y) (h : l.take k = m.take k) (hxy : x = y) : l.take (k + 1) = m.take (k + 1) := by
  rw [List.take_add_one, List.take_add_one, hx, hy, h, hxy]
theorem ne_at {l m : List Int} {k : Nat} {x y : Int} (hx : l[k]? = some x) (hy : m[k]? = some y) (hxy : x ≠ y) : l ≠ m := by
  rintro rfl
  rw [hx] at hy
  exact hxy (Option.some.inj hy)
set_option maxRecDepth 100000 in
set_option maxHeartbeats 4000000 in
theorem equalI_any (l m : List Int) (v v' : Value) (w : World) (hv : IntsAt w v l) (hv' : IntsAt w v' m) (hl : l.length ≤ 1000000) :
    Calls Tryd.prog 11 #[v, v'] w fun e w' => e = .returned (.bool (decide (l = m))) ∧ Below w.heap.size w w' := by
  obtain ⟨a, cap, rfl⟩ := hv.form
  obtain ⟨a', cap', rfl⟩ := hv'.form
  have HV := Lib.hid hv
  have HV' := Lib.hid hv'
  clear hv hv'
  by_cases hlen : l.length = m.length
  · have hlen' : ((l.length : Int) != (m.length : Int)) = false := by simp [hlen]
    have HLen := Lib.hid hlen
    rw [← hlen] at HV' hlen' ⊢
    clear hlen
    go_enter Tryd.func11, Tryd.ntmps11
    go_wp2_with fail
    go_loopg [13] l.length (fun g u wr => ∃ k : Nat, k ≤ l.length ∧ g = l.length - k ∧ u = .int .i64 k ∧ l.take k = m.take k ∧ Below w.heap.size w wr)
    case atStart => exact ⟨0, Nat.zero_le _, by omega, rfl, rfl, Below.refl _ _⟩
    case round =>
      obtain ⟨k, hk, hgk, rfl, ht, hb⟩ := hrel
      have HB := Lib.hid hb
      have HT := Lib.hid ht
      clear hb ht
      by_cases hlt : k < l.length
      · obtain ⟨x, hx⟩ : ∃ x, l[k]? = some x := ⟨_, List.getElem?_eq_getElem hlt⟩
        obtain ⟨y, hy⟩ : ∃ y, m[k]? = some y := ⟨_, List.getElem?_eq_getElem (by have := HLen.out; omega)⟩
        obtain ⟨b, off, rfl, c1⟩ := HV.out.at hx HB.out
        obtain ⟨b', off', rfl, c2⟩ := HV'.out.at hy HB.out
        have HN := Lib.hid (take_next hx hy HT.out)
        have HE := Lib.hid (ne_at hx hy)
        clear hx hy
        by_cases hxy : x = y
        · subst hxy
          go_wp2_with fail
          go_quiet (fail)
          go_wp2_with fail
          go_roundg (l.length - (k + 1))
          case measure => omega
          case rel => exact ⟨k + 1, by omega, rfl, by go_num, HN.out (by trivial), HB.out.trans ((bel_drewN wr nq).mono HB.out.size)⟩
        · have hne : (x != y) = true := by simp [hxy]
          have HD : Hid (decide (l = m) = false) := Lib.hid (decide_eq_false (HE.out hxy))
          go_wp2_with fail
          go_quiet (fail)
          go_wp2_with fail
          go_ret
          exact ⟨by rw [HD.out]; rfl, HB.out.trans ((bel_drewN wr nq).mono HB.out.size)⟩
      · obtain rfl : k = l.length := by omega
        have HD : Hid (decide (l = m) = true) := Lib.hid (decide_eq_true (by have := HT.out; rw [List.take_length] at this; rw [this]; exact List.take_of_length_le (by have := HLen.out; omega)))
        go_wp2_with fail
        go_ret
        exact ⟨by rw [HD.out]; rfl, HB.out⟩
  · have hlen' : ((l.length : Int) != (m.length : Int)) = true := by simp; omega
    have HD : Hid (decide (l = m) = false) := Lib.hid (decide_eq_false (fun e => hlen (by rw [e])))
    go_enter Tryd.func11, Tryd.ntmps11
    go_wp2_with fail
    go_ret
    exact ⟨by rw [HD.out]; rfl, Below.refl _ _⟩

/-! ### Same -/
def sameC (s t : Int) (l m : List Int) : Bool := decide (s = t) && decide (l = m)
set_option maxRecDepth 100000 in
set_option maxHeartbeats 4000000 in
theorem same21_any (s t : Int) (l m : List Int) (v v' : Value) (w : World) (hv : IntsAt w v l) (hv' : IntsAt w v' m) (hl : l.length ≤ 1000000) :
    Calls Tryd.prog 9 #[cfV s v, cfV t v'] w fun e w' => e = .returned (.bool (sameC s t l m)) ∧ Below w.heap.size w w' := by
  obtain ⟨a, cap, rfl⟩ := hv.form
  obtain ⟨a', cap', rfl⟩ := hv'.form
  obtain ⟨h0, h1, hb⟩ := two_new w 27 27 (.int .i64 s) (.slice a l.length cap) (.int .i64 t) (.slice a' m.length cap')
  have HQ := Lib.hid (equalI_any l m _ _ _ (hv.step hb) (hv'.step hb) hl)
  obtain ⟨k0, k1⟩ := cells2 h0
  obtain ⟨j0, j1⟩ := cells2 h1
  have HB := Lib.hid hb
  have HS : Hid (sameC s t l m = (decide (s = t) && decide (l = m))) := Lib.hid rfl
  generalize sameC s t l m = R at *
  generalize decide (l = m) = q at *
  clear hv hv' h0 h1 hb
  by_cases hst : s = t
  · subst hst
    have hR : Hid (R = q) := Lib.hid (by rw [HS.out, decide_eq_true rfl, Bool.true_and])
    go_enter Tryd.func9, Tryd.ntmps9
    go_wp2_with fail
    refine HQ.out.mono ?_
    rintro e w2 ⟨rfl, b2⟩
    go_wp2_with fail
    go_ret
    exact ⟨by rw [hR.out]; rfl, HB.out.trans (b2.mono HB.out.size)⟩
  · have hst' : (s == t) = false := by simp [hst]
    have hR : Hid (R = false) := Lib.hid (by rw [HS.out, decide_eq_false hst, Bool.false_and])
    go_enter Tryd.func9, Tryd.ntmps9
    go_wp2_with fail
    go_ret
    exact ⟨by rw [hR.out]; rfl, HB.out⟩

/-! ### Turned -/
theorem turned_any (l : List Int) (v : Value) (w : World) (hv : IntsAt w v l) (hl : l.length ≤ 1000000) :
    Calls Tryd.prog 36 #[v] w fun e w' => ∃ a c, e = .returned (.slice a l.length c) ∧ w'.ownsRow w.heap.size 3 1 (.slice a l.length c) l.length (encI l.reverse) ∧ Below w.heap.size w w' := by
  obtain ⟨a, cap, rfl⟩ := hv.form
  have HC := Lib.hid (cloneI_any l _ w hv hl)
  clear hv
  go_enter Tryd.func36, Tryd.ntmps36
  go_wp2_with fail
  refine HC.out.mono ?_
  rintro e w1 ⟨u, rfl, hown, hne, b1⟩
  obtain ⟨ca, cc, rfl⟩ := row_slice hown
  by_cases h0 : 0 < l.length
  · have HR := Lib.hid (revI_any l _ l.length w.heap.size w1 hown h0 hl)
    have HB := Lib.hid b1
    clear hown hne b1
    go_wp2_with fail
    refine HR.out.mono ?_
    rintro e w2 ⟨rfl, hown, b2⟩
    have HF := Lib.hid (And.intro hown (HB.out.trans b2))
    clear hown b2
    go_wp2_with fail
    go_ret
    exact ⟨_, _, rfl, HF.out.1, HF.out.2⟩
  · have hl0 : l = [] := List.eq_nil_of_length_eq_zero (by omega)
    subst hl0
    have HR := Lib.hid (Tryd.slices_Reverse_int_empty ca cc w1)
    have HF := Lib.hid (And.intro hown b1)
    clear hown hne b1 hl
    go_wp2_with fail
    refine HR.out.mono ?_
    rintro e w2 ⟨rfl, rfl⟩
    go_wp2_with fail
    go_ret
    exact ⟨_, _, rfl, HF.out.1, HF.out.2⟩
end Go.Proofs.YtjanbhodikhdeaaDoor
