/-
  The document's own answers of chapter 21, by contract: Same, Can, Done.
-/
import Derived.Test.YtpccdhkghlbhkaaDoorPdI
namespace Go.Proofs.YtpccdhkghlbhkaaDoor
open Go.RowKit Go.Extern.Stop Go.Stop Go.Extern

set_option maxRecDepth 100000 in
set_option maxHeartbeats 8000000 in
theorem can21_any (s : Int) (l : List Int) (v : Value) (r : Ru) (pa : Option Addr) (pc : Nat) (w : World) (hv : IntsAt w v l) (hl : l.length ≤ 1000000) :
    Calls Tryd.prog 14 #[ruV r pa pc, cfV s v] w fun e w' => e = .returned (.bool (fitsB r (s, l))) ∧ Below w.heap.size w w' := by
  obtain ⟨va, vc, rfl⟩ := hv.form
  obtain ⟨fr, top, to, push, cost⟩ := r
  obtain ⟨n, HN⟩ : ∃ n, Hid (l.length = n) := ⟨_, Lib.hid rfl⟩
  rw [HN.out] at hv hl ⊢
  obtain ⟨h1, h0, hb⟩ := two_boxes w 44 46 #[.int .i64 fr, .int .i64 top, .int .i64 to, .slice pa push.length pc, .int .u64 cost] #[.int .i64 s, .slice va n vc]
  have hv2 := hv.step hb
  have HB := Lib.hid hb
  obtain ⟨k0, k1⟩ := cells2 h0
  obtain ⟨j0, j1, j2, j3, j4⟩ := cells5 h1
  cases l with
  | nil =>
    obtain rfl : n = 0 := HN.out.symm
    clear hv h0 h1 hb hv2
    go_enter Tryd.func14, Tryd.ntmps14
    go_wp2_with fail
    go_quiet (fail)
    go_wp2_with fail
    go_ret
    exact ⟨rfl, HB.out.trans ((bel_drewN _ nq).mono HB.out.size)⟩
  | cons t y =>
    have hR : fitsB ⟨fr, top, to, push, cost⟩ (s, t :: y) = (decide (s = fr) && decide (t = top)) := rfl
    obtain ⟨b, off, rfl, hcell⟩ := hv2.at (i := 0) (c := t) rfl (Below.refl _ _)
    rw [hR]
    have hcell0 := hcell
    rw [Nat.add_zero] at hcell0
    have hn0 : 0 < n := by have := HN.out; simp at this; omega
    have hn1 : (0 : Int) < (n : Int) := by omega
    clear HN
    clear hv h0 h1 hb hv2 hR
    by_cases hs : s = fr
    · subst hs
      by_cases ht : t = top
      · subst ht
        go_enter Tryd.func14, Tryd.ntmps14
        go_wp2_with fail
        go_quiet (fail)
        go_wp2_with fail
        go_ret
        exact ⟨by simp, HB.out.trans ((bel_drewN _ nq).mono HB.out.size)⟩
      · have ht' : (t == top) = false := by simp [ht]
        have HT := Lib.hid ht
        go_enter Tryd.func14, Tryd.ntmps14
        go_wp2_with fail
        go_quiet (fail)
        go_wp2_with fail
        go_ret
        exact ⟨by simp [HT.out], HB.out.trans ((bel_drewN _ nq).mono HB.out.size)⟩
    · have hs' : (s == fr) = false := by simp [hs]
      have HS := Lib.hid hs
      go_enter Tryd.func14, Tryd.ntmps14
      go_wp2_with fail
      go_quiet (fail)
      go_wp2_with fail
      go_ret
      exact ⟨by simp [HS.out], HB.out.trans ((bel_drewN _ nq).mono HB.out.size)⟩

set_option maxRecDepth 100000 in
set_option maxHeartbeats 8000000 in
theorem rsame21_any (s t : Int) (l m : List Int) (v v' : Value) (w : World) (hv : IntsAt w v l) (hv' : IntsAt w v' m) (hl : l.length ≤ 1000000) :
    Calls Tryd.prog 21 #[cfV s v, cfV t v'] w fun e w' => e = .returned (.bool (sameC s t l m)) ∧ Below w.heap.size w w' := by
  obtain ⟨a, cap, rfl⟩ := hv.form
  obtain ⟨a', cap', rfl⟩ := hv'.form
  obtain ⟨n, HN⟩ : ∃ n, Hid (l.length = n) := ⟨_, Lib.hid rfl⟩
  obtain ⟨n2, HM⟩ : ∃ n, Hid (m.length = n) := ⟨_, Lib.hid rfl⟩
  rw [HN.out] at hv hl ⊢
  rw [HM.out] at hv' ⊢
  obtain ⟨h0, h1, hb⟩ := two_boxes w 46 46 #[.int .i64 s, .slice a n cap] #[.int .i64 t, .slice a' n2 cap']
  have HV := Lib.hid (hv.step hb)
  have HV' := Lib.hid (hv'.step hb)
  obtain ⟨k0, k1⟩ := cells2 h0
  obtain ⟨j0, j1⟩ := cells2 h1
  have HB0 := Lib.hid hb
  have H0 := Lib.hid h0
  have H1 := Lib.hid h1
  have HSC : Hid (sameC s t l m = (decide (s = t) && decide (l = m))) := Lib.hid rfl
  generalize sameC s t l m = R at *
  clear hv hv' hb h0 h1
  by_cases hst : s = t
  · subst hst
    have hss : (s != s) = false := by simp
    by_cases hlen : n = n2
    · subst hlen
      have hnn : ((n : Int) != (n : Int)) = false := by simp
      have HSR : Hid (R = decide (l = m)) := Lib.hid (by rw [HSC.out, decide_eq_true rfl, Bool.true_and])
      go_enter Tryd.func21, Tryd.ntmps21
      go_wp2_with fail
      generalize hw1 : (w.alloc (.cells #[.int .i64 s, .slice a n cap] 46)).alloc (.cells #[.int .i64 s, .slice a' n cap'] 46) = w1 at *
      clear hw1
      go_loopg [23] n (fun g u wr => ∃ k : Nat, k ≤ n ∧ g = n - k ∧ u = .int .i64 k ∧ l.take k = m.take k ∧ Below w1.heap.size w1 wr)
      case atStart => exact ⟨0, Nat.zero_le _, by omega, rfl, rfl, Below.refl _ _⟩
      case round =>
        clear k0 k1 j0 j1
        obtain ⟨k, hk, hgk, rfl, ht, hb⟩ := hrel
        have HB := Lib.hid hb
        have HT := Lib.hid ht
        obtain ⟨k0, k1⟩ := cells2 (blk H0.out hb)
        obtain ⟨j0, j1⟩ := cells2 (blk H1.out hb)
        clear hb ht
        by_cases hlt : k < n
        · obtain ⟨x, hx⟩ : ∃ x, l[k]? = some x := ⟨_, List.getElem?_eq_getElem (by rw [HN.out]; exact hlt)⟩
          obtain ⟨y, hy⟩ : ∃ y, m[k]? = some y := ⟨_, List.getElem?_eq_getElem (by rw [HM.out]; exact hlt)⟩
          obtain ⟨b, off, rfl, c1⟩ := HV.out.at hx HB.out
          obtain ⟨b', off', rfl, c2⟩ := HV'.out.at hy HB.out
          have HN := Lib.hid (take_next hx hy HT.out)
          have HE := Lib.hid (ne_at hx hy)
          clear hx hy
          by_cases hxy : x = y
          · subst hxy
            go_wp2_with fail
            go_quiet (fail)
            go_wp2_with fail
            go_roundg (n - (k + 1))
            case measure => omega
            case rel => exact ⟨k + 1, by omega, rfl, by go_num, HN.out (by trivial), HB.out.trans ((bel_drewN wr nq).mono HB.out.size)⟩
          · have hne : (x != y) = true := by simp [hxy]
            have HD : Hid (R = false) := Lib.hid (by rw [HSR.out]; exact decide_eq_false (HE.out hxy))
            go_wp2_with fail
            go_quiet (fail)
            go_wp2_with fail
            go_ret
            exact ⟨by rw [HD.out]; rfl, HB0.out.trans ((HB.out.trans ((bel_drewN wr nq).mono HB.out.size)).mono HB0.out.size)⟩
        · obtain rfl : k = n := by omega
          have HD : Hid (R = true) := Lib.hid (by rw [HSR.out]; exact decide_eq_true (by have := HT.out; rw [List.take_of_length_le (Nat.le_of_eq HN.out), List.take_of_length_le (Nat.le_of_eq HM.out)] at this; exact this))
          go_wp2_with fail
          go_ret
          exact ⟨by rw [HD.out]; rfl, HB0.out.trans (HB.out.mono HB0.out.size)⟩
    · have hlen' : ((n : Int) != (n2 : Int)) = true := by simp; omega
      have HD : Hid (R = false) := Lib.hid (by rw [HSC.out, decide_eq_false (fun e : l = m => hlen (by rw [← HN.out, ← HM.out, e])), Bool.and_false])
      go_enter Tryd.func21, Tryd.ntmps21
      go_wp2_with fail
      go_ret
      exact ⟨by rw [HD.out]; rfl, HB0.out⟩
  · have hst' : (s != t) = true := by simp [hst]
    have HD : Hid (R = false) := Lib.hid (by rw [HSC.out, decide_eq_false hst, Bool.false_and])
    go_enter Tryd.func21, Tryd.ntmps21
    go_wp2_with fail
    go_ret
    exact ⟨by rw [HD.out]; rfl, HB0.out⟩
end Go.Proofs.YtpccdhkghlbhkaaDoor
