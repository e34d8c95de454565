/-
  Chapter 9's example, HeaderValid's and HeaderEnds's bodies, by contract.
-/
import Derived.Test.YtjlbdjagbbpoaaaDoorHdD
namespace Go.Proofs.YtjlbdjagbbpoaaaDoor
open Go.RowKit Go.Extern.Stop Go.Stop Go.Extern

theorem Awake7_any (w : World) (ht : TabB w) : Calls Tryd.prog 39 #[] w fun e w' => e = .returned (.bool true) ∧ Below w.heap.size w w' := by
  have HA := Lib.hid (awake7_any w ht)
  clear ht
  go_enter Tryd.func39, Tryd.ntmps39
  go_wp2_with fail
  refine HA.out.mono ?_
  rintro e w' ⟨rfl, hb⟩
  go_wp2_with fail
  go_ret
  exact ⟨rfl, hb⟩
theorem ints3 (w : World) (x y z : Int) : IntsAt (w.alloc (.cells #[.int .i64 x, .int .i64 y, .int .i64 z] 3)) (.slice (some ⟨w.heap.size, 0, none⟩) 3 3) [x, y, z] := by simpa [encI] using ints_lit w [x, y, z]
theorem ints2 (w : World) (x y : Int) : IntsAt (w.alloc (.cells #[.int .i64 x, .int .i64 y] 3)) (.slice (some ⟨w.heap.size, 0, none⟩) 2 2) [x, y] := by simpa [encI] using ints_lit w [x, y]
set_option maxRecDepth 100000 in
set_option maxHeartbeats 2000000 in
theorem awake9_any (w : World) (ht : TabB w) : Calls Tryd.prog 11 #[] w fun e w' => e = .returned (.bool true) ∧ Below w.heap.size w w' := by
  have hI := ints3 w 1 2 3
  have hB := below_new w (.cells #[.int .i64 1, .int .i64 2, .int .i64 3] 3)
  have HA := Lib.hid (Awake7_any _ (ht.below ht.lt hB))
  have HI := Lib.hid hI
  have HB := Lib.hid hB
  clear hI hB ht
  go_enter Tryd.func11, Tryd.ntmps11
  go_wp2_with fail
  refine HA.out.mono ?_
  rintro e w1 ⟨rfl, b1⟩
  have HI1 := Lib.hid (HI.out.step b1)
  have HB1 := Lib.hid (HB.out.trans (b1.mono HB.out.size))
  clear b1 HI HB HA
  have hs := World.size_alloc w (.cells #[.int .i64 1, .int .i64 2, .int .i64 3] 3)
  have hJ := ints3 w1 2 1 0
  have hb := below_new w1 (.cells #[.int .i64 2, .int .i64 1, .int .i64 0] 3)
  have HV := Lib.hid (valid_any [1, 2, 3] [2, 1, 0] _ _ _ (HI1.out.step hb) hJ (by decide))
  rw [show validH [1, 2, 3] [2, 1, 0] = true by decide] at HV
  have HI2 := Lib.hid (HI1.out.step hb)
  have HB2 := Lib.hid (HB1.out.trans (hb.mono HB1.out.size))
  clear hJ hb HI1 HB1 hs
  go_wp2_with fail
  refine HV.out.mono ?_
  rintro e w2 ⟨rfl, b2⟩
  have HI3 := Lib.hid (HI2.out.step b2)
  have HB3 := Lib.hid (HB2.out.trans (b2.mono HB2.out.size))
  clear b2 HI2 HB2 HV
  have hJ := ints2 w2 2 0
  have hb := below_new w2 (.cells #[.int .i64 2, .int .i64 0] 3)
  have HV := Lib.hid (valid_any [1, 2, 3] [2, 0] _ _ _ (HI3.out.step hb) hJ (by decide))
  rw [show validH [1, 2, 3] [2, 0] = false by decide] at HV
  have HB4 := Lib.hid (HB3.out.trans (hb.mono HB3.out.size))
  clear hJ hb HI3 HB3
  go_wp2_with fail
  refine HV.out.mono ?_
  rintro e w3 ⟨rfl, b3⟩
  have HB5 := Lib.hid (HB4.out.trans (b3.mono HB4.out.size))
  clear b3 HB4 HV
  have HW := Lib.hid (word_any 3 w3)
  rw [show wordB 3 = ⟨#[109, 112, 108, 115]⟩ from rfl] at HW
  go_wp2_with fail
  refine HW.out.mono ?_
  rintro e w4 ⟨rfl, rfl⟩
  go_wp2_with fail
  go_ret
  exact ⟨rfl, HB5.out⟩

set_option maxRecDepth 100000 in
set_option maxHeartbeats 2000000 in
theorem headerValid_any (ks h : List Int) (vk v : Value) (i : Int) (w : World) (hk : IntsAt w vk ks) (hv : IntsAt w v h) (ht : TabB w) :
    Calls Tryd.prog 3 #[vk, v, .int .i64 i] w fun e w' => e = .returned (.bool true) ∧ Below w.heap.size w w' := by
  obtain ⟨a, cap, rfl⟩ := hv.form
  obtain ⟨a', cap', rfl⟩ := hk.form
  have HA := Lib.hid (awake9_any w ht)
  have HV := Lib.hid hv
  have HK := Lib.hid hk
  clear hv hk ht
  go_enter Tryd.func3, Tryd.ntmps3
  go_wp2_with fail
  refine HA.out.mono ?_
  rintro e w1 ⟨rfl, b1⟩
  have HB := Lib.hid b1
  clear b1 HA
  by_cases g1 : 100 < ks.length
  · have q1 : (100 : Int) < ks.length := by omega
    go_wp2_with fail
    go_ret
    exact ⟨rfl, HB.out⟩
  have q1 : ¬ (100 : Int) < ks.length := by omega
  by_cases g2 : 100 < h.length
  · have q2 : (100 : Int) < h.length := by omega
    go_wp2_with fail
    go_ret
    exact ⟨rfl, HB.out⟩
  have q2 : ¬ (100 : Int) < h.length := by omega
  have H1 := Lib.hid (kind_any ks _ i _ (HK.out.step HB.out))
  have H2 := Lib.hid ((rkind_any ks _ i _ (HK.out.step HB.out)))
  have H3 := Lib.hid (valid_any ks h _ _ _ (HK.out.step HB.out) (HV.out.step HB.out) (by omega))
  have H4 := Lib.hid (fun w' (hb : Below w.heap.size w w') => rvalid_any ks h _ _ w' (HK.out.step hb) (HV.out.step hb) (by omega))
  generalize kindI ks i = k at *
  generalize validH ks h = r at *
  go_wp2_with fail
  refine H1.out.mono ?_
  rintro e w2 ⟨rfl, rfl⟩
  go_wp2_with fail
  refine H2.out.mono ?_
  rintro e w2 ⟨rfl, rfl⟩
  go_wp2_with fail
  refine H3.out.mono ?_
  rintro e w3 ⟨rfl, b3⟩
  have HB3 := Lib.hid (HB.out.trans (b3.mono HB.out.size))
  clear b3
  go_wp2_with fail
  refine (H4.out _ HB3.out).mono ?_
  rintro e w4 ⟨rfl, rfl⟩
  go_wp2_with fail
  go_ret
  exact ⟨by simp, HB3.out⟩

/-- What is left of a row behind a cut. -/
theorem IntsAt.cut {w : World} {b off cap : Nat} {l : List Int} {n : Nat} (h : IntsAt w (.slice (some ⟨b, off, none⟩) l.length cap) l) (hn : n < l.length) : IntsAt w (.slice (some ⟨b, off + n, none⟩) (l.length - n) (cap - n)) (l.drop n) := by
  rcases h with ⟨a, cp, -, rfl⟩ | ⟨b', off', cp, e, hlt, hc⟩
  · simp at hn
  · injection e with e
    injection e with e
    injection e with e1 e2
    subst e1 e2
    refine .inr ⟨b, off + n, cap - n, by rw [List.length_drop], hlt, fun i c hi => ?_⟩
    rw [List.getElem?_drop] at hi
    rw [Nat.add_assoc]
    exact hc _ _ hi
theorem validH_drop {ks h : List Int} (hv : validH ks h = true) {n : Nat} (hn : n < h.length) : validH ks (h.drop n) = true := by
  unfold validH at hv ⊢
  rw [List.map_drop]
  exact validP_drop n _ hv (by simpa using hn)
set_option maxRecDepth 100000 in
set_option maxHeartbeats 2000000 in
theorem headerEnds_any (ks h : List Int) (vk v : Value) (z : Nat) (hz : z ≤ 255) (w : World) (hk : IntsAt w vk ks) (hv : IntsAt w v h) (hcap : ∀ a n c, v = .slice a n c → n ≤ c) (ht : TabB w) :
    Calls Tryd.prog 5 #[vk, v, .int .u8 (z : Int)] w fun e w' => e = .returned (.bool true) ∧ Below w.heap.size w w' := by
  obtain ⟨a, cap, rfl⟩ := hv.form
  have hcap := hcap _ _ _ rfl
  obtain ⟨a', cap', rfl⟩ := hk.form
  have HA := Lib.hid (awake9_any w ht)
  have HV := Lib.hid hv
  have HK := Lib.hid hk
  clear hv hk ht
  go_enter Tryd.func5, Tryd.ntmps5
  go_wp2_with fail
  refine HA.out.mono ?_
  rintro e w1 ⟨rfl, b1⟩
  have HB := Lib.hid b1
  clear b1 HA
  by_cases g1 : 100 < ks.length
  · have q1 : (100 : Int) < ks.length := by omega
    go_wp2_with fail
    go_ret
    exact ⟨rfl, HB.out⟩
  have q1 : ¬ (100 : Int) < ks.length := by omega
  by_cases g2 : 100 < h.length
  · have q2 : (100 : Int) < h.length := by omega
    go_wp2_with fail
    go_ret
    exact ⟨rfl, HB.out⟩
  have q2 : ¬ (100 : Int) < h.length := by omega
  by_cases g3 : h.length = 0
  · have q3 : ((h.length : Int) == 0) = true := by simp [g3]
    go_wp2_with fail
    go_ret
    exact ⟨rfl, HB.out⟩
  have q3 : ((h.length : Int) == 0) = false := by rw [beq_eq_false_iff_ne]; omega
  have q4 : ¬ (h.length : Int) = 0 := by omega
  obtain ⟨n, hn⟩ : ∃ n, n = z % h.length := ⟨_, rfl⟩
  have hnl : n < h.length := by rw [hn]; exact Nat.mod_lt _ (by omega)
  have hmod : (z : Int) % (h.length : Int) = (n : Int) := by rw [hn]; omega
  have hmod2 : ((z : Int)).tmod (h.length : Int) = (n : Int) := by rw [Int.tmod_eq_emod_of_nonneg (by omega)]; exact hmod
  obtain ⟨x, hx⟩ : ∃ x, h[0]? = some x := ⟨_, List.getElem?_eq_getElem (by omega)⟩
  obtain ⟨b, off, rfl, -⟩ := HV.out.at hx (Below.refl w.heap.size w)
  have hV2 := HV.out.cut hnl
  have H3 := Lib.hid (valid_any ks h _ _ _ (HK.out.step HB.out) (HV.out.step HB.out) (by omega))
  have H4 := Lib.hid (fun w' (hb : Below w.heap.size w w') => valid_any ks (h.drop n) _ _ w' (HK.out.step hb) (hV2.step hb) (by rw [List.length_drop]; omega))
  have HD := Lib.hid (fun hv => validH_drop (ks := ks) (h := h) hv hnl)
  clear hn hx hV2
  cases hr : validH ks h with
  | false =>
    rw [hr] at H3
    clear hr
    go_wp2_with fail
    refine H3.out.mono ?_
    rintro e w3 ⟨rfl, b3⟩
    have HB3 := Lib.hid (HB.out.trans (b3.mono HB.out.size))
    clear b3
    go_wp2_with fail
    go_ret
    exact ⟨rfl, HB3.out⟩
  | true =>
    rw [HD.out hr] at H4
    rw [hr] at H3
    clear hr
    go_wp2_with fail
    refine H3.out.mono ?_
    rintro e w3 ⟨rfl, b3⟩
    have HB3 := Lib.hid (HB.out.trans (b3.mono HB.out.size))
    clear b3
    go_wp2_with fail
    refine (H4.out _ HB3.out).mono ?_
    rintro e w4 ⟨rfl, b4⟩
    have HB4 := Lib.hid (HB3.out.trans (b4.mono HB3.out.size))
    go_wp2_with fail
    go_ret
    exact ⟨rfl, HB4.out⟩
end Go.Proofs.YtjlbdjagbbpoaaaDoor
