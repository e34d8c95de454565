/-
  The document's own Check, second part: its 'front', by contract. (Written by genfront.py.)
-/
import Derived.Test.YtjlbdjagbbpoaaaDoorOpO
namespace Go.Proofs.YtjlbdjagbbpoaaaDoor
open Go.RowKit Go.Extern.Stop Go.Stop Go.Extern

def FR (wa : World) (R : Nat → Bool) (n : Nat) (g : Nat) (u : Value) (wr : World) : Prop :=
  ∃ m : Nat, m ≤ n + 1 ∧ g = n + 1 - m ∧ u = .int .i64 m ∧ Hid (∀ j, j < m → R j = false) ∧ Below wa.heap.size wa wr
def FI (wr : World) (top ip : Int) (m : Nat) (g : Nat) (u hv : Value) (wi : World) : Prop :=
  ∃ i : Nat, i ≤ m ∧ g = m - i ∧ u = .int .i64 i ∧ wi.ownsRow wr.heap.size 3 1 hv (top :: List.replicate i (ip + 2)).length (encI (top :: List.replicate i (ip + 2))) ∧ Below wr.heap.size wr wi
set_option maxRecDepth 100000 in
set_option maxHeartbeats 8000000 in
theorem front1_any (ks : List Int) (top : Int) (c : List (Int × Int)) (vk vc : Value) (n : Nat) (w : World) (hk : IntsAt w vk ks) (hc : OpsC w vc c) (hn : n ≤ c.length) (hcl : c.length ≤ 20) (hkl : ks.length ≤ 100)
    (ht : kindI ks top = (1 : Nat)) (hkn : ∀ o ∈ c.take n, knownB ks o = true) :
    Calls Tryd.prog 51 #[vk, .int .i64 top, vc, .int .i64 (n : Int)] w fun e w' => e = .returned (.bool (frontB 1 ((c.take n).map (opK ks)) n)) ∧ Below w.heap.size w w' := by
  obtain ⟨ac, capc, rfl⟩ := hc.1.form
  have hcap := hc.2 _ _ _ rfl
  have HC := Lib.hid hc.1
  have HK := Lib.hid hk
  obtain ⟨R, hR⟩ : ∃ R : Nat → Bool, R = fun m => (runN ((c.take n).map (opK ks)) (if 1 = 3 then m + 3 else 1)).isSome := ⟨_, rfl⟩
  have HF : Hid (∀ m, (doO (ks ++ [1, 2, 3]) (hM ks top 1 m) (c.take n)).isSome = R m) := Lib.hid (fun m => by rw [hR]; exact front_do (by omega) ht hkn m)
  have HFr : Hid (frontB 1 ((c.take n).map (opK ks)) n = true ↔ ∃ m, m ≤ n ∧ R m = true) := Lib.hid (by rw [hR]; exact front_from)
  obtain ⟨fb, hfb⟩ : ∃ fb, frontB 1 ((c.take n).map (opK ks)) n = fb := ⟨_, rfl⟩
  rw [hfb] at HFr ⊢
  clear hfb
  have HKt := Lib.hid (fun w' (hb : Below w.heap.size w w') => (rkind_any ks vk top w' (hk.step hb)).mono fun _ w2 h => (⟨h.1, h.2.symm⟩ : _ ∧ w' = w2))
  rw [ht] at HKt
  have hn2 := hn
  have j1 : (n : Int) ≤ (capc : Int) := by omega
  have j2 : (n : Int) ≤ (c.length : Int) := by omega
  obtain ⟨ak, capk, rfl⟩ := hk.form
  have h0 := below_new w (.cells #[] 3)
  have HO0 : Hid ((w.alloc (.cells #[] 3)).ownsRow w.heap.size 3 1 (.slice (some ⟨w.heap.size, 0, none⟩) 0 0) 0 []) := Lib.hid (World.ownsRow_lit w #[] 0 (Nat.le_refl _) (by unfold maxLen; omega) rfl)
  have HI0 := Lib.hid (hk.step h0)
  have HB0 := Lib.hid h0
  clear hk hc hR h0 ht hkn
  go_enter Tryd.func51, Tryd.ntmps51
  go_wp2_with (at_builtin; refine wpList_append_ints _ rfl _ _ rfl w.heap.size _ _ _ rfl HO0.out _ ks rfl HI0.out (by omega) (by first | omega | (simp; done)) ?_)
  intro v1 w1 hown1 hgrow1
  have HB1 : Hid (Below w.heap.size w w1) := Lib.hid (HB0.out.grown hgrow1 (by simp) (fun k' e => (HO0.out.lt k' e).1))
  have HO1 : Hid (w1.ownsRow w.heap.size 3 1 v1 ks.length (encI ks)) := Lib.hid (by simpa using hown1)
  have hs1 := HB1.out.size
  have hn1 := ints3 w1 1 2 3
  have HN1 := Lib.hid hn1
  clear hown1 hgrow1 HO0 HI0 HB0 hn1
  go_wp2_with (at_builtin; refine wpList_append_ints _ rfl _ _ rfl w.heap.size _ _ _ rfl (HO1.out.alloc _) _ [1, 2, 3] rfl HN1.out (by simp only [List.length_cons, List.length_nil]; omega) (by first | omega | (simp; omega)) ?_)
  intro vall wa hown2 hgrow2
  have HBa : Hid (Below w.heap.size w wa) := Lib.hid ((HB1.out.alloc hs1 (.cells #[.int .i64 1, .int .i64 2, .int .i64 3] 3)).grown hgrow2 (by first | omega | (simp; omega)) (fun k' e => (HO1.out.lt k' e).1))
  have HAll : Hid (IntsAt wa vall (ks ++ [1, 2, 3])) := Lib.hid (by
    refine IntsAt.own (base := w.heap.size) (n := ks.length + 3) ?_ (by simp)
    have e : encI (ks ++ [1, 2, 3]) = encI ks ++ encI [1, 2, 3] := by unfold encI; rw [List.map_append]
    rw [e]
    exact hown2)
  clear hown2 hgrow2 HO1 HN1 hs1 HB1
  have hk100 : (ks.length : Int) ≤ 100 := by omega
  have hn20 : (n : Int) ≤ 20 := by omega
  go_wp2_with fail
  refine (HKt.out _ HBa.out).mono ?_
  rintro e w3 ⟨rfl, rfl⟩
  clear HKt
  have H0 : Hid (FR wa R n (n + 1) (.int .i64 0) wa) := Lib.hid ⟨0, by omega, by omega, rfl, Lib.hid (fun j hj => by omega), Below.refl _ _⟩
  go_wp2_with fail
  go_loopg [12] (n + 1) (fun g u wr => FR wa R n g u wr)
  case atStart => exact H0.out
  case round =>
    obtain ⟨m, hm, hgm, rfl, hno, hbm⟩ := hrel
    by_cases hlt : m ≤ n
    · have ql : (m : Int) ≤ (n : Int) := by omega
      have HBm := Lib.hid hbm
      have hbt := below_new wr (.cells #[.int .i64 top] 3)
      have HBt := Lib.hid hbt
      have HOt : Hid ((wr.alloc (.cells #[.int .i64 top] 3)).ownsRow wr.heap.size 3 1 (.slice (some ⟨wr.heap.size, 0, none⟩) 1 1) [top].length (encI [top])) := Lib.hid (World.ownsRow_lit wr #[.int .i64 top] 1 (Nat.le_refl _) (by unfold maxLen; omega) rfl)
      clear hbm hbt
      have HBh : Hid (Below wa.heap.size wa (wr.alloc (.cells #[.int .i64 top] 3))) := Lib.hid (HBm.out.trans (HBt.out.mono HBm.out.size))
      obtain ⟨wh, hwh⟩ : ∃ wh, wh = wr.alloc (.cells #[.int .i64 top] 3) := ⟨_, rfl⟩
      have HOh : Hid (wh.ownsRow wr.heap.size 3 1 (.slice (some ⟨wr.heap.size, 0, none⟩) 1 1) (hM ks top 1 m).length (encI (hM ks top 1 m))) := Lib.hid (by rw [hwh]; exact HOt.out)
      rw [← hwh] at HBh
      have HWh := Lib.hid hwh
      clear hwh
      have HE := Lib.hid (rDo_any (ks ++ [1, 2, 3]) (hM ks top 1 m) (c.take n) vall _ _ wh (HAll.out.step HBh.out) (IntsC.own HOh.out rfl) ((HC.out.step (HBa.out.trans (HBh.out.mono HBa.out.size))).take hn2) (by rw [hM_len ks top (by omega)]; split <;> omega) (by rw [List.length_take]; omega))
      unfold DoPost at HE
      rw [HF.out m] at HE
      cases hR : R m with
      | true =>
        rw [hR] at HE
        have hT : Hid (fb = true) := Lib.hid (HFr.out.2 ⟨m, by omega, hR⟩)
        clear hR
        rw [HWh.out] at HE HBh
        go_wp2_with fail
        refine HE.out.mono ?_
        rintro e w9 ⟨u9, rfl, -, -, b9⟩
        have HB9 := Lib.hid ((HBa.out.trans (HBh.out.mono HBa.out.size)).trans (b9.mono (HBa.out.trans (HBh.out.mono HBa.out.size)).size))
        clear b9
        go_wp2_with fail
        go_ret
        exact ⟨by rw [hT.out]; rfl, HB9.out⟩
      | false =>
        rw [hR] at HE
        have hno2 : Hid (∀ j, j < m + 1 → R j = false) := Lib.hid (fun j hj => by
          by_cases hjm : j = m
          · rw [hjm]; exact hR
          · exact hno.out j (by omega))
        clear hR hno
        rw [HWh.out] at HE HBh
        go_wp2_with fail
        refine HE.out.mono ?_
        rintro e w9 ⟨u9, rfl, -, -, b9⟩
        have HB9 := Lib.hid (HBh.out.trans (b9.mono HBh.out.size))
        clear b9
        go_wp2_with fail
        go_roundg (n + 1 - (m + 1))
        case measure => omega
        case rel => exact ⟨m + 1, by omega, rfl, by go_num, hno2, HB9.out⟩
    · obtain rfl : m = n + 1 := by omega
      have ql : ¬ ((n : Int) + 1 ≤ (n : Int)) := by omega
      have hF : Hid (fb = false) := Lib.hid (by
        cases hf : fb
        · rfl
        · obtain ⟨j, hj, hr⟩ := HFr.out.1 hf
          rw [hno.out j (by omega)] at hr
          cases hr)
      have HBm := Lib.hid hbm
      clear hno hbm
      go_wp2_with fail
      go_ret
      exact ⟨by rw [hF.out]; rfl, HBa.out.trans (HBm.out.mono HBa.out.size)⟩
set_option maxRecDepth 100000 in
set_option maxHeartbeats 8000000 in
theorem front2_any (ks : List Int) (top : Int) (c : List (Int × Int)) (vk vc : Value) (n : Nat) (w : World) (hk : IntsAt w vk ks) (hc : OpsC w vc c) (hn : n ≤ c.length) (hcl : c.length ≤ 20) (hkl : ks.length ≤ 100)
    (ht : kindI ks top = (2 : Nat)) (hkn : ∀ o ∈ c.take n, knownB ks o = true) :
    Calls Tryd.prog 51 #[vk, .int .i64 top, vc, .int .i64 (n : Int)] w fun e w' => e = .returned (.bool (frontB 2 ((c.take n).map (opK ks)) n)) ∧ Below w.heap.size w w' := by
  obtain ⟨ac, capc, rfl⟩ := hc.1.form
  have hcap := hc.2 _ _ _ rfl
  have HC := Lib.hid hc.1
  have HK := Lib.hid hk
  obtain ⟨R, hR⟩ : ∃ R : Nat → Bool, R = fun m => (runN ((c.take n).map (opK ks)) (if 2 = 3 then m + 3 else 2)).isSome := ⟨_, rfl⟩
  have HF : Hid (∀ m, (doO (ks ++ [1, 2, 3]) (hM ks top 2 m) (c.take n)).isSome = R m) := Lib.hid (fun m => by rw [hR]; exact front_do (by omega) ht hkn m)
  have HFr : Hid (frontB 2 ((c.take n).map (opK ks)) n = true ↔ ∃ m, m ≤ n ∧ R m = true) := Lib.hid (by rw [hR]; exact front_from)
  obtain ⟨fb, hfb⟩ : ∃ fb, frontB 2 ((c.take n).map (opK ks)) n = fb := ⟨_, rfl⟩
  rw [hfb] at HFr ⊢
  clear hfb
  have HKt := Lib.hid (fun w' (hb : Below w.heap.size w w') => (rkind_any ks vk top w' (hk.step hb)).mono fun _ w2 h => (⟨h.1, h.2.symm⟩ : _ ∧ w' = w2))
  rw [ht] at HKt
  have hn2 := hn
  have j1 : (n : Int) ≤ (capc : Int) := by omega
  have j2 : (n : Int) ≤ (c.length : Int) := by omega
  obtain ⟨ak, capk, rfl⟩ := hk.form
  have h0 := below_new w (.cells #[] 3)
  have HO0 : Hid ((w.alloc (.cells #[] 3)).ownsRow w.heap.size 3 1 (.slice (some ⟨w.heap.size, 0, none⟩) 0 0) 0 []) := Lib.hid (World.ownsRow_lit w #[] 0 (Nat.le_refl _) (by unfold maxLen; omega) rfl)
  have HI0 := Lib.hid (hk.step h0)
  have HB0 := Lib.hid h0
  clear hk hc hR h0 ht hkn
  go_enter Tryd.func51, Tryd.ntmps51
  go_wp2_with (at_builtin; refine wpList_append_ints _ rfl _ _ rfl w.heap.size _ _ _ rfl HO0.out _ ks rfl HI0.out (by omega) (by first | omega | (simp; done)) ?_)
  intro v1 w1 hown1 hgrow1
  have HB1 : Hid (Below w.heap.size w w1) := Lib.hid (HB0.out.grown hgrow1 (by simp) (fun k' e => (HO0.out.lt k' e).1))
  have HO1 : Hid (w1.ownsRow w.heap.size 3 1 v1 ks.length (encI ks)) := Lib.hid (by simpa using hown1)
  have hs1 := HB1.out.size
  have hn1 := ints3 w1 1 2 3
  have HN1 := Lib.hid hn1
  clear hown1 hgrow1 HO0 HI0 HB0 hn1
  go_wp2_with (at_builtin; refine wpList_append_ints _ rfl _ _ rfl w.heap.size _ _ _ rfl (HO1.out.alloc _) _ [1, 2, 3] rfl HN1.out (by simp only [List.length_cons, List.length_nil]; omega) (by first | omega | (simp; omega)) ?_)
  intro vall wa hown2 hgrow2
  have HBa : Hid (Below w.heap.size w wa) := Lib.hid ((HB1.out.alloc hs1 (.cells #[.int .i64 1, .int .i64 2, .int .i64 3] 3)).grown hgrow2 (by first | omega | (simp; omega)) (fun k' e => (HO1.out.lt k' e).1))
  have HAll : Hid (IntsAt wa vall (ks ++ [1, 2, 3])) := Lib.hid (by
    refine IntsAt.own (base := w.heap.size) (n := ks.length + 3) ?_ (by simp)
    have e : encI (ks ++ [1, 2, 3]) = encI ks ++ encI [1, 2, 3] := by unfold encI; rw [List.map_append]
    rw [e]
    exact hown2)
  clear hown2 hgrow2 HO1 HN1 hs1 HB1
  have hk100 : (ks.length : Int) ≤ 100 := by omega
  have hn20 : (n : Int) ≤ 20 := by omega
  go_wp2_with fail
  refine (HKt.out _ HBa.out).mono ?_
  rintro e w3 ⟨rfl, rfl⟩
  clear HKt
  have H0 : Hid (FR wa R n (n + 1) (.int .i64 0) wa) := Lib.hid ⟨0, by omega, by omega, rfl, Lib.hid (fun j hj => by omega), Below.refl _ _⟩
  go_wp2_with fail
  go_loopg [12] (n + 1) (fun g u wr => FR wa R n g u wr)
  case atStart => exact H0.out
  case round =>
    obtain ⟨m, hm, hgm, rfl, hno, hbm⟩ := hrel
    by_cases hlt : m ≤ n
    · have ql : (m : Int) ≤ (n : Int) := by omega
      have HBm := Lib.hid hbm
      have hbt := below_new wr (.cells #[.int .i64 top] 3)
      have HBt := Lib.hid hbt
      have HOt : Hid ((wr.alloc (.cells #[.int .i64 top] 3)).ownsRow wr.heap.size 3 1 (.slice (some ⟨wr.heap.size, 0, none⟩) 1 1) [top].length (encI [top])) := Lib.hid (World.ownsRow_lit wr #[.int .i64 top] 1 (Nat.le_refl _) (by unfold maxLen; omega) rfl)
      clear hbm hbt
      have hn_wh := ints_new (wr.alloc (.cells #[.int .i64 top] 3)) (ks.length : Int)
      rw [World.size_alloc] at hn_wh
      have HN_wh := Lib.hid hn_wh
      have hs_wh := HBt.out.size
      clear hn_wh
      go_wp2_with (at_builtin; refine wpList_append_ints _ rfl _ _ rfl wr.heap.size _ _ _ rfl (HOt.out.alloc _) _ [(ks.length : Int)] rfl HN_wh.out (by simp only [List.length_cons, List.length_nil, List.length_append, List.length_replicate]; omega) (by first | omega | (simp; omega)) ?_)
      intro vh wh hown_wh hgrow_wh
      have HBh0 : Hid (Below wr.heap.size wr wh) := Lib.hid ((HBt.out.alloc hs_wh (.cells #[.int .i64 (ks.length : Int)] 3)).grown hgrow_wh (by first | omega | (simp; omega)) (fun k' e => (HOt.out.lt k' e).1))
      have HOh0 : Hid (wh.ownsRow wr.heap.size 3 1 vh ([top] ++ [(ks.length : Int)]).length (encI ([top] ++ [(ks.length : Int)]))) := Lib.hid (by
        rw [encI_snoc]
        simpa using hown_wh)
      clear hown_wh hgrow_wh HN_wh hs_wh
      have HOh : Hid (wh.ownsRow wr.heap.size 3 1 vh (hM ks top 2 m).length (encI (hM ks top 2 m))) := HOh0
      have HBh : Hid (Below wa.heap.size wa wh) := Lib.hid (HBm.out.trans (HBh0.out.mono HBm.out.size))
      clear HOh0 HBh0 HOt HBt
      have HE := Lib.hid (rDo_any (ks ++ [1, 2, 3]) (hM ks top 2 m) (c.take n) vall _ _ wh (HAll.out.step HBh.out) (IntsC.own HOh.out rfl) ((HC.out.step (HBa.out.trans (HBh.out.mono HBa.out.size))).take hn2) (by rw [hM_len ks top (by omega)]; split <;> omega) (by rw [List.length_take]; omega))
      unfold DoPost at HE
      rw [HF.out m] at HE
      cases hR : R m with
      | true =>
        rw [hR] at HE
        have hT : Hid (fb = true) := Lib.hid (HFr.out.2 ⟨m, by omega, hR⟩)
        clear hR
        go_wp2_with fail
        refine HE.out.mono ?_
        rintro e w9 ⟨u9, rfl, -, -, b9⟩
        have HB9 := Lib.hid ((HBa.out.trans (HBh.out.mono HBa.out.size)).trans (b9.mono (HBa.out.trans (HBh.out.mono HBa.out.size)).size))
        clear b9
        go_wp2_with fail
        go_ret
        exact ⟨by rw [hT.out]; rfl, HB9.out⟩
      | false =>
        rw [hR] at HE
        have hno2 : Hid (∀ j, j < m + 1 → R j = false) := Lib.hid (fun j hj => by
          by_cases hjm : j = m
          · rw [hjm]; exact hR
          · exact hno.out j (by omega))
        clear hR hno
        go_wp2_with fail
        refine HE.out.mono ?_
        rintro e w9 ⟨u9, rfl, -, -, b9⟩
        have HB9 := Lib.hid (HBh.out.trans (b9.mono HBh.out.size))
        clear b9
        go_wp2_with fail
        go_roundg (n + 1 - (m + 1))
        case measure => omega
        case rel => exact ⟨m + 1, by omega, rfl, by go_num, hno2, HB9.out⟩
    · obtain rfl : m = n + 1 := by omega
      have ql : ¬ ((n : Int) + 1 ≤ (n : Int)) := by omega
      have hF : Hid (fb = false) := Lib.hid (by
        cases hf : fb
        · rfl
        · obtain ⟨j, hj, hr⟩ := HFr.out.1 hf
          rw [hno.out j (by omega)] at hr
          cases hr)
      have HBm := Lib.hid hbm
      clear hno hbm
      go_wp2_with fail
      go_ret
      exact ⟨by rw [hF.out]; rfl, HBa.out.trans (HBm.out.mono HBa.out.size)⟩
set_option maxRecDepth 100000 in
set_option maxHeartbeats 8000000 in
theorem front3_any (ks : List Int) (top : Int) (c : List (Int × Int)) (vk vc : Value) (n : Nat) (w : World) (hk : IntsAt w vk ks) (hc : OpsC w vc c) (hn : n ≤ c.length) (hcl : c.length ≤ 20) (hkl : ks.length ≤ 100)
    (ht : kindI ks top = (3 : Nat)) (hkn : ∀ o ∈ c.take n, knownB ks o = true) :
    Calls Tryd.prog 51 #[vk, .int .i64 top, vc, .int .i64 (n : Int)] w fun e w' => e = .returned (.bool (frontB 3 ((c.take n).map (opK ks)) n)) ∧ Below w.heap.size w w' := by
  obtain ⟨ac, capc, rfl⟩ := hc.1.form
  have hcap := hc.2 _ _ _ rfl
  have HC := Lib.hid hc.1
  have HK := Lib.hid hk
  obtain ⟨R, hR⟩ : ∃ R : Nat → Bool, R = fun m => (runN ((c.take n).map (opK ks)) (if 3 = 3 then m + 3 else 3)).isSome := ⟨_, rfl⟩
  have HF : Hid (∀ m, (doO (ks ++ [1, 2, 3]) (hM ks top 3 m) (c.take n)).isSome = R m) := Lib.hid (fun m => by rw [hR]; exact front_do (by omega) ht hkn m)
  have HFr : Hid (frontB 3 ((c.take n).map (opK ks)) n = true ↔ ∃ m, m ≤ n ∧ R m = true) := Lib.hid (by rw [hR]; exact front_from)
  obtain ⟨fb, hfb⟩ : ∃ fb, frontB 3 ((c.take n).map (opK ks)) n = fb := ⟨_, rfl⟩
  rw [hfb] at HFr ⊢
  clear hfb
  have HKt := Lib.hid (fun w' (hb : Below w.heap.size w w') => (rkind_any ks vk top w' (hk.step hb)).mono fun _ w2 h => (⟨h.1, h.2.symm⟩ : _ ∧ w' = w2))
  rw [ht] at HKt
  have hn2 := hn
  have j1 : (n : Int) ≤ (capc : Int) := by omega
  have j2 : (n : Int) ≤ (c.length : Int) := by omega
  obtain ⟨ak, capk, rfl⟩ := hk.form
  have h0 := below_new w (.cells #[] 3)
  have HO0 : Hid ((w.alloc (.cells #[] 3)).ownsRow w.heap.size 3 1 (.slice (some ⟨w.heap.size, 0, none⟩) 0 0) 0 []) := Lib.hid (World.ownsRow_lit w #[] 0 (Nat.le_refl _) (by unfold maxLen; omega) rfl)
  have HI0 := Lib.hid (hk.step h0)
  have HB0 := Lib.hid h0
  clear hk hc hR h0 ht hkn
  go_enter Tryd.func51, Tryd.ntmps51
  go_wp2_with (at_builtin; refine wpList_append_ints _ rfl _ _ rfl w.heap.size _ _ _ rfl HO0.out _ ks rfl HI0.out (by omega) (by first | omega | (simp; done)) ?_)
  intro v1 w1 hown1 hgrow1
  have HB1 : Hid (Below w.heap.size w w1) := Lib.hid (HB0.out.grown hgrow1 (by simp) (fun k' e => (HO0.out.lt k' e).1))
  have HO1 : Hid (w1.ownsRow w.heap.size 3 1 v1 ks.length (encI ks)) := Lib.hid (by simpa using hown1)
  have hs1 := HB1.out.size
  have hn1 := ints3 w1 1 2 3
  have HN1 := Lib.hid hn1
  clear hown1 hgrow1 HO0 HI0 HB0 hn1
  go_wp2_with (at_builtin; refine wpList_append_ints _ rfl _ _ rfl w.heap.size _ _ _ rfl (HO1.out.alloc _) _ [1, 2, 3] rfl HN1.out (by simp only [List.length_cons, List.length_nil]; omega) (by first | omega | (simp; omega)) ?_)
  intro vall wa hown2 hgrow2
  have HBa : Hid (Below w.heap.size w wa) := Lib.hid ((HB1.out.alloc hs1 (.cells #[.int .i64 1, .int .i64 2, .int .i64 3] 3)).grown hgrow2 (by first | omega | (simp; omega)) (fun k' e => (HO1.out.lt k' e).1))
  have HAll : Hid (IntsAt wa vall (ks ++ [1, 2, 3])) := Lib.hid (by
    refine IntsAt.own (base := w.heap.size) (n := ks.length + 3) ?_ (by simp)
    have e : encI (ks ++ [1, 2, 3]) = encI ks ++ encI [1, 2, 3] := by unfold encI; rw [List.map_append]
    rw [e]
    exact hown2)
  clear hown2 hgrow2 HO1 HN1 hs1 HB1
  have hk100 : (ks.length : Int) ≤ 100 := by omega
  have hn20 : (n : Int) ≤ 20 := by omega
  go_wp2_with fail
  refine (HKt.out _ HBa.out).mono ?_
  rintro e w3 ⟨rfl, rfl⟩
  clear HKt
  have H0 : Hid (FR wa R n (n + 1) (.int .i64 0) wa) := Lib.hid ⟨0, by omega, by omega, rfl, Lib.hid (fun j hj => by omega), Below.refl _ _⟩
  go_wp2_with fail
  go_loopg [12] (n + 1) (fun g u wr => FR wa R n g u wr)
  case atStart => exact H0.out
  case round =>
    obtain ⟨m, hm, hgm, rfl, hno, hbm⟩ := hrel
    by_cases hlt : m ≤ n
    · have ql : (m : Int) ≤ (n : Int) := by omega
      have HBm := Lib.hid hbm
      have hbt := below_new wr (.cells #[.int .i64 top] 3)
      have HBt := Lib.hid hbt
      have HOt : Hid ((wr.alloc (.cells #[.int .i64 top] 3)).ownsRow wr.heap.size 3 1 (.slice (some ⟨wr.heap.size, 0, none⟩) 1 1) [top].length (encI [top])) := Lib.hid (World.ownsRow_lit wr #[.int .i64 top] 1 (Nat.le_refl _) (by unfold maxLen; omega) rfl)
      clear hbm hbt
      rename World => wo
      have HI0 : Hid (FI wo top (ks.length : Int) m m (.int .i64 0) (.slice (some ⟨wo.heap.size, 0, none⟩) 1 1) (wo.alloc (.cells #[.int .i64 top] 3))) := Lib.hid ⟨0, Nat.zero_le _, by omega, rfl, HOt.out, HBt.out⟩
      clear HOt HBt
      go_wp2_with fail
      go_loopg [14, 13] m (fun g u hv wr => FI wo top (ks.length : Int) m g u hv wr)
      case atStart => exact HI0.out
      case round =>
        obtain ⟨i, hi, hgi, rfl, howni, hbi⟩ := hrel
        have HOi := Lib.hid howni
        have HBi := Lib.hid hbi
        by_cases hli : i < m
        · have hni := ints_new wr ((ks.length : Int) + 2)
          have HNi := Lib.hid hni
          have hsi := hbi.size
          have hrep : Hid (encI (top :: List.replicate (i + 1) ((ks.length : Int) + 2)) = encI (top :: List.replicate i ((ks.length : Int) + 2)) ++ encI [(ks.length : Int) + 2]) := Lib.hid (by
            rw [← encI_snoc, List.cons_append, List.replicate_succ'])
          clear hni howni hbi
          go_wp2_with (at_builtin; refine wpList_append_ints _ rfl _ _ rfl wo.heap.size _ _ _ rfl (HOi.out.alloc _) _ [(ks.length : Int) + 2] rfl HNi.out (by simp only [List.length_cons, List.length_nil, List.length_replicate]; omega) (by first | omega | (simp; omega)) ?_)
          intro v5 w5 hown5 hgrow5
          have HR5 : Hid (FI wo top (ks.length : Int) m (m - (i + 1)) (.int .i64 ((i : Int) + 1)) v5 w5) := Lib.hid ⟨i + 1, by omega, rfl, by go_num, by rw [hrep.out]; simpa using hown5, (HBi.out.alloc hsi (.cells #[.int .i64 ((ks.length : Int) + 2)] 3)).grown hgrow5 (by first | omega | (simp; omega)) (fun k' e => (HOi.out.lt k' e).1)⟩
          clear hown5 hgrow5
          go_wp2_with fail
          go_roundg (m - (i + 1))
          case measure => omega
          case rel => exact HR5.out
        · obtain rfl : i = m := by omega
          clear howni hbi hli
          have hn_wg := ints_new wr ((ks.length : Int) + 1)
          have HN_wg := Lib.hid hn_wg
          have hs_wg := HBi.out.size
          clear hn_wg
          go_wp2_with (at_builtin; refine wpList_append_ints _ rfl _ _ rfl wo.heap.size _ _ _ rfl (HOi.out.alloc _) _ [((ks.length : Int) + 1)] rfl HN_wg.out (by simp only [List.length_cons, List.length_nil, List.length_append, List.length_replicate]; omega) (by first | omega | (simp; omega)) ?_)
          intro vg wg hown_wg hgrow_wg
          have HBg : Hid (Below wo.heap.size wo wg) := Lib.hid ((HBi.out.alloc hs_wg (.cells #[.int .i64 ((ks.length : Int) + 1)] 3)).grown hgrow_wg (by first | omega | (simp; omega)) (fun k' e => (HOi.out.lt k' e).1))
          have HOg : Hid (wg.ownsRow wo.heap.size 3 1 vg ((top :: List.replicate i ((ks.length : Int) + 2)) ++ [((ks.length : Int) + 1)]).length (encI ((top :: List.replicate i ((ks.length : Int) + 2)) ++ [((ks.length : Int) + 1)]))) := Lib.hid (by
            rw [encI_snoc]
            simpa using hown_wg)
          clear hown_wg hgrow_wg HN_wg hs_wg
          have hn_wh := ints_new wg (ks.length : Int)
          have HN_wh := Lib.hid hn_wh
          have hs_wh := HBg.out.size
          clear hn_wh
          go_wp2_with (at_builtin; refine wpList_append_ints _ rfl _ _ rfl wo.heap.size _ _ _ rfl (HOg.out.alloc _) _ [(ks.length : Int)] rfl HN_wh.out (by simp only [List.length_cons, List.length_nil, List.length_append, List.length_replicate]; omega) (by first | omega | (simp; omega)) ?_)
          intro vh wh hown_wh hgrow_wh
          have HBh0 : Hid (Below wo.heap.size wo wh) := Lib.hid ((HBg.out.alloc hs_wh (.cells #[.int .i64 (ks.length : Int)] 3)).grown hgrow_wh (by first | omega | (simp; omega)) (fun k' e => (HOg.out.lt k' e).1))
          have HOh0 : Hid (wh.ownsRow wo.heap.size 3 1 vh ((top :: List.replicate i ((ks.length : Int) + 2) ++ [(ks.length : Int) + 1]) ++ [(ks.length : Int)]).length (encI ((top :: List.replicate i ((ks.length : Int) + 2) ++ [(ks.length : Int) + 1]) ++ [(ks.length : Int)]))) := Lib.hid (by
            rw [encI_snoc]
            simpa using hown_wh)
          clear hown_wh hgrow_wh HN_wh hs_wh
          have HOh : Hid (wh.ownsRow wo.heap.size 3 1 vh (hM ks top 3 i).length (encI (hM ks top 3 i))) := Lib.hid (by
            have e : hM ks top 3 i = top :: List.replicate i ((ks.length : Int) + 2) ++ [(ks.length : Int) + 1] ++ [(ks.length : Int)] := by unfold hM; simp
            rw [e]
            exact HOh0.out)
          have HBh : Hid (Below wa.heap.size wa wh) := Lib.hid (HBm.out.trans (HBh0.out.mono HBm.out.size))
          clear HOh0 HBh0
          have HE := Lib.hid (rDo_any (ks ++ [1, 2, 3]) (hM ks top 3 i) (c.take n) vall _ _ wh (HAll.out.step HBh.out) (IntsC.own HOh.out rfl) ((HC.out.step (HBa.out.trans (HBh.out.mono HBa.out.size))).take hn2) (by rw [hM_len ks top (by omega)]; split <;> omega) (by rw [List.length_take]; omega))
          unfold DoPost at HE
          rw [HF.out i] at HE
          cases hR : R i with
          | true =>
            rw [hR] at HE
            have hT : Hid (fb = true) := Lib.hid (HFr.out.2 ⟨i, by omega, hR⟩)
            clear hR
            go_wp2_with fail
            refine HE.out.mono ?_
            rintro e w9 ⟨u9, rfl, -, -, b9⟩
            have HB9 := Lib.hid ((HBa.out.trans (HBh.out.mono HBa.out.size)).trans (b9.mono (HBa.out.trans (HBh.out.mono HBa.out.size)).size))
            clear b9
            go_wp2_with fail
            go_ret
            exact ⟨by rw [hT.out]; rfl, HB9.out⟩
          | false =>
            rw [hR] at HE
            have hno2 : Hid (∀ j, j < i + 1 → R j = false) := Lib.hid (fun j hj => by
              by_cases hjm : j = i
              · rw [hjm]; exact hR
              · exact hno.out j (by omega))
            clear hR hno
            go_wp2_with fail
            refine HE.out.mono ?_
            rintro e w9 ⟨u9, rfl, -, -, b9⟩
            have HB9 := Lib.hid (HBh.out.trans (b9.mono HBh.out.size))
            clear b9
            go_wp2_with fail
            go_roundg (n + 1 - (i + 1))
            case measure => omega
            case rel => exact ⟨i + 1, by omega, rfl, by go_num, hno2, HB9.out⟩
    · obtain rfl : m = n + 1 := by omega
      have ql : ¬ ((n : Int) + 1 ≤ (n : Int)) := by omega
      have hF : Hid (fb = false) := Lib.hid (by
        cases hf : fb
        · rfl
        · obtain ⟨j, hj, hr⟩ := HFr.out.1 hf
          rw [hno.out j (by omega)] at hr
          cases hr)
      have HBm := Lib.hid hbm
      clear hno hbm
      go_wp2_with fail
      go_ret
      exact ⟨by rw [hF.out]; rfl, HBa.out.trans (HBm.out.mono HBa.out.size)⟩
end Go.Proofs.YtjlbdjagbbpoaaaDoor
