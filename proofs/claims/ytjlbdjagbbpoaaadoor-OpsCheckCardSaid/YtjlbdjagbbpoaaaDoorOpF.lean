/-
  The document's own Do, by contract.
-/
import Derived.Test.YtjlbdjagbbpoaaaDoorOpE
namespace Go.Proofs.YtjlbdjagbbpoaaaDoor
open Go.RowKit Go.Extern.Stop Go.Stop Go.Extern

/-- A row of numbers, with its capacity. -/
def IntsC (w : World) (v : Value) (l : List Int) : Prop := IntsAt w v l ∧ ∀ a n c, v = .slice a n c → n ≤ c
theorem IntsC.step {w w' : World} {v : Value} {l : List Int} (h : IntsC w v l) (hb : Below w.heap.size w w') : IntsC w' v l := ⟨h.1.step hb, h.2⟩
theorem IntsC.own {w : World} {base : Nat} {v : Value} {n : Nat} {l : List Int} (h : w.ownsRow base 3 1 v n (encI l)) (hn : n = l.length) : IntsC w v l := by
  refine ⟨IntsAt.own h hn, ?_⟩
  rintro a m c rfl
  rcases h.2 with ⟨e, -⟩ | ⟨g, cap, cur, e, -, -, hc, -⟩
  · injection e with _ e1 e2
    omega
  · injection e with _ e1 e2
    omega
theorem IntsC.form {w : World} {v : Value} {top : Int} {t : List Int} (h : IntsC w v (top :: t)) : ∃ b off cap, v = .slice (some ⟨b, off, none⟩) (t.length + 1) cap ∧ t.length + 1 ≤ cap ∧ b < w.heap.size ∧ w.cell? ⟨b, off, none⟩ = some (.int .i64 top) ∧
    (cap = 1 → t = []) ∧ IntsAt w (.slice (some ⟨b, off + 1, none⟩) t.length (cap - 1)) t := by
  obtain ⟨h, hc⟩ := h
  rcases h with ⟨a, cap, -, h⟩ | ⟨b, off, cap, rfl, hlt, hcell⟩
  · cases h
  · have hle := hc _ _ _ rfl
    simp only [List.length_cons] at hle
    refine ⟨b, off, cap, rfl, hle, hlt, hcell 0 top rfl, fun h => List.eq_nil_of_length_eq_zero (by omega), ?_⟩
    refine .inr ⟨b, off + 1, cap - 1, rfl, hlt, fun i c hi => ?_⟩
    have := hcell (i + 1) c (by simpa using hi)
    rw [Nat.add_assoc, Nat.add_comm 1 i]
    exact this
def RDR (ks h : List Int) (c : List (Int × Int)) (w : World) (g : Nat) (u vh : Value) (wr : World) : Prop :=
  ∃ (i : Nat) (x : List Int), i ≤ c.length ∧ g = c.length - i ∧ u = .int .i64 i ∧ validH ks x = true ∧ doL ks c h = doL ks (c.drop i) x ∧ x.length ≤ h.length + i ∧ IntsC wr vh x ∧ Below w.heap.size w wr

set_option maxRecDepth 100000 in
set_option maxHeartbeats 8000000 in
theorem rDo_any (ks h : List Int) (c : List (Int × Int)) (vk v vc : Value) (w : World) (hk : IntsAt w vk ks) (hv : IntsC w v h) (hc : OpsAt w vc c) (lh : h.length ≤ 10000) (lc : c.length ≤ 10000) :
    Calls Tryd.prog 29 #[vk, v, vc] w (DoPost ks h c w) := by
  have H3 := Lib.hid ((rvalid_any ks h _ _ w hk hv.1 (by omega)).mono fun _ w2 h => (⟨h.1, h.2.symm⟩ : _ ∧ w = w2))
  have HK := Lib.hid hk
  have HC := Lib.hid hc
  obtain ⟨ac, capc, rfl⟩ := hc.form
  cases hr : validH ks h with
  | false =>
    rw [hr] at H3
    have hD : Hid (doO ks h c = none) := Lib.hid (by unfold doO; rw [hr]; rfl)
    clear hv hk hc
    go_enter Tryd.func29, Tryd.ntmps29
    go_wp2_with fail
    refine H3.out.mono ?_
    rintro e w3 ⟨rfl, rfl⟩
    go_wp2_with fail
    refine bodyPost_ret (v := .tuple #[.slice none 0 0, .bool false]) (by simp [results, Tryd.f29, go_sem]) rfl ?_
    exact ⟨.slice none 0 0, by rw [hD.out]; rfl, fun x hx => (by rw [hD.out] at hx; cases hx), fun _ => rfl, Below.refl _ _⟩
  | true =>
    rw [hr] at H3
    have hD : Hid (doO ks h c = doL ks c h) := Lib.hid (by unfold doO; rw [hr]; rfl)
    have H0 : Hid (RDR ks h c w c.length (.int .i64 0) v w) := Lib.hid ⟨0, h, Nat.zero_le _, by omega, rfl, hr, rfl, by omega, hv, Below.refl _ _⟩
    clear hr hv hk hc
    go_enter Tryd.func29, Tryd.ntmps29
    go_wp2_with fail
    refine H3.out.mono ?_
    rintro e w1 ⟨rfl, rfl⟩
    clear H3
    go_wp2_with fail
    go_loopg [18, 1] c.length (fun g u vh wr => RDR ks h c w g u vh wr)
    case atStart => exact H0.out
    case round =>
      obtain ⟨i, x, hi, hgi, rfl, hx, hd, hxl, hiv, hb⟩ := hrel
      obtain ⟨top, t, rfl⟩ := validH_ne hx
      simp only [List.length_cons] at hxl
      by_cases hlt : i < c.length
      · obtain ⟨o, ho⟩ : ∃ o, c[i]? = some o := ⟨_, List.getElem?_eq_getElem hlt⟩
        obtain ⟨b, off, rfl, c0, c1⟩ := HC.out.at ho hb
        have hdrop : c.drop i = o :: c.drop (i + 1) := by
          obtain ⟨hi', rfl⟩ := List.getElem?_eq_some_iff.1 ho
          exact List.drop_eq_getElem_cons hi'
        obtain ⟨o1, o2⟩ := o
        obtain ⟨g, of2, cap, rfl, hcap, hgl, hcell, hone, htl⟩ := hiv.form
        have HIV := Lib.hid hiv.1
        have HTL := Lib.hid htl
        have HON := Lib.hid hone
        have HB := Lib.hid hb
        have HB1 := Lib.hid (hb.trans ((below_new wr (.cells #[.int .i64 o1, .int .i64 o2] 71)).mono hb.size))
        have HSZ := Lib.hid hb.size
        have hKR := hd
        rw [hdrop, doL_cons] at hKR
        simp only at hKR
        have hVA := fun ho h2 => step_ref (o := o1) (lab := o2) hx ho h2
        simp only [List.headD_cons] at hVA
        obtain ⟨lk, hlk⟩ : ∃ lk, KV ks o2 lk := ⟨_, rfl⟩
        obtain ⟨kt, hkt⟩ : ∃ kt, KV ks top kt := ⟨_, rfl⟩
        rw [show kindI ks o2 = lk from hlk, show kindI ks top = kt from hkt] at hKR hVA
        have HKR := Lib.hid hKR
        have HVA0 := Lib.hid hVA
        have HKq := Lib.hid (fun (z k : Int) (w' : World) (hz : KV ks z k) (hb : Below w.heap.size w w') => (rkind_kv ks vk z k w' (HK.out.step hb) hz).mono fun _ w2 h => (⟨h.1, h.2.symm⟩ : _ ∧ w2 = w'))
        have hc1 : ((wr.alloc (.cells #[.int .i64 o1, .int .i64 o2] 71))).cell? ⟨g, of2, none⟩ = some (.int .i64 top) := ((below_new wr _).cell (p := ⟨g, of2, none⟩) hgl).trans hcell
        have hone1 : (1 : Int) ≤ ((t.length + 1 : Nat) : Int) := by omega
        have hone2 : (0 : Int) < ((t.length + 1 : Nat) : Int) := by omega
        clear hKR hVA hd hiv htl hb ho hx hone
        by_cases h1 : o1 = 1
        · subst h1
          obtain ⟨rb, hrb⟩ : ∃ rb, topsB 1 lk kt = rb := ⟨_, rfl⟩
          have hA := HVA0.out (by omega) (by omega)
          have hK2 := HKR.out
          rw [hrb] at hA hK2
          have HVA : Hid (validH ks t = rb) := Lib.hid hA
          have HKR : Hid (doL ks c h = if rb = true then doL ks (c.drop (i + 1)) t else none) := Lib.hid hK2
          clear hA hK2 HVA0 hrb
          by_cases hcp : cap = 1
          · obtain rfl := HON.out hcp
            subst hcp
            go_wp2_with (at_builtin; refine wpList_append_ints _ rfl _ _ rfl wr.heap.size _ _ _ rfl (World.ownsRow_nil _ _ _ _) _ [] rfl (.inl ⟨_, _, rfl, rfl⟩) (by simp) (by simp) ?_)
            intro v5 w5 hown5 hgrow5
            have hb5 : Below wr.heap.size (wr.alloc (.cells #[.int .i64 1, .int .i64 o2] 71)) w5 := (Below.refl _ _).grown hgrow5 (by simp) (fun k' e => by cases e)
            have HB5 := Lib.hid (HB1.out.trans (hb5.mono HSZ.out))
            have HO5 : Hid (w5.ownsRow wr.heap.size 3 1 v5 ([] : List Int).length (encI [])) := Lib.hid (by simpa [encI] using hown5)
            clear hown5 hgrow5 hb5
            have HV5 := Lib.hid (rvalid_any ks [] vk v5 w5 (HK.out.step HB5.out) (IntsC.own HO5.out rfl).1 (by first | omega | (simp only [List.length_cons, List.length_nil]; omega)))
            rw [HVA.out] at HV5
            cases rb with
            | false =>
              have hN : Hid (doO ks h c = none) := Lib.hid (by rw [hD.out, HKR.out]; rfl)
              go_wp2_with fail
              refine HV5.out.mono ?_
              rintro e w6 ⟨rfl, rfl⟩
              go_wp2_with fail
              refine bodyPost_ret (v := .tuple #[.slice none 0 0, .bool false]) (by simp [results, Tryd.f29, go_sem]) rfl ?_
              exact ⟨.slice none 0 0, by rw [hN.out]; rfl, fun x hx => (by rw [hN.out] at hx; cases hx), fun _ => rfl, HB5.out⟩
            | true =>
              go_wp2_with fail
              refine HV5.out.mono ?_
              rintro e w6 ⟨rfl, rfl⟩
              go_wp2_with fail
              go_roundg (c.length - (i + 1))
              case measure => omega
              case rel => exact ⟨i + 1, [], by omega, rfl, by go_num, HVA.out, by rw [HKR.out]; rfl, by first | omega | (simp only [List.length_cons, List.length_nil]; omega), IntsC.own HO5.out rfl, HB5.out⟩
          · have hcp2 : ¬ cap - 1 = 0 := by omega
            go_wp2_with (at_builtin; refine wpList_append_ints _ rfl _ _ rfl wr.heap.size _ _ _ rfl (World.ownsRow_nil _ _ _ _) _ t rfl (HTL.out.step (below_new _ _)) (by omega) (by simp) ?_)
            intro v5 w5 hown5 hgrow5
            have hb5 : Below wr.heap.size (wr.alloc (.cells #[.int .i64 1, .int .i64 o2] 71)) w5 := (Below.refl _ _).grown hgrow5 (by simp) (fun k' e => by cases e)
            have HB5 := Lib.hid (HB1.out.trans (hb5.mono HSZ.out))
            have HO5 : Hid (w5.ownsRow wr.heap.size 3 1 v5 t.length (encI t)) := Lib.hid (by simpa using hown5)
            clear hown5 hgrow5 hb5
            have HV5 := Lib.hid (rvalid_any ks t vk v5 w5 (HK.out.step HB5.out) (IntsC.own HO5.out rfl).1 (by first | omega | (simp only [List.length_cons, List.length_nil]; omega)))
            rw [HVA.out] at HV5
            cases rb with
            | false =>
              have hN : Hid (doO ks h c = none) := Lib.hid (by rw [hD.out, HKR.out]; rfl)
              go_wp2_with fail
              refine HV5.out.mono ?_
              rintro e w6 ⟨rfl, rfl⟩
              go_wp2_with fail
              refine bodyPost_ret (v := .tuple #[.slice none 0 0, .bool false]) (by simp [results, Tryd.f29, go_sem]) rfl ?_
              exact ⟨.slice none 0 0, by rw [hN.out]; rfl, fun x hx => (by rw [hN.out] at hx; cases hx), fun _ => rfl, HB5.out⟩
            | true =>
              go_wp2_with fail
              refine HV5.out.mono ?_
              rintro e w6 ⟨rfl, rfl⟩
              go_wp2_with fail
              go_roundg (c.length - (i + 1))
              case measure => omega
              case rel => exact ⟨i + 1, t, by omega, rfl, by go_num, HVA.out, by rw [HKR.out]; rfl, by first | omega | (simp only [List.length_cons, List.length_nil]; omega), IntsC.own HO5.out rfl, HB5.out⟩
        by_cases h2 : o1 = 2
        · subst h2
          by_cases heq : kt = lk
          · subst heq
            have hTT : topsB 2 kt kt = true := by simp [topsB]
            obtain ⟨rb, hrb⟩ : ∃ rb, topsB 2 kt kt = rb := ⟨_, rfl⟩
            have hA := HVA0.out (by omega) (fun _ => rfl)
            have hK2 := HKR.out
            rw [hrb] at hA hK2
            have HVA : Hid (validH ks (o2 :: t) = rb) := Lib.hid hA
            have HKR : Hid (doL ks c h = if rb = true then doL ks (c.drop (i + 1)) (o2 :: t) else none) := Lib.hid hK2
            clear hA hK2 HVA0 hrb
            have qq : (kt != kt) = false := by simp
            go_wp2_with fail
            go_quiet ((go_at_call 13; exact Calls.quiet_of_same (HKq.out _ _ _ (by assumption) (HB1.out.trans ((below_drewN _ _).mono HB1.out.size)))))
            have HWB : Hid (Below wr.heap.size wr ((wr.alloc (.cells #[.int .i64 2, .int .i64 o2] 71)).drewN nq)) := Lib.hid ((below_new wr _).trans ((below_drewN _ _).mono (below_new wr _).size))
            have hcw : ((wr.alloc (.cells #[.int .i64 2, .int .i64 o2] 71)).drewN nq).cell? ⟨wr.heap.size, 1, none⟩ = some (.int .i64 o2) := by
              have := ((below_drewN (wr.alloc (.cells #[.int .i64 2, .int .i64 o2] 71)) nq).cell (p := ⟨wr.heap.size, 1, none⟩) (by simp))
              rw [this, Lib.cell_of_heap (heap_alloc_new wr _)]
              rfl
            clear hc1
            generalize (wr.alloc (.cells #[.int .i64 2, .int .i64 o2] 71)).drewN nq = W at *
            have HBW : Hid (Below wr.heap.size wr W) := Lib.hid HWB.out
            have hnw := ints_new W o2
            have HNW := Lib.hid hnw
            have hsw := HBW.out.size
            clear hnw
            go_wp2_with (at_builtin; refine wpList_append_ints _ rfl _ _ rfl wr.heap.size _ _ _ rfl (World.ownsRow_nil _ _ _ _) _ [o2] rfl HNW.out (by simp) (by first | omega | (simp; omega)) ?_)
            intro v4 w4 hown4 hgrow4
            have hb4 : Below wr.heap.size wr w4 := (HBW.out.alloc hsw (.cells #[.int .i64 o2] 3)).grown hgrow4 (by first | omega | (simp; omega)) (fun k' e => by cases e)
            have HO4 : Hid (w4.ownsRow wr.heap.size 3 1 v4 1 (encI [o2])) := Lib.hid (by simpa using hown4)
            have HB4 := Lib.hid hb4
            have hs4 := hb4.size
            have hi4 := HIV.out.step hb4
            have HI4 := Lib.hid hi4
            clear hown4 hgrow4 hb4 hi4
            by_cases hcp : cap = 1
            · obtain rfl := HON.out hcp
              subst hcp
              go_wp2_with (at_builtin; refine wpList_append_ints _ rfl _ _ rfl wr.heap.size _ _ _ rfl HO4.out _ [] rfl (.inl ⟨_, _, rfl, rfl⟩) (by simp only [List.length_cons, List.length_nil]; omega) (by omega) ?_)
              intro v5 w5 hown5 hgrow5
              have hb5 : Below wr.heap.size wr w5 := HB4.out.grown hgrow5 hs4 (fun k' e => (HO4.out.lt k' e).1)
              have HB5 := Lib.hid (HB.out.trans (hb5.mono HSZ.out))
              have HO5 : Hid (w5.ownsRow wr.heap.size 3 1 v5 [o2].length (encI [o2])) := Lib.hid (by simpa [encI, Nat.add_comm] using hown5)
              clear hown5 hgrow5 hb5
              have HV5 := Lib.hid (rvalid_any ks [o2] vk v5 w5 (HK.out.step HB5.out) (IntsC.own HO5.out rfl).1 (by first | omega | (simp only [List.length_cons, List.length_nil]; omega)))
              rw [HVA.out] at HV5
              cases rb with
              | false =>
                have hN : Hid (doO ks h c = none) := Lib.hid (by rw [hD.out, HKR.out]; rfl)
                go_wp2_with fail
                refine HV5.out.mono ?_
                rintro e w6 ⟨rfl, rfl⟩
                go_wp2_with fail
                refine bodyPost_ret (v := .tuple #[.slice none 0 0, .bool false]) (by simp [results, Tryd.f29, go_sem]) rfl ?_
                exact ⟨.slice none 0 0, by rw [hN.out]; rfl, fun x hx => (by rw [hN.out] at hx; cases hx), fun _ => rfl, HB5.out⟩
              | true =>
                go_wp2_with fail
                refine HV5.out.mono ?_
                rintro e w6 ⟨rfl, rfl⟩
                go_wp2_with fail
                go_roundg (c.length - (i + 1))
                case measure => omega
                case rel => exact ⟨i + 1, [o2], by omega, rfl, by go_num, HVA.out, by rw [HKR.out]; rfl, by first | omega | (simp only [List.length_cons, List.length_nil]; omega), IntsC.own HO5.out rfl, HB5.out⟩
            · have hcp2 : ¬ cap - 1 = 0 := by omega
              have htl4 := HTL.out.step HB4.out
              go_wp2_with (at_builtin; refine wpList_append_ints _ rfl _ _ rfl wr.heap.size _ _ _ rfl HO4.out _ t rfl htl4 (by omega) (by omega) ?_)
              intro v5 w5 hown5 hgrow5
              have hb5 : Below wr.heap.size wr w5 := HB4.out.grown hgrow5 hs4 (fun k' e => (HO4.out.lt k' e).1)
              have HB5 := Lib.hid (HB.out.trans (hb5.mono HSZ.out))
              have HO5 : Hid (w5.ownsRow wr.heap.size 3 1 v5 (o2 :: t).length (encI (o2 :: t))) := Lib.hid (by simpa [encI, Nat.add_comm] using hown5)
              clear hown5 hgrow5 hb5
              have HV5 := Lib.hid (rvalid_any ks (o2 :: t) vk v5 w5 (HK.out.step HB5.out) (IntsC.own HO5.out rfl).1 (by first | omega | (simp only [List.length_cons, List.length_nil]; omega)))
              rw [HVA.out] at HV5
              cases rb with
              | false =>
                have hN : Hid (doO ks h c = none) := Lib.hid (by rw [hD.out, HKR.out]; rfl)
                go_wp2_with fail
                refine HV5.out.mono ?_
                rintro e w6 ⟨rfl, rfl⟩
                go_wp2_with fail
                refine bodyPost_ret (v := .tuple #[.slice none 0 0, .bool false]) (by simp [results, Tryd.f29, go_sem]) rfl ?_
                exact ⟨.slice none 0 0, by rw [hN.out]; rfl, fun x hx => (by rw [hN.out] at hx; cases hx), fun _ => rfl, HB5.out⟩
              | true =>
                go_wp2_with fail
                refine HV5.out.mono ?_
                rintro e w6 ⟨rfl, rfl⟩
                go_wp2_with fail
                go_roundg (c.length - (i + 1))
                case measure => omega
                case rel => exact ⟨i + 1, (o2 :: t), by omega, rfl, by go_num, HVA.out, by rw [HKR.out]; rfl, by first | omega | (simp only [List.length_cons, List.length_nil]; omega), IntsC.own HO5.out rfl, HB5.out⟩
          · have hTT : topsB 2 lk kt = false := by simp [topsB, heq]
            have hN : Hid (doO ks h c = none) := Lib.hid (by rw [hD.out, HKR.out, hTT]; rfl)
            have qq : (lk != kt) = true := by simp [Ne.symm heq]
            have qq2 : (lk == kt) = false := by simp [Ne.symm heq]
            clear hTT heq
            go_wp2_with fail
            go_quiet ((go_at_call 13; exact Calls.quiet_of_same (HKq.out _ _ _ (by assumption) (HB1.out.trans ((below_drewN _ _).mono HB1.out.size)))))
            go_wp2_with fail
            refine bodyPost_ret (v := .tuple #[.slice none 0 0, .bool false]) (by simp [results, Tryd.f29, go_sem]) rfl ?_
            exact ⟨.slice none 0 0, by rw [hN.out]; rfl, fun x hx => (by rw [hN.out] at hx; cases hx), fun _ => rfl, HB1.out.trans ((below_drewN _ _).mono HB1.out.size)⟩
        by_cases h3 : o1 = 3
        · subst h3
          obtain ⟨rb, hrb⟩ : ∃ rb, topsB 3 lk kt = rb := ⟨_, rfl⟩
          have hA := HVA0.out (by omega) (by omega)
          have hK2 := HKR.out
          rw [hrb] at hA hK2
          have HVA : Hid (validH ks (o2 :: top :: t) = rb) := Lib.hid hA
          have HKR : Hid (doL ks c h = if rb = true then doL ks (c.drop (i + 1)) (o2 :: top :: t) else none) := Lib.hid hK2
          have HWB : Hid (Below wr.heap.size wr (wr.alloc (.cells #[.int .i64 3, .int .i64 o2] 71))) := Lib.hid (below_new wr _)
          have hcw : (wr.alloc (.cells #[.int .i64 3, .int .i64 o2] 71)).cell? ⟨wr.heap.size, 1, none⟩ = some (.int .i64 o2) := by
            rw [Lib.cell_of_heap (heap_alloc_new wr _)]; rfl
          have hcw0 : (wr.alloc (.cells #[.int .i64 3, .int .i64 o2] 71)).cell? ⟨wr.heap.size, 0, none⟩ = some (.int .i64 3) := by
            rw [Lib.cell_of_heap (heap_alloc_new wr _)]; rfl
          clear hA hK2 HVA0 hrb hc1
          obtain ⟨W, hW⟩ : ∃ W, W = wr.alloc (.cells #[.int .i64 3, .int .i64 o2] 71) := ⟨_, rfl⟩
          rw [← hW] at HWB
          have HBW : Hid (Below wr.heap.size wr W) := Lib.hid HWB.out
          have hnw := ints_new W o2
          rw [hW, World.size_alloc] at hnw
          have HNW := Lib.hid hnw
          rw [hW] at HBW
          have hsw := HBW.out.size
          clear hW HWB
          clear hnw
          go_wp2_with (at_builtin; refine wpList_append_ints _ rfl _ _ rfl wr.heap.size _ _ _ rfl (World.ownsRow_nil _ _ _ _) _ [o2] rfl HNW.out (by simp) (by first | omega | (simp; omega)) ?_)
          intro v4 w4 hown4 hgrow4
          have hb4 : Below wr.heap.size wr w4 := (HBW.out.alloc hsw (.cells #[.int .i64 o2] 3)).grown hgrow4 (by first | omega | (simp; omega)) (fun k' e => by cases e)
          have HO4 : Hid (w4.ownsRow wr.heap.size 3 1 v4 1 (encI [o2])) := Lib.hid (by simpa using hown4)
          have HB4 := Lib.hid hb4
          have hs4 := hb4.size
          have hi4 := HIV.out.step hb4
          have HI4 := Lib.hid hi4
          clear hown4 hgrow4 hb4 hi4
          go_wp2_with (at_builtin; refine wpList_append_ints _ rfl _ _ rfl wr.heap.size _ _ _ rfl HO4.out _ (top :: t) rfl HI4.out (by simp only [List.length_cons, List.length_nil]; omega) (by omega) ?_)
          intro v5 w5 hown5 hgrow5
          have hb5 : Below wr.heap.size wr w5 := HB4.out.grown hgrow5 hs4 (fun k' e => (HO4.out.lt k' e).1)
          have HB5 := Lib.hid (HB.out.trans (hb5.mono HSZ.out))
          have HO5 : Hid (w5.ownsRow wr.heap.size 3 1 v5 (o2 :: top :: t).length (encI (o2 :: top :: t))) := Lib.hid (by simpa [encI, Nat.add_comm] using hown5)
          clear hown5 hgrow5 hb5
          have HV5 := Lib.hid (rvalid_any ks (o2 :: top :: t) vk v5 w5 (HK.out.step HB5.out) (IntsC.own HO5.out rfl).1 (by first | omega | (simp only [List.length_cons, List.length_nil]; omega)))
          rw [HVA.out] at HV5
          cases rb with
          | false =>
            have hN : Hid (doO ks h c = none) := Lib.hid (by rw [hD.out, HKR.out]; rfl)
            go_wp2_with fail
            refine HV5.out.mono ?_
            rintro e w6 ⟨rfl, rfl⟩
            go_wp2_with fail
            refine bodyPost_ret (v := .tuple #[.slice none 0 0, .bool false]) (by simp [results, Tryd.f29, go_sem]) rfl ?_
            exact ⟨.slice none 0 0, by rw [hN.out]; rfl, fun x hx => (by rw [hN.out] at hx; cases hx), fun _ => rfl, HB5.out⟩
          | true =>
            go_wp2_with fail
            refine HV5.out.mono ?_
            rintro e w6 ⟨rfl, rfl⟩
            go_wp2_with fail
            go_roundg (c.length - (i + 1))
            case measure => omega
            case rel => exact ⟨i + 1, (o2 :: top :: t), by omega, rfl, by go_num, HVA.out, by rw [HKR.out]; rfl, by first | omega | (simp only [List.length_cons, List.length_nil]; omega), IntsC.own HO5.out rfl, HB5.out⟩
        have q1 : (o1 == 1) = false := by simpa using h1
        have q2 : (o1 == 2) = false := by simpa using h2
        have q3 : (o1 == 3) = false := by simpa using h3
        have hTT : topsB o1 lk kt = false := by simp [topsB, h1, h2, h3]
        have hN : Hid (doO ks h c = none) := Lib.hid (by rw [hD.out, HKR.out, hTT]; rfl)
        clear hTT h1 h2 h3
        go_wp2_with fail
        refine bodyPost_ret (v := .tuple #[.slice none 0 0, .bool false]) (by simp [results, Tryd.f29, go_sem]) rfl ?_
        exact ⟨.slice none 0 0, by rw [hN.out]; rfl, fun x hx => (by rw [hN.out] at hx; cases hx), fun _ => rfl, HB1.out⟩
      · obtain rfl : i = c.length := by omega
        have hS : Hid (doO ks h c = some (top :: t)) := Lib.hid (by rw [hD.out, hd, List.drop_length]; rfl)
        have HI := Lib.hid hiv.1
        have HB := Lib.hid hb
        have hsz := hb.size
        clear hd hb hx hiv
        go_wp2_with (at_builtin; refine wpList_append_ints _ rfl _ _ rfl w.heap.size _ _ _ rfl (World.ownsRow_nil _ _ _ _) _ (top :: t) rfl HI.out (by simp only [List.length_cons]; omega) hsz ?_)
        intro v5 w5 hown5 hgrow5
        have HB5 := Lib.hid (HB.out.grown hgrow5 hsz (fun k' e => by cases e))
        have HO5 : Hid (w5.ownsRow w.heap.size 3 1 v5 (top :: t).length (encI (top :: t))) := Lib.hid (by simpa using hown5)
        clear hown5 hgrow5
        go_wp2_with fail
        refine bodyPost_ret (v := .tuple #[v5, .bool true]) (by simp [results, Tryd.f29, go_sem]) rfl ?_
        exact ⟨v5, by rw [hS.out]; rfl, fun x hx => (by rw [hS.out] at hx; injection hx with hx; subst hx; exact HO5.out), fun hx => (by rw [hS.out] at hx; cases hx), HB5.out⟩
end Go.Proofs.YtjlbdjagbbpoaaaDoor
