/-
  Package ops by contracts, fourth part: Do.
-/
import Derived.Test.YtjlbdjagbbpoaaaDoorOpD
namespace Go.Proofs.YtjlbdjagbbpoaaaDoor
open Go.RowKit Go.Extern.Stop Go.Stop Go.Extern

theorem has_tops {o lk t : Int} (hk : 0 ≤ lk ∧ lk ≤ 3) (ht : 1 ≤ t ∧ t ≤ 3) : hasI (topsW o lk) 0 t = topsB o lk t := by
  obtain ⟨n, rfl⟩ := Int.eq_ofNat_of_zero_le (show 0 ≤ t by omega)
  unfold hasI hasB
  rw [Int.toNat_natCast, if_pos (by omega), topsW_bit hk (by omega)]
  simp
theorem doL_cons (ks : List Int) (o : Int × Int) (c : List (Int × Int)) (top : Int) (t : List Int) :
    doL ks (o :: c) (top :: t) = if topsB o.1 (kindI ks o.2) (kindI ks top) = true then doL ks c (stepL o.1 o.2 (top :: t)) else none := rfl
/-- What comes of a chain. -/
def DoPost (ks h : List Int) (c : List (Int × Int)) (w : World) (e : Ending) (w' : World) : Prop :=
  ∃ u, e = .returned (.tuple #[u, .bool (doO ks h c).isSome]) ∧ (∀ x, doO ks h c = some x → w'.ownsRow w.heap.size 3 1 u x.length (encI x)) ∧ (doO ks h c = none → u = .slice none 0 0) ∧ Below w.heap.size w w'
def DR (ks h : List Int) (c : List (Int × Int)) (w : World) (g : Nat) (u lab : Value) (wr : World) : Prop :=
  ∃ (i : Nat) (x : List Int), i ≤ c.length ∧ g = c.length - i ∧ u = .int .i64 i ∧ validH ks x = true ∧ doL ks c h = doL ks (c.drop i) x ∧ x.length ≤ h.length + i ∧ wr.ownsRow w.heap.size 3 1 lab x.length (encI x.reverse) ∧ Below w.heap.size w wr
theorem stepL_len (o l : Int) (h : List Int) : (stepL o l h).length ≤ h.length + 1 := by
  unfold stepL
  split
  · rw [List.length_tail]; omega
  · split
    · rw [List.length_cons, List.length_tail]; omega
    · exact Nat.le_refl _
theorem own_mono {w : World} {base base' : Nat} {e : TypeId} {size : Nat} {v : Value} {n : Nat} {xs : List Value} (h : w.ownsRow base e size v n xs) (hb : base' ≤ base) : w.ownsRow base' e size v n xs :=
  ⟨h.1, h.2.imp id fun ⟨g, cap, cur, e, hb', r⟩ => ⟨g, cap, cur, e, Nat.le_trans hb hb', r⟩⟩
theorem ownsRow_below_up {w w' : World} {base : Nat} {e : TypeId} {size : Nat} {v : Value} {n : Nat} {xs : List Value} (h : w.ownsRow base e size v n xs) (hb : Below w.heap.size w w') : w'.ownsRow base e size v n xs :=
  ⟨h.1, h.2.imp id fun ⟨g, cap, cur, e, hb', hg, r⟩ => ⟨g, cap, cur, e, hb', (hb.block g (Array.getElem?_eq_some_iff.1 hg).1).trans hg, r⟩⟩
set_option maxRecDepth 100000 in
set_option maxHeartbeats 8000000 in
theorem opDo_any (ks h : List Int) (c : List (Int × Int)) (vk v vc : Value) (w : World) (hk : IntsAt w vk ks) (hv : IntsAt w v h) (hc : OpsAt w vc c) (lh : h.length ≤ 10000) (lc : c.length ≤ 10000) :
    Calls Tryd.prog 28 #[vk, v, vc] w (DoPost ks h c w) := by
  have H3 := Lib.hid (valid_any ks h _ _ w hk hv (by omega))
  have HV := Lib.hid hv
  have HK := Lib.hid hk
  have HC := Lib.hid hc
  obtain ⟨ac, capc, rfl⟩ := hc.form
  clear hv hk hc
  cases hr : validH ks h with
  | false =>
    rw [hr] at H3
    have hD : Hid (doO ks h c = none) := Lib.hid (by unfold doO; rw [hr]; rfl)
    go_enter Tryd.func28, Tryd.ntmps28
    go_wp2_with fail
    refine H3.out.mono ?_
    rintro e w3 ⟨rfl, b3⟩
    go_wp2_with fail
    refine bodyPost_ret (v := .tuple #[.slice none 0 0, .bool false]) (by simp [results, Tryd.f28, go_sem]) rfl ?_
    exact ⟨.slice none 0 0, by rw [hD.out]; rfl, fun x hx => (by rw [hD.out] at hx; cases hx), fun _ => rfl, b3⟩
  | true =>
    rw [hr] at H3
    have hD : Hid (doO ks h c = doL ks c h) := Lib.hid (by unfold doO; rw [hr]; rfl)
    have HR := Lib.hid hr
    have hpos : 0 < h.length := by obtain ⟨a, t, rfl⟩ := validH_ne hr; simp
    clear hr
    go_enter Tryd.func28, Tryd.ntmps28
    go_wp2_with fail
    refine H3.out.mono ?_
    rintro e w1 ⟨rfl, b1⟩
    have HB1 := Lib.hid b1
    clear b1 H3
    go_wp2_with fail
    refine (cloneI_any h v w1 (HV.out.step HB1.out) (by omega)).mono ?_
    rintro e w2 ⟨u, rfl, hown, -, b2⟩
    have HO := Lib.hid (own_mono hown HB1.out.size)
    have HB2 := Lib.hid (HB1.out.trans (b2.mono HB1.out.size))
    clear hown b2
    go_wp2_with fail
    refine (revI_any h u h.length w.heap.size w2 HO.out hpos (by omega)).mono ?_
    rintro e w3 ⟨rfl, hown, b3⟩
    have H0 : Hid (DR ks h c w c.length (.int .i64 0) u w3) := Lib.hid ⟨0, h, Nat.zero_le _, by omega, rfl, HR.out, rfl, by omega, hown, HB2.out.trans b3⟩
    clear hown b3 HO HB2 HB1
    go_wp2_with fail
    go_loopg [22, 8] c.length (fun g u lab wr => DR ks h c w g u lab wr)
    case atStart => exact H0.out
    case round =>
      obtain ⟨i, x, hi, hgi, rfl, hx, hd, hxl, hown, hb⟩ := hrel
      have HX := Lib.hid hx
      have HD := Lib.hid hd
      have HB := Lib.hid hb
      obtain ⟨top, t, rfl⟩ := validH_ne hx
      simp only [List.length_cons] at hown hxl
      by_cases hlt : i < c.length
      · obtain ⟨o, ho⟩ : ∃ o, c[i]? = some o := ⟨_, List.getElem?_eq_getElem hlt⟩
        obtain ⟨b, off, rfl, c0, c1⟩ := HC.out.at ho hb
        have hdrop : c.drop i = o :: c.drop (i + 1) := by
          obtain ⟨hi', rfl⟩ := List.getElem?_eq_some_iff.1 ho
          exact List.drop_eq_getElem_cons hi'
        obtain ⟨o1, o2⟩ := o
        obtain ⟨vt, -⟩ := valid_top hx
        have hrange := tN_range (top :: t).length
        rw [List.headD_cons] at vt
        have hB1 := hb.trans ((below_new wr (.cells #[.int .i64 o1, .int .i64 o2] 60)).mono hb.size)
        have HB1 := Lib.hid hB1
        have hkr := kindI_range ks o2
        have hkt : 1 ≤ kindI ks top ∧ kindI ks top ≤ 3 := by omega
        have hT := tops_any ks vk o1 o2 _ (HK.out.step hB1)
        have hH := fun w' => has_any (topsW o1 (kindI ks o2)) 0 (kindI ks top) (topsW_u64 hkr) zero_u64 w'
        rw [has_tops hkr hkt] at hH
        have hKt := fun w' (hb : Below w.heap.size w w') => kind_any ks vk top w' (HK.out.step hb)
        have hS : topsB o1 (kindI ks o2) (kindI ks top) = true → validH ks (stepL o1 o2 (top :: t)) = true := fun h => step_valid hx (by simpa using h)
        have hTk : topsB o1 (kindI ks o2) (kindI ks top) = true → o1 = 1 ∨ o1 = 2 ∨ o1 = 3 := topsB_kind
        have hKR := hd
        rw [hdrop, doL_cons] at hKR
        simp only at hKR
        obtain ⟨lk, hlk⟩ : ∃ lk, kindI ks o2 = lk := ⟨_, rfl⟩
        obtain ⟨kt, hkt0⟩ : ∃ kt, kindI ks top = kt := ⟨_, rfl⟩
        obtain ⟨tw, htw⟩ : ∃ tw, topsW o1 lk = tw := ⟨_, rfl⟩
        obtain ⟨rb, hrb⟩ : ∃ rb, topsB o1 lk kt = rb := ⟨_, rfl⟩
        simp only [hlk, hkt0, hrb] at hS hTk hKR
        simp only [hlk, hkt0, htw, hrb] at hT hH hKt
        have HT := Lib.hid hT
        have HH := Lib.hid hH
        have HKt := Lib.hid hKt
        have HS := Lib.hid hS
        have HKR := Lib.hid hKR
        clear hT hH hKt hS hKR hlk hkt0 htw hrb hdrop
        obtain ⟨g, cap, rfl⟩ := ownsRow_succ hown
        have hO1 := hown.alloc (.cells #[.int .i64 o1, .int .i64 o2] 60)
        have HO1 := Lib.hid hO1
        have hgl := (hown.lt g rfl)
        have hcell : wr.cell? ⟨g, t.length, none⟩ = some (.int .i64 top) := by
          rw [hown.cellAt t.length (by omega), encI_rev, List.getElem?_append_right (by rw [encI_length]; simp)]
          simp [encI_length]
        have e1 : ((t.length + 1 : Nat) : Int) - 1 = (t.length : Int) := by omega
        have j1 : (t.length : Int) < ((t.length + 1 : Nat) : Int) := by omega
        have HN := Lib.hid (heap_alloc_new wr (.cells #[.int .i64 o1, .int .i64 o2] 60))
        have HDn := Lib.hid (fun (w' : World) (hz : w.heap.size ≤ w'.heap.size) (hown : w'.ownsRow w.heap.size 3 1 (.slice (some ⟨g, 0, none⟩) (t.length + 1) cap) (t.length + 1) (encI (top :: t).reverse)) (ho : o1 = 1 ∨ o1 = 2 ∨ o1 = 3) => done_any o1 o2 top t _ w.heap.size w' hown hz (by omega) ho)
        have HSl := Lib.hid (stepL_len o1 o2 (top :: t))
        clear hd hown hb HB ho hx vt hrange hkr hkt hO1 hB1
        cases rb with
        | false =>
          have hN : Hid (doO ks h c = none) := Lib.hid (by rw [hD.out, HKR.out]; rfl)
          clear HS hTk HDn HKR
          go_wp2_with fail
          refine HT.out.mono ?_
          rintro e w4 ⟨rfl, b4⟩
          have HB4 := Lib.hid (HB1.out.trans (b4.mono HB1.out.size))
          clear b4
          go_wp2_with fail
          refine (HKt.out _ HB4.out).mono ?_
          rintro e w5 ⟨rfl, rfl⟩
          go_wp2_with fail
          refine (HH.out _).mono ?_
          rintro e w6 ⟨rfl, b6⟩
          have HB6 := Lib.hid (HB4.out.trans (b6.mono HB4.out.size))
          clear b6
          go_wp2_with fail
          refine bodyPost_ret (v := .tuple #[.slice none 0 0, .bool false]) (by simp [results, Tryd.f28, go_sem]) rfl ?_
          exact ⟨.slice none 0 0, by rw [hN.out]; rfl, fun x hx => (by rw [hN.out] at hx; cases hx), fun _ => rfl, HB6.out⟩
        | true =>
          have hok := hTk rfl
          go_wp2_with fail
          refine HT.out.mono ?_
          rintro e w4 ⟨rfl, b4⟩
          have HB4 := Lib.hid (HB1.out.trans (b4.mono HB1.out.size))
          have HO4 := Lib.hid (ownsRow_below_up HO1.out b4)
          have hn4 := (b4.block _ (Array.getElem?_eq_some_iff.1 HN.out).1).trans HN.out
          have HN4 := Lib.hid hn4
          clear b4 hn4
          go_wp2_with fail
          refine (HKt.out _ HB4.out).mono ?_
          rintro e w5 ⟨rfl, rfl⟩
          go_wp2_with fail
          refine (HH.out _).mono ?_
          rintro e w6 ⟨rfl, b6⟩
          have HB6 := Lib.hid (HB4.out.trans (b6.mono HB4.out.size))
          have HO6 := Lib.hid (ownsRow_below_up HO4.out b6)
          have hn6 := (b6.block _ (Array.getElem?_eq_some_iff.1 HN4.out).1).trans HN4.out
          have k0 : w6.cell? ⟨wr.heap.size, 0, none⟩ = some (.int .i64 o1) := by rw [Lib.cell_of_heap hn6]; rfl
          have k1 : w6.cell? ⟨wr.heap.size, 1, none⟩ = some (.int .i64 o2) := by rw [Lib.cell_of_heap hn6]; rfl
          clear b6 hn6
          go_wp2_with fail
          refine (HDn.out _ HB6.out.size HO6.out hok).mono ?_
          rintro e w7 ⟨v7, rfl, hown7, b7⟩
          have HR7 : Hid (DR ks h c w (c.length - (i + 1)) (.int .i64 ((i : Int) + 1)) v7 w7) := Lib.hid ⟨i + 1, _, by omega, rfl, by go_num, HS.out (by simp), by rw [HKR.out]; rfl, by have := HSl.out; simp only [List.length_cons] at this; omega, hown7, HB6.out.trans b7⟩
          clear hown7 b7
          go_wp2_with fail
          go_roundg (c.length - (i + 1))
          case measure => omega
          case rel => exact HR7.out
      · obtain rfl : i = c.length := by omega
        have hS : Hid (doO ks h c = some (top :: t)) := Lib.hid (by rw [hD.out, HD.out, List.drop_length]; rfl)
        have HRv := Lib.hid (revI_any (top :: t).reverse u8 (t.length + 1) w.heap.size wr hown (by omega) (by omega))
        rw [List.reverse_reverse] at HRv
        clear hown hd hb hx
        go_wp2_with fail
        refine HRv.out.mono ?_
        rintro e w4 ⟨rfl, hown4, b4⟩
        have HO4 := Lib.hid hown4
        have HB4 := Lib.hid (HB.out.trans b4)
        clear hown4 b4
        go_wp2_with fail
        refine bodyPost_ret (v := .tuple #[u8, .bool true]) (by simp [results, Tryd.f28, go_sem]) rfl ?_
        exact ⟨u8, by rw [hS.out]; rfl, fun x hx => (by rw [hS.out] at hx; injection hx with hx; subst hx; exact HO4.out), fun hx => (by rw [hS.out] at hx; cases hx), HB4.out⟩
end Go.Proofs.YtjlbdjagbbpoaaaDoor
