/-
  The document's own Check, by contract; OpsCheck's body.
-/
import Derived.Test.YtjlbdjagbbpoaaaDoorOpP
namespace Go.Proofs.YtjlbdjagbbpoaaaDoor
open Go.RowKit Go.Extern.Stop Go.Stop Go.Extern

theorem front_any (ks : List Int) (top : Int) (c : List (Int × Int)) (vk vc : Value) (n k : Nat) (w : World) (hk : IntsAt w vk ks) (hc : OpsC w vc c) (hn : n ≤ c.length) (hcl : c.length ≤ 20) (hkl : ks.length ≤ 100)
    (h13 : 1 ≤ k ∧ k ≤ 3) (ht : kindI ks top = (k : Nat)) (hkn : ∀ o ∈ c.take n, knownB ks o = true) :
    Calls Tryd.prog 51 #[vk, .int .i64 top, vc, .int .i64 (n : Int)] w fun e w' => e = .returned (.bool (frontB k ((c.take n).map (opK ks)) n)) ∧ Below w.heap.size w w' := by
  have : k = 1 ∨ k = 2 ∨ k = 3 := by omega
  rcases this with rfl | rfl | rfl
  · exact front1_any ks top c vk vc n w hk hc hn hcl hkl ht hkn
  · exact front2_any ks top c vk vc n w hk hc hn hcl hkl ht hkn
  · exact front3_any ks top c vk vc n w hk hc hn hcl hkl ht hkn
def RCR (ks : List Int) (k : Nat) (c : List (Int × Int)) (w : World) (g : Nat) (u : Value) (wr : World) : Prop :=
  ∃ i : Nat, i ≤ c.length ∧ g = c.length - i ∧ u = .int .i64 i ∧ rchkL ks k c c 0 = rchkL ks k c (c.drop i) i ∧ (∀ o ∈ c.take i, knownB ks o = true) ∧ Below w.heap.size w wr
theorem rchkL_cons (ks : List Int) (k : Nat) (c : List (Int × Int)) (o : Int × Int) (r : List (Int × Int)) (i : Nat) : rchkL ks k c (o :: r) i =
    if knownB ks o = true then (if frontB k ((c.take (i + 1)).map (opK ks)) (i + 1) = true then rchkL ks k c r (i + 1) else (9, (i : Int))) else (2, (i : Int)) := rfl
set_option maxRecDepth 100000 in
set_option maxHeartbeats 8000000 in
theorem rCheck_any (ks : List Int) (top : Int) (c : List (Int × Int)) (vk vc : Value) (w : World) (hk : IntsAt w vk ks) (hc : OpsC w vc c) (hcl : c.length ≤ 20) (hkl : ks.length ≤ 100) :
    Calls Tryd.prog 35 #[vk, .int .i64 top, vc] w fun e w' => e = .returned (.tuple #[.int .i64 (rchkE ks top c).1, .int .i64 (rchkE ks top c).2]) ∧ Below w.heap.size w w' := by
  have HK := Lib.hid hk
  have HC := Lib.hid hc
  obtain ⟨ac, capc, rfl⟩ := hc.1.form
  have hkr := kindI_range ks top
  obtain ⟨k, hkt⟩ := Int.eq_ofNat_of_zero_le hkr.1
  have HKt := Lib.hid ((rkind_any ks vk top w hk).mono fun _ w2 h => (⟨h.1, h.2.symm⟩ : _ ∧ w = w2))
  rw [hkt] at HKt
  clear hk hc
  by_cases h0 : k = 0
  · subst h0
    have hE : Hid (rchkE ks top c = (2, -1)) := Lib.hid (by unfold rchkE; rw [if_pos (by simpa using hkt)])
    clear hkt hkr
    go_enter Tryd.func35, Tryd.ntmps35
    go_wp2_with fail
    refine HKt.out.mono ?_
    rintro e w1 ⟨rfl, rfl⟩
    go_wp2_with fail
    refine bodyPost_ret (v := .tuple #[.int .i64 2, .int .i64 (-1)]) (by simp [results, Tryd.f35, go_sem]) rfl ?_
    exact ⟨by rw [hE.out], Below.refl _ _⟩
  have q0 : ((k : Int) == 0) = false := by rw [beq_eq_false_iff_ne]; omega
  by_cases h8 : 8 < c.length
  · have q8 : (8 : Int) < c.length := by omega
    have hE : Hid (rchkE ks top c = (6, 8)) := Lib.hid (by unfold rchkE; rw [if_neg (by rw [hkt]; omega), if_pos h8])
    clear hkt hkr
    go_enter Tryd.func35, Tryd.ntmps35
    go_wp2_with fail
    refine HKt.out.mono ?_
    rintro e w1 ⟨rfl, rfl⟩
    go_wp2_with fail
    refine bodyPost_ret (v := .tuple #[.int .i64 6, .int .i64 8]) (by simp [results, Tryd.f35, go_sem]) rfl ?_
    exact ⟨by rw [hE.out], Below.refl _ _⟩
  have q8 : ¬ (8 : Int) < c.length := by omega
  have HE : Hid (rchkE ks top c = rchkL ks k c c 0) := Lib.hid (by unfold rchkE; rw [if_neg (by rw [hkt]; omega), if_neg h8, hkt, Int.toNat_natCast])
  have h13 : 1 ≤ k ∧ k ≤ 3 := by omega
  have HFr := Lib.hid (fun (n : Nat) (w' : World) (hn : n ≤ c.length) (hkn : ∀ o ∈ c.take n, knownB ks o = true) (hb : Below w.heap.size w w') => front_any ks top c vk _ n k w' (HK.out.step hb) (HC.out.step hb) hn hcl hkl h13 hkt hkn)
  have H0 : Hid (RCR ks k c w c.length (.int .i64 0) w) := Lib.hid ⟨0, Nat.zero_le _, by omega, rfl, rfl, by simp, Below.refl _ _⟩
  clear hkt hkr h0
  go_enter Tryd.func35, Tryd.ntmps35
  go_wp2_with fail
  refine HKt.out.mono ?_
  rintro e w1 ⟨rfl, rfl⟩
  go_wp2_with fail
  go_loopg [19] c.length (fun g u wr => RCR ks k c w g u wr)
  case atStart => exact H0.out
  case round =>
    obtain ⟨i, hi, hgi, rfl, hchk, hkns, hb⟩ := hrel
    have HB := Lib.hid hb
    by_cases hlt : i < c.length
    · obtain ⟨o, ho⟩ : ∃ o, c[i]? = some o := ⟨_, List.getElem?_eq_getElem hlt⟩
      obtain ⟨b, off, rfl, p0, p1⟩ := HC.out.1.at ho hb
      have hdrop : c.drop i = o :: c.drop (i + 1) := by
        obtain ⟨hi', rfl⟩ := List.getElem?_eq_some_iff.1 ho
        exact List.drop_eq_getElem_cons hi'
      have htake : c.take (i + 1) = c.take i ++ [o] := by rw [List.take_add_one, ho]; rfl
      rw [hdrop, rchkL_cons] at hchk
      obtain ⟨o1, o2⟩ := o
      have hb1 := below_new wr (.cells #[.int .i64 o1, .int .i64 o2] 71)
      have hB1 := hb.trans (hb1.mono hb.size)
      have HB1 := Lib.hid hB1
      obtain ⟨lk, hlk⟩ : ∃ lk, KV ks o2 lk := ⟨_, rfl⟩
      have HKl := Lib.hid (rkind_kv ks vk o2 lk _ (HK.out.step hB1) hlk)
      have e1 : o1 = 1 → knownB ks (o1, o2) = true := fun h => by unfold knownB; rw [if_pos h]
      have e2 : (o1 = 2 ∨ o1 = 3) → knownB ks (o1, o2) = decide (lk ≠ 0) := fun h => by
        unfold knownB
        simp only
        rw [if_neg (by omega), if_pos h, show kindI ks o2 = lk from hlk]
      have e3 : (o1 < 1 ∨ 3 < o1) → knownB ks (o1, o2) = false := fun h => by
        unfold knownB
        simp only
        rw [if_neg (by omega), if_neg (by omega)]
      have HBad : Hid (knownB ks (o1, o2) = false → rchkE ks top c = (2, (i : Int))) := Lib.hid (fun h => by rw [HE.out, hchk, h]; rfl)
      have HGood : Hid (knownB ks (o1, o2) = true → rchkL ks k c c 0 = if frontB k ((c.take (i + 1)).map (opK ks)) (i + 1) = true then rchkL ks k c (c.drop (i + 1)) (i + 1) else (9, (i : Int))) := Lib.hid (fun h => by rw [hchk, h, if_pos rfl])
      have HKn : Hid (knownB ks (o1, o2) = true → ∀ x ∈ c.take (i + 1), knownB ks x = true) := Lib.hid (fun h x hx => by
        rw [htake, List.mem_append, List.mem_singleton] at hx
        rcases hx with hx | rfl
        · exact hkns x hx
        · exact h)
      clear hchk hkns hdrop htake ho hb hb1 hB1
      by_cases ha : o1 < 1
      · have hE := HBad.out (e3 (.inl ha))
        have HE2 := Lib.hid hE
        clear hE e1 e2 e3
        go_wp2_with fail
        refine bodyPost_ret (v := .tuple #[.int .i64 2, .int .i64 (i : Int)]) (by simp [results, Tryd.f35, go_sem]) rfl ?_
        exact ⟨by rw [HE2.out], HB1.out⟩
      by_cases hb' : 3 < o1
      · have hE := HBad.out (e3 (.inr hb'))
        have HE2 := Lib.hid hE
        clear hE e1 e2 e3
        go_wp2_with fail
        refine bodyPost_ret (v := .tuple #[.int .i64 2, .int .i64 (i : Int)]) (by simp [results, Tryd.f35, go_sem]) rfl ?_
        exact ⟨by rw [HE2.out], HB1.out⟩
      by_cases h1 : o1 = 1
      · subst h1
        have hk1 := e1 rfl
        have HG := Lib.hid (HGood.out hk1)
        have HKs := Lib.hid (HKn.out hk1)
        clear e1 e2 e3 hk1
        have HFn := Lib.hid (HFr.out (i + 1) _ (by omega) HKs.out HB1.out)
        obtain ⟨fb, hfb⟩ : ∃ fb, frontB k ((c.take (i + 1)).map (opK ks)) (i + 1) = fb := ⟨_, rfl⟩
        rw [hfb] at HFn HG
        clear hfb
        have ecast : ((i + 1 : Nat) : Int) = (i : Int) + 1 := by omega
        rw [ecast] at HFn
        go_wp2_with fail
        refine HFn.out.mono ?_
        rintro e w5 ⟨rfl, b5⟩
        have HB5 := Lib.hid (HB1.out.trans (b5.mono HB1.out.size))
        clear b5 HFn
        cases fb with
        | false =>
          have hE : Hid (rchkE ks top c = (9, (i : Int))) := Lib.hid (by rw [HE.out, HG.out]; rfl)
          go_wp2_with fail
          refine bodyPost_ret (v := .tuple #[.int .i64 9, .int .i64 (i : Int)]) (by simp [results, Tryd.f35, go_sem]) rfl ?_
          exact ⟨by rw [hE.out], HB5.out⟩
        | true =>
          go_wp2_with fail
          go_roundg (c.length - (i + 1))
          case measure => omega
          case rel => exact ⟨i + 1, by omega, rfl, by go_num, by rw [HG.out]; rfl, HKs.out, HB5.out⟩
      by_cases h2 : o1 = 2
      · subst h2
        by_cases hz : lk = 0
        · subst hz
          have hE := HBad.out (by rw [e2 (by omega)]; rfl)
          have HE2 := Lib.hid hE
          clear hE e1 e2 e3
          go_wp2_with fail
          refine HKl.out.mono ?_
          rintro e w4 ⟨rfl, rfl⟩
          go_wp2_with fail
          refine bodyPost_ret (v := .tuple #[.int .i64 2, .int .i64 (i : Int)]) (by simp [results, Tryd.f35, go_sem]) rfl ?_
          exact ⟨by rw [HE2.out], HB1.out⟩
        have hk1 : knownB ks (2, o2) = true := by rw [e2 (by omega)]; simp [hz]
        have qz : (lk == 0) = false := by simpa using hz
        have HG := Lib.hid (HGood.out hk1)
        have HKs := Lib.hid (HKn.out hk1)
        clear e1 e2 e3 hk1
        have HFn := Lib.hid (HFr.out (i + 1) _ (by omega) HKs.out HB1.out)
        obtain ⟨fb, hfb⟩ : ∃ fb, frontB k ((c.take (i + 1)).map (opK ks)) (i + 1) = fb := ⟨_, rfl⟩
        rw [hfb] at HFn HG
        clear hfb
        have ecast : ((i + 1 : Nat) : Int) = (i : Int) + 1 := by omega
        rw [ecast] at HFn
        go_wp2_with fail
        refine HKl.out.mono ?_
        rintro e w4 ⟨rfl, rfl⟩
        go_wp2_with fail
        refine HFn.out.mono ?_
        rintro e w5 ⟨rfl, b5⟩
        have HB5 := Lib.hid (HB1.out.trans (b5.mono HB1.out.size))
        clear b5 HFn
        cases fb with
        | false =>
          have hE : Hid (rchkE ks top c = (9, (i : Int))) := Lib.hid (by rw [HE.out, HG.out]; rfl)
          go_wp2_with fail
          refine bodyPost_ret (v := .tuple #[.int .i64 9, .int .i64 (i : Int)]) (by simp [results, Tryd.f35, go_sem]) rfl ?_
          exact ⟨by rw [hE.out], HB5.out⟩
        | true =>
          go_wp2_with fail
          go_roundg (c.length - (i + 1))
          case measure => omega
          case rel => exact ⟨i + 1, by omega, rfl, by go_num, by rw [HG.out]; rfl, HKs.out, HB5.out⟩
      obtain rfl : o1 = 3 := by omega
      by_cases hz : lk = 0
      · subst hz
        have hE := HBad.out (by rw [e2 (by omega)]; rfl)
        have HE2 := Lib.hid hE
        clear hE e1 e2 e3
        go_wp2_with fail
        refine HKl.out.mono ?_
        rintro e w4 ⟨rfl, rfl⟩
        go_wp2_with fail
        refine bodyPost_ret (v := .tuple #[.int .i64 2, .int .i64 (i : Int)]) (by simp [results, Tryd.f35, go_sem]) rfl ?_
        exact ⟨by rw [HE2.out], HB1.out⟩
      have hk1 : knownB ks (3, o2) = true := by rw [e2 (by omega)]; simp [hz]
      have qz : (lk == 0) = false := by simpa using hz
      have HG := Lib.hid (HGood.out hk1)
      have HKs := Lib.hid (HKn.out hk1)
      clear e1 e2 e3 hk1
      have HFn := Lib.hid (HFr.out (i + 1) _ (by omega) HKs.out HB1.out)
      obtain ⟨fb, hfb⟩ : ∃ fb, frontB k ((c.take (i + 1)).map (opK ks)) (i + 1) = fb := ⟨_, rfl⟩
      rw [hfb] at HFn HG
      clear hfb
      have ecast : ((i + 1 : Nat) : Int) = (i : Int) + 1 := by omega
      rw [ecast] at HFn
      go_wp2_with fail
      refine HKl.out.mono ?_
      rintro e w4 ⟨rfl, rfl⟩
      go_wp2_with fail
      refine HFn.out.mono ?_
      rintro e w5 ⟨rfl, b5⟩
      have HB5 := Lib.hid (HB1.out.trans (b5.mono HB1.out.size))
      clear b5 HFn
      cases fb with
      | false =>
        have hE : Hid (rchkE ks top c = (9, (i : Int))) := Lib.hid (by rw [HE.out, HG.out]; rfl)
        go_wp2_with fail
        refine bodyPost_ret (v := .tuple #[.int .i64 9, .int .i64 (i : Int)]) (by simp [results, Tryd.f35, go_sem]) rfl ?_
        exact ⟨by rw [hE.out], HB5.out⟩
      | true =>
        go_wp2_with fail
        go_roundg (c.length - (i + 1))
        case measure => omega
        case rel => exact ⟨i + 1, by omega, rfl, by go_num, by rw [HG.out]; rfl, HKs.out, HB5.out⟩
    · obtain rfl : i = c.length := by omega
      have hE : Hid (rchkE ks top c = (0, 0)) := Lib.hid (by rw [HE.out, hchk, List.drop_length]; rfl)
      clear hchk hkns hb
      go_wp2_with fail
      refine bodyPost_ret (v := .tuple #[.int .i64 0, .int .i64 0]) (by simp [results, Tryd.f35, go_sem]) rfl ?_
      exact ⟨by rw [hE.out], HB.out⟩

set_option maxRecDepth 100000 in
set_option maxHeartbeats 4000000 in
theorem opsCheck_any (ks : List Int) (top : Int) (c : List (Int × Int)) (vk vc : Value) (w : World) (hk : IntsAt w vk ks) (hc : OpsAt w vc c) (ht : TabB w) (hg : Handle w) :
    Calls Tryd.prog 8 #[vk, .int .i64 top, vc] w fun e w' => e = .returned (.bool true) ∧ Below w.heap.size w w' := by
  have HS := Lib.hid (⟨⟨hk, ht, hg, Below.refl _ _⟩, .inl ⟨none, 0, rfl, rfl⟩, hc⟩ : OS w ks [] c vk (.slice none 0 0) vc w)
  have HA := Lib.hid (awake10_any w ht hg)
  have HL := Lib.hid (fun w' => light_any ks [] c vk (.slice none 0 0) vc w' hk.form ⟨none, 0, rfl⟩ hc.form)
  clear hk hc ht hg
  go_enter Tryd.func8, Tryd.ntmps8
  go_wp2_with fail
  refine HA.out.mono ?_
  rintro e w1 ⟨rfl, b1⟩
  have HS1 := Lib.hid (HS.out.step b1)
  clear b1 HA HS
  go_wp2_with fail
  refine (HL.out _).mono ?_
  rintro e w2 ⟨rfl, rfl⟩
  cases hl : lightB ks [] c with
  | false =>
    go_wp2_with fail
    go_ret
    exact ⟨rfl, HS1.out.kw.below⟩
  | true =>
    obtain ⟨l1, -, l3⟩ := light_yes hl
    clear hl HL
    go_wp2_with fail
    refine (to_any c _ _ HS1.out.ops (by omega)).mono ?_
    rintro e w3 ⟨r3, rfl, hown3, b3⟩
    have HR3 := Lib.hid (OpsC.own hown3 rfl)
    have HS3 := Lib.hid (HS1.out.step b3)
    clear hown3 b3 HS1
    have hRC := rCheck_any ks top c vk r3 w3 HS3.out.kw.ints HR3.out l3 l1
    rw [← chkE_same] at hRC
    have HRC := Lib.hid hRC
    have hCh := fun w' (hk : IntsAt w' vk ks) (hc : OpsAt w' vc c) (ht : TabB w') => opCheck_any ks top c vk vc w' hk hc ht
    unfold CheckPost at hCh
    have HCh := Lib.hid hCh
    clear hRC hCh
    generalize chkE ks top c = ca at *
    obtain ⟨code, a⟩ := ca
    simp only at HRC HCh
    go_wp2_with fail
    refine HRC.out.mono ?_
    rintro e w4 ⟨rfl, b4⟩
    have HS4 := Lib.hid (HS3.out.step b4)
    clear b4 HS3 HR3
    go_wp2_with fail
    refine (HCh.out _ HS4.out.kw.ints HS4.out.ops HS4.out.kw.tab).mono ?_
    rintro e w5 ⟨v5, rfl, hnil, hflt, b5⟩
    have HS5 := Lib.hid (HS4.out.step b5)
    clear b5 HS4
    by_cases hz : code = 0
    · subst hz
      obtain ⟨rfl, -⟩ := hnil rfl
      have HIs := Lib.hid ((lawIs_nil a w5).mono fun _ w2 h => (⟨h.1, h.2.symm⟩ : _ ∧ w5 = w2))
      clear hnil hflt
      go_wp2_with fail
      refine HIs.out.mono ?_
      rintro e w6 ⟨rfl, rfl⟩
      go_wp2_with fail
      go_ret
      exact ⟨rfl, HS5.out.kw.below⟩
    · obtain ⟨fb, hch⟩ := hflt hz
      have HIs := Lib.hid (lawIs_fault fb code a hz v5 w5 hch HS5.out.kw.han)
      obtain ⟨T, V, rfl⟩ := ChainAt.iface hch
      clear hnil hflt hch hz
      go_wp2_with fail
      refine HIs.out.mono ?_
      rintro e w6 ⟨rfl, b6⟩
      have HS6 := Lib.hid (HS5.out.step b6)
      go_wp2_with fail
      go_ret
      exact ⟨rfl, HS6.out.kw.below⟩
end Go.Proofs.YtjlbdjagbbpoaaaDoor
