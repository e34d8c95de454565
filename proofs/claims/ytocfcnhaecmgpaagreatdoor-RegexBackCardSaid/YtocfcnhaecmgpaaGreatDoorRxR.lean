/-
  How many expressions, by contract; chapter 15's example holds.
-/
import Derived.Test.YtocfcnhaecmgpaaGreatDoorRxQ
import Derived.Test.YtocfcnhaecmgpaaGreatDoorRxS
import Derived.Test.YtocfcnhaecmgpaaGreatDoorAwk3
namespace Go.Proofs.YtocfcnhaecmgpaaGreatDoor
open Go.RowKit Go.Extern.Stop Go.Stop Go.Extern Go.WideMaps

mutual
theorem sameE_eq : ∀ x y : Rx, sameE x y = true → x = y
  | .mk k t ws ks, .mk k' t' ws' ks', h => by
    rw [sameE] at h
    simp only [Bool.and_eq_true, decide_eq_true_eq] at h
    obtain ⟨rfl, rfl, rfl, h4⟩ := h
    rw [sameEs_eq ks ks' h4]
theorem sameEs_eq : ∀ l m : List Rx, sameEs l m = true → l = m
  | [], [], _ => rfl
  | x :: r, y :: s, h => by
    rw [sameEs] at h
    simp only [Bool.and_eq_true] at h
    rw [sameE_eq x y h.1, sameEs_eq r s h.2]
  | [], _ :: _, h => by rw [sameEs] at h; cases h
  | _ :: _, [], h => by rw [sameEs] at h; cases h
end
set_option maxRecDepth 100000 in
set_option maxHeartbeats 4000000 in
theorem xsize_go (P : Nat → Prop) : ∀ (m : Nat) (x : Rx), SizeOf.sizeOf x < m → rxSize x ≤ 1000000 → ∀ (w : World) (k : Int) (t : Bool) (a : Option Addr) (l c : Nat) (a' : Option Addr) (l' c' : Nat),
    ExC P w [.int .i64 k, .bool t, .slice a l c, .slice a' l' c'] x →
    Calls Tryz.prog 16 #[.agg #[.int .i64 k, .bool t, .slice a l c, .slice a' l' c']] w fun e w' => e = .returned (.int .i64 (rxSize x)) ∧ Below w.heap.size w w' := by
  intro m
  induction m with
  | zero => intro x hx; exact absurd hx (Nat.not_lt_zero _)
  | succ m ih =>
    intro x hx hsz w k t a l c a' l' c' hv
    have IH := Lib.hid ih
    clear ih
    cases x with
    | mk k1 t1 words kids =>
      obtain ⟨rfl, rfl, hk, xs, hl, hvs⟩ := hv.open
      obtain ⟨_, _, es⟩ := hl.form
      simp only [Value.slice.injEq] at es
      obtain ⟨-, el, -⟩ := es
      subst el
      have HROW := Lib.hid hl
      have HVS := Lib.hid hvs
      simp only [Rx.mk.sizeOf_spec] at hx
      have HX := Lib.hid hx
      rw [rxSize] at hsz ⊢
      have HSZ := Lib.hid hsz
      have hB0 := sbelow_new w (.cells #[.int .i64 k, .bool t, .slice a l c, .slice a' kids.length c'] 25)
      have hF := four_new w 25 (.int .i64 k) (.bool t) (.slice a l c) (.slice a' kids.length c')
      have HB0 := Lib.hid hB0
      obtain ⟨p0, p1, p2, p3⟩ := hF.box
      clear hk hl hvs hx hv hB0 hF hsz
      go_enter Tryz.func16, Tryz.ntmps16
      go_wp2_with fail
      generalize w.alloc (.cells #[.int .i64 k, .bool t, .slice a l c, .slice a' kids.length c'] 25) = w1 at *
      clear p0 p1 p2 p3
      go_loopg [3, 9] kids.length (fun g u v wr => ∃ i : Nat, i ≤ kids.length ∧ g = kids.length - i ∧ v = .int .i64 i ∧ u = .int .i64 (1 + rxsSize (kids.take i) : Nat) ∧ Below w.heap.size w wr)
      case atStart => exact ⟨0, Nat.zero_le _, by omega, rfl, by simp [rxsSize], HB0.out⟩
      case round =>
        clear HB0
        obtain ⟨i, hi, hgk, rfl, rfl, hbel⟩ := hrel
        have HB := Lib.hid hbel
        clear hbel
        by_cases hlt : i < kids.length
        · obtain ⟨y, hy⟩ : ∃ y, kids[i]? = some y := ⟨_, List.getElem?_eq_getElem hlt⟩
          obtain ⟨b1, o1, k6, t6, a6, l6, c6, a7, l7, c7, rfl, hvx, hE1⟩ := ex_at HROW.out HVS.out hy HB.out
          have bn := sbelow_new wr (.cells #[.int .i64 k6, .bool t6, .slice a6 l6 c6, .slice a7 l7 c7] 25)
          have hsx : SizeOf.sizeOf y < m := by have := rx_mem hy; have := HX.out; omega
          have hst := rxsSize_take hy
          have hle := rxsSize_le (l := kids) (i + 1)
          have hys : rxSize y ≤ 1000000 := by have := HSZ.out; omega
          have HBN := Lib.hid (HB.out.trans (bn.mono HB.out.size))
          have HC := Lib.hid (IH.out y hsx hys _ _ _ _ _ _ _ _ _ (hvx.step (HB.out.trans (bn.mono HB.out.size))))
          have HST := Lib.hid hst
          have hub : 1 + rxsSize (kids.take i) + rxSize y ≤ 1000000 := by have := HSZ.out; omega
          have HUB := Lib.hid hub
          obtain ⟨-, g0, g1, g2, g3⟩ := hE1
          clear hy bn hsx hvx hst hle hys hub
          generalize rxsSize (kids.take i) = p at *
          generalize hvz : rxSize y = z at *
          have HVZ := Lib.hid hvz
          clear hvz
          go_wp2_with fail
          refine HC.out.mono ?_
          rintro e w4 ⟨rfl, b4⟩
          go_wp2_with fail
          go_roundg (kids.length - (i + 1))
          case measure => omega
          case rel =>
            have h1 := HUB.out
            have h2 := HST.out
            have h4 := len_sizes kids
            have h5 := HSZ.out
            refine ⟨i + 1, by omega, rfl, by first | rfl | (rw [w64x _ (by omega)]; rfl), ?_, HBN.out.trans (b4.mono HBN.out.size)⟩
            rw [h2]
            first
              | rfl
              | (congr 1; omega)
              | (rw [w64x _ (by omega)]; congr 1; omega)
        · obtain rfl : i = kids.length := by omega
          rw [List.take_length]
          go_wp2_with fail
          go_ret
          exact ⟨rfl, HB.out⟩

/-- The chapter's example, and what it is. -/
def t15 : ByteArray := ⟨#[97, 32, 98, 42, 32, 124, 32, 91, 94, 99, 44, 100, 93]⟩
def v15a : Rx := .mk 2 false [] [.mk 1 false [⟨#[97]⟩] [], .mk 4 false [] [.mk 1 false [⟨#[98]⟩] []]]
def v15b : Rx := .mk 1 true [⟨#[99]⟩, ⟨#[100]⟩] []
def isOk15 : RO Rx → Bool
  | .ok k n x => decide (k = 13) && (decide (n = 6) && sameE x (.mk 3 false [] [v15a, v15b]))
  | .er _ _ => false
theorem ok15 : isOk15 (alR t15 64 0 0) = true := by decide +kernel
theorem alR15 : alR t15 64 0 0 = .ok 13 6 (.mk 3 false [] [v15a, v15b]) := by
  have h := ok15
  unfold isOk15 at h
  split at h
  · rename_i k n x e
    simp only [Bool.and_eq_true, decide_eq_true_eq] at h
    obtain ⟨rfl, rfl, h3⟩ := h
    rw [e, sameE_eq _ _ h3]
  · cases h
theorem size15 : rxSize (.mk 3 false [] [v15a, v15b]) = 6 := by decide
theorem end15 : skp t15 13 = t15.size := by decide +kernel
set_option maxRecDepth 100000 in
set_option maxHeartbeats 8000000 in
theorem awake15_any (w : World) (hg : Handle w) : Calls Tryz.prog 9 #[] w fun e w' => e = .returned (.bool true) ∧ Below w.heap.size w w' := by
  have HP : Hid (∀ W, Calls Tryz.prog 21 #[.string ⟨#[97, 32, 98, 42, 32, 124, 32, 91, 94, 99, 44, 100, 93]⟩] W (XpOut W (.ok 13 6 (.mk 3 false [] [v15a, v15b])))) := Lib.hid (fun W => parse_ok t15 (by decide) 13 6 _ alR15 end15 (by decide) W)
  have HG := Lib.hid hg
  clear hg
  go_enter Tryz.func9, Tryz.ntmps9
  go_wp2_with fail
  refine (HP.out _).mono ?_
  rintro e w1 ⟨xk, xt, xa1, xl1, xc1, xa2, xl2, xc2, rfl, hv, hb1⟩
  have bx := sbelow_new w1 (.cells #[.int .i64 xk, .bool xt, .slice xa1 xl1 xc1, .slice xa2 xl2 xc2] 25)
  have HF := Lib.hid (four_new w1 25 (.int .i64 xk) (.bool xt) (.slice xa1 xl1 xc1) (.slice xa2 xl2 xc2))
  have HV := Lib.hid (hv.step bx)
  have HB := Lib.hid (hb1.trans (bx.mono hb1.size))
  clear hv bx hb1
  go_wp2_with fail
  generalize w1.alloc (.cells #[.int .i64 xk, .bool xt, .slice xa1 xl1 xc1, .slice xa2 xl2 xc2] 25) = w2 at *
  generalize w1.heap.size = xb at *
  refine (Awake1_any _ (HG.out.below HB.out)).mono ?_
  rintro e w3 ⟨rfl, b3⟩
  have HF3 := Lib.hid (HF.out.step b3)
  have HV3 := Lib.hid (HV.out.step b3)
  have HB3 := Lib.hid (HB.out.trans (b3.mono HB.out.size))
  clear b3
  go_wp2_with fail
  refine (Awake3_any _ (HG.out.below HB3.out)).mono ?_
  rintro e w4 ⟨rfl, b4⟩
  have HF4 := Lib.hid (HF3.out.step b4)
  have hv4 := HV3.out.step b4
  have HB4 := Lib.hid (HB3.out.trans (b4.mono HB3.out.size))
  have hsz := xsize_go (fun q => w.heap.size ≤ q) _ (.mk 3 false [] [v15a, v15b]) (Nat.lt_succ_self _) (by rw [size15]; omega) w4 _ _ _ _ _ _ _ _ hv4
  rw [size15] at hsz
  obtain ⟨rfl, rfl, -, xs, hr, hvs⟩ := hv4.open
  obtain ⟨_, _, es⟩ := hr.form
  simp only [Value.slice.injEq] at es
  obtain ⟨-, el, -⟩ := es
  have el2 : xl2 = 2 := el
  subst el2
  obtain ⟨b1, o1, k6, t6, a6, l6, c6, a7, l7, c7, rfl, hx0, hE0⟩ := ex_at (i := 0) (x := v15a) hr hvs rfl (Below.refl _ _)
  obtain ⟨b2, o2, k8, t8, a8, l8, c8, a9, l9, c9, eb, hx1, hE1⟩ := ex_at (i := 1) (x := v15b) hr hvs rfl (Below.refl _ _)
  simp only [Option.some.injEq, Addr.mk.injEq, and_true] at eb
  obtain ⟨rfl, rfl⟩ := eb
  have hk6 : k6 = 2 := hx0.open.1
  have ht8 : t8 = true := hx1.open.2.1
  subst hk6 ht8
  have HSZ := Lib.hid hsz
  obtain ⟨p0, p1, p2, p3⟩ := HF4.out.box
  have g0 : w4.cell? ⟨b1, o1, none⟩ = some (.int .i64 2) := by have := hE0.2.1; simpa using this
  have g1 : w4.cell? ⟨b1, o1 + 4 + 1, none⟩ = some (.bool true) := by have := hE1.2.2.1; simpa using this
  have g2 : w4.cell? ⟨b1, o1 + 5, none⟩ = some (.bool true) := g1
  clear hx0 hx1 hE0 hE1 hr hvs hsz hv4 el HV HV3 HF HF3 HB HB3
  go_wp2_with fail
  refine HSZ.out.mono ?_
  rintro e w5 ⟨rfl, b5⟩
  go_wp2_with fail
  go_ret
  exact ⟨rfl, HB4.out.trans (b5.mono HB4.out.size)⟩
end Go.Proofs.YtocfcnhaecmgpaaGreatDoor
