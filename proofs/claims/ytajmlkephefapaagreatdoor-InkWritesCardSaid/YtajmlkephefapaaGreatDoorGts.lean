/-
  The document's 'the same' of two values, places aside, by contract.
  The law's copy of a value, by contract.
-/
import Derived.Test.YtajmlkephefapaaGreatDoorGtq
import Derived.Test.YtajmlkephefapaaGreatDoorReg
import Derived.Deep.AppendLies
namespace Go.Proofs.YtajmlkephefapaaGreatDoor
open Go.RowKit Go.Extern.Stop Go.Stop Go.Extern Go.WideMaps

theorem Six.box {w : World} {b : Nat} {c0 c1 c2 c3 c4 c5 : Value} (h : Six w b 0 c0 c1 c2 c3 c4 c5) : w.cell? ⟨b, 0, none⟩ = some c0 ∧ w.cell? ⟨b, 1, none⟩ = some c1 ∧ w.cell? ⟨b, 2, none⟩ = some c2 ∧ w.cell? ⟨b, 3, none⟩ = some c3 ∧ w.cell? ⟨b, 4, none⟩ = some c4 ∧ w.cell? ⟨b, 5, none⟩ = some c5 :=
  ⟨h.2.1, h.2.2.1, h.2.2.2.1, h.2.2.2.2.1, h.2.2.2.2.2.1, h.2.2.2.2.2.2⟩
/-- On the way in a round: both elements, and both rows' heads. -/
structure ElSt (w0 : World) (b1 o1 : Nat) (x0 x1 x2 x3 x4 x5 : Value) (b2 o2 : Nat) (y0 y1 y2 y3 y4 y5 r1 r2 : Value) (w : World) : Prop where
  e1 : Six w b1 o1 x0 x1 x2 x3 x4 x5
  e2 : Six w b2 o2 y0 y1 y2 y3 y4 y5
  h1 : w.cell? ⟨w0.heap.size, 3, none⟩ = some r1
  h2 : w.cell? ⟨w0.heap.size + 1, 3, none⟩ = some r2
  l1 : w0.heap.size < w.heap.size
  l2 : w0.heap.size + 1 < w.heap.size
theorem ElSt.step {w0 : World} {b1 o1 : Nat} {x0 x1 x2 x3 x4 x5 : Value} {b2 o2 : Nat} {y0 y1 y2 y3 y4 y5 r1 r2 : Value} {w w' : World} (h : ElSt w0 b1 o1 x0 x1 x2 x3 x4 x5 b2 o2 y0 y1 y2 y3 y4 y5 r1 r2 w) (hb : Below w.heap.size w w') :
    ElSt w0 b1 o1 x0 x1 x2 x3 x4 x5 b2 o2 y0 y1 y2 y3 y4 y5 r1 r2 w' :=
  ⟨h.e1.step hb, h.e2.step hb, (hb.cell (p := ⟨w0.heap.size, 3, none⟩) h.l1).trans h.h1, (hb.cell (p := ⟨w0.heap.size + 1, 3, none⟩) h.l2).trans h.h2, Nat.lt_of_lt_of_le h.l1 hb.size, Nat.lt_of_lt_of_le h.l2 hb.size⟩
theorem ElSt.cells {w0 : World} {b1 o1 : Nat} {x0 x1 x2 x3 x4 x5 : Value} {b2 o2 : Nat} {y0 y1 y2 y3 y4 y5 r1 r2 : Value} {w : World} (h : ElSt w0 b1 o1 x0 x1 x2 x3 x4 x5 b2 o2 y0 y1 y2 y3 y4 y5 r1 r2 w) :
    w.cell? ⟨w0.heap.size, 3, none⟩ = some r1 ∧ w.cell? ⟨w0.heap.size + 1, 3, none⟩ = some r2 ∧ w.cell? ⟨b1, o1, none⟩ = some x0 ∧ w.cell? ⟨b1, o1 + 1, none⟩ = some x1 ∧ w.cell? ⟨b1, o1 + 2, none⟩ = some x2 ∧ w.cell? ⟨b1, o1 + 3, none⟩ = some x3 ∧ w.cell? ⟨b1, o1 + 4, none⟩ = some x4 ∧ w.cell? ⟨b1, o1 + 5, none⟩ = some x5 ∧ w.cell? ⟨b2, o2, none⟩ = some y0 ∧ w.cell? ⟨b2, o2 + 1, none⟩ = some y1 ∧ w.cell? ⟨b2, o2 + 2, none⟩ = some y2 ∧ w.cell? ⟨b2, o2 + 3, none⟩ = some y3 ∧ w.cell? ⟨b2, o2 + 4, none⟩ = some y4 ∧ w.cell? ⟨b2, o2 + 5, none⟩ = some y5 := by
  obtain ⟨⟨-, g0, g1, g2, g3, g4, g5⟩, ⟨-, k0, k1, k2, k3, k4, k5⟩, h1, h2, -, -⟩ := h
  exact ⟨h1, h2, g0, g1, g2, g3, g4, g5, k0, k1, k2, k3, k4, k5⟩
set_option maxRecDepth 100000 in
set_option maxHeartbeats 8000000 in
theorem same5_go (P P' : Nat → Prop) (n : Nat) : ∀ (m : Nat) (x : Val), SizeOf.sizeOf x < m → vsize x ≤ 1000000000 → keysOk x → ∀ (w : World) (k : Int) (t : ByteArray) (u : Int) (a : Option Addr) (l c : Nat) (a' : Option Addr) (l' c' : Nat) (z : Int)
    (k4 : Int) (t4 : ByteArray) (u4 : Int) (a4 : Option Addr) (l4 c4 : Nat) (a5 : Option Addr) (l5 c5 : Nat) (z4 : Int),
    ValC P w [.int .i64 k, .string t, .int .u64 u, .slice a l c, .slice a' l' c', .int .i64 z] x → ValC P' w [.int .i64 k4, .string t4, .int .u64 u4, .slice a4 l4 c4, .slice a5 l5 c5, .int .i64 z4] (farV n x) →
    Calls Tryz.prog 10 #[.agg #[.int .i64 k, .string t, .int .u64 u, .slice a l c, .slice a' l' c', .int .i64 z], .agg #[.int .i64 k4, .string t4, .int .u64 u4, .slice a4 l4 c4, .slice a5 l5 c5, .int .i64 z4], .bool false] w fun e w' => e = .returned (.bool true) ∧ Below w.heap.size w w' := by
  intro m
  induction m with
  | zero => intro x hx; exact absurd hx (Nat.not_lt_zero _)
  | succ m ih =>
    intro x hx hsz hko w k t u a l c a' l' c' z k4 t4 u4 a4 l4 c4 a5 l5 c5 z4 hv hy
    have IH := Lib.hid ih
    clear ih
    cases x with
    | mk k1 t1 n1 list keys z1 =>
      rw [farV] at hy
      rw [keysOk] at hko
      unfold ValC at hv hy
      obtain ⟨sl, sk', xs, e, hk, hl, hvs⟩ := hv
      obtain ⟨sl2, sk2, xs2, e2, hk2, hl2, hvs2⟩ := hy
      simp only [List.cons.injEq, Value.int.injEq, Value.string.injEq, true_and, and_true] at e e2
      obtain ⟨rfl, rfl, rfl, rfl, rfl, rfl⟩ := e
      obtain ⟨rfl, rfl, rfl, rfl, rfl, rfl⟩ := e2
      have HROW := Lib.hid hl
      have HVS := Lib.hid hvs
      have HROW2 := Lib.hid hl2
      have HVS2 := Lib.hid hvs2
      have HK := Lib.hid hk
      have HK2 := Lib.hid hk2
      obtain ⟨_, _, es⟩ := hl.form
      simp only [Value.slice.injEq] at es
      obtain ⟨-, el, -⟩ := es
      subst el
      obtain ⟨_, _, es⟩ := hl2.form
      simp only [Value.slice.injEq] at es
      obtain ⟨-, el, -⟩ := es
      rw [farL_len] at el
      subst el
      obtain ⟨_, _, es⟩ := hk.form
      simp only [Value.slice.injEq] at es
      obtain ⟨-, el, -⟩ := es
      subst el
      obtain ⟨_, _, es⟩ := hk2.form
      simp only [Value.slice.injEq] at es
      obtain ⟨-, el, -⟩ := es
      subst el
      clear hk hl hvs hk2 hl2 hvs2
      simp only [Val.mk.sizeOf_spec] at hx
      have HX := Lib.hid hx
      have H0 := Lib.hid (TwoV.start w 34 (.int .i64 k4) (.string t4) (.int .u64 u4) (.slice a list.length c) (.slice a' keys.length c') (.int .i64 z) (.int .i64 k4) (.string t4) (.int .u64 u4) (.slice a4 list.length c4) (.slice a5 keys.length c5) (.int .i64 (z + n)))
      have HSZ : Hid (k4 = 5 ∨ k4 = 6 → lsize list + 1 ≤ 1000000000) := Lib.hid (fun h => by unfold vsize at hsz; rw [if_pos h] at hsz; omega)
      have HKO := Lib.hid hko
      clear hx hsz hko
      obtain ⟨p0, p1, p2, p3, p4, p5⟩ := H0.out.sa.box
      obtain ⟨q0, q1, q2, q3, q4, q5⟩ := H0.out.sb.box
      by_cases h3 : k4 = 3
      · subst h3
        go_enter Tryz.func10, Tryz.ntmps10
        go_wp2_with fail
        go_ret
        exact ⟨rfl, H0.out.below⟩
      by_cases h4 : k4 = 4
      · subst h4
        clear h3
        go_enter Tryz.func10, Tryz.ntmps10
        go_wp2_with fail
        go_ret
        exact ⟨rfl, H0.out.below⟩
      by_cases h5 : k4 = 5
      · subst h5
        clear h3 h4
        rw [farL_len] at HROW2
        have HROW2 : Hid (RowIn P' w (.slice a4 list.length c4) (farL n list).length xs2) := Lib.hid (by rw [farL_len]; exact HROW2.out)
        go_enter Tryz.func10, Tryz.ntmps10
        go_wp2_with fail
        generalize hW0 : ((w.alloc _).alloc _) = W0 at *
        clear hW0
        go_wp2_with fail
        go_loopg [86] list.length (fun g v wr => RunTo W0 list.length g v wr)
        case atStart => exact ⟨0, Nat.zero_le _, by omega, rfl, Below.refl _ _⟩
        case round =>
          obtain ⟨i, hi, hgk, rfl, hbel⟩ := hrel
          have hSi := H0.out.step hbel
          obtain ⟨-, -, -, p3, -, -⟩ := hSi.sa.box
          obtain ⟨-, -, -, q3, -, -⟩ := hSi.sb.box
          by_cases hlt : i < list.length
          · obtain ⟨x, hx⟩ : ∃ x, list[i]? = some x := ⟨_, List.getElem?_eq_getElem hlt⟩
            have hx2 := farL_at n hx
            have hle := lsize_le (l := list) (i + 1)
            have hst := lsize_take hx
            have hsx : SizeOf.sizeOf x < m := by have := sizeOf_mem hx; have := HX.out; omega
            have hkx := keysOkL_at HKO.out.2 hx
            have hvsz : vsize x ≤ 1000000000 := by have := HSZ.out (by simp); omega
            obtain ⟨b1, o1, k6, t6, n6, a6, l6, c6, a7, l7, c7, z7, rfl, hvx, hE1⟩ := el_at HROW.out HVS.out hx hSi.below
            have hrow2 := HROW2.out
            obtain ⟨b2, o2, k8, t8, n8, a8, l8, c8, a9, l9, c9, z9, rfl, hvy, hE2⟩ := el_at hrow2 HVS2.out hx2 hSi.below
            have HC := Lib.hid (fun W (hb : Below w.heap.size w W) => IH.out x hsx hvsz hkx W _ _ _ _ _ _ _ _ _ _ _ _ _ _ _ _ _ _ _ _ (hvx.step hb) (hvy.step hb))
            have hSi2 := hSi.step (Below.refl _ _).drew
            have hI : ElSt w b1 (o1 + i * 6) (.int .i64 k6) (.string t6) (.int .u64 n6) (.slice a6 l6 c6) (.slice a7 l7 c7) (.int .i64 z7) b2 (o2 + i * 6) (.int .i64 k8) (.string t8) (.int .u64 n8) (.slice a8 l8 c8) (.slice a9 l9 c9) (.int .i64 z9)
                (.slice (some ⟨b1, o1, none⟩) list.length c) (.slice (some ⟨b2, o2, none⟩) list.length c4) wr := ⟨hE1, hE2, hSi.sa.2.2.2.2.1, hSi.sb.2.2.2.2.1, hSi.sa.1, hSi.sb.1⟩
            replace hI := hI.step (Below.refl _ _).drew
            have hBW := hSi2.below
            have hBel := hbel.trans ((Below.refl wr.heap.size wr).drew.mono hbel.size)
            clear hx hx2 hle hst hsx hvsz hkx hvx hvy hE1 hE2 hrow2 hSi2 hSi hbel p3 q3
            go_wp2_with fail
            have kk := hI.cells
            go_region_held3 (fun W => W.cell? ⟨w.heap.size, 3, none⟩ = some (.slice (some ⟨b1, o1, none⟩) list.length c) ∧ W.cell? ⟨w.heap.size + 1, 3, none⟩ = some (.slice (some ⟨b2, o2, none⟩) list.length c4) ∧ W.cell? ⟨b1, o1 + i * 6, none⟩ = some (.int .i64 k6) ∧ W.cell? ⟨b1, o1 + i * 6 + 1, none⟩ = some (.string t6) ∧ W.cell? ⟨b1, o1 + i * 6 + 2, none⟩ = some (.int .u64 n6) ∧ W.cell? ⟨b1, o1 + i * 6 + 3, none⟩ = some (.slice a6 l6 c6) ∧ W.cell? ⟨b1, o1 + i * 6 + 4, none⟩ = some (.slice a7 l7 c7) ∧ W.cell? ⟨b1, o1 + i * 6 + 5, none⟩ = some (.int .i64 z7) ∧ W.cell? ⟨b2, o2 + i * 6, none⟩ = some (.int .i64 k8) ∧ W.cell? ⟨b2, o2 + i * 6 + 1, none⟩ = some (.string t8) ∧ W.cell? ⟨b2, o2 + i * 6 + 2, none⟩ = some (.int .u64 n8) ∧ W.cell? ⟨b2, o2 + i * 6 + 3, none⟩ = some (.slice a8 l8 c8) ∧ W.cell? ⟨b2, o2 + i * 6 + 4, none⟩ = some (.slice a9 l9 c9) ∧ W.cell? ⟨b2, o2 + i * 6 + 5, none⟩ = some (.int .i64 z9))
              (first | exact kk | exact hI.cells)
              ((go_at_call 10; refine (HC.out _ hBW).mono ?_; rintro e w4 ⟨rfl, b4⟩; replace hI := hI.step b4; replace hBW := hBW.trans (b4.mono hBW.size); replace hBel := hBel.trans (b4.mono hBel.size); clear b4))
            go_wp2_with fail
            go_roundg (list.length - (i + 1))
            case measure => omega
            case rel => exact ⟨i + 1, by omega, rfl, by rw [w64 _ (by have := length_le_lsize list; have := HSZ.out (by simp); omega)]; rfl, hBel⟩
          · obtain rfl : i = list.length := by omega
            go_wp2_with fail
            go_ret
            exact ⟨rfl, hSi.below⟩
      by_cases h6 : k4 = 6
      · subst h6
        clear h3 h4 h5
        go_enter Tryz.func10, Tryz.ntmps10
        go_wp2_with fail
        generalize hW0 : ((w.alloc _).alloc _) = W0 at *
        clear hW0
        go_wp2_with fail
        go_loopg [68] keys.length (fun g v wr => RunTo W0 keys.length g v wr)
        case atStart => exact ⟨0, Nat.zero_le _, by omega, rfl, Below.refl _ _⟩
        case round =>
          obtain ⟨i, hi, hgk, rfl, hbel⟩ := hrel
          have hSi := H0.out.step hbel
          have HBel := Lib.hid hbel
          obtain ⟨-, -, -, p3, p4, -⟩ := hSi.sa.box
          obtain ⟨-, -, -, q3, q4, -⟩ := hSi.sb.box
          by_cases hlt : i < keys.length
          · obtain ⟨y, hy⟩ : ∃ y, keys[i]? = some y := ⟨_, List.getElem?_eq_getElem hlt⟩
            obtain ⟨b1, o1, rfl, e1⟩ := key_at HK.out hy hSi.below
            obtain ⟨b2, o2, rfl, e2⟩ := key_at HK2.out hy hSi.below
            clear hy hSi hbel p3 q3
            go_wp2_with fail
            go_quiet (fail)
            go_wp2_with fail
            go_roundg (keys.length - (i + 1))
            case measure => omega
            case rel => exact ⟨i + 1, by omega, rfl, by rw [w64 _ (by have := HKO.out.1; omega)]; rfl, HBel.out.trans ((below_dr5 wr nq).mono HBel.out.size)⟩
          · obtain rfl : i = keys.length := by omega
            have H1 := Lib.hid hSi
            clear H0 HBel hSi hbel p4 q4
            generalize wr = wr0 at *
            have H0 := H1
            clear H1
            go_wp2_with fail
            go_loopg [86] list.length (fun g v wr => RunTo wr0 list.length g v wr)
            case atStart => exact ⟨0, Nat.zero_le _, by omega, rfl, Below.refl _ _⟩
            case round =>
              obtain ⟨i, hi, hgk, rfl, hbel⟩ := hrel
              have hSi := H0.out.step hbel
              obtain ⟨-, -, -, p3, -, -⟩ := hSi.sa.box
              obtain ⟨-, -, -, q3, -, -⟩ := hSi.sb.box
              by_cases hlt : i < list.length
              · obtain ⟨x, hx⟩ : ∃ x, list[i]? = some x := ⟨_, List.getElem?_eq_getElem hlt⟩
                have hx2 := farL_at n hx
                have hle := lsize_le (l := list) (i + 1)
                have hst := lsize_take hx
                have hsx : SizeOf.sizeOf x < m := by have := sizeOf_mem hx; have := HX.out; omega
                have hkx := keysOkL_at HKO.out.2 hx
                have hvsz : vsize x ≤ 1000000000 := by have := HSZ.out (by simp); omega
                obtain ⟨b1, o1, k6, t6, n6, a6, l6, c6, a7, l7, c7, z7, rfl, hvx, hE1⟩ := el_at HROW.out HVS.out hx hSi.below
                have hrow2 := HROW2.out
                obtain ⟨b2, o2, k8, t8, n8, a8, l8, c8, a9, l9, c9, z9, rfl, hvy, hE2⟩ := el_at hrow2 HVS2.out hx2 hSi.below
                have HC := Lib.hid (fun W (hb : Below w.heap.size w W) => IH.out x hsx hvsz hkx W _ _ _ _ _ _ _ _ _ _ _ _ _ _ _ _ _ _ _ _ (hvx.step hb) (hvy.step hb))
                have hSi2 := hSi.step (Below.refl _ _).drew
                have hI : ElSt w b1 (o1 + i * 6) (.int .i64 k6) (.string t6) (.int .u64 n6) (.slice a6 l6 c6) (.slice a7 l7 c7) (.int .i64 z7) b2 (o2 + i * 6) (.int .i64 k8) (.string t8) (.int .u64 n8) (.slice a8 l8 c8) (.slice a9 l9 c9) (.int .i64 z9)
                    (.slice (some ⟨b1, o1, none⟩) list.length c) (.slice (some ⟨b2, o2, none⟩) list.length c4) wr := ⟨hE1, hE2, hSi.sa.2.2.2.2.1, hSi.sb.2.2.2.2.1, hSi.sa.1, hSi.sb.1⟩
                replace hI := hI.step (Below.refl _ _).drew
                have hBW := hSi2.below
                have hBel := hbel.trans ((Below.refl wr.heap.size wr).drew.mono hbel.size)
                clear hx hx2 hle hst hsx hvsz hkx hvx hvy hE1 hE2 hrow2 hSi2 hSi hbel p3 q3
                go_wp2_with fail
                have kk := hI.cells
                go_region_held3 (fun W => W.cell? ⟨w.heap.size, 3, none⟩ = some (.slice (some ⟨b1, o1, none⟩) list.length c) ∧ W.cell? ⟨w.heap.size + 1, 3, none⟩ = some (.slice (some ⟨b2, o2, none⟩) list.length c4) ∧ W.cell? ⟨b1, o1 + i * 6, none⟩ = some (.int .i64 k6) ∧ W.cell? ⟨b1, o1 + i * 6 + 1, none⟩ = some (.string t6) ∧ W.cell? ⟨b1, o1 + i * 6 + 2, none⟩ = some (.int .u64 n6) ∧ W.cell? ⟨b1, o1 + i * 6 + 3, none⟩ = some (.slice a6 l6 c6) ∧ W.cell? ⟨b1, o1 + i * 6 + 4, none⟩ = some (.slice a7 l7 c7) ∧ W.cell? ⟨b1, o1 + i * 6 + 5, none⟩ = some (.int .i64 z7) ∧ W.cell? ⟨b2, o2 + i * 6, none⟩ = some (.int .i64 k8) ∧ W.cell? ⟨b2, o2 + i * 6 + 1, none⟩ = some (.string t8) ∧ W.cell? ⟨b2, o2 + i * 6 + 2, none⟩ = some (.int .u64 n8) ∧ W.cell? ⟨b2, o2 + i * 6 + 3, none⟩ = some (.slice a8 l8 c8) ∧ W.cell? ⟨b2, o2 + i * 6 + 4, none⟩ = some (.slice a9 l9 c9) ∧ W.cell? ⟨b2, o2 + i * 6 + 5, none⟩ = some (.int .i64 z9))
                  (first | exact kk | exact hI.cells)
                  ((go_at_call 10; refine (HC.out _ hBW).mono ?_; rintro e w4 ⟨rfl, b4⟩; replace hI := hI.step b4; replace hBW := hBW.trans (b4.mono hBW.size); replace hBel := hBel.trans (b4.mono hBel.size); clear b4))
                go_wp2_with fail
                go_roundg (list.length - (i + 1))
                case measure => omega
                case rel => exact ⟨i + 1, by omega, rfl, by rw [w64 _ (by have := length_le_lsize list; have := HSZ.out (by simp); omega)]; rfl, hBel⟩
              · obtain rfl : i = list.length := by omega
                go_wp2_with fail
                go_ret
                exact ⟨rfl, hSi.below⟩
      have e5 : (k4 != 5) = true := bne_iff_ne.2 h5
      have e6 : (k4 != 6) = true := bne_iff_ne.2 h6
      go_enter Tryz.func10, Tryz.ntmps10
      go_wp2_with fail
      go_ret
      exact ⟨rfl, H0.out.below⟩
end Go.Proofs.YtajmlkephefapaaGreatDoor

namespace Go.Proofs.YtajmlkephefapaaGreatDoor
open Go.RowKit Go.Extern.Stop Go.Stop Go.Extern Go.WideMaps

mutual
/-- Only what stands between brackets has items. -/
def cleanV : Val → Prop
  | .mk k _ _ list _ _ => (k = 5 ∨ k = 6 ∨ list = []) ∧ cleanL list
def cleanL : List Val → Prop
  | [] => True
  | x :: r => cleanV x ∧ cleanL r
end
theorem cleanL_at : ∀ {l : List Val} {i : Nat} {x : Val}, cleanL l → l[i]? = some x → cleanV x
  | [], _, _, _, h => by simp at h
  | y :: r, 0, x, h0, h => by
    obtain rfl : y = x := by simpa using h
    rw [cleanL] at h0
    exact h0.1
  | y :: r, i + 1, x, h0, h => by
    rw [cleanL] at h0
    exact cleanL_at h0.2 (i := i) (by simpa using h)
def Say.Cl : Say → Prop
  | .v _ _ (.ok _ x) => cleanV x
  | .i _ _ _ _ (.ok _ xs _) => cleanL xs
  | _ => True
theorem leaf_clean {s : ByteArray} {k j : Nat} {x : Val} (h : leafR s k = .ok j x) : cleanV x := by
  have key : ∀ (kind : Int) (t : ByteArray) (n z : Int), cleanV (.mk kind t n [] [] z) := by
    intro kind t n z
    rw [cleanV, cleanL]
    exact ⟨.inr (.inr rfl), trivial⟩
  have hw : ∀ (kind : Int) (l : List UInt8), wordO s k kind l = .ok j x → cleanV x := by
    intro kind l h
    unfold wordO at h
    split at h
    · injection h with _ e; subst e; exact key _ _ _ _
    · cases h
  unfold leafR at h
  split at h
  · exact hw _ _ h
  · split at h
    · exact hw _ _ h
    · split at h
      · exact hw _ _ h
      · split at h
        · split at h
          · injection h with _ e; subst e; exact key _ _ _ _
          · cases h
        · split at h
          · injection h with _ e; subst e; exact key _ _ _ _
          · cases h
theorem W.clean {s : ByteArray} {g : Say} (h : W s g) : g.Cl := by
  induction h with
  | leaf d k h0 =>
    cases ho : leafR s k with
    | er c a => trivial
    | ok j x => exact leaf_clean ho
  | deep d k h0 h1 => trivial
  | none d k h0 h1 h2 =>
    show cleanV _
    rw [cleanV, cleanL]
    exact ⟨.inr (.inr rfl), trivial⟩
  | some d k o h0 h1 h2 hI ih =>
    cases o with
    | er c a => trivial
    | ok j vs kk =>
      show cleanV _
      rw [cleanV]
      refine ⟨?_, ih⟩
      rcases h0 with h0 | h0
      · exact .inl (by rw [h0]; rfl)
      · exact .inr (.inl (by rw [h0]; rfl))
  | key d b p ks c a h0 => trivial
  | val d b p ks q key c a h0 hV ih => trivial
  | last d b p ks q key j v h0 hV h1 ih =>
    show cleanL _
    rw [cleanL, cleanL]
    exact ⟨ih, trivial⟩
  | sep d b p ks q key j v h0 hV h1 h2 ih => trivial
  | more d b p ks q key j v o h0 hV h1 hI ihV ihI =>
    cases o with
    | er c a => trivial
    | ok J vs kk =>
      show cleanL _
      rw [cleanL]
      exact ⟨ihV, ihI⟩
theorem whole_clean {s : ByteArray} {j : Nat} {x : Val} (h : Whole s (.ok j x)) : cleanV x := by
  rcases h with ⟨_, h⟩ | ⟨h0, o1, hV, h⟩
  · cases h
  rcases h with ⟨c, a, _, h⟩ | ⟨j, v, rfl, ⟨hj, h⟩ | ⟨_, h⟩⟩
  · cases h
  · obtain rfl : x = v := by injection h
    exact (W.clean hV : (Say.v 0 (sk s 0) (.ok _ x)).Cl)
  · cases h

/-- Six cells of the document's value, in a block of their own. -/
def SixR (w : World) (b : Nat) (c0 c1 c2 c3 c4 c5 : Value) : Prop := w.heap[b]? = some (.cells #[c0, c1, c2, c3, c4, c5] 34 (0, 0))
section
variable {w w' : World} {b : Nat} {c0 c1 c2 c3 c4 c5 : Value}
theorem SixR.cells (h : SixR w b c0 c1 c2 c3 c4 c5) :
    w.cell? ⟨b, 0, none⟩ = some c0 ∧ w.cell? ⟨b, 1, none⟩ = some c1 ∧ w.cell? ⟨b, 2, none⟩ = some c2 ∧ w.cell? ⟨b, 3, none⟩ = some c3 ∧ w.cell? ⟨b, 4, none⟩ = some c4 ∧ w.cell? ⟨b, 5, none⟩ = some c5 :=
  ⟨by rw [Lib.cell_of_heap h]; rfl, by rw [Lib.cell_of_heap h]; rfl, by rw [Lib.cell_of_heap h]; rfl, by rw [Lib.cell_of_heap h]; rfl, by rw [Lib.cell_of_heap h]; rfl, by rw [Lib.cell_of_heap h]; rfl⟩
theorem SixR.lt (h : SixR w b c0 c1 c2 c3 c4 c5) : b < w.heap.size := (Array.getElem?_eq_some_iff.1 h).1
theorem SixR.step (h : SixR w b c0 c1 c2 c3 c4 c5) (hb : Below w.heap.size w w') : SixR w' b c0 c1 c2 c3 c4 c5 := (hb.block b h.lt).trans h
theorem SixR.grown {row : Option Nat} (h : SixR w b c0 c1 c2 c3 c4 c5) (hg : w.grownBy w' row) (hne : row ≠ some b) : SixR w' b c0 c1 c2 c3 c4 c5 := by
  unfold SixR
  rw [hg.block b h.lt (fun e => hne e.symm)]
  exact h
theorem SixR.far (h : SixR w b c0 c1 c2 c3 c4 c5) {q : Addr} (hq : b ≠ q.block) (u : Value) : SixR (w.setCell q u) b c0 c1 c2 c3 c4 c5 := (heap_setCell_other _ _ _ _ hq).trans h
theorem SixR.fz (h : SixR w b c0 c1 c2 c3 c4 c5) (i : Nat) : w.frozen? ⟨b, i, none⟩ = false := by
  unfold World.frozen?
  rw [h]
  simp
theorem SixR.put3 (h : SixR w b c0 c1 c2 c3 c4 c5) (u : Value) : SixR (w.setCell ⟨b, 3, none⟩ u) b c0 c1 c2 u c4 c5 := heap_setCell_same w b 3 _ _ u h
theorem SixR.put4 (h : SixR w b c0 c1 c2 c3 c4 c5) (u : Value) : SixR (w.setCell ⟨b, 4, none⟩ u) b c0 c1 c2 c3 u c5 := heap_setCell_same w b 4 _ _ u h
theorem SixR.set6 (h : SixR w b c0 c1 c2 c3 c4 c5) (d0 d1 d2 d3 d4 d5 : Value) : SixR (set6 w b 0 d0 d1 d2 d3 d4 d5) b d0 d1 d2 d3 d4 d5 := by
  have h0 : SixR (w.setCell ⟨b, 0, none⟩ d0) b d0 c1 c2 c3 c4 c5 := heap_setCell_same w b 0 _ _ d0 h
  have h1 : SixR _ b d0 d1 c2 c3 c4 c5 := heap_setCell_same _ b 1 _ _ d1 h0
  have h2 : SixR _ b d0 d1 d2 c3 c4 c5 := heap_setCell_same _ b 2 _ _ d2 h1
  exact heap_setCell_same _ b 5 _ _ d5 ((h2.put3 d3).put4 d4)
end
theorem infoRVal : (Tryz.prog.info? 34).map (fun i => (i.zero, i.size, i.bytes)) = some (some (.agg #[.int .i64 0, .string ⟨#[]⟩, .int .u64 0, .slice none 0 0, .slice none 0 0, .int .i64 0]), 6, 88) := by kernel_rfl

theorem keeps_set6 (w : World) (b o : Nat) (c0 c1 c2 c3 c4 c5 : Value) : Keeps (· = b) w (set6 w b o c0 c1 c2 c3 c4 c5) := by
  have k0 : Keeps (· = b) w (w.setCell ⟨b, o, none⟩ c0) := Keeps.setCell (D := (· = b)) (Keeps.refl _ w) (q := ⟨b, o, none⟩) (.inr rfl) c0
  have k1 := k0.setCell (q := ⟨b, o + 1, none⟩) (.inr rfl) c1
  have k2 := k1.setCell (q := ⟨b, o + 2, none⟩) (.inr rfl) c2
  have k3 := k2.setCell (q := ⟨b, o + 3, none⟩) (.inr rfl) c3
  have k4 := k3.setCell (q := ⟨b, o + 4, none⟩) (.inr rfl) c4
  exact k4.setCell (q := ⟨b, o + 5, none⟩) (.inr rfl) c5
/-- Which blocks of the copy stay as they are. -/
def Kept (n : Nat) (vL : Value) (q : Nat) : Prop := n + 3 ≤ q ∧ vL.ownBlock ≠ some q
/-- On the way through the items. -/
structure TcpSt (w0 : World) (k : Int) (t : ByteArray) (u z : Int) (sl sk : Value) (keys : List ByteArray) (vs : List Val) (vL vK : Value) (xs : List Value) (w : World) : Prop where
  src : SixAt w w0.heap.size (.int .i64 k) (.string t) (.int .u64 u) sl sk (.int .i64 z)
  res : SixR w (w0.heap.size + 1) (.int .i64 0) (.string ⟨#[]⟩) (.int .u64 0) (.slice none 0 0) (.slice none 0 0) (.int .i64 0)
  out : SixR w (w0.heap.size + 2) (.int .i64 k) (.string t) (.int .u64 u) vL vK (.int .i64 z)
  own : w.ownsRow (w0.heap.size + 3) 34 6 vL vs.length xs
  vals : ValsC (Kept w0.heap.size vL) w xs vs
  keys : RowIn (Kept w0.heap.size vL) w vK keys.length (keys.map Value.string)
  below : Below w0.heap.size w0 w
theorem TcpSt.step {w0 : World} {k : Int} {t : ByteArray} {u z : Int} {sl sk : Value} {keys : List ByteArray} {vs : List Val} {vL vK : Value} {xs : List Value} {w w' : World} (h : TcpSt w0 k t u z sl sk keys vs vL vK xs w) (hb : Below w.heap.size w w') :
    TcpSt w0 k t u z sl sk keys vs vL vK xs w' :=
  ⟨h.src.step hb, h.res.step hb, h.out.step hb, own_up h.own hb, h.vals.move hb.size fun q hq hlt => ⟨hq, hb.block q hlt⟩, h.keys.move hb.size fun q hq hlt => ⟨hq, hb.block q hlt⟩, h.below.trans (hb.mono h.below.size)⟩
theorem TcpSt.list {w0 : World} {k : Int} {t : ByteArray} {u z : Int} {sl sk : Value} {keys : List ByteArray} {vs : List Val} {vL vK : Value} {xs : List Value} {w : World} (h : TcpSt w0 k t u z sl sk keys vs vL vK xs w) : ∃ a c, vL = .slice a vs.length c := by
  rcases h.own.2 with ⟨rfl, h0⟩ | ⟨g, cap, cur, rfl, -⟩
  · exact ⟨none, 0, by rw [h0]⟩
  · exact ⟨_, cap, rfl⟩
theorem TcpSt.lt3 {w0 : World} {k : Int} {t : ByteArray} {u z : Int} {sl sk : Value} {keys : List ByteArray} {vs : List Val} {vL vK : Value} {xs : List Value} {w : World} (h : TcpSt w0 k t u z sl sk keys vs vL vK xs w) : w0.heap.size + 3 ≤ w.heap.size := h.out.lt
/-- One item more. -/
theorem TcpSt.push {w0 : World} {k : Int} {t : ByteArray} {u z : Int} {sl sk : Value} {keys : List ByteArray} {vs : List Val} {vL vK : Value} {xs : List Value} {w w1 : World} {g cap B n : Nat} {cs : List Value} {x : Val} (hn : n = vs.length)
    (h : TcpSt w0 k t u z sl sk keys vs vL vK xs w) (hx : ValC (fun q => B ≤ q) w cs x) (hB : w0.heap.size + 3 ≤ B) (hvB : ∀ q, vL.ownBlock = some q → q < B)
    (hown : w1.ownsRow (w0.heap.size + 3) 34 6 (.slice (some ⟨g, 0, none⟩) (n + 1) cap) (n + 1) (xs ++ cs)) (hgrow : w.grownBy w1 vL.ownBlock) (hat : vL.ownBlock = some g ∨ g = w.heap.size) :
    TcpSt w0 k t u z sl sk keys (vs ++ [x]) (.slice (some ⟨g, 0, none⟩) (n + 1) cap) vK (xs ++ cs) (w1.setCell ⟨w0.heap.size + 2, 3, none⟩ (.slice (some ⟨g, 0, none⟩) (n + 1) cap)) := by
  subst hn
  have hne : ∀ q, q < w0.heap.size + 3 → vL.ownBlock ≠ some q := fun q hq e => by have := (h.own.lt q e).1; omega
  have hg3 : w0.heap.size + 3 ≤ g := (hown.lt g rfl).1
  have hmv : ∀ q, Kept w0.heap.size vL q → q < w.heap.size → Kept w0.heap.size (.slice (some ⟨g, 0, none⟩) (vs.length + 1) cap) q ∧ (w1.setCell ⟨w0.heap.size + 2, 3, none⟩ (.slice (some ⟨g, 0, none⟩) (vs.length + 1) cap)).heap[q]? = w.heap[q]? := by
    rintro q ⟨h1, h2⟩ hlt
    refine ⟨⟨h1, fun e => ?_⟩, ?_⟩
    · have e' : g = q := by injection e
      subst e'
      rcases hat with e | e
      · exact h2 e
      · omega
    · rw [heap_setCell_other _ _ _ _ (by show q ≠ w0.heap.size + 2; omega), hgrow.block q hlt (fun e => h2 e.symm)]
  have hsz : w.heap.size ≤ (w1.setCell ⟨w0.heap.size + 2, 3, none⟩ (.slice (some ⟨g, 0, none⟩) (vs.length + 1) cap)).heap.size := by rw [World.size_setCell]; exact hgrow.size
  refine ⟨?_, ?_, ?_, ?_, ?_, ?_, ?_⟩
  · exact (h.src.grown hgrow (hne _ (by omega))).far (by show w0.heap.size ≠ w0.heap.size + 2; omega) _
  · exact (h.res.grown hgrow (hne _ (by omega))).far (by show w0.heap.size + 1 ≠ w0.heap.size + 2; omega) _
  · exact (h.out.grown hgrow (hne _ (by omega))).put3 _
  · rw [List.length_append, List.length_singleton]
    exact ownsRow_keeps hown (D := (· = w0.heap.size + 2)) (Keeps.setCell (D := (· = w0.heap.size + 2)) (Keeps.refl _ _) (q := ⟨w0.heap.size + 2, 3, none⟩) (.inr rfl) _) (fun q e => by
      have e' : g = q := by injection e
      show q ≠ w0.heap.size + 2
      omega)
  · exact ValsC.snoc (hx.move hsz fun q hq hlt => hmv q ⟨by omega, fun e => by have := hvB q e; omega⟩ hlt) (h.vals.move hsz hmv)
  · exact h.keys.move hsz hmv
  · exact ((h.below.grown hgrow h.below.size (fun q e => by have := (h.own.lt q e).1; omega)).setCell (p := ⟨w0.heap.size + 2, 3, none⟩) (by show w0.heap.size ≤ w0.heap.size + 2; omega) _)

/-- What the copy's call answers. -/
def ToOut (w : World) (k : Int) (t : ByteArray) (u z : Int) (x : Val) (e : Ending) (w' : World) : Prop :=
  ∃ (a : Option Addr) (l c : Nat) (a' : Option Addr) (l' c' : Nat), e = .returned (.agg #[.int .i64 k, .string t, .int .u64 u, .slice a l c, .slice a' l' c', .int .i64 z]) ∧
    ValC (fun q => w.heap.size ≤ q) w' [.int .i64 k, .string t, .int .u64 u, .slice a l c, .slice a' l' c', .int .i64 z] x ∧ Below w.heap.size w w'
set_option maxRecDepth 100000 in
set_option maxHeartbeats 8000000 in
theorem to_go (P : Nat → Prop) : ∀ (m : Nat) (x : Val), SizeOf.sizeOf x < m → vsize x ≤ 1000000000 → keysOk x → cleanV x → ∀ (w : World) (k : Int) (t : ByteArray) (u : Int) (a : Option Addr) (l c : Nat) (a' : Option Addr) (l' c' : Nat) (z : Int),
    ValC P w [.int .i64 k, .string t, .int .u64 u, .slice a l c, .slice a' l' c', .int .i64 z] x →
    Calls Tryz.prog 11 #[.agg #[.int .i64 k, .string t, .int .u64 u, .slice a l c, .slice a' l' c', .int .i64 z]] w (ToOut w k t u z x) := by
  intro m
  induction m with
  | zero => intro x hx; exact absurd hx (Nat.not_lt_zero _)
  | succ m ih =>
    intro x hx hsz hko hcl w k t u a l c a' l' c' z hv
    have IH := Lib.hid ih
    clear ih
    obtain ⟨i0, hi, hz0, hz1, hz2⟩ := info_parts infoRVal
    cases x with
    | mk k1 t1 n1 list keys z1 =>
      rw [keysOk] at hko
      rw [cleanV] at hcl
      unfold ValC at hv
      obtain ⟨sl, sk', xs, e, hk, hl, hvs⟩ := hv
      simp only [List.cons.injEq, Value.int.injEq, Value.string.injEq, true_and, and_true] at e
      obtain ⟨rfl, rfl, rfl, rfl, rfl, rfl⟩ := e
      have HROW := Lib.hid hl
      have HVS := Lib.hid hvs
      have HK := Lib.hid hk
      obtain ⟨_, _, es⟩ := hl.form
      simp only [Value.slice.injEq] at es
      obtain ⟨-, el, -⟩ := es
      subst el
      obtain ⟨_, _, es⟩ := hk.form
      simp only [Value.slice.injEq] at es
      obtain ⟨-, el, -⟩ := es
      subst el
      have hll : lsize list ≤ 1000000000 := by
        unfold vsize at hsz
        rcases hcl.1 with h | h | h
        · rw [if_pos (.inl h)] at hsz; omega
        · rw [if_pos (.inr h)] at hsz; omega
        · subst h; rw [lsize]; omega
      have HLL := Lib.hid hll
      have HKL := Lib.hid hko
      have HCL := Lib.hid hcl.2
      simp only [Val.mk.sizeOf_spec] at hx
      have HX := Lib.hid hx
      clear hk hl hvs hx hsz hko hcl hll
      have h1 := heap_alloc_new w (.cells #[.int .i64 k, .string t, .int .u64 u, .slice a list.length c, .slice a' keys.length c', .int .i64 z] 27)
      have hS1 : SixAt (w.alloc (.cells #[.int .i64 k, .string t, .int .u64 u, .slice a list.length c, .slice a' keys.length c', .int .i64 z] 27)) w.heap.size (.int .i64 k) (.string t) (.int .u64 u) (.slice a list.length c) (.slice a' keys.length c') (.int .i64 z) := h1
      have hb1 := sbelow_new w (.cells #[.int .i64 k, .string t, .int .u64 u, .slice a list.length c, .slice a' keys.length c', .int .i64 z] 27)
      generalize hw1 : w.alloc (.cells #[.int .i64 k, .string t, .int .u64 u, .slice a list.length c, .slice a' keys.length c', .int .i64 z] 27) = w1 at *
      have hz1' : w1.heap.size = w.heap.size + 1 := by rw [← hw1, World.size_alloc]
      have hR1 : SixR (w1.alloc (.cells #[.int .i64 0, .string ⟨#[]⟩, .int .u64 0, .slice none 0 0, .slice none 0 0, .int .i64 0] 34)) (w.heap.size + 1) (.int .i64 0) (.string ⟨#[]⟩) (.int .u64 0) (.slice none 0 0) (.slice none 0 0) (.int .i64 0) := by
        have := heap_alloc_new w1 (.cells #[.int .i64 0, .string ⟨#[]⟩, .int .u64 0, .slice none 0 0, .slice none 0 0, .int .i64 0] 34)
        rwa [hz1'] at this
      have hb2 := sbelow_new w1 (.cells #[.int .i64 0, .string ⟨#[]⟩, .int .u64 0, .slice none 0 0, .slice none 0 0, .int .i64 0] 34)
      have hS2 := hS1.step hb2
      have hz2' : (w1.alloc (.cells #[.int .i64 0, .string ⟨#[]⟩, .int .u64 0, .slice none 0 0, .slice none 0 0, .int .i64 0] 34)).heap.size = w.heap.size + 2 := by rw [World.size_alloc, hz1']
      have hB2 := hb1.trans (hb2.mono hb1.size)
      generalize hw2 : w1.alloc (.cells #[.int .i64 0, .string ⟨#[]⟩, .int .u64 0, .slice none 0 0, .slice none 0 0, .int .i64 0] 34) = w2 at *
      have hO3 : SixR (w2.alloc (.cells #[.int .i64 k, .string t, .int .u64 u, .slice none 0 0, .slice none 0 0, .int .i64 z] 34)) (w.heap.size + 2) (.int .i64 k) (.string t) (.int .u64 u) (.slice none 0 0) (.slice none 0 0) (.int .i64 z) := by
        have := heap_alloc_new w2 (.cells #[.int .i64 k, .string t, .int .u64 u, .slice none 0 0, .slice none 0 0, .int .i64 z] 34)
        rwa [hz2'] at this
      have hb3 := sbelow_new w2 (.cells #[.int .i64 k, .string t, .int .u64 u, .slice none 0 0, .slice none 0 0, .int .i64 z] 34)
      have hS3 := hS2.step hb3
      have hR3 := hR1.step hb3
      have hz3' : (w2.alloc (.cells #[.int .i64 k, .string t, .int .u64 u, .slice none 0 0, .slice none 0 0, .int .i64 z] 34)).heap.size = w.heap.size + 3 := by rw [World.size_alloc, hz2']
      have hB3 := hB2.trans (hb3.mono hB2.size)
      generalize hw3 : w2.alloc (.cells #[.int .i64 k, .string t, .int .u64 u, .slice none 0 0, .slice none 0 0, .int .i64 z] 34) = w3 at *
      obtain ⟨p0, p1, p2, p3, p4, p5⟩ := hS2.cells
      obtain ⟨-, -, -, -, q4, -⟩ := hS3.cells
      obtain ⟨-, -, -, -, r4, -⟩ := hO3.cells
      have rf := hO3.fz 4
      have HS3 := Lib.hid hS3
      have HR3 := Lib.hid hR3
      have HO3 := Lib.hid hO3
      have HB3 := Lib.hid hB3
      have HZ3 := Lib.hid hz3'
      have hKl : keys.length ≤ 1000000 := HKL.out.1
      have hK3 := HK.out.move (P' := P) hB3.size (fun q hq hlt => ⟨hq, hB3.block q hlt⟩)
      have HK3 := Lib.hid hK3
      have hs1 : w1.heap.size = w.heap.size + 1 := hz1'
      have hs2 : w2.heap.size = w.heap.size + 2 := hz2'
      clear hS1 hS2 hS3 hR1 hR3 hO3 hb1 hb2 hb3 hB2 hB3 h1 hK3
      go_enter Tryz.func11, Tryz.ntmps11
      go_wp2_with (at_builtin; refine wpList_append_keys (P := P) _ rfl _ _ rfl (w.heap.size + 3) (.slice none 0 0) 0 [] rfl (World.ownsRow_nil _ _ _ _) _ keys rfl HK3.out ?bound ?base ?main)
      case bound => omega
      case base => rw [HZ3.out]; exact Nat.le_refl _
      intro vK wK hownK hgrowK
      have hbK : Below w3.heap.size w3 wK := ⟨hgrowK.os, hgrowK.tape, hgrowK.output, hgrowK.size, fun q hq => hgrowK.block q hq (fun e => by cases e)⟩
      have hlK := hownK.lt
      have hKc : RowIn (Kept w.heap.size (.slice none 0 0)) (wK.setCell ⟨w.heap.size + 2, 4, none⟩ vK) vK keys.length (keys.map Value.string) :=
        RowIn.of_own' (ownsRow_keeps hownK (D := (· = w.heap.size + 2)) (Keeps.setCell (D := (· = w.heap.size + 2)) (Keeps.refl _ _) (q := ⟨w.heap.size + 2, 4, none⟩) (.inr rfl) _) (fun q e h => by have := (hlK q e).1; omega)) (fun q e => ⟨(hlK q e).1, fun h => by cases h⟩)
      have H0 : Hid (TcpSt w k t u z (.slice a list.length c) (.slice a' keys.length c') keys [] (.slice none 0 0) vK [] (wK.setCell ⟨w.heap.size + 2, 4, none⟩ vK)) := Lib.hid
        ⟨(HS3.out.step hbK).far (by show w.heap.size ≠ w.heap.size + 2; omega) _, (HR3.out.step hbK).far (by show w.heap.size + 1 ≠ w.heap.size + 2; omega) _, (HO3.out.step hbK).put4 _, World.ownsRow_nil _ _ _ _, ValsC.nil, hKc,
          (HB3.out.trans (hbK.mono HB3.out.size)).setCell (p := ⟨w.heap.size + 2, 4, none⟩) (by show w.heap.size ≤ w.heap.size + 2; omega) _⟩
      obtain ⟨aK, cK, rfl⟩ := hKc.form
      have d4 : wK.cell? ⟨w.heap.size + 2, 4, none⟩ = some (.slice none 0 0) := ((HO3.out.step hbK).cells).2.2.2.2.1
      have df : wK.frozen? ⟨w.heap.size + 2, 4, none⟩ = false := (HO3.out.step hbK).fz 4
      have p3K : wK.cell? ⟨w.heap.size, 3, none⟩ = some (.slice a list.length c) := ((HS3.out.step hbK).cells).2.2.2.1
      clear hownK hgrowK hbK hlK hKc p0 p1 p2 p3 p4 p5 q4 r4 rf hw1 hw2 hw3 hz1' hz2' hz3' hs1 hs2
      go_wp2_with fail
      generalize wK.setCell ⟨w.heap.size + 2, 4, none⟩ (.slice aK keys.length cK) = w4 at *
      clear d4 df p3K HS3 HR3 HO3 HB3 HZ3 HK3
      go_loopg [24] list.length (fun g v wr => ∃ (i : Nat) (vL vK : Value) (ys : List Value), i ≤ list.length ∧ g = list.length - i ∧ v = .int .i64 i ∧ TcpSt w k t u z (.slice a list.length c) (.slice a' keys.length c') keys (list.take i) vL vK ys wr)
      case atStart => exact ⟨0, _, _, _, Nat.zero_le _, by omega, rfl, by rw [List.take_zero]; exact H0.out⟩
      case round =>
        obtain ⟨i, vL, vK, ys, hi', hgk, rfl, hst⟩ := hrel
        have HST := Lib.hid hst
        by_cases hlt : i < list.length
        · obtain ⟨x, hx⟩ : ∃ x, list[i]? = some x := ⟨_, List.getElem?_eq_getElem hlt⟩
          have hle := lsize_le (l := list) (i + 1)
          have htk := lsize_take hx
          have hsx : SizeOf.sizeOf x < m := by have := sizeOf_mem hx; have := HX.out; omega
          have hkx := keysOkL_at HKL.out.2 hx
          have hcx := cleanL_at HCL.out hx
          have hvsz : vsize x ≤ 1000000000 := by have := HLL.out; omega
          have htake : list.take (i + 1) = list.take i ++ [x] := by rw [List.take_add_one, hx]; rfl
          have hlen : (list.take i).length = i := by rw [List.length_take]; omega
          obtain ⟨b1, o1, k6, t6, n6, a6, l6, c6, a7, l7, c7, z7, rfl, hvx, hE1⟩ := el_at HROW.out HVS.out hx hst.below
          have HC := Lib.hid (fun W (hb : Below w.heap.size w W) => IH.out x hsx hvsz hkx hcx W _ _ _ _ _ _ _ _ _ _ (hvx.step hb))
          have hb5 := sbelow_new wr (.cells #[.int .i64 k6, .string t6, .int .u64 n6, .slice a6 l6 c6, .slice a7 l7 c7, .int .i64 z7] 27)
          have hst5 := hst.step hb5
          have hq5 : wr.heap.size < (wr.alloc (.cells #[.int .i64 k6, .string t6, .int .u64 n6, .slice a6 l6 c6, .slice a7 l7 c7, .int .i64 z7] 27)).heap.size := by simp
          have hS5 : SixAt (wr.alloc (.cells #[.int .i64 k6, .string t6, .int .u64 n6, .slice a6 l6 c6, .slice a7 l7 c7, .int .i64 z7] 27)) wr.heap.size (.int .i64 k6) (.string t6) (.int .u64 n6) (.slice a6 l6 c6) (.slice a7 l7 c7) (.int .i64 z7) := heap_alloc_new _ _
          have hvl : ∀ q, vL.ownBlock = some q → q < wr.heap.size := fun q e => (hst.own.lt q e).2
          obtain ⟨va, vc, rfl⟩ := hst.list
          rw [hlen] at *
          obtain ⟨-, g0, g1, g2, g3, g4, g5⟩ := hE1
          clear hx hle htk hsx hkx hcx hvsz hvx hst hb5
          go_wp2_with fail
          generalize wr.alloc (.cells #[.int .i64 k6, .string t6, .int .u64 n6, .slice a6 l6 c6, .slice a7 l7 c7, .int .i64 z7] 27) = w5 at *
          have hd5 := hst5.step (Below.refl w5.heap.size w5).drew
          have hBW := hd5.below
          refine region_T (fun W' : World => W'.cell? ⟨w.heap.size + 2, 3, none⟩ = some (.slice va i vc) ∧ SixAt W' wr.heap.size (.int .i64 k6) (.string t6) (.int .u64 n6) (.slice a6 l6 c6) (.slice a7 l7 c7) (.int .i64 z7)) 5 (by kernel_rfl) ?_
          have hS0 : (fun W' : World => W'.cell? ⟨w.heap.size + 2, 3, none⟩ = some (.slice va i vc) ∧ SixAt W' wr.heap.size (.int .i64 k6) (.string t6) (.int .u64 n6) (.slice a6 l6 c6) (.slice a7 l7 c7) (.int .i64 z7)) w5.drew := ⟨hd5.out.cells.2.2.2.1, hS5.step (Below.refl w5.heap.size w5).drew⟩
          refine wpT_take (i := 0) (v := .pointer (some ⟨w.heap.size + 2, 3, none⟩)) rfl (by kernel_rfl) (by kernel_rfl) (by kernel_rfl) (by kernel_rfl) (by kernel_rfl) (by kernel_rfl) (by kernel_rfl) (by kernel_rfl) (fun _ _ _ h => h) (Or.inl ⟨by rfl, ?_⟩) hS0 ?_
          · rintro w' -
            go_simp
          try simp only [Act.put]
          refine wpT_take (i := 1) (v := .slice va i vc) rfl (by kernel_rfl) (by kernel_rfl) (by kernel_rfl) (by kernel_rfl) (by kernel_rfl) (by kernel_rfl) (by kernel_rfl) (by kernel_rfl) (fun _ _ _ h => h) (Or.inl ⟨by rfl, ?_⟩) hS0 ?_
          · rintro w' ⟨s0, -⟩
            go_simp
          try simp only [Act.put]
          refine wpT_take (i := 2) (v := .agg #[.int .i64 k6, .string t6, .int .u64 n6, .slice a6 l6 c6, .slice a7 l7 c7, .int .i64 z7]) rfl (by kernel_rfl) (by kernel_rfl) (by kernel_rfl) (by kernel_rfl) (by kernel_rfl) (by kernel_rfl) (by kernel_rfl) (by kernel_rfl) (fun _ _ _ h => h) (Or.inl ⟨by rfl, ?_⟩) hS0 ?_
          · rintro w' ⟨-, s1⟩
            obtain ⟨y0, y1, y2, y3, y4, y5⟩ := s1.cells
            go_simp
          try simp only [Act.put]
          refine wpT_one (i := 3) (by kernel_rfl) rfl ?_
          intro KK hKK
          go_simp
          refine (HC.out _ hBW).mono ?_
          rintro e w6 ⟨aa, la, ca, ab, lb, cb, rfl, hvx6, b6⟩
          have hst6 := hd5.step b6
          have hS6 : (fun W' : World => W'.cell? ⟨w.heap.size + 2, 3, none⟩ = some (.slice va i vc) ∧ SixAt W' wr.heap.size (.int .i64 k6) (.string t6) (.int .u64 n6) (.slice a6 l6 c6) (.slice a7 l7 c7) (.int .i64 z7)) w6 := ⟨hst6.out.cells.2.2.2.1, hS0.2.step b6⟩
          refine hKK _ _ ⟨fun _ => hS6, ?_⟩
          clear hKK
          try simp only [Act.put]
          have hb7 := sbelow_new w6 (.cells #[.int .i64 k6, .string t6, .int .u64 n6, .slice aa la ca, .slice ab lb cb, .int .i64 z7] 34)
          have hst7 := hst6.step hb7
          have hvx7 := hvx6.step hb7
          have hN7 := heap_alloc_new w6 (.cells #[.int .i64 k6, .string t6, .int .u64 n6, .slice aa la ca, .slice ab lb cb, .int .i64 z7] 34)
          have hS7 : (fun W' : World => W'.cell? ⟨w.heap.size + 2, 3, none⟩ = some (.slice va i vc) ∧ SixAt W' wr.heap.size (.int .i64 k6) (.string t6) (.int .u64 n6) (.slice a6 l6 c6) (.slice a7 l7 c7) (.int .i64 z7)) (w6.alloc (.cells #[.int .i64 k6, .string t6, .int .u64 n6, .slice aa la ca, .slice ab lb cb, .int .i64 z7] 34)) := ⟨hst7.out.cells.2.2.2.1, hS6.2.step hb7⟩
          have hz6 : w.heap.size + 3 ≤ (w6.alloc (.cells #[.int .i64 k6, .string t6, .int .u64 n6, .slice aa la ca, .slice ab lb cb, .int .i64 z7] 34)).heap.size := hst7.out.lt
          refine wpT_one (i := 4) (by kernel_rfl) rfl ?_
          intro KK hKK
          go_simp
          refine hKK _ _ ⟨fun _ => hS7, ?_⟩
          clear hKK hS0
          try simp only [Act.put]
          refine wpT_tail 5 3 rfl rfl (by kernel_rfl) (by kernel_rfl) ?_
          have hown7 := hst7.own
          rw [show (list.take i).length = i by rw [List.length_take]; omega] at hown7
          have hil : i ≤ 1000000000 := by have := length_le_lsize list; have := HLL.out; omega
          simp only [List.drop_succ_cons, List.drop_zero]
          refine wpList_append_lies _ rfl _ _ 32 rfl (w.heap.size + 3) 34 i0 (.agg #[.int .i64 0, .string ⟨#[]⟩, .int .u64 0, .slice none 0 0, .slice none 0 0, .int .i64 0]) 6 88 Tryz.underlying32 hi hz0 hz1 hz2 rfl (by decide) _ _ _ rfl hown7 ⟨w6.heap.size, 0, none⟩ 1 1 [.int .i64 k6, .string t6, .int .u64 n6, .slice aa la ca, .slice ab lb cb, .int .i64 z7] rfl rfl (World.news_of_block hN7) ?ones (by decide) ?len ?bytes hz6 _ rfl ?main6
          case ones => intro y hy; simp only [List.mem_cons, List.not_mem_nil, or_false] at hy; rcases hy with rfl | rfl | rfl | rfl | rfl | rfl <;> rfl
          case len => unfold maxLen; omega
          case bytes => omega
          intro g cap w8 hown8 hgrow8 hat8 hlt8
          have hst8 := hst7.push (n := i) (by rw [List.length_take]; omega) hvx7 hst5.lt3 (fun q e => Nat.lt_trans (hvl q e) hq5) hown8 hgrow8 hat8
          have hrow : (Value.slice va i vc).ownBlock ≠ some (w.heap.size + 2) := fun e => by have := (hown7.lt _ e).1; omega
          have d3 := (hst7.out.grown hgrow8 hrow).cells.2.2.2.1
          have df := (hst7.out.grown hgrow8 hrow).fz 3
          clear hown8 hgrow8 hat8 hlt8 hst7 hst6 hd5 hst5 hvx7 hvx6 hS7 hS6 hS5 hN7 hown7 hb7 hrow
          have HST8 := Lib.hid hst8
          clear hst8
          go_wp2_with fail
          go_roundg (list.length - (i + 1))
          case measure => omega
          case rel => exact ⟨i + 1, _, _, _, by omega, rfl, rfl, by rw [htake]; exact HST8.out⟩
        · obtain rfl : i = list.length := by omega
          rw [List.take_length] at hst
          obtain ⟨va, vc, rfl⟩ := hst.list
          obtain ⟨s0, s1, s2, s3, s4, s5⟩ := hst.out.cells
          obtain ⟨r0, r1, r2, r3, r4, r5⟩ := hst.res.cells
          have rf := hst.res.fz
          obtain ⟨q0, q1, q2, q3, q4, q5⟩ := (hst.res.set6 (.int .i64 k) (.string t) (.int .u64 u) (.slice va list.length vc) vK (.int .i64 z)).cells
          have hbl : Below w.heap.size w (set6 wr (w.heap.size + 1) 0 (.int .i64 k) (.string t) (.int .u64 u) (.slice va list.length vc) vK (.int .i64 z)) := by
            unfold set6
            exact (((((hst.below.setCell (p := ⟨w.heap.size + 1, 0, none⟩) (Nat.le_succ _) _).setCell (p := ⟨w.heap.size + 1, 0 + 1, none⟩) (Nat.le_succ _) _).setCell (p := ⟨w.heap.size + 1, 0 + 2, none⟩) (Nat.le_succ _) _).setCell (p := ⟨w.heap.size + 1, 0 + 3, none⟩) (Nat.le_succ _) _).setCell (p := ⟨w.heap.size + 1, 0 + 4, none⟩) (Nat.le_succ _) _).setCell (p := ⟨w.heap.size + 1, 0 + 5, none⟩) (Nat.le_succ _) _
          have hk6 : Keeps (· = w.heap.size + 1) wr (set6 wr (w.heap.size + 1) 0 (.int .i64 k) (.string t) (.int .u64 u) (.slice va list.length vc) vK (.int .i64 z)) := by
            exact keeps_set6 wr (w.heap.size + 1) 0 _ _ _ _ _ _
          have hmv : ∀ q, Kept w.heap.size (.slice va list.length vc) q → q < wr.heap.size → w.heap.size ≤ q ∧ (set6 wr (w.heap.size + 1) 0 (.int .i64 k) (.string t) (.int .u64 u) (.slice va list.length vc) vK (.int .i64 z)).heap[q]? = wr.heap[q]? :=
            fun q hq hlt => ⟨by have := hq.1; omega, hk6.block q hlt (by have := hq.1; omega)⟩
          have hown9 := ownsRow_keeps hst.own hk6 (fun q e => by have := (hst.own.lt q e).1; omega)
          have hval : ValC (fun q => w.heap.size ≤ q) (set6 wr (w.heap.size + 1) 0 (.int .i64 k) (.string t) (.int .u64 u) (.slice va list.length vc) vK (.int .i64 z)) [.int .i64 k, .string t, .int .u64 u, .slice va list.length vc, vK, .int .i64 z] (.mk k t u list keys z) := by
            unfold ValC
            exact ⟨_, _, ys, rfl, hst.keys.move hk6.size hmv, RowIn.of_own' hown9 (fun q e => by have := (hst.own.lt q e).1; omega), hst.vals.move hk6.size hmv⟩
          obtain ⟨ak, ck, rfl⟩ := hst.keys.form
          have HVAL := Lib.hid hval
          have HBL := Lib.hid hbl
          clear hval hbl hk6 hmv hown9 hst
          have rf0 := rf 0
          have rf1 := rf 1
          have rf2 := rf 2
          have rf3 := rf 3
          have rf4 := rf 4
          have rf5 := rf 5
          clear rf
          go_wp2_with fail
          unfold set6 at q0 q1 q2 q3 q4 q5 HVAL HBL
          exact bodyPost_ret (v := .agg #[.int .i64 k, .string t, .int .u64 u, .slice va list.length vc, .slice ak keys.length ck, .int .i64 z]) (by simp [results, Tryz.results11, go_sem, q0, q1, q2, q3, q4, q5]) rfl ⟨_, _, _, _, _, _, rfl, HVAL.out, HBL.out⟩
end Go.Proofs.YtajmlkephefapaaGreatDoor
