/-
  The document's 'the same' of two values, places aside, by contract.
  The document's 'the same' of two values, places too, by contract.
-/
import Derived.Test.YtajmlkephefapaaGreatDoorGtq
namespace Go.Proofs.YtajmlkephefapaaGreatDoor
open Go.RowKit Go.Extern.Stop Go.Stop Go.Extern Go.WideMaps

theorem Six.box {w : World} {b : Nat} {c0 c1 c2 c3 c4 c5 : Value} (h : Six w b 0 c0 c1 c2 c3 c4 c5) : w.cell? ⟨b, 0, none⟩ = some c0 ∧ w.cell? ⟨b, 1, none⟩ = some c1 ∧ w.cell? ⟨b, 2, none⟩ = some c2 ∧ w.cell? ⟨b, 3, none⟩ = some c3 ∧ w.cell? ⟨b, 4, none⟩ = some c4 ∧ w.cell? ⟨b, 5, none⟩ = some c5 :=
  ⟨h.2.1, h.2.2.1, h.2.2.2.1, h.2.2.2.2.1, h.2.2.2.2.2.1, h.2.2.2.2.2.2⟩
/-- On the way in a round: both elements, and both rows' heads. -/
structure ElSt (w0 : World) (b1 o1 : Nat) (x0 x1 x2 x3 x4 x5 : Value) (b2 o2 : Nat) (y0 y1 y2 y3 y4 y5 r1 r2 : Value) (w : World) : Prop where
  e1 : Six w b1 o1 x0 x1 x2 x3 x4 x5
  e2 : Six w b2 o2 y0 y1 y2 y3 y4 y5
  h1 : w.cell? ⟨w0.heap.size, 3, none⟩ = some r1
  h2 : w.cell? ⟨w0.heap.size + 1, 3, none⟩ = some r2
  l1 : w0.heap.size < w.heap.size
  l2 : w0.heap.size + 1 < w.heap.size
theorem ElSt.step {w0 : World} {b1 o1 : Nat} {x0 x1 x2 x3 x4 x5 : Value} {b2 o2 : Nat} {y0 y1 y2 y3 y4 y5 r1 r2 : Value} {w w' : World} (h : ElSt w0 b1 o1 x0 x1 x2 x3 x4 x5 b2 o2 y0 y1 y2 y3 y4 y5 r1 r2 w) (hb : Below w.heap.size w w') :
    ElSt w0 b1 o1 x0 x1 x2 x3 x4 x5 b2 o2 y0 y1 y2 y3 y4 y5 r1 r2 w' :=
  ⟨h.e1.step hb, h.e2.step hb, (hb.cell (p := ⟨w0.heap.size, 3, none⟩) h.l1).trans h.h1, (hb.cell (p := ⟨w0.heap.size + 1, 3, none⟩) h.l2).trans h.h2, Nat.lt_of_lt_of_le h.l1 hb.size, Nat.lt_of_lt_of_le h.l2 hb.size⟩
theorem ElSt.cells {w0 : World} {b1 o1 : Nat} {x0 x1 x2 x3 x4 x5 : Value} {b2 o2 : Nat} {y0 y1 y2 y3 y4 y5 r1 r2 : Value} {w : World} (h : ElSt w0 b1 o1 x0 x1 x2 x3 x4 x5 b2 o2 y0 y1 y2 y3 y4 y5 r1 r2 w) :
    w.cell? ⟨w0.heap.size, 3, none⟩ = some r1 ∧ w.cell? ⟨w0.heap.size + 1, 3, none⟩ = some r2 ∧ w.cell? ⟨b1, o1, none⟩ = some x0 ∧ w.cell? ⟨b1, o1 + 1, none⟩ = some x1 ∧ w.cell? ⟨b1, o1 + 2, none⟩ = some x2 ∧ w.cell? ⟨b1, o1 + 3, none⟩ = some x3 ∧ w.cell? ⟨b1, o1 + 4, none⟩ = some x4 ∧ w.cell? ⟨b1, o1 + 5, none⟩ = some x5 ∧ w.cell? ⟨b2, o2, none⟩ = some y0 ∧ w.cell? ⟨b2, o2 + 1, none⟩ = some y1 ∧ w.cell? ⟨b2, o2 + 2, none⟩ = some y2 ∧ w.cell? ⟨b2, o2 + 3, none⟩ = some y3 ∧ w.cell? ⟨b2, o2 + 4, none⟩ = some y4 ∧ w.cell? ⟨b2, o2 + 5, none⟩ = some y5 := by
  obtain ⟨⟨-, g0, g1, g2, g3, g4, g5⟩, ⟨-, k0, k1, k2, k3, k4, k5⟩, h1, h2, -, -⟩ := h
  exact ⟨h1, h2, g0, g1, g2, g3, g4, g5, k0, k1, k2, k3, k4, k5⟩
set_option maxRecDepth 100000 in
set_option maxHeartbeats 8000000 in
theorem same5_go (P P' : Nat → Prop) (n : Nat) : ∀ (m : Nat) (x : Val), SizeOf.sizeOf x < m → vsize x ≤ 1000000000 → keysOk x → ∀ (w : World) (k : Int) (t : ByteArray) (u : Int) (a : Option Addr) (l c : Nat) (a' : Option Addr) (l' c' : Nat) (z : Int)
    (k4 : Int) (t4 : ByteArray) (u4 : Int) (a4 : Option Addr) (l4 c4 : Nat) (a5 : Option Addr) (l5 c5 : Nat) (z4 : Int),
    ValC P w [.int .i64 k, .string t, .int .u64 u, .slice a l c, .slice a' l' c', .int .i64 z] x → ValC P' w [.int .i64 k4, .string t4, .int .u64 u4, .slice a4 l4 c4, .slice a5 l5 c5, .int .i64 z4] (farV n x) →
    Calls Tryz.prog 10 #[.agg #[.int .i64 k, .string t, .int .u64 u, .slice a l c, .slice a' l' c', .int .i64 z], .agg #[.int .i64 k4, .string t4, .int .u64 u4, .slice a4 l4 c4, .slice a5 l5 c5, .int .i64 z4], .bool false] w fun e w' => e = .returned (.bool true) ∧ Below w.heap.size w w' := by
  intro m
  induction m with
  | zero => intro x hx; exact absurd hx (Nat.not_lt_zero _)
  | succ m ih =>
    intro x hx hsz hko w k t u a l c a' l' c' z k4 t4 u4 a4 l4 c4 a5 l5 c5 z4 hv hy
    have IH := Lib.hid ih
    clear ih
    cases x with
    | mk k1 t1 n1 list keys z1 =>
      rw [farV] at hy
      rw [keysOk] at hko
      unfold ValC at hv hy
      obtain ⟨sl, sk', xs, e, hk, hl, hvs⟩ := hv
      obtain ⟨sl2, sk2, xs2, e2, hk2, hl2, hvs2⟩ := hy
      simp only [List.cons.injEq, Value.int.injEq, Value.string.injEq, true_and, and_true] at e e2
      obtain ⟨rfl, rfl, rfl, rfl, rfl, rfl⟩ := e
      obtain ⟨rfl, rfl, rfl, rfl, rfl, rfl⟩ := e2
      have HROW := Lib.hid hl
      have HVS := Lib.hid hvs
      have HROW2 := Lib.hid hl2
      have HVS2 := Lib.hid hvs2
      have HK := Lib.hid hk
      have HK2 := Lib.hid hk2
      obtain ⟨_, _, es⟩ := hl.form
      simp only [Value.slice.injEq] at es
      obtain ⟨-, el, -⟩ := es
      subst el
      obtain ⟨_, _, es⟩ := hl2.form
      simp only [Value.slice.injEq] at es
      obtain ⟨-, el, -⟩ := es
      rw [farL_len] at el
      subst el
      obtain ⟨_, _, es⟩ := hk.form
      simp only [Value.slice.injEq] at es
      obtain ⟨-, el, -⟩ := es
      subst el
      obtain ⟨_, _, es⟩ := hk2.form
      simp only [Value.slice.injEq] at es
      obtain ⟨-, el, -⟩ := es
      subst el
      clear hk hl hvs hk2 hl2 hvs2
      simp only [Val.mk.sizeOf_spec] at hx
      have HX := Lib.hid hx
      have H0 := Lib.hid (TwoV.start w 34 (.int .i64 k4) (.string t4) (.int .u64 u4) (.slice a list.length c) (.slice a' keys.length c') (.int .i64 z) (.int .i64 k4) (.string t4) (.int .u64 u4) (.slice a4 list.length c4) (.slice a5 keys.length c5) (.int .i64 (z + n)))
      have HSZ : Hid (k4 = 5 ∨ k4 = 6 → lsize list + 1 ≤ 1000000000) := Lib.hid (fun h => by unfold vsize at hsz; rw [if_pos h] at hsz; omega)
      have HKO := Lib.hid hko
      clear hx hsz hko
      obtain ⟨p0, p1, p2, p3, p4, p5⟩ := H0.out.sa.box
      obtain ⟨q0, q1, q2, q3, q4, q5⟩ := H0.out.sb.box
      by_cases h3 : k4 = 3
      · subst h3
        go_enter Tryz.func10, Tryz.ntmps10
        go_wp2_with fail
        go_ret
        exact ⟨rfl, H0.out.below⟩
      by_cases h4 : k4 = 4
      · subst h4
        clear h3
        go_enter Tryz.func10, Tryz.ntmps10
        go_wp2_with fail
        go_ret
        exact ⟨rfl, H0.out.below⟩
      by_cases h5 : k4 = 5
      · subst h5
        clear h3 h4
        rw [farL_len] at HROW2
        have HROW2 : Hid (RowIn P' w (.slice a4 list.length c4) (farL n list).length xs2) := Lib.hid (by rw [farL_len]; exact HROW2.out)
        go_enter Tryz.func10, Tryz.ntmps10
        go_wp2_with fail
        generalize hW0 : ((w.alloc _).alloc _) = W0 at *
        clear hW0
        go_wp2_with fail
        go_loopg [86] list.length (fun g v wr => RunTo W0 list.length g v wr)
        case atStart => exact ⟨0, Nat.zero_le _, by omega, rfl, Below.refl _ _⟩
        case round =>
          obtain ⟨i, hi, hgk, rfl, hbel⟩ := hrel
          have hSi := H0.out.step hbel
          obtain ⟨-, -, -, p3, -, -⟩ := hSi.sa.box
          obtain ⟨-, -, -, q3, -, -⟩ := hSi.sb.box
          by_cases hlt : i < list.length
          · obtain ⟨x, hx⟩ : ∃ x, list[i]? = some x := ⟨_, List.getElem?_eq_getElem hlt⟩
            have hx2 := farL_at n hx
            have hle := lsize_le (l := list) (i + 1)
            have hst := lsize_take hx
            have hsx : SizeOf.sizeOf x < m := by have := sizeOf_mem hx; have := HX.out; omega
            have hkx := keysOkL_at HKO.out.2 hx
            have hvsz : vsize x ≤ 1000000000 := by have := HSZ.out (by simp); omega
            obtain ⟨b1, o1, k6, t6, n6, a6, l6, c6, a7, l7, c7, z7, rfl, hvx, hE1⟩ := el_at HROW.out HVS.out hx hSi.below
            have hrow2 := HROW2.out
            obtain ⟨b2, o2, k8, t8, n8, a8, l8, c8, a9, l9, c9, z9, rfl, hvy, hE2⟩ := el_at hrow2 HVS2.out hx2 hSi.below
            have HC := Lib.hid (fun W (hb : Below w.heap.size w W) => IH.out x hsx hvsz hkx W _ _ _ _ _ _ _ _ _ _ _ _ _ _ _ _ _ _ _ _ (hvx.step hb) (hvy.step hb))
            have hSi2 := hSi.step (Below.refl _ _).drew
            have hI : ElSt w b1 (o1 + i * 6) (.int .i64 k6) (.string t6) (.int .u64 n6) (.slice a6 l6 c6) (.slice a7 l7 c7) (.int .i64 z7) b2 (o2 + i * 6) (.int .i64 k8) (.string t8) (.int .u64 n8) (.slice a8 l8 c8) (.slice a9 l9 c9) (.int .i64 z9)
                (.slice (some ⟨b1, o1, none⟩) list.length c) (.slice (some ⟨b2, o2, none⟩) list.length c4) wr := ⟨hE1, hE2, hSi.sa.2.2.2.2.1, hSi.sb.2.2.2.2.1, hSi.sa.1, hSi.sb.1⟩
            replace hI := hI.step (Below.refl _ _).drew
            have hBW := hSi2.below
            have hBel := hbel.trans ((Below.refl wr.heap.size wr).drew.mono hbel.size)
            clear hx hx2 hle hst hsx hvsz hkx hvx hvy hE1 hE2 hrow2 hSi2 hSi hbel p3 q3
            go_wp2_with fail
            have kk := hI.cells
            go_region_held3 (fun W => W.cell? ⟨w.heap.size, 3, none⟩ = some (.slice (some ⟨b1, o1, none⟩) list.length c) ∧ W.cell? ⟨w.heap.size + 1, 3, none⟩ = some (.slice (some ⟨b2, o2, none⟩) list.length c4) ∧ W.cell? ⟨b1, o1 + i * 6, none⟩ = some (.int .i64 k6) ∧ W.cell? ⟨b1, o1 + i * 6 + 1, none⟩ = some (.string t6) ∧ W.cell? ⟨b1, o1 + i * 6 + 2, none⟩ = some (.int .u64 n6) ∧ W.cell? ⟨b1, o1 + i * 6 + 3, none⟩ = some (.slice a6 l6 c6) ∧ W.cell? ⟨b1, o1 + i * 6 + 4, none⟩ = some (.slice a7 l7 c7) ∧ W.cell? ⟨b1, o1 + i * 6 + 5, none⟩ = some (.int .i64 z7) ∧ W.cell? ⟨b2, o2 + i * 6, none⟩ = some (.int .i64 k8) ∧ W.cell? ⟨b2, o2 + i * 6 + 1, none⟩ = some (.string t8) ∧ W.cell? ⟨b2, o2 + i * 6 + 2, none⟩ = some (.int .u64 n8) ∧ W.cell? ⟨b2, o2 + i * 6 + 3, none⟩ = some (.slice a8 l8 c8) ∧ W.cell? ⟨b2, o2 + i * 6 + 4, none⟩ = some (.slice a9 l9 c9) ∧ W.cell? ⟨b2, o2 + i * 6 + 5, none⟩ = some (.int .i64 z9))
              (first | exact kk | exact hI.cells)
              ((go_at_call 10; refine (HC.out _ hBW).mono ?_; rintro e w4 ⟨rfl, b4⟩; replace hI := hI.step b4; replace hBW := hBW.trans (b4.mono hBW.size); replace hBel := hBel.trans (b4.mono hBel.size); clear b4))
            go_wp2_with fail
            go_roundg (list.length - (i + 1))
            case measure => omega
            case rel => exact ⟨i + 1, by omega, rfl, by rw [w64 _ (by have := length_le_lsize list; have := HSZ.out (by simp); omega)]; rfl, hBel⟩
          · obtain rfl : i = list.length := by omega
            go_wp2_with fail
            go_ret
            exact ⟨rfl, hSi.below⟩
      by_cases h6 : k4 = 6
      · subst h6
        clear h3 h4 h5
        go_enter Tryz.func10, Tryz.ntmps10
        go_wp2_with fail
        generalize hW0 : ((w.alloc _).alloc _) = W0 at *
        clear hW0
        go_wp2_with fail
        go_loopg [68] keys.length (fun g v wr => RunTo W0 keys.length g v wr)
        case atStart => exact ⟨0, Nat.zero_le _, by omega, rfl, Below.refl _ _⟩
        case round =>
          obtain ⟨i, hi, hgk, rfl, hbel⟩ := hrel
          have hSi := H0.out.step hbel
          have HBel := Lib.hid hbel
          obtain ⟨-, -, -, p3, p4, -⟩ := hSi.sa.box
          obtain ⟨-, -, -, q3, q4, -⟩ := hSi.sb.box
          by_cases hlt : i < keys.length
          · obtain ⟨y, hy⟩ : ∃ y, keys[i]? = some y := ⟨_, List.getElem?_eq_getElem hlt⟩
            obtain ⟨b1, o1, rfl, e1⟩ := key_at HK.out hy hSi.below
            obtain ⟨b2, o2, rfl, e2⟩ := key_at HK2.out hy hSi.below
            clear hy hSi hbel p3 q3
            go_wp2_with fail
            go_quiet (fail)
            go_wp2_with fail
            go_roundg (keys.length - (i + 1))
            case measure => omega
            case rel => exact ⟨i + 1, by omega, rfl, by rw [w64 _ (by have := HKO.out.1; omega)]; rfl, HBel.out.trans ((below_dr5 wr nq).mono HBel.out.size)⟩
          · obtain rfl : i = keys.length := by omega
            have H1 := Lib.hid hSi
            clear H0 HBel hSi hbel p4 q4
            generalize wr = wr0 at *
            have H0 := H1
            clear H1
            go_wp2_with fail
            go_loopg [86] list.length (fun g v wr => RunTo wr0 list.length g v wr)
            case atStart => exact ⟨0, Nat.zero_le _, by omega, rfl, Below.refl _ _⟩
            case round =>
              obtain ⟨i, hi, hgk, rfl, hbel⟩ := hrel
              have hSi := H0.out.step hbel
              obtain ⟨-, -, -, p3, -, -⟩ := hSi.sa.box
              obtain ⟨-, -, -, q3, -, -⟩ := hSi.sb.box
              by_cases hlt : i < list.length
              · obtain ⟨x, hx⟩ : ∃ x, list[i]? = some x := ⟨_, List.getElem?_eq_getElem hlt⟩
                have hx2 := farL_at n hx
                have hle := lsize_le (l := list) (i + 1)
                have hst := lsize_take hx
                have hsx : SizeOf.sizeOf x < m := by have := sizeOf_mem hx; have := HX.out; omega
                have hkx := keysOkL_at HKO.out.2 hx
                have hvsz : vsize x ≤ 1000000000 := by have := HSZ.out (by simp); omega
                obtain ⟨b1, o1, k6, t6, n6, a6, l6, c6, a7, l7, c7, z7, rfl, hvx, hE1⟩ := el_at HROW.out HVS.out hx hSi.below
                have hrow2 := HROW2.out
                obtain ⟨b2, o2, k8, t8, n8, a8, l8, c8, a9, l9, c9, z9, rfl, hvy, hE2⟩ := el_at hrow2 HVS2.out hx2 hSi.below
                have HC := Lib.hid (fun W (hb : Below w.heap.size w W) => IH.out x hsx hvsz hkx W _ _ _ _ _ _ _ _ _ _ _ _ _ _ _ _ _ _ _ _ (hvx.step hb) (hvy.step hb))
                have hSi2 := hSi.step (Below.refl _ _).drew
                have hI : ElSt w b1 (o1 + i * 6) (.int .i64 k6) (.string t6) (.int .u64 n6) (.slice a6 l6 c6) (.slice a7 l7 c7) (.int .i64 z7) b2 (o2 + i * 6) (.int .i64 k8) (.string t8) (.int .u64 n8) (.slice a8 l8 c8) (.slice a9 l9 c9) (.int .i64 z9)
                    (.slice (some ⟨b1, o1, none⟩) list.length c) (.slice (some ⟨b2, o2, none⟩) list.length c4) wr := ⟨hE1, hE2, hSi.sa.2.2.2.2.1, hSi.sb.2.2.2.2.1, hSi.sa.1, hSi.sb.1⟩
                replace hI := hI.step (Below.refl _ _).drew
                have hBW := hSi2.below
                have hBel := hbel.trans ((Below.refl wr.heap.size wr).drew.mono hbel.size)
                clear hx hx2 hle hst hsx hvsz hkx hvx hvy hE1 hE2 hrow2 hSi2 hSi hbel p3 q3
                go_wp2_with fail
                have kk := hI.cells
                go_region_held3 (fun W => W.cell? ⟨w.heap.size, 3, none⟩ = some (.slice (some ⟨b1, o1, none⟩) list.length c) ∧ W.cell? ⟨w.heap.size + 1, 3, none⟩ = some (.slice (some ⟨b2, o2, none⟩) list.length c4) ∧ W.cell? ⟨b1, o1 + i * 6, none⟩ = some (.int .i64 k6) ∧ W.cell? ⟨b1, o1 + i * 6 + 1, none⟩ = some (.string t6) ∧ W.cell? ⟨b1, o1 + i * 6 + 2, none⟩ = some (.int .u64 n6) ∧ W.cell? ⟨b1, o1 + i * 6 + 3, none⟩ = some (.slice a6 l6 c6) ∧ W.cell? ⟨b1, o1 + i * 6 + 4, none⟩ = some (.slice a7 l7 c7) ∧ W.cell? ⟨b1, o1 + i * 6 + 5, none⟩ = some (.int .i64 z7) ∧ W.cell? ⟨b2, o2 + i * 6, none⟩ = some (.int .i64 k8) ∧ W.cell? ⟨b2, o2 + i * 6 + 1, none⟩ = some (.string t8) ∧ W.cell? ⟨b2, o2 + i * 6 + 2, none⟩ = some (.int .u64 n8) ∧ W.cell? ⟨b2, o2 + i * 6 + 3, none⟩ = some (.slice a8 l8 c8) ∧ W.cell? ⟨b2, o2 + i * 6 + 4, none⟩ = some (.slice a9 l9 c9) ∧ W.cell? ⟨b2, o2 + i * 6 + 5, none⟩ = some (.int .i64 z9))
                  (first | exact kk | exact hI.cells)
                  ((go_at_call 10; refine (HC.out _ hBW).mono ?_; rintro e w4 ⟨rfl, b4⟩; replace hI := hI.step b4; replace hBW := hBW.trans (b4.mono hBW.size); replace hBel := hBel.trans (b4.mono hBel.size); clear b4))
                go_wp2_with fail
                go_roundg (list.length - (i + 1))
                case measure => omega
                case rel => exact ⟨i + 1, by omega, rfl, by rw [w64 _ (by have := length_le_lsize list; have := HSZ.out (by simp); omega)]; rfl, hBel⟩
              · obtain rfl : i = list.length := by omega
                go_wp2_with fail
                go_ret
                exact ⟨rfl, hSi.below⟩
      have e5 : (k4 != 5) = true := bne_iff_ne.2 h5
      have e6 : (k4 != 6) = true := bne_iff_ne.2 h6
      go_enter Tryz.func10, Tryz.ntmps10
      go_wp2_with fail
      go_ret
      exact ⟨rfl, H0.out.below⟩
end Go.Proofs.YtajmlkephefapaaGreatDoor

namespace Go.Proofs.YtajmlkephefapaaGreatDoor
open Go.RowKit Go.Extern.Stop Go.Stop Go.Extern Go.WideMaps

set_option maxRecDepth 100000 in
set_option maxHeartbeats 8000000 in
theorem same5t_go (P P' : Nat → Prop) : ∀ (m : Nat) (x : Val), SizeOf.sizeOf x < m → vsize x ≤ 1000000000 → keysOk x → ∀ (w : World) (k : Int) (t : ByteArray) (u : Int) (a : Option Addr) (l c : Nat) (a' : Option Addr) (l' c' : Nat) (z : Int)
    (k4 : Int) (t4 : ByteArray) (u4 : Int) (a4 : Option Addr) (l4 c4 : Nat) (a5 : Option Addr) (l5 c5 : Nat) (z4 : Int),
    ValC P w [.int .i64 k, .string t, .int .u64 u, .slice a l c, .slice a' l' c', .int .i64 z] x → ValC P' w [.int .i64 k4, .string t4, .int .u64 u4, .slice a4 l4 c4, .slice a5 l5 c5, .int .i64 z4] x →
    Calls Tryz.prog 10 #[.agg #[.int .i64 k, .string t, .int .u64 u, .slice a l c, .slice a' l' c', .int .i64 z], .agg #[.int .i64 k4, .string t4, .int .u64 u4, .slice a4 l4 c4, .slice a5 l5 c5, .int .i64 z4], .bool true] w fun e w' => e = .returned (.bool true) ∧ Below w.heap.size w w' := by
  intro m
  induction m with
  | zero => intro x hx; exact absurd hx (Nat.not_lt_zero _)
  | succ m ih =>
    intro x hx hsz hko w k t u a l c a' l' c' z k4 t4 u4 a4 l4 c4 a5 l5 c5 z4 hv hy
    have IH := Lib.hid ih
    clear ih
    cases x with
    | mk k1 t1 n1 list keys z1 =>
      rw [keysOk] at hko
      unfold ValC at hv hy
      obtain ⟨sl, sk', xs, e, hk, hl, hvs⟩ := hv
      obtain ⟨sl2, sk2, xs2, e2, hk2, hl2, hvs2⟩ := hy
      simp only [List.cons.injEq, Value.int.injEq, Value.string.injEq, true_and, and_true] at e e2
      obtain ⟨rfl, rfl, rfl, rfl, rfl, rfl⟩ := e
      obtain ⟨rfl, rfl, rfl, rfl, rfl, rfl⟩ := e2
      have HROW := Lib.hid hl
      have HVS := Lib.hid hvs
      have HROW2 := Lib.hid hl2
      have HVS2 := Lib.hid hvs2
      have HK := Lib.hid hk
      have HK2 := Lib.hid hk2
      obtain ⟨_, _, es⟩ := hl.form
      simp only [Value.slice.injEq] at es
      obtain ⟨-, el, -⟩ := es
      subst el
      obtain ⟨_, _, es⟩ := hl2.form
      simp only [Value.slice.injEq] at es
      obtain ⟨-, el, -⟩ := es
      subst el
      obtain ⟨_, _, es⟩ := hk.form
      simp only [Value.slice.injEq] at es
      obtain ⟨-, el, -⟩ := es
      subst el
      obtain ⟨_, _, es⟩ := hk2.form
      simp only [Value.slice.injEq] at es
      obtain ⟨-, el, -⟩ := es
      subst el
      clear hk hl hvs hk2 hl2 hvs2
      simp only [Val.mk.sizeOf_spec] at hx
      have HX := Lib.hid hx
      have H0 := Lib.hid (TwoV.start w 34 (.int .i64 k4) (.string t4) (.int .u64 u4) (.slice a list.length c) (.slice a' keys.length c') (.int .i64 z4) (.int .i64 k4) (.string t4) (.int .u64 u4) (.slice a4 list.length c4) (.slice a5 keys.length c5) (.int .i64 z4))
      have HSZ : Hid (k4 = 5 ∨ k4 = 6 → lsize list + 1 ≤ 1000000000) := Lib.hid (fun h => by unfold vsize at hsz; rw [if_pos h] at hsz; omega)
      have HKO := Lib.hid hko
      clear hx hsz hko
      obtain ⟨p0, p1, p2, p3, p4, p5⟩ := H0.out.sa.box
      obtain ⟨q0, q1, q2, q3, q4, q5⟩ := H0.out.sb.box
      by_cases h3 : k4 = 3
      · subst h3
        go_enter Tryz.func10, Tryz.ntmps10
        go_wp2_with fail
        go_ret
        exact ⟨rfl, H0.out.below⟩
      by_cases h4 : k4 = 4
      · subst h4
        clear h3
        go_enter Tryz.func10, Tryz.ntmps10
        go_wp2_with fail
        go_ret
        exact ⟨rfl, H0.out.below⟩
      by_cases h5 : k4 = 5
      · subst h5
        clear h3 h4
        go_enter Tryz.func10, Tryz.ntmps10
        go_wp2_with fail
        generalize hW0 : ((w.alloc _).alloc _) = W0 at *
        clear hW0
        go_wp2_with fail
        go_loopg [86] list.length (fun g v wr => RunTo W0 list.length g v wr)
        case atStart => exact ⟨0, Nat.zero_le _, by omega, rfl, Below.refl _ _⟩
        case round =>
          obtain ⟨i, hi, hgk, rfl, hbel⟩ := hrel
          have hSi := H0.out.step hbel
          obtain ⟨-, -, -, p3, -, -⟩ := hSi.sa.box
          obtain ⟨-, -, -, q3, -, -⟩ := hSi.sb.box
          by_cases hlt : i < list.length
          · obtain ⟨x, hx⟩ : ∃ x, list[i]? = some x := ⟨_, List.getElem?_eq_getElem hlt⟩
            have hx2 := hx
            have hle := lsize_le (l := list) (i + 1)
            have hst := lsize_take hx
            have hsx : SizeOf.sizeOf x < m := by have := sizeOf_mem hx; have := HX.out; omega
            have hkx := keysOkL_at HKO.out.2 hx
            have hvsz : vsize x ≤ 1000000000 := by have := HSZ.out (by simp); omega
            obtain ⟨b1, o1, k6, t6, n6, a6, l6, c6, a7, l7, c7, z7, rfl, hvx, hE1⟩ := el_at HROW.out HVS.out hx hSi.below
            have hrow2 := HROW2.out
            obtain ⟨b2, o2, k8, t8, n8, a8, l8, c8, a9, l9, c9, z9, rfl, hvy, hE2⟩ := el_at hrow2 HVS2.out hx2 hSi.below
            have HC := Lib.hid (fun W (hb : Below w.heap.size w W) => IH.out x hsx hvsz hkx W _ _ _ _ _ _ _ _ _ _ _ _ _ _ _ _ _ _ _ _ (hvx.step hb) (hvy.step hb))
            have hSi2 := hSi.step (Below.refl _ _).drew
            have hI : ElSt w b1 (o1 + i * 6) (.int .i64 k6) (.string t6) (.int .u64 n6) (.slice a6 l6 c6) (.slice a7 l7 c7) (.int .i64 z7) b2 (o2 + i * 6) (.int .i64 k8) (.string t8) (.int .u64 n8) (.slice a8 l8 c8) (.slice a9 l9 c9) (.int .i64 z9)
                (.slice (some ⟨b1, o1, none⟩) list.length c) (.slice (some ⟨b2, o2, none⟩) list.length c4) wr := ⟨hE1, hE2, hSi.sa.2.2.2.2.1, hSi.sb.2.2.2.2.1, hSi.sa.1, hSi.sb.1⟩
            replace hI := hI.step (Below.refl _ _).drew
            have hBW := hSi2.below
            have hBel := hbel.trans ((Below.refl wr.heap.size wr).drew.mono hbel.size)
            clear hx hx2 hle hst hsx hvsz hkx hvx hvy hE1 hE2 hrow2 hSi2 hSi hbel p3 q3
            go_wp2_with fail
            have kk := hI.cells
            go_region_held3 (fun W => W.cell? ⟨w.heap.size, 3, none⟩ = some (.slice (some ⟨b1, o1, none⟩) list.length c) ∧ W.cell? ⟨w.heap.size + 1, 3, none⟩ = some (.slice (some ⟨b2, o2, none⟩) list.length c4) ∧ W.cell? ⟨b1, o1 + i * 6, none⟩ = some (.int .i64 k6) ∧ W.cell? ⟨b1, o1 + i * 6 + 1, none⟩ = some (.string t6) ∧ W.cell? ⟨b1, o1 + i * 6 + 2, none⟩ = some (.int .u64 n6) ∧ W.cell? ⟨b1, o1 + i * 6 + 3, none⟩ = some (.slice a6 l6 c6) ∧ W.cell? ⟨b1, o1 + i * 6 + 4, none⟩ = some (.slice a7 l7 c7) ∧ W.cell? ⟨b1, o1 + i * 6 + 5, none⟩ = some (.int .i64 z7) ∧ W.cell? ⟨b2, o2 + i * 6, none⟩ = some (.int .i64 k8) ∧ W.cell? ⟨b2, o2 + i * 6 + 1, none⟩ = some (.string t8) ∧ W.cell? ⟨b2, o2 + i * 6 + 2, none⟩ = some (.int .u64 n8) ∧ W.cell? ⟨b2, o2 + i * 6 + 3, none⟩ = some (.slice a8 l8 c8) ∧ W.cell? ⟨b2, o2 + i * 6 + 4, none⟩ = some (.slice a9 l9 c9) ∧ W.cell? ⟨b2, o2 + i * 6 + 5, none⟩ = some (.int .i64 z9))
              (first | exact kk | exact hI.cells)
              ((go_at_call 10; refine (HC.out _ hBW).mono ?_; rintro e w4 ⟨rfl, b4⟩; replace hI := hI.step b4; replace hBW := hBW.trans (b4.mono hBW.size); replace hBel := hBel.trans (b4.mono hBel.size); clear b4))
            go_wp2_with fail
            go_roundg (list.length - (i + 1))
            case measure => omega
            case rel => exact ⟨i + 1, by omega, rfl, by rw [w64 _ (by have := length_le_lsize list; have := HSZ.out (by simp); omega)]; rfl, hBel⟩
          · obtain rfl : i = list.length := by omega
            go_wp2_with fail
            go_ret
            exact ⟨rfl, hSi.below⟩
      by_cases h6 : k4 = 6
      · subst h6
        clear h3 h4 h5
        go_enter Tryz.func10, Tryz.ntmps10
        go_wp2_with fail
        generalize hW0 : ((w.alloc _).alloc _) = W0 at *
        clear hW0
        go_wp2_with fail
        go_loopg [68] keys.length (fun g v wr => RunTo W0 keys.length g v wr)
        case atStart => exact ⟨0, Nat.zero_le _, by omega, rfl, Below.refl _ _⟩
        case round =>
          obtain ⟨i, hi, hgk, rfl, hbel⟩ := hrel
          have hSi := H0.out.step hbel
          have HBel := Lib.hid hbel
          obtain ⟨-, -, -, p3, p4, -⟩ := hSi.sa.box
          obtain ⟨-, -, -, q3, q4, -⟩ := hSi.sb.box
          by_cases hlt : i < keys.length
          · obtain ⟨y, hy⟩ : ∃ y, keys[i]? = some y := ⟨_, List.getElem?_eq_getElem hlt⟩
            obtain ⟨b1, o1, rfl, e1⟩ := key_at HK.out hy hSi.below
            obtain ⟨b2, o2, rfl, e2⟩ := key_at HK2.out hy hSi.below
            clear hy hSi hbel p3 q3
            go_wp2_with fail
            go_quiet (fail)
            go_wp2_with fail
            go_roundg (keys.length - (i + 1))
            case measure => omega
            case rel => exact ⟨i + 1, by omega, rfl, by rw [w64 _ (by have := HKO.out.1; omega)]; rfl, HBel.out.trans ((below_dr5 wr nq).mono HBel.out.size)⟩
          · obtain rfl : i = keys.length := by omega
            have H1 := Lib.hid hSi
            clear H0 HBel hSi hbel p4 q4
            generalize wr = wr0 at *
            have H0 := H1
            clear H1
            go_wp2_with fail
            go_loopg [86] list.length (fun g v wr => RunTo wr0 list.length g v wr)
            case atStart => exact ⟨0, Nat.zero_le _, by omega, rfl, Below.refl _ _⟩
            case round =>
              obtain ⟨i, hi, hgk, rfl, hbel⟩ := hrel
              have hSi := H0.out.step hbel
              obtain ⟨-, -, -, p3, -, -⟩ := hSi.sa.box
              obtain ⟨-, -, -, q3, -, -⟩ := hSi.sb.box
              by_cases hlt : i < list.length
              · obtain ⟨x, hx⟩ : ∃ x, list[i]? = some x := ⟨_, List.getElem?_eq_getElem hlt⟩
                have hx2 := hx
                have hle := lsize_le (l := list) (i + 1)
                have hst := lsize_take hx
                have hsx : SizeOf.sizeOf x < m := by have := sizeOf_mem hx; have := HX.out; omega
                have hkx := keysOkL_at HKO.out.2 hx
                have hvsz : vsize x ≤ 1000000000 := by have := HSZ.out (by simp); omega
                obtain ⟨b1, o1, k6, t6, n6, a6, l6, c6, a7, l7, c7, z7, rfl, hvx, hE1⟩ := el_at HROW.out HVS.out hx hSi.below
                have hrow2 := HROW2.out
                obtain ⟨b2, o2, k8, t8, n8, a8, l8, c8, a9, l9, c9, z9, rfl, hvy, hE2⟩ := el_at hrow2 HVS2.out hx2 hSi.below
                have HC := Lib.hid (fun W (hb : Below w.heap.size w W) => IH.out x hsx hvsz hkx W _ _ _ _ _ _ _ _ _ _ _ _ _ _ _ _ _ _ _ _ (hvx.step hb) (hvy.step hb))
                have hSi2 := hSi.step (Below.refl _ _).drew
                have hI : ElSt w b1 (o1 + i * 6) (.int .i64 k6) (.string t6) (.int .u64 n6) (.slice a6 l6 c6) (.slice a7 l7 c7) (.int .i64 z7) b2 (o2 + i * 6) (.int .i64 k8) (.string t8) (.int .u64 n8) (.slice a8 l8 c8) (.slice a9 l9 c9) (.int .i64 z9)
                    (.slice (some ⟨b1, o1, none⟩) list.length c) (.slice (some ⟨b2, o2, none⟩) list.length c4) wr := ⟨hE1, hE2, hSi.sa.2.2.2.2.1, hSi.sb.2.2.2.2.1, hSi.sa.1, hSi.sb.1⟩
                replace hI := hI.step (Below.refl _ _).drew
                have hBW := hSi2.below
                have hBel := hbel.trans ((Below.refl wr.heap.size wr).drew.mono hbel.size)
                clear hx hx2 hle hst hsx hvsz hkx hvx hvy hE1 hE2 hrow2 hSi2 hSi hbel p3 q3
                go_wp2_with fail
                have kk := hI.cells
                go_region_held3 (fun W => W.cell? ⟨w.heap.size, 3, none⟩ = some (.slice (some ⟨b1, o1, none⟩) list.length c) ∧ W.cell? ⟨w.heap.size + 1, 3, none⟩ = some (.slice (some ⟨b2, o2, none⟩) list.length c4) ∧ W.cell? ⟨b1, o1 + i * 6, none⟩ = some (.int .i64 k6) ∧ W.cell? ⟨b1, o1 + i * 6 + 1, none⟩ = some (.string t6) ∧ W.cell? ⟨b1, o1 + i * 6 + 2, none⟩ = some (.int .u64 n6) ∧ W.cell? ⟨b1, o1 + i * 6 + 3, none⟩ = some (.slice a6 l6 c6) ∧ W.cell? ⟨b1, o1 + i * 6 + 4, none⟩ = some (.slice a7 l7 c7) ∧ W.cell? ⟨b1, o1 + i * 6 + 5, none⟩ = some (.int .i64 z7) ∧ W.cell? ⟨b2, o2 + i * 6, none⟩ = some (.int .i64 k8) ∧ W.cell? ⟨b2, o2 + i * 6 + 1, none⟩ = some (.string t8) ∧ W.cell? ⟨b2, o2 + i * 6 + 2, none⟩ = some (.int .u64 n8) ∧ W.cell? ⟨b2, o2 + i * 6 + 3, none⟩ = some (.slice a8 l8 c8) ∧ W.cell? ⟨b2, o2 + i * 6 + 4, none⟩ = some (.slice a9 l9 c9) ∧ W.cell? ⟨b2, o2 + i * 6 + 5, none⟩ = some (.int .i64 z9))
                  (first | exact kk | exact hI.cells)
                  ((go_at_call 10; refine (HC.out _ hBW).mono ?_; rintro e w4 ⟨rfl, b4⟩; replace hI := hI.step b4; replace hBW := hBW.trans (b4.mono hBW.size); replace hBel := hBel.trans (b4.mono hBel.size); clear b4))
                go_wp2_with fail
                go_roundg (list.length - (i + 1))
                case measure => omega
                case rel => exact ⟨i + 1, by omega, rfl, by rw [w64 _ (by have := length_le_lsize list; have := HSZ.out (by simp); omega)]; rfl, hBel⟩
              · obtain rfl : i = list.length := by omega
                go_wp2_with fail
                go_ret
                exact ⟨rfl, hSi.below⟩
      have e5 : (k4 != 5) = true := bne_iff_ne.2 h5
      have e6 : (k4 != 6) = true := bne_iff_ne.2 h6
      go_enter Tryz.func10, Tryz.ntmps10
      go_wp2_with fail
      go_ret
      exact ⟨rfl, H0.out.below⟩
end Go.Proofs.YtajmlkephefapaaGreatDoor
