/-
  The law's budget of an expression, by contract.
-/
import Derived.Test.YtocfcnhaecmgpaaGreatDoorRxB
namespace Go.Proofs.YtocfcnhaecmgpaaGreatDoor
open Go.RowKit Go.Extern.Stop Go.Stop Go.Extern

theorem w64x (n : Int) (h : -9223372036854775808 ≤ n ∧ n ≤ 9223372036854775807) : wrap64 n = n := by unfold wrap64; omega
theorem drop_at {α : Type} {l : List α} {i : Nat} {x : α} (h : l[i]? = some x) : l.drop i = x :: l.drop (i + 1) := by
  obtain ⟨h1, e1⟩ := List.getElem?_eq_some_iff.1 h
  rw [List.drop_eq_getElem_cons h1, e1]
/-- On the way through the words. -/
def LeftWRel (w : World) (words : List ByteArray) (n0 : Int) (g : Nat) (u v : Value) (wr : World) : Prop :=
  ∃ (i : Nat) (n : Int), i ≤ words.length ∧ g = words.length - i ∧ v = .int .i64 i ∧ u = .int .i64 n ∧ -100001 ≤ n ∧ n ≤ n0 - i ∧ leftW (words.drop i) n = leftW words n0 ∧ Below w.heap.size w wr
/-- On the way through the kids. -/
def LeftERel (w : World) (kids : List Rx) (n0 : Int) (g : Nat) (u v : Value) (wr : World) : Prop :=
  ∃ (i : Nat) (n : Int), i ≤ kids.length ∧ g = kids.length - i ∧ v = .int .i64 i ∧ u = .int .i64 n ∧ -100001 ≤ n ∧ n ≤ n0 - i ∧ leftEs (kids.drop i) n = leftEs kids n0 ∧ Below w.heap.size w wr
set_option maxRecDepth 100000 in
set_option maxHeartbeats 4000000 in
theorem left_go (P : Nat → Prop) : ∀ (m : Nat) (x : Rx), SizeOf.sizeOf x < m → ∀ (n0 : Int), 0 ≤ n0 → n0 ≤ 1000000 → ∀ (w : World) (k : Int) (t : Bool) (a : Option Addr) (l c : Nat) (a' : Option Addr) (l' c' : Nat),
    ExC P w [.int .i64 k, .bool t, .slice a l c, .slice a' l' c'] x →
    Calls Tryz.prog 10 #[.agg #[.int .i64 k, .bool t, .slice a l c, .slice a' l' c'], .int .i64 n0] w fun e w' => e = .returned (.int .i64 (leftE x n0)) ∧ Below w.heap.size w w' := by
  intro m
  induction m with
  | zero => intro x hx; exact absurd hx (Nat.not_lt_zero _)
  | succ m ih =>
    intro x hx n0 hn0 hn1 w k t a l c a' l' c' hv
    have IH := Lib.hid ih
    clear ih
    cases x with
    | mk k1 t1 words kids =>
      obtain ⟨rfl, rfl, hk, xs, hl, hvs⟩ := hv.open
      obtain ⟨_, _, es⟩ := hl.form
      simp only [Value.slice.injEq] at es
      obtain ⟨-, el, -⟩ := es
      subst el
      obtain ⟨_, _, es⟩ := hk.form
      simp only [Value.slice.injEq] at es
      obtain ⟨-, el, -⟩ := es
      subst el
      have HROW := Lib.hid hl
      have HVS := Lib.hid hvs
      have HK := Lib.hid hk
      simp only [Rx.mk.sizeOf_spec] at hx
      have HX := Lib.hid hx
      rw [leftE]
      have hB0 := sbelow_new w (.cells #[.int .i64 k, .bool t, .slice a words.length c, .slice a' kids.length c'] 25)
      have hF := four_new w 25 (.int .i64 k) (.bool t) (.slice a words.length c) (.slice a' kids.length c')
      have HF := Lib.hid hF
      have HB0 := Lib.hid hB0
      obtain ⟨p0, p1, p2, p3⟩ := hF.box
      clear hk hl hvs hx hv hB0 hF
      go_enter Tryz.func10, Tryz.ntmps10
      go_wp2_with fail
      generalize w.alloc (.cells #[.int .i64 k, .bool t, .slice a words.length c, .slice a' kids.length c'] 25) = w1 at *
      clear p0 p1 p2 p3
      go_loopg [1, 14] words.length (fun g u v wr => LeftWRel w words (n0 - 1) g u v wr ∧ Four wr w.heap.size 0 (.int .i64 k) (.bool t) (.slice a words.length c) (.slice a' kids.length c'))
      case atStart => exact ⟨⟨0, n0 - 1, Nat.zero_le _, by omega, rfl, by first | rfl | (rw [w64x _ (by omega)]), by omega, by omega, by rw [List.drop_zero], HB0.out⟩, HF.out⟩
      case round =>
        clear HF HB0
        obtain ⟨⟨i, n, hi, hgk, rfl, rfl, hlo, hhi, hL, hbel⟩, hF⟩ := hrel
        have HL := Lib.hid hL
        have HF := Lib.hid hF
        have HB := Lib.hid hbel
        clear hL hF hbel
        by_cases hlt : i < words.length
        · obtain ⟨y, hy⟩ : ∃ y, words[i]? = some y := ⟨_, List.getElem?_eq_getElem hlt⟩
          obtain ⟨b, o, rfl, hbl, e1⟩ := text_at HK.out hy HB.out
          have HY := Lib.hid hy
          clear hy
          by_cases hneg : n < 0
          · go_wp2_with fail
            go_ret
            refine ⟨Eq.trans (b := Ending.returned (.int .i64 n)) rfl ?_, HB.out⟩
            have h1 := HL.out
            rw [leftW_neg _ _ hneg] at h1
            rw [← h1, leftEs_neg _ _ hneg]
          · have hup := HL.out
            rw [drop_at HY.out, leftW, if_neg hneg] at hup
            have HUP := Lib.hid hup
            clear hup
            go_wp2_with fail
            all_goals
              go_roundg (words.length - (i + 1))
              case measure => omega
              case rel =>
                refine ⟨⟨i + 1, n - (1 + min (y.size : Int) 100000), by omega, rfl, rfl, ?_, by omega, by omega, HUP.out, HB.out⟩, HF.out⟩
                first
                  | rfl
                  | (congr 1; omega)
        · obtain rfl : i = words.length := by omega
          have hL := HL.out
          rw [List.drop_length, leftW] at hL
          have HLN := Lib.hid hL
          obtain ⟨p0, p1, p2, p3⟩ := HF.out.box
          clear HL HF hL
          go_wp2_with fail
          clear p0 p1 p2 p3
          go_loopg [1, 31] kids.length (fun g u v wr2 => LeftERel w kids n g u v wr2)
          case atStart => exact ⟨0, n, Nat.zero_le _, by omega, rfl, rfl, by omega, by omega, by rw [List.drop_zero], HB.out⟩
          case round =>
            clear HB
            obtain ⟨i, nn, hi2, hgk2, rfl, rfl, hlo2, hhi2, hL, hbel⟩ := hrel
            have HL := Lib.hid hL
            have HB := Lib.hid hbel
            clear hL hbel
            by_cases hlt2 : i < kids.length
            · obtain ⟨y, hy⟩ : ∃ y, kids[i]? = some y := ⟨_, List.getElem?_eq_getElem hlt2⟩
              obtain ⟨b1, o1, k6, t6, a6, l6, c6, a7, l7, c7, rfl, hvx, hE1⟩ := ex_at HROW.out HVS.out hy HB.out
              have bn := sbelow_new wr (.cells #[.int .i64 k6, .bool t6, .slice a6 l6 c6, .slice a7 l7 c7] 25)
              have hsx : SizeOf.sizeOf y < m := by have := rx_mem hy; have := HX.out; omega
              have HBN := Lib.hid (HB.out.trans (bn.mono HB.out.size))
              have HY := Lib.hid hy
              obtain ⟨-, g0, g1, g2, g3⟩ := hE1
              by_cases hneg : nn < 0
              · clear hy bn hsx hvx
                go_wp2_with fail
                go_ret
                refine ⟨Eq.trans (b := Ending.returned (.int .i64 nn)) rfl ?_, HBN.out⟩
                have h1 := HL.out
                rw [leftEs_neg _ _ hneg] at h1
                rw [← HLN.out, ← h1]
              · have HC := Lib.hid (IH.out y hsx nn (by omega) (by omega) _ _ _ _ _ _ _ _ _ (hvx.step (HB.out.trans (bn.mono HB.out.size))))
                have hbd := leftE_bd y nn (by omega)
                have hup := HL.out
                rw [drop_at HY.out, leftEs, if_neg hneg] at hup
                have HUP := Lib.hid hup
                generalize leftE y nn = n2 at *
                clear hy bn hsx hvx hup
                go_wp2_with fail
                refine HC.out.mono ?_
                rintro e w4 ⟨rfl, b4⟩
                go_wp2_with fail
                go_roundg (kids.length - (i + 1))
                case measure => omega
                case rel => exact ⟨i + 1, n2, by omega, rfl, rfl, rfl, by omega, by omega, HUP.out, HBN.out.trans (b4.mono HBN.out.size)⟩
            · obtain rfl : i = kids.length := by omega
              have hL := HL.out
              rw [List.drop_length, leftEs] at hL
              have HL2 := Lib.hid hL
              clear hL
              go_wp2_with fail
              go_ret
              exact ⟨Eq.trans (b := Ending.returned (.int .i64 nn)) rfl (by rw [← HLN.out, ← HL2.out]), HB.out⟩
end Go.Proofs.YtocfcnhaecmgpaaGreatDoor
