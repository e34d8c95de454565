/-
  The law's budget of a value, by contract.
  slices.Equal of two rows of words, for rows longer than a thousand words.
  Package ink's Same, by contract.
  A fault within words: plain, and what a check answers.
  Package ink by contracts: what is wrong with a value itself.
  Package ink by contracts: may a value be written: its first fault, whatever value it is.
  Package ink by contracts: may a value be written: objects, and values.
  Package ink by contracts: may a value be written: values.
  Package ink by contracts: Check and Text of any value.
-/
import Derived.Test.YtajmlkephefapaaGreatDoorGtq
import Derived.Test.YtajmlkephefapaaGreatDoorWords
import Derived.Deep.RegionHeld3
import Derived.Test.YtajmlkephefapaaGreatDoorOops
import Derived.Test.YtajmlkephefapaaGreatDoorGi4
namespace Go.Proofs.YtajmlkephefapaaGreatDoor
open Go.RowKit Go.Extern.Stop Go.Stop Go.Extern

/-- What a row of keys leaves. -/
def lf5W : List ByteArray → Int → Int
  | [], n => n
  | y :: r, n => if n < 0 then n else lf5W r (n - min (y.size : Int) 100000)
mutual
/-- What a value leaves. -/
def lf5 : Val → Int → Int
  | .mk _ t _ list keys _, n => lf5L list (lf5W keys (n - (1 + min (t.size : Int) 100000 + min (keys.length : Int) 100000)))
def lf5L : List Val → Int → Int
  | [], n => n
  | x :: r, n => if n < 0 then n else lf5L r (lf5 x n)
end
theorem lf5W_neg : ∀ (l : List ByteArray) (n : Int), n < 0 → lf5W l n = n
  | [], n, h => by rw [lf5W]
  | y :: r, n, h => by rw [lf5W, if_pos h]
theorem lf5L_neg : ∀ (l : List Val) (n : Int), n < 0 → lf5L l n = n
  | [], n, h => by rw [lf5L]
  | y :: r, n, h => by rw [lf5L, if_pos h]
theorem lf5W_bd : ∀ (l : List ByteArray) (n : Int), -200001 ≤ n → -200001 ≤ lf5W l n ∧ lf5W l n ≤ n
  | [], n, h => by rw [lf5W]; omega
  | y :: r, n, h => by
    rw [lf5W]
    split
    · omega
    · have := lf5W_bd r (n - min (y.size : Int) 100000) (by omega)
      omega
mutual
theorem lf5_bd : ∀ (x : Val) (n : Int), 0 ≤ n → -200001 ≤ lf5 x n ∧ lf5 x n ≤ n - 1
  | .mk _ t _ list keys _, n, h => by
    rw [lf5]
    have h1 := lf5W_bd keys (n - (1 + min (t.size : Int) 100000 + min (keys.length : Int) 100000)) (by omega)
    have h2 := lf5L_bd list (lf5W keys (n - (1 + min (t.size : Int) 100000 + min (keys.length : Int) 100000))) h1.1
    omega
theorem lf5L_bd : ∀ (l : List Val) (n : Int), -200001 ≤ n → -200001 ≤ lf5L l n ∧ lf5L l n ≤ n
  | [], n, h => by rw [lf5L]; omega
  | x :: r, n, h => by
    rw [lf5L]
    split
    · omega
    · have h1 := lf5_bd x n (by omega)
      have h2 := lf5L_bd r (lf5 x n) h1.1
      omega
end
theorem w64l (n : Int) (h : -9223372036854775808 ≤ n ∧ n ≤ 9223372036854775807) : wrap64 n = n := by unfold wrap64; omega
theorem drop_atl {α : Type} {l : List α} {i : Nat} {x : α} (h : l[i]? = some x) : l.drop i = x :: l.drop (i + 1) := by
  obtain ⟨h1, e1⟩ := List.getElem?_eq_some_iff.1 h
  rw [List.drop_eq_getElem_cons h1, e1]
/-- On the way through the keys. -/
def Lf5WRel (w : World) (keys : List ByteArray) (n0 : Int) (g : Nat) (u v : Value) (wr : World) : Prop :=
  ∃ (i : Nat) (n : Int), i ≤ keys.length ∧ g = keys.length - i ∧ v = .int .i64 i ∧ u = .int .i64 n ∧ -200001 ≤ n ∧ n ≤ 90000 ∧ (n < 0 ∨ keys.length ≤ 90000) ∧ lf5W (keys.drop i) n = lf5W keys n0 ∧ Below w.heap.size w wr
/-- On the way through the values. -/
def Lf5Rel (w : World) (list : List Val) (n0 : Int) (g : Nat) (u v : Value) (wr : World) : Prop :=
  ∃ (i : Nat) (n : Int), i ≤ list.length ∧ g = list.length - i ∧ v = .int .i64 i ∧ u = .int .i64 n ∧ -200001 ≤ n ∧ n ≤ 90000 - i ∧ lf5L (list.drop i) n = lf5L list n0 ∧ Below w.heap.size w wr
set_option maxRecDepth 100000 in
set_option maxHeartbeats 4000000 in
theorem left5_go (P : Nat → Prop) : ∀ (m : Nat) (x : Val), SizeOf.sizeOf x < m → ∀ (n0 : Int), 0 ≤ n0 → n0 ≤ 90000 → ∀ (w : World) (k : Int) (t : ByteArray) (u : Int) (a : Option Addr) (l c : Nat) (a' : Option Addr) (l' c' : Nat) (z : Int),
    ValC P w [.int .i64 k, .string t, .int .u64 u, .slice a l c, .slice a' l' c', .int .i64 z] x →
    Calls Tryz.prog 19 #[.agg #[.int .i64 k, .string t, .int .u64 u, .slice a l c, .slice a' l' c', .int .i64 z], .int .i64 n0] w fun e w' => e = .returned (.int .i64 (lf5 x n0)) ∧ Below w.heap.size w w' := by
  intro m
  induction m with
  | zero => intro x hx; exact absurd hx (Nat.not_lt_zero _)
  | succ m ih =>
    intro x hx n0 hn0 hn1 w k t u a l c a' l' c' z hv
    have IH := Lib.hid ih
    clear ih
    cases x with
    | mk k1 t1 n1 list keys z1 =>
      unfold ValC at hv
      obtain ⟨sl, sk', xs, e, hk, hl, hvs⟩ := hv
      simp only [List.cons.injEq, Value.int.injEq, Value.string.injEq, true_and, and_true] at e
      obtain ⟨rfl, rfl, rfl, rfl, rfl, rfl⟩ := e
      obtain ⟨_, _, es⟩ := hl.form
      simp only [Value.slice.injEq] at es
      obtain ⟨-, el, -⟩ := es
      subst el
      obtain ⟨_, _, es⟩ := hk.form
      simp only [Value.slice.injEq] at es
      obtain ⟨-, el, -⟩ := es
      subst el
      have HROW := Lib.hid hl
      have HVS := Lib.hid hvs
      have HK := Lib.hid hk
      simp only [Val.mk.sizeOf_spec] at hx
      have HX := Lib.hid hx
      rw [lf5]
      have hB0 := sbelow_new w (.cells #[.int .i64 k, .string t, .int .u64 u, .slice a list.length c, .slice a' keys.length c', .int .i64 z] 27)
      have hF : SixAt (w.alloc (.cells #[.int .i64 k, .string t, .int .u64 u, .slice a list.length c, .slice a' keys.length c', .int .i64 z] 27)) w.heap.size (.int .i64 k) (.string t) (.int .u64 u) (.slice a list.length c) (.slice a' keys.length c') (.int .i64 z) := heap_alloc_new _ _
      have HF := Lib.hid hF
      have HB0 := Lib.hid hB0
      obtain ⟨p0, p1, p2, p3, p4, p5⟩ := hF.cells
      clear hk hl hvs hx hB0 hF
      generalize hN : n0 - (1 + min (t.size : Int) 100000 + min (keys.length : Int) 100000) = N0 at *
      go_enter Tryz.func19, Tryz.ntmps19
      go_wp2_with fail
      generalize w.alloc (.cells #[.int .i64 k, .string t, .int .u64 u, .slice a list.length c, .slice a' keys.length c', .int .i64 z] 27) = w1 at *
      clear p0 p1 p2 p3 p4 p5
      go_loopg [1, 24] keys.length (fun g u' v wr => Lf5WRel w keys N0 g u' v wr ∧ SixAt wr w.heap.size (.int .i64 k) (.string t) (.int .u64 u) (.slice a list.length c) (.slice a' keys.length c') (.int .i64 z))
      case atStart =>
        refine ⟨⟨0, N0, Nat.zero_le _, by omega, rfl, ?_, by omega, by omega, by omega, by rw [List.drop_zero], HB0.out⟩, HF.out⟩
        first
          | rfl
          | (rw [← hN]; congr 1; omega)
      case round =>
        clear HF HB0
        obtain ⟨⟨i, n, hi, hgk, rfl, rfl, hlo, hhi, hkl, hL, hbel⟩, hF⟩ := hrel
        have HL := Lib.hid hL
        have HF := Lib.hid hF
        have HB := Lib.hid hbel
        clear hL hF hbel
        by_cases hlt : i < keys.length
        · obtain ⟨y, hy⟩ : ∃ y, keys[i]? = some y := ⟨_, List.getElem?_eq_getElem hlt⟩
          obtain ⟨b, o, rfl, e1⟩ := key_at HK.out hy HB.out
          have HY := Lib.hid hy
          clear hy
          by_cases hneg : n < 0
          · go_wp2_with fail
            go_ret
            refine ⟨Eq.trans (b := Ending.returned (.int .i64 n)) rfl ?_, HB.out⟩
            have h1 := HL.out
            rw [lf5W_neg _ _ hneg] at h1
            rw [← h1, lf5L_neg _ _ hneg]
          · have hkl2 : keys.length ≤ 90000 := by omega
            have hup := HL.out
            rw [drop_atl HY.out, lf5W, if_neg hneg] at hup
            have HUP := Lib.hid hup
            clear hup
            go_wp2_with fail
            all_goals
              go_roundg (keys.length - (i + 1))
              case measure => omega
              case rel =>
                refine ⟨⟨i + 1, n - min (y.size : Int) 100000, by omega, rfl, rfl, ?_, by omega, by omega, by omega, HUP.out, HB.out⟩, HF.out⟩
                first
                  | rfl
                  | (congr 1; omega)
        · obtain rfl : i = keys.length := by omega
          have hL := HL.out
          rw [List.drop_length, lf5W] at hL
          have HLN := Lib.hid hL
          obtain ⟨p0, p1, p2, p3, p4, p5⟩ := HF.out.cells
          clear HL HF hL
          go_wp2_with fail
          clear p0 p1 p2 p3 p4 p5
          go_loopg [1, 40] list.length (fun g u v wr2 => Lf5Rel w list n g u v wr2)
          case atStart => exact ⟨0, n, Nat.zero_le _, by omega, rfl, rfl, by omega, by omega, by rw [List.drop_zero], HB.out⟩
          case round =>
            clear HB
            obtain ⟨i, nn, hi2, hgk2, rfl, rfl, hlo2, hhi2, hL, hbel⟩ := hrel
            have HL := Lib.hid hL
            have HB := Lib.hid hbel
            clear hL hbel
            by_cases hlt2 : i < list.length
            · obtain ⟨y, hy⟩ : ∃ y, list[i]? = some y := ⟨_, List.getElem?_eq_getElem hlt2⟩
              obtain ⟨b1, o1, k6, t6, n6, a6, l6, c6, a7, l7, c7, z7, rfl, hvx, hE1⟩ := el_at HROW.out HVS.out hy HB.out
              have bn := sbelow_new wr (.cells #[.int .i64 k6, .string t6, .int .u64 n6, .slice a6 l6 c6, .slice a7 l7 c7, .int .i64 z7] 27)
              have hS : SixAt (wr.alloc (.cells #[.int .i64 k6, .string t6, .int .u64 n6, .slice a6 l6 c6, .slice a7 l7 c7, .int .i64 z7] 27)) wr.heap.size (.int .i64 k6) (.string t6) (.int .u64 n6) (.slice a6 l6 c6) (.slice a7 l7 c7) (.int .i64 z7) := heap_alloc_new _ _
              have hsx : SizeOf.sizeOf y < m := by have := sizeOf_mem hy; have := HX.out; omega
              have HBN := Lib.hid (HB.out.trans (bn.mono HB.out.size))
              have HY := Lib.hid hy
              obtain ⟨-, g0, g1, g2, g3, g4, g5⟩ := hE1
              obtain ⟨q0, q1, q2, q3, q4, q5⟩ := hS.cells
              by_cases hneg : nn < 0
              · clear hy bn hsx hvx hS
                go_wp2_with fail
                go_ret
                refine ⟨Eq.trans (b := Ending.returned (.int .i64 nn)) rfl ?_, HBN.out⟩
                have h1 := HL.out
                rw [lf5L_neg _ _ hneg] at h1
                rw [← HLN.out, ← h1]
              · have HC := Lib.hid (IH.out y hsx nn (by omega) (by omega) _ _ _ _ _ _ _ _ _ _ _ (hvx.step (HB.out.trans (bn.mono HB.out.size))))
                have hbd := lf5_bd y nn (by omega)
                have hup := HL.out
                rw [drop_atl HY.out, lf5L, if_neg hneg] at hup
                have HUP := Lib.hid hup
                generalize lf5 y nn = n2 at *
                clear hy bn hsx hvx hup hS
                go_wp2_with fail
                refine HC.out.mono ?_
                rintro e w4 ⟨rfl, b4⟩
                go_wp2_with fail
                go_roundg (list.length - (i + 1))
                case measure => omega
                case rel => exact ⟨i + 1, n2, by omega, rfl, rfl, rfl, by omega, by omega, HUP.out, HBN.out.trans (b4.mono HBN.out.size)⟩
            · obtain rfl : i = list.length := by omega
              have hL := HL.out
              rw [List.drop_length, lf5L] at hL
              have HL2 := Lib.hid hL
              clear hL
              go_wp2_with fail
              go_ret
              exact ⟨Eq.trans (b := Ending.returned (.int .i64 nn)) rfl (by rw [← HLN.out, ← HL2.out]), HB.out⟩
end Go.Proofs.YtajmlkephefapaaGreatDoor

namespace Go.Proofs.YtajmlkephefapaaGreatDoor
open Go.RowKit Go.Extern.Stop Go.Stop Go.Extern

set_option maxRecDepth 100000 in
set_option maxHeartbeats 1000000 in
theorem equalSB_same (v1 v2 : Value) (w1 w2 : List ByteArray) (w : World) (h1 : StrsAt w v1 w1) (h2 : StrsAt w v2 w2) (hl : w1.length = w2.length) (hlen : w1.length ≤ 100000) :
    Calls Tryz.prog 47 #[v1, v2] w fun e w' => e = .returned (.bool (decide (w1 = w2))) ∧ ∃ n, w' = w.drewN n := by
  obtain ⟨b1, o1, c1, rfl, H1⟩ : ∃ b o c, v1 = .slice b w1.length c ∧ Hid (∀ i, i < w1.length → ∃ b', b = some ⟨b', o, none⟩ ∧ w.cell? ⟨b', o + i, none⟩ = some (.string (w1.getD i ByteArray.empty))) := by
    rcases h1 with ⟨a, c, e, e'⟩ | ⟨b, o, c, e, _, hc⟩
    · exact ⟨a, 0, c, by rw [e, e']; rfl, fun i hi => by rw [e'] at hi; exact absurd hi (by simp)⟩
    · exact ⟨_, o, c, e, fun i hi => ⟨b, rfl, hc i hi⟩⟩
  obtain ⟨b2, o2, c2, rfl, H2⟩ : ∃ b o c, v2 = .slice b w2.length c ∧ Hid (∀ i, i < w2.length → ∃ b', b = some ⟨b', o, none⟩ ∧ w.cell? ⟨b', o + i, none⟩ = some (.string (w2.getD i ByteArray.empty))) := by
    rcases h2 with ⟨a, c, e, e'⟩ | ⟨b, o, c, e, _, hc⟩
    · exact ⟨a, 0, c, by rw [e, e']; rfl, fun i hi => by rw [e'] at hi; exact absurd hi (by simp)⟩
    · exact ⟨_, o, c, e, fun i hi => ⟨b, rfl, hc i hi⟩⟩
  clear h1 h2
  have H0 : Hid (EqRel w w1 w2 w1.length (.int .i64 0) w) := ⟨⟨0, Nat.zero_le _, rfl, rfl, fun m h => by omega⟩, 0, rfl⟩
  have HL := Lib.hid hl
  have hlb : ((w1.length : Int) != w2.length) = false := by rw [hl]; simp
  clear hl
  go_enter Tryz.func47, Tryz.ntmps47
  go_wp2
  go_loopg [13] w1.length (fun k i wr => EqRel w w1 w2 k i wr)
  case atStart => exact H0.out
  case round =>
    obtain ⟨⟨j, hj, hk, rfl, hall⟩, d, rfl⟩ := hrel
    have HK := Lib.hid hk
    have HA := Lib.hid hall
    clear hk hall
    by_cases hlt : j < w1.length
    · obtain ⟨b1', rfl, k1⟩ := H1.out j hlt
      obtain ⟨b2', rfl, k2⟩ := H2.out j (by rw [← HL.out]; exact hlt)
      have hlt2 : j < w2.length := by rw [← HL.out]; exact hlt
      by_cases he : w1.getD j ByteArray.empty = w2.getD j ByteArray.empty
      · have HE := Lib.hid he
        rw [← he] at k2
        clear he
        obtain ⟨s, hs⟩ : ∃ s, w1.getD j ByteArray.empty = s := ⟨_, rfl⟩
        rw [hs] at k1 k2
        clear hs
        go_wp2
        go_quiet (fail)
        go_wp2
        go_roundg (w1.length - (j + 1))
        case measure => have := HK.out; omega
        case rel =>
          refine ⟨⟨j + 1, by omega, rfl, by go_num, fun m hm => ?_⟩, _, rfl⟩
          by_cases hmj : m < j
          · exact HA.out m hmj
          · obtain rfl : m = j := by omega
            exact HE.out
      · have HE := Lib.hid he
        have hne := bytes_ne he
        have hd : decide (w1 = w2) = false := decide_eq_false (fun h => he (by rw [h]))
        have HD := Lib.hid hd
        clear he hd
        generalize w1.getD j ByteArray.empty = s at *
        generalize w2.getD j ByteArray.empty = t at *
        go_wp2
        go_quiet (fail)
        go_wp2
        go_ret
        exact ⟨by rw [HD.out]; rfl, _, World.drewN_drewN _ _ _⟩
    · obtain rfl : j = w1.length := by omega
      have hd : decide (w1 = w2) = true := decide_eq_true (by
        refine List.ext_getElem HL.out (fun i hi hi' => ?_)
        have := HA.out i hi
        simpa [List.getD, List.getElem?_eq_getElem hi, List.getElem?_eq_getElem hi'] using this)
      have HD := Lib.hid hd
      clear hd
      go_wp2
      go_ret
      exact ⟨by rw [HD.out]; rfl, d, rfl⟩

theorem equalSB_any (v1 v2 : Value) (w1 w2 : List ByteArray) (w : World) (h1 : StrsAt w v1 w1) (h2 : StrsAt w v2 w2) (hlen : w1.length ≤ 100000) :
    Calls Tryz.prog 47 #[v1, v2] w fun e w' => e = .returned (.bool (decide (w1 = w2))) ∧ ∃ n, w' = w.drewN n := by
  by_cases hl : w1.length = w2.length
  · exact equalSB_same v1 v2 w1 w2 w h1 h2 hl hlen
  · rw [decide_eq_false (fun h => hl (by rw [h]))]
    exact equalS_len v1 v2 w1 w2 w h1 h2 hl
end Go.Proofs.YtajmlkephefapaaGreatDoor

namespace Go.Proofs.YtajmlkephefapaaGreatDoor
open Go.RowKit Go.Extern.Stop Go.Stop Go.Extern

mutual
/-- Are two the same, places and what isn't of the kind aside? -/
def sameI : Val → Val → Bool
  | .mk k t n list keys _, .mk k' t' n' list' keys' _ => decide (k = k') && (if k = 3 then decide (n = n') else if k = 4 then decide (t = t') else if k = 5 then sameIs list list' else if k = 6 then decide (keys = keys') && sameIs list list' else true)
def sameIs : List Val → List Val → Bool
  | [], [] => true
  | x :: r, y :: s => sameI x y && sameIs r s
  | [], _ :: _ => false
  | _ :: _, [] => false
end
theorem sameIs_len : ∀ (l m : List Val), l.length ≠ m.length → sameIs l m = false
  | [], [], h => absurd rfl h
  | x :: r, y :: s, h => by
    rw [sameIs, sameIs_len r s (by simpa using h), Bool.and_false]
  | [], _ :: _, _ => by rw [sameIs]
  | _ :: _, [], _ => by rw [sameIs]
theorem sameIs_drop {l m : List Val} {i : Nat} {x y : Val} (hx : l[i]? = some x) (hy : m[i]? = some y) : sameIs (l.drop i) (m.drop i) = (sameI x y && sameIs (l.drop (i + 1)) (m.drop (i + 1))) := by
  obtain ⟨h1, e1⟩ := List.getElem?_eq_some_iff.1 hx
  obtain ⟨h2, e2⟩ := List.getElem?_eq_some_iff.1 hy
  rw [List.drop_eq_getElem_cons h1, List.drop_eq_getElem_cons h2, e1, e2, sameIs]
mutual
/-- No row of it is long. -/
def okI : Val → Prop
  | .mk _ _ _ list keys _ => list.length ≤ 100000 ∧ keys.length ≤ 100000 ∧ okIs list
def okIs : List Val → Prop
  | [] => True
  | x :: r => okI x ∧ okIs r
end
theorem okIs_at : ∀ {l : List Val} {i : Nat} {x : Val}, okIs l → l[i]? = some x → okI x
  | [], _, _, _, h => by simp at h
  | y :: r, 0, x, h0, h => by
    obtain rfl : y = x := by simpa using h
    rw [okIs] at h0
    exact h0.1
  | y :: r, i + 1, x, h0, h => by
    rw [okIs] at h0
    exact okIs_at h0.2 (i := i) (by simpa using h)
theorem RowIn.strs {P : Nat → Prop} {w : World} {v : Value} {ws : List ByteArray} (h : RowIn P w v ws.length (ws.map Value.string)) : StrsAt w v ws := by
  rcases h with ⟨h0, -, a, c, rfl⟩ | ⟨b, o, c, rfl, -, hlt, hc⟩
  · exact .inl ⟨a, c, rfl, List.eq_nil_of_length_eq_zero h0⟩
  · exact .inr ⟨b, o, c, rfl, hlt, fun i hi => by rw [hc i (.string (ws.getD i ByteArray.empty)) (by simp [hi, List.getD])]⟩
theorem RowIn.sb {P : Nat → Prop} {w w' : World} {v : Value} {n : Nat} {xs : List Value} (h : RowIn P w v n xs) (hb : Below w.heap.size w w') : RowIn P w' v n xs := h.move hb.size fun q hq hlt => ⟨hq, hb.block q hlt⟩
theorem ValsC.sb {P : Nat → Prop} {w w' : World} {xs : List Value} {l : List Val} (h : ValsC P w xs l) (hb : Below w.heap.size w w') : ValsC P w' xs l := h.move hb.size fun q hq hlt => ⟨hq, hb.block q hlt⟩
theorem ret_bi {a b : Bool} (h : a = b) : Ending.returned (.bool a) = .returned (.bool b) := by rw [h]

set_option maxRecDepth 100000 in
set_option maxHeartbeats 8000000 in
/-- slices.EqualFunc over values, Same at those known. -/
theorem equalFuncV_of (P P' : Nat → Prop) (kids kids2 : List Val) (hkl : kids.length ≤ 1000000) (w : World) (a : Option Addr) (c : Nat) (a2 : Option Addr) (c2 : Nat) (xs xs2 : List Value)
    (hl : RowIn P w (.slice a kids.length c) kids.length xs) (hvs : ValsC P w xs kids) (hl2 : RowIn P' w (.slice a2 kids2.length c2) kids2.length xs2) (hvs2 : ValsC P' w xs2 kids2)
    (HC : Hid (∀ (i : Nat) (x y : Val), kids[i]? = some x → kids2[i]? = some y → ∀ W, Below w.heap.size w W → ∀ (k : Int) (t : ByteArray) (u : Int) (a : Option Addr) (l c : Nat) (a' : Option Addr) (l' c' : Nat) (z : Int) (k4 : Int) (t4 : ByteArray) (u4 : Int) (a4 : Option Addr) (l4 c4 : Nat) (a5 : Option Addr) (l5 c5 : Nat) (z4 : Int),
      ValC P W [.int .i64 k, .string t, .int .u64 u, .slice a l c, .slice a' l' c', .int .i64 z] x → ValC P' W [.int .i64 k4, .string t4, .int .u64 u4, .slice a4 l4 c4, .slice a5 l5 c5, .int .i64 z4] y →
      Calls Tryz.prog 25 #[.agg #[.int .i64 k, .string t, .int .u64 u, .slice a l c, .slice a' l' c', .int .i64 z], .agg #[.int .i64 k4, .string t4, .int .u64 u4, .slice a4 l4 c4, .slice a5 l5 c5, .int .i64 z4]] W fun e w' => e = .returned (.bool (sameI x y)) ∧ Below W.heap.size W w')) :
    Calls Tryz.prog 51 #[.slice a kids.length c, .slice a2 kids2.length c2, .func (.func 25) #[] #[]] w fun e w' => e = .returned (.bool (sameIs kids kids2)) ∧ Below w.heap.size w w' := by
  have HROW := Lib.hid hl
  have HVS := Lib.hid hvs
  have HROW2 := Lib.hid hl2
  have HVS2 := Lib.hid hvs2
  clear hl hvs hl2 hvs2
  by_cases e4 : kids.length = kids2.length
  case neg =>
    have hne : ((kids.length : Int) != kids2.length) = true := bne_iff_ne.2 (by omega)
    have HE := Lib.hid (sameIs_len _ _ e4)
    clear e4
    go_enter Tryz.func51, Tryz.ntmps51
    go_wp2_with fail
    go_ret
    exact ⟨ret_bi HE.out.symm, Below.refl _ _⟩
  have hne4 : ((kids.length : Int) != kids2.length) = false := by rw [e4]; simp
  have HE4 := Lib.hid e4
  clear e4
  go_enter Tryz.func51, Tryz.ntmps51
  go_wp2_with fail
  go_loopg [17] kids.length (fun g v wr => ∃ i : Nat, i ≤ kids.length ∧ g = kids.length - i ∧ v = .int .i64 i ∧ sameIs (kids.drop i) (kids2.drop i) = sameIs kids kids2 ∧ Below w.heap.size w wr)
  case atStart => exact ⟨0, Nat.zero_le _, by omega, rfl, by rw [List.drop_zero, List.drop_zero], Below.refl _ _⟩
  case round =>
    obtain ⟨i, hi, hgk, rfl, hd, hbel⟩ := hrel
    by_cases hlt : i < kids.length
    · have hlt2 : i < kids2.length := by rw [← HE4.out]; exact hlt
      obtain ⟨x, hx⟩ : ∃ x, kids[i]? = some x := ⟨_, List.getElem?_eq_getElem hlt⟩
      obtain ⟨y, hy⟩ : ∃ y, kids2[i]? = some y := ⟨_, List.getElem?_eq_getElem hlt2⟩
      rw [sameIs_drop hx hy] at hd
      have HD := Lib.hid hd
      have HB := Lib.hid hbel
      obtain ⟨b1, o1, k6, t6, u6, a6, l6, c6, a7, l7, c7, z6, rfl, hvx, hE1⟩ := el_at HROW.out HVS.out hx hbel
      obtain ⟨b2, o2, k8, t8, u8, a8, l8, c8, a9, l9, c9, z8, rfl, hvy, hE2⟩ := el_at HROW2.out HVS2.out hy hbel
      have bn1 := sbelow_new wr (.cells #[.int .i64 k6, .string t6, .int .u64 u6, .slice a6 l6 c6, .slice a7 l7 c7, .int .i64 z6] 27)
      have bn2 := sbelow_new (wr.alloc (.cells #[.int .i64 k6, .string t6, .int .u64 u6, .slice a6 l6 c6, .slice a7 l7 c7, .int .i64 z6] 27)) (.cells #[.int .i64 k8, .string t8, .int .u64 u8, .slice a8 l8 c8, .slice a9 l9 c9, .int .i64 z8] 27)
      have bn := hbel.trans ((bn1.trans (bn2.mono bn1.size)).mono hbel.size)
      have HC1 := Lib.hid (HC.out i x y hx hy _ bn _ _ _ _ _ _ _ _ _ _ _ _ _ _ _ _ _ _ _ _ (hvx.step bn) (hvy.step bn))
      have HBN := Lib.hid bn
      obtain ⟨-, g0, g1, g2, g3, g4, g5⟩ := hE1
      have hE2' := hE2.step bn1
      obtain ⟨-, f0, f1, f2, f3, f4, f5⟩ := hE2'
      generalize sameI x y = sb at *
      clear hd hbel hx hy hvx hvy hE2 bn1 bn2 bn
      go_wp2_with fail
      refine HC1.out.mono ?_
      rintro e w4 ⟨rfl, b4⟩
      cases sb with
      | true =>
        rw [Bool.true_and] at HD
        go_wp2_with fail
        go_roundg (kids.length - (i + 1))
        case measure => omega
        case rel => exact ⟨i + 1, by omega, rfl, by first | rfl | (rw [w64l _ (by omega)]; rfl), HD.out, HBN.out.trans (b4.mono HBN.out.size)⟩
      | false =>
        rw [Bool.false_and] at HD
        go_wp2_with fail
        go_ret
        exact ⟨ret_bi HD.out, HBN.out.trans (b4.mono HBN.out.size)⟩
    · obtain rfl : i = kids.length := by omega
      rw [List.drop_length, HE4.out, List.drop_length, sameIs] at hd
      have HD := Lib.hid hd
      clear hd
      go_wp2_with fail
      go_ret
      exact ⟨ret_bi HD.out, hbel⟩

set_option maxRecDepth 100000 in
set_option maxHeartbeats 8000000 in
theorem isame_go (P P' : Nat → Prop) : ∀ (m : Nat) (x : Val), SizeOf.sizeOf x < m → okI x → ∀ (y : Val) (w : World) (k : Int) (t : ByteArray) (u : Int) (a : Option Addr) (l c : Nat) (a' : Option Addr) (l' c' : Nat) (z : Int) (k4 : Int) (t4 : ByteArray) (u4 : Int) (a4 : Option Addr) (l4 c4 : Nat) (a5 : Option Addr) (l5 c5 : Nat) (z4 : Int),
    ValC P w [.int .i64 k, .string t, .int .u64 u, .slice a l c, .slice a' l' c', .int .i64 z] x → ValC P' w [.int .i64 k4, .string t4, .int .u64 u4, .slice a4 l4 c4, .slice a5 l5 c5, .int .i64 z4] y →
    Calls Tryz.prog 25 #[.agg #[.int .i64 k, .string t, .int .u64 u, .slice a l c, .slice a' l' c', .int .i64 z], .agg #[.int .i64 k4, .string t4, .int .u64 u4, .slice a4 l4 c4, .slice a5 l5 c5, .int .i64 z4]] w fun e w' => e = .returned (.bool (sameI x y)) ∧ Below w.heap.size w w' := by
  intro m
  induction m with
  | zero => intro x hx; exact absurd hx (Nat.not_lt_zero _)
  | succ m ih =>
    intro x hx hok y w k t u a l c a' l' c' z k4 t4 u4 a4 l4 c4 a5 l5 c5 z4 hv hy
    cases x with
    | mk k1 t1 n1 list keys z1 =>
    cases y with
    | mk k2 t2 n2 list2 keys2 z2 =>
      rw [okI] at hok
      unfold ValC at hv hy
      obtain ⟨sl, sk', xs, e, hk, hl, hvs⟩ := hv
      simp only [List.cons.injEq, Value.int.injEq, Value.string.injEq, true_and, and_true] at e
      obtain ⟨rfl, rfl, rfl, rfl, rfl, rfl⟩ := e
      obtain ⟨sl, sk', xs2, e, hk2, hl2, hvs2⟩ := hy
      simp only [List.cons.injEq, Value.int.injEq, Value.string.injEq, true_and, and_true] at e
      obtain ⟨rfl, rfl, rfl, rfl, rfl, rfl⟩ := e
      obtain ⟨_, _, es⟩ := hl.form
      simp only [Value.slice.injEq] at es
      obtain ⟨-, el, -⟩ := es
      subst el
      obtain ⟨_, _, es⟩ := hl2.form
      simp only [Value.slice.injEq] at es
      obtain ⟨-, el, -⟩ := es
      subst el
      obtain ⟨_, _, es⟩ := hk.form
      simp only [Value.slice.injEq] at es
      obtain ⟨-, el, -⟩ := es
      subst el
      obtain ⟨_, _, es⟩ := hk2.form
      simp only [Value.slice.injEq] at es
      obtain ⟨-, el, -⟩ := es
      subst el
      simp only [Val.mk.sizeOf_spec] at hx
      have HQ : Hid (∀ W, Below w.heap.size w W → Calls Tryz.prog 47 #[.slice a' keys.length c', .slice a5 keys2.length c5] W fun e w' => e = .returned (.bool (decide (keys = keys2))) ∧ ∃ n, w' = W.drewN n) :=
        Lib.hid fun W hb => equalSB_any _ _ keys keys2 W (RowIn.strs (RowIn.sb hk hb)) (RowIn.strs (RowIn.sb hk2 hb)) hok.2.1
      have HF : Hid (∀ W, Below w.heap.size w W → Calls Tryz.prog 51 #[.slice a list.length c, .slice a4 list2.length c4, .func (.func 25) #[] #[]] W fun e w' => e = .returned (.bool (sameIs list list2)) ∧ Below W.heap.size W w') :=
        Lib.hid fun W hb => equalFuncV_of P P' list list2 (by omega) W a c a4 c4 xs xs2 (RowIn.sb hl hb) (hvs.sb hb) (RowIn.sb hl2 hb) (hvs2.sb hb) (Lib.hid fun i x y hx' hy' W' hb' k t u a l c a' l' c' z k4 t4 u4 a4 l4 c4 a5 l5 c5 z4 h1 h2 =>
          ih x (by have := sizeOf_mem hx'; omega) (okIs_at hok.2.2 hx') y W' k t u a l c a' l' c' z k4 t4 u4 a4 l4 c4 a5 l5 c5 z4 h1 h2)
      have H0 := Lib.hid (TwoV.start w 27 (.int .i64 k) (.string t) (.int .u64 u) (.slice a list.length c) (.slice a' keys.length c') (.int .i64 z) (.int .i64 k4) (.string t4) (.int .u64 u4) (.slice a4 list2.length c4) (.slice a5 keys2.length c5) (.int .i64 z4))
      rw [sameI]
      generalize decide (keys = keys2) = qw at *
      generalize sameIs list list2 = qs at *
      clear hk hl hvs hk2 hl2 hvs2 hok ih hx
      obtain ⟨-, p0, p1, p2, p3, p4, p5⟩ := H0.out.sa
      obtain ⟨-, q0, q1, q2, q3, q4, q5⟩ := H0.out.sb
      by_cases e1 : k = k4
      case neg =>
        have hne : (k == k4) = false := beq_eq_false_iff_ne.2 e1
        rw [decide_eq_false e1, Bool.false_and]
        clear e1
        go_enter Tryz.func25, Tryz.ntmps25
        go_wp2_with fail
        go_ret
        exact ⟨rfl, H0.out.below⟩
      subst e1
      rw [decide_eq_true rfl, Bool.true_and]
      by_cases k3 : k = 3
      · subst k3
        rw [if_pos rfl]
        go_enter Tryz.func25, Tryz.ntmps25
        go_wp2_with fail
        go_ret
        exact ⟨ret_bi (by by_cases h : u = u4 <;> simp [h]), H0.out.below⟩
      by_cases k4' : k = 4
      · subst k4'
        rw [if_neg k3, if_pos rfl]
        go_enter Tryz.func25, Tryz.ntmps25
        go_wp2_with fail
        go_ret
        refine ⟨ret_bi ?_, H0.out.below⟩
        by_cases h : t = t4
        · simp [h]
        · rw [bytes_ne h, decide_eq_false h]
      by_cases k5 : k = 5
      · subst k5
        rw [if_neg k3, if_neg k4', if_pos rfl]
        go_enter Tryz.func25, Tryz.ntmps25
        go_wp2_with fail
        refine (HF.out _ H0.out.below).mono ?_
        rintro e w3 ⟨rfl, b3⟩
        have HB3 := Lib.hid (H0.out.below.trans (b3.mono H0.out.below.size))
        go_wp2_with fail
        go_ret
        exact ⟨rfl, HB3.out⟩
      by_cases k6 : k = 6
      · subst k6
        rw [if_neg k3, if_neg k4', if_neg k5, if_pos rfl]
        go_enter Tryz.func25, Tryz.ntmps25
        go_wp2_with fail
        refine (HQ.out _ H0.out.below).mono ?_
        rintro e w1 ⟨rfl, nq, rfl⟩
        have H1 := Lib.hid (H0.out.step (below_dr5 _ nq))
        clear p0 p1 p2 p3 p4 p5 q0 q1 q2 q3 q4 q5
        obtain ⟨-, -, -, -, p3, -⟩ := H1.out.sa
        obtain ⟨-, -, -, -, q3, -⟩ := H1.out.sb
        generalize World.drewN _ nq = w2 at *
        cases qw with
        | false =>
          go_wp2_with fail
          go_ret
          exact ⟨rfl, H1.out.below⟩
        | true =>
          go_wp2_with fail
          refine (HF.out _ H1.out.below).mono ?_
          rintro e w3 ⟨rfl, b3⟩
          have HB3 := Lib.hid (H1.out.below.trans (b3.mono H1.out.below.size))
          clear p3 q3
          go_wp2_with fail
          go_ret
          exact ⟨rfl, HB3.out⟩
      rw [if_neg k3, if_neg k4', if_neg k5, if_neg k6]
      go_enter Tryz.func25, Tryz.ntmps25
      go_wp2_with fail
      go_ret
      exact ⟨rfl, H0.out.below⟩
end Go.Proofs.YtajmlkephefapaaGreatDoor

namespace Go.Proofs.YtajmlkephefapaaGreatDoor
open Go.RowKit Go.Extern.Stop Go.Stop Go.Extern

/-- A fault: its number (0: none), its place, the words within which it was met. -/
abbrev Flt := Int × Int × List ByteArray
/-- A fault, within one word more. -/
def inF (s : ByteArray) (f : Flt) : Flt := if f.1 = 0 then f else (f.1, f.2.1, s :: f.2.2)
theorem inF_ok {s : ByteArray} {f : Flt} (h : f.1 = 0) : inF s f = f := if_pos h
theorem inF_no {s : ByteArray} {f : Flt} (h : f.1 ≠ 0) : inF s f = (f.1, f.2.1, s :: f.2.2) := if_neg h
theorem inF_fst (s : ByteArray) (f : Flt) : (inF s f).1 = f.1 := by unfold inF; split <;> rfl
/-- What a check answers: no error, or a chain of just this fault within just these words; the fault's block is new. -/
def FltPost (F : Flt) (w : World) (e : Ending) (w' : World) : Prop :=
  ∃ v, e = .returned v ∧ (F.1 = 0 → v = .nilIface) ∧ (F.1 ≠ 0 → ∃ b, w.heap.size ≤ b ∧ ChainAt w' (.fault b F.1 F.2.1) F.2.2 v) ∧ Below w.heap.size w w'
theorem FltPost.ok {F : Flt} {w w' : World} (h : F.1 = 0) (hb : Below w.heap.size w w') : FltPost F w (.returned .nilIface) w' := ⟨_, rfl, fun _ => rfl, fun h' => absurd h h', hb⟩
theorem FltPost.no {F : Flt} {w w' : World} {v : Value} {b : Nat} (h : F.1 ≠ 0) (hn : w.heap.size ≤ b) (hc : ChainAt w' (.fault b F.1 F.2.1) F.2.2 v) (hb : Below w.heap.size w w') : FltPost F w (.returned v) w' := ⟨_, rfl, fun h' => absurd h' h, fun _ => ⟨b, hn, hc⟩, hb⟩
theorem FltPost.new {w w1 : World} {c a : Int} (hc : c ≠ 0) (hb : Below w.heap.size w w1) :
    FltPost (c, a, []) w (.returned (.iface 100 (.pointer (some ⟨w1.heap.size, 0, none⟩)))) (w1.alloc (.cells #[.int .i64 c, .int .i64 a] 102)) :=
  .no hc hb.size (new_chain c a w1) (hb.alloc hb.size _)
theorem FltPost.up {F : Flt} {w w1 w' : World} {e : Ending} (h : FltPost F w1 e w') (hb : Below w.heap.size w w1) : FltPost F w e w' := by
  obtain ⟨v, rfl, h0, h1, h2⟩ := h
  exact ⟨v, rfl, h0, fun hz => by obtain ⟨b, hn, hc⟩ := h1 hz; exact ⟨b, Nat.le_trans hb.size hn, hc⟩, hb.trans (h2.mono hb.size)⟩
theorem FltPost.cases {F : Flt} {w : World} {e : Ending} {w' : World} (h : FltPost F w e w') : (e = .returned .nilIface ∧ F.1 = 0 ∧ Below w.heap.size w w') ∨ ∃ T V b, e = .returned (.iface T V) ∧ F.1 ≠ 0 ∧ w.heap.size ≤ b ∧ ChainAt w' (.fault b F.1 F.2.1) F.2.2 (.iface T V) ∧ Below w.heap.size w w' := by
  obtain ⟨v, rfl, h0, h1, hb⟩ := h
  by_cases hz : F.1 = 0
  · exact .inl ⟨by rw [h0 hz], hz, hb⟩
  · obtain ⟨b, hn, hch⟩ := h1 hz
    obtain ⟨T, V, rfl⟩ := hch.iface
    exact .inr ⟨T, V, b, rfl, hz, hn, hch, hb⟩
end Go.Proofs.YtajmlkephefapaaGreatDoor

namespace Go.Proofs.YtajmlkephefapaaGreatDoor
open Go.RowKit Go.Extern.Stop Go.Stop Go.Extern Go.WideMaps

/-- What is wrong with a value itself, so far within (0: nothing). -/
def flawI (d k : Int) (t : ByteArray) (u : Int) (l l' : Nat) : Int :=
  if (k = 5 ∨ k = 6) ∧ 64 ≤ d then 8 else if k < 0 ∨ 6 < k then 9 else if k = 3 ∧ u ≠ capI u then 7 else if k = 4 ∧ t.data.toList.all mayS = false then 4 else if k = 6 ∧ l' ≠ l then 12 else 0
theorem ret_i64 {a b : Int} (h : a = b) : Ending.returned (.int .i64 a) = .returned (.int .i64 b) := by rw [h]
set_option maxHeartbeats 4000000 in
theorem iflaw_any (d k : Int) (t : ByteArray) (u : Int) (a : Option Addr) (l c : Nat) (a' : Option Addr) (l' c' : Nat) (z : Int) (ht : t.size ≤ 100000) (w : World) :
    Calls Tryz.prog 77 #[.agg #[.int .i64 k, .string t, .int .u64 u, .slice a l c, .slice a' l' c', .int .i64 z], .int .i64 d] w fun e w' => e = .returned (.int .i64 (flawI d k t u l l')) ∧ Below w.heap.size w w' := by
  have HH := Lib.hid (fun W => iholds_any k t u a l c a' l' c' z W)
  have HW := Lib.hid (fun W => iwhole_any k t u a l c a' l' c' z W)
  have HC := Lib.hid (fun a W => cap_any a W)
  have HM := Lib.hid (fun W => mayBe_any t ht W)
  have H0 := Lib.hid (sbelow_new w (.cells #[.int .i64 k, .string t, .int .u64 u, .slice a l c, .slice a' l' c', .int .i64 z] 27))
  have H6 : Hid (SixAt (w.alloc (.cells #[.int .i64 k, .string t, .int .u64 u, .slice a l c, .slice a' l' c', .int .i64 z] 27)) w.heap.size (.int .i64 k) (.string t) (.int .u64 u) (.slice a l c) (.slice a' l' c') (.int .i64 z)) := Lib.hid (heap_alloc_new w _)
  obtain ⟨s0, s1, s2, s3, s4, s5⟩ := H6.out.cells
  have HF := Lib.hid (show flawI d k t u l l' = flawI d k t u l l' from rfl)
  unfold flawI at HF ⊢
  generalize t.data.toList.all mayS = mb at *
  by_cases h56 : k = 5 ∨ k = 6
  · by_cases hd : 64 ≤ d
    · rw [if_pos ⟨h56, hd⟩]
      rw [decide_eq_true h56] at HH
      clear h56
      go_enter Tryz.func77, Tryz.ntmps77
      go_wp2_with fail
      refine (HH.out _).mono ?_
      rintro e w1 ⟨rfl, b1⟩
      have HB1 := Lib.hid (H0.out.trans (b1.mono H0.out.size))
      clear b1 s0 s1 s2 s3 s4 s5
      go_wp2_with fail
      go_ret
      exact ⟨rfl, HB1.out⟩
    · rw [if_neg (fun h => hd h.2)]
      rw [decide_eq_true h56] at HH
      rcases h56 with rfl | rfl
      · go_enter Tryz.func77, Tryz.ntmps77
        go_wp2_with fail
        refine (HH.out _).mono ?_
        rintro e w1 ⟨rfl, b1⟩
        have HB1 := Lib.hid (H0.out.trans (b1.mono H0.out.size))
        have H61 := Lib.hid (H6.out.step b1)
        clear s0 s1 s2 s3 s4 s5 b1
        obtain ⟨s0, s1, s2, s3, s4, s5⟩ := H61.out.cells
        go_wp2_with fail
        go_quiet (first | (go_at_call 106; exact Calls.quiet_of_same (HC.out _ _)) | (go_at_call 109; exact Calls.quiet_of_same (HM.out _)))
        go_wp2_with fail
        go_ret
        exact ⟨ret_i64 (by simp), HB1.out.trans ((kbelow_drewN w1 _).mono HB1.out.size)⟩
      · go_enter Tryz.func77, Tryz.ntmps77
        go_wp2_with fail
        refine (HH.out _).mono ?_
        rintro e w1 ⟨rfl, b1⟩
        have HB1 := Lib.hid (H0.out.trans (b1.mono H0.out.size))
        have H61 := Lib.hid (H6.out.step b1)
        clear s0 s1 s2 s3 s4 s5 b1
        obtain ⟨s0, s1, s2, s3, s4, s5⟩ := H61.out.cells
        go_wp2_with fail
        go_quiet (first | (go_at_call 106; exact Calls.quiet_of_same (HC.out _ _)) | (go_at_call 109; exact Calls.quiet_of_same (HM.out _)))
        go_wp2_with fail
        refine (HW.out _).mono ?_
        rintro e w2 ⟨rfl, b2⟩
        have HB2 := Lib.hid (HB1.out.trans ((kbelow_drewN w1 _).trans (b2.mono (Nat.le_refl _)) |>.mono HB1.out.size))
        clear s0 s1 s2 s3 s4 s5 b2
        by_cases hl : l' = l
        · subst hl
          go_wp2_with fail
          go_ret
          exact ⟨ret_i64 (by simp), HB2.out⟩
        · have hlb : ((l' : Int) == (l : Int)) = false := beq_eq_false_iff_ne.2 (by omega)
          go_wp2_with fail
          go_ret
          exact ⟨ret_i64 (by simp), HB2.out⟩
  · rw [if_neg (fun h => h56 h.1)]
    rw [decide_eq_false h56] at HH
    by_cases hr : k < 0 ∨ 6 < k
    · rw [if_pos hr]
      rcases hr with hr | hr
      all_goals
        go_enter Tryz.func77, Tryz.ntmps77
        go_wp2_with fail
        refine (HH.out _).mono ?_
        rintro e w1 ⟨rfl, b1⟩
        have HB1 := Lib.hid (H0.out.trans (b1.mono H0.out.size))
        have H61 := Lib.hid (H6.out.step b1)
        clear s0 s1 s2 s3 s4 s5 b1
        obtain ⟨s0, s1, s2, s3, s4, s5⟩ := H61.out.cells
        go_wp2_with fail
        go_ret
        exact ⟨rfl, HB1.out⟩
    · rw [if_neg hr]
      by_cases k3 : k = 3
      · subst k3
        go_enter Tryz.func77, Tryz.ntmps77
        go_wp2_with fail
        refine (HH.out _).mono ?_
        rintro e w1 ⟨rfl, b1⟩
        have HB1 := Lib.hid (H0.out.trans (b1.mono H0.out.size))
        have H61 := Lib.hid (H6.out.step b1)
        clear s0 s1 s2 s3 s4 s5 b1
        obtain ⟨s0, s1, s2, s3, s4, s5⟩ := H61.out.cells
        go_wp2_with fail
        go_quiet (first | (go_at_call 106; exact Calls.quiet_of_same (HC.out _ _)) | (go_at_call 109; exact Calls.quiet_of_same (HM.out _)))
        go_wp2_with fail
        all_goals
          go_ret
          refine ⟨ret_i64 ?_, HB1.out.trans ((kbelow_drewN w1 _).mono HB1.out.size)⟩
          first
            | rfl
            | exact absurd ⟨trivial, by simpa using ‹(u != capI u) = true›⟩ h
            | exact absurd (show u = capI u by simpa using ‹(u != capI u) = false›) h.2
      by_cases k4 : k = 4
      · subst k4
        cases mb
        all_goals
          go_enter Tryz.func77, Tryz.ntmps77
          go_wp2_with fail
          refine (HH.out _).mono ?_
          rintro e w1 ⟨rfl, b1⟩
          have HB1 := Lib.hid (H0.out.trans (b1.mono H0.out.size))
          have H61 := Lib.hid (H6.out.step b1)
          clear s0 s1 s2 s3 s4 s5 b1
          obtain ⟨s0, s1, s2, s3, s4, s5⟩ := H61.out.cells
          go_wp2_with fail
          go_quiet (first | (go_at_call 106; exact Calls.quiet_of_same (HC.out _ _)) | (go_at_call 109; exact Calls.quiet_of_same (HM.out _)))
          go_wp2_with fail
          refine (HM.out _).mono ?_
          rintro e w2 ⟨rfl, rfl⟩
          go_wp2_with fail
          go_ret
          exact ⟨ret_i64 (by simp), HB1.out.trans ((kbelow_drewN w1 _).mono HB1.out.size)⟩
      have h012 : k = 0 ∨ k = 1 ∨ k = 2 := by omega
      rcases h012 with rfl | rfl | rfl
      all_goals
        go_enter Tryz.func77, Tryz.ntmps77
        go_wp2_with fail
        refine (HH.out _).mono ?_
        rintro e w1 ⟨rfl, b1⟩
        have HB1 := Lib.hid (H0.out.trans (b1.mono H0.out.size))
        have H61 := Lib.hid (H6.out.step b1)
        clear s0 s1 s2 s3 s4 s5 b1
        obtain ⟨s0, s1, s2, s3, s4, s5⟩ := H61.out.cells
        go_wp2_with fail
        go_quiet (first | (go_at_call 106; exact Calls.quiet_of_same (HC.out _ _)) | (go_at_call 109; exact Calls.quiet_of_same (HM.out _)))
        go_wp2_with fail
        go_ret
        exact ⟨ret_i64 (by simp), HB1.out.trans ((kbelow_drewN w1 _).mono HB1.out.size)⟩
end Go.Proofs.YtajmlkephefapaaGreatDoor

namespace Go.Proofs.YtajmlkephefapaaGreatDoor
open Go.RowKit Go.Extern.Stop Go.Stop Go.Extern Go.WideMaps

/-- A number in digits. -/
def digN (i : Nat) : ByteArray := ⟨(Lib.decDigits i).toArray⟩
/-- What is wrong with a key behind those seen. -/
def keyF (seen : List ByteArray) (y : ByteArray) : Flt := if y.data.toList.all mayS = false then (4, 0, []) else if hasKey seen y = true then (10, 0, []) else (0, 0, [])
mutual
/-- The first fault of a value, so far within. -/
def chkV : Int → Val → Flt
  | d, .mk k t n list keys _ => if flawI d k t n list.length keys.length ≠ 0 then (flawI d k t n list.length keys.length, 0, []) else if k = 5 then chkA (d + 1) list 0 else if k = 6 then chkO (d + 1) list keys [] else (0, 0, [])
def chkA : Int → List Val → Nat → Flt
  | _, [], _ => (0, 0, [])
  | d, x :: r, i => if (chkV d x).1 = 0 then chkA d r (i + 1) else inF (digN i) (chkV d x)
def chkO : Int → List Val → List ByteArray → List ByteArray → Flt
  | _, [], _, _ => (0, 0, [])
  | _, _ :: _, [], _ => (0, 0, [])
  | d, x :: r, y :: ks, seen => if (keyF seen y).1 ≠ 0 then inF y (keyF seen y) else if (chkV d x).1 = 0 then chkO d r ks (seen ++ [y]) else inF y (chkV d x)
end
mutual
/-- No text of it is long. -/
def okT : Val → Prop
  | .mk _ t _ list keys _ => t.size ≤ 100000 ∧ (∀ y ∈ keys, y.size ≤ 100000) ∧ okTs list
def okTs : List Val → Prop
  | [] => True
  | x :: r => okT x ∧ okTs r
end
theorem okTs_at : ∀ {l : List Val} {i : Nat} {x : Val}, okTs l → l[i]? = some x → okT x
  | [], _, _, _, h => by simp at h
  | y :: r, 0, x, h0, h => by
    obtain rfl : y = x := by simpa using h
    rw [okTs] at h0
    exact h0.1
  | y :: r, i + 1, x, h0, h => by
    rw [okTs] at h0
    exact okTs_at h0.2 (i := i) (by simpa using h)
set_option maxRecDepth 100000 in
set_option maxHeartbeats 2000000 in
theorem icheckKey_any (y : ByteArray) (hy : y.size ≤ 100000) (mb n : Nat) (seen : List ByteArray) (w : World) (hm : KsAt w mb n seen) :
    Calls Tryz.prog 112 #[.string y, .map (some mb)] w (FltPost (keyF seen y) w) := by
  have HM := Lib.hid (fun W => mayBe_any y hy W)
  have HN := Lib.hid (fun c W (h : c ≠ 0) => new_any c 0 h W)
  have hkey : keyOf Tryz.prog 9 (.string y) = some (.string y.data.toList) := keyOf_string_mk Tryz.underlying9 (by unfold maxLen; omega)
  have hbe := sbelow_new w (.cells #[] 159)
  have HB := Lib.hid hbe
  obtain ⟨D, hown, hhas⟩ := hm
  obtain ⟨D', hown', hhas'⟩ := KsAt.step ⟨D, hown, hhas⟩ hbe
  have HH := Lib.hid (hhas y)
  have HH' := Lib.hid (hhas' y)
  unfold keyF
  generalize y.data.toList.all mayS = mb1 at *
  generalize hasKey seen y = hk at *
  clear hhas hhas' hbe
  cases mb1 with
  | false =>
    rw [if_pos rfl]
    go_enter Tryz.func112, Tryz.ntmps112
    go_wp2_with fail
    refine (HM.out _).mono ?_
    rintro e w1 ⟨rfl, rfl⟩
    go_wp2_with fail
    refine (HN.out 4 _ (by decide)).mono ?_
    rintro e w2 ⟨rfl, rfl⟩
    go_wp2_with fail
    go_ret
    exact FltPost.new (c := 4) (a := 0) (by decide) (Below.refl _ _)
  | true =>
    rw [if_neg (by decide)]
    cases hk with
    | true =>
      rw [if_pos rfl]
      go_enter Tryz.func112, Tryz.ntmps112
      go_wp2_with fail
      refine (HM.out _).mono ?_
      rintro e w1 ⟨rfl, rfl⟩
      go_wp2_with (at_lookup; first
        | (refine wpList_lookup_own_unit _ rfl _ _ 137 rfl 9 159 law9 Tryz.underlying137 (zeroE _) mb n _ rfl hown _ _ rfl hkey ?_; rw [HH.out])
        | (refine wpList_lookup_own_unit _ rfl _ _ 137 rfl 9 159 law9 Tryz.underlying137 (zeroE _) mb n _ rfl hown' _ _ rfl hkey ?_; rw [HH'.out]))
      refine (HN.out 10 _ (by decide)).mono ?_
      rintro e w2 ⟨rfl, rfl⟩
      go_wp2_with fail
      go_ret
      have hq := FltPost.new (c := 10) (a := 0) (by decide) HB.out
      rw [World.size_alloc] at hq
      exact hq
    | false =>
      rw [if_neg (by decide)]
      go_enter Tryz.func112, Tryz.ntmps112
      go_wp2_with fail
      refine (HM.out _).mono ?_
      rintro e w1 ⟨rfl, rfl⟩
      go_wp2_with (at_lookup; first
        | (refine wpList_lookup_own_unit _ rfl _ _ 137 rfl 9 159 law9 Tryz.underlying137 (zeroE _) mb n _ rfl hown _ _ rfl hkey ?_; rw [HH.out])
        | (refine wpList_lookup_own_unit _ rfl _ _ 137 rfl 9 159 law9 Tryz.underlying137 (zeroE _) mb n _ rfl hown' _ _ rfl hkey ?_; rw [HH'.out]))
      go_ret
      exact FltPost.ok rfl HB.out
/-- Digits by contract. -/
def Digs : Prop := ∀ (u : Int) (W : World), 0 ≤ u → Tab W → Calls Tryz.prog 73 #[.int .u64 u] W fun e w' => e = .returned (.string ⟨(Lib.decDigits (capI u).toNat).toArray⟩) ∧ Below W.heap.size W w'
theorem Digs.at (h : Digs) (i : Nat) (hi : i ≤ 1000000) (W : World) (hT : Tab W) : Calls Tryz.prog 73 #[.int .u64 (i : Int)] W fun e w' => e = .returned (.string (digN i)) ∧ Below W.heap.size W w' := by
  have := h (i : Int) W (by omega) hT
  have e : capI (i : Int) = i := by unfold capI most; rw [if_neg (by omega)]
  rw [e, Int.toNat_natCast] at this
  exact this
/-- On the way through an array's values. -/
def CaR (w : World) (d : Int) (list : List Val) (g : Nat) (u : Value) (wr : World) : Prop :=
  ∃ i : Nat, i ≤ list.length ∧ g = list.length - i ∧ u = .int .i64 i ∧ chkA d (list.drop i) i = chkA d list 0 ∧ Below w.heap.size w wr
set_option maxRecDepth 100000 in
set_option maxHeartbeats 4000000 in
theorem icheckArray_of (HDg : Digs) (P : Nat → Prop) (d : Int) (list : List Val) (hll : list.length ≤ 100000) (w : World) (k : Int) (t : ByteArray) (u : Int) (a : Option Addr) (c : Nat) (a' : Option Addr) (l' c' : Nat) (z : Int) (xs : List Value)
    (hl : RowIn P w (.slice a list.length c) list.length xs) (hvs : ValsC P w xs list) (hT : Tab w)
    (HC : Hid (∀ (i : Nat) (x : Val), list[i]? = some x → ∀ W, Below w.heap.size w W → ∀ (k : Int) (t : ByteArray) (u : Int) (a : Option Addr) (l c : Nat) (a' : Option Addr) (l' c' : Nat) (z : Int), ValC P W [.int .i64 k, .string t, .int .u64 u, .slice a l c, .slice a' l' c', .int .i64 z] x →
      Calls Tryz.prog 48 #[.agg #[.int .i64 k, .string t, .int .u64 u, .slice a l c, .slice a' l' c', .int .i64 z], .int .i64 d] W (FltPost (chkV d x) W))) :
    Calls Tryz.prog 78 #[.agg #[.int .i64 k, .string t, .int .u64 u, .slice a list.length c, .slice a' l' c', .int .i64 z], .int .i64 d] w (FltPost (chkA d list 0) w) := by
  have HROW := Lib.hid hl
  have HVS := Lib.hid hvs
  have HT := Lib.hid hT
  have HI := Lib.hid (fun i (h : i ≤ 1000000) W hW => HDg.at i h W hW)
  have HIn := Lib.hid (fun s T V W => in_any s T V W)
  have HB0 := Lib.hid (sbelow_new w (.cells #[.int .i64 k, .string t, .int .u64 u, .slice a list.length c, .slice a' l' c', .int .i64 z] 27))
  have H6 : SixAt (w.alloc (.cells #[.int .i64 k, .string t, .int .u64 u, .slice a list.length c, .slice a' l' c', .int .i64 z] 27)) w.heap.size (.int .i64 k) (.string t) (.int .u64 u) (.slice a list.length c) (.slice a' l' c') (.int .i64 z) := heap_alloc_new w _
  obtain ⟨s0, s1, s2, s3, s4, s5⟩ := H6.cells
  clear hl hvs hT H6 HDg
  go_enter Tryz.func78, Tryz.ntmps78
  go_wp2_with fail
  clear s0 s1 s2 s3 s4 s5
  go_loopg [11] list.length (fun g u wr => CaR w d list g u wr)
  case atStart => exact ⟨0, Nat.zero_le _, by omega, rfl, by rw [List.drop_zero], HB0.out⟩
  case round =>
    clear HB0
    obtain ⟨i, hi, hgi, rfl, hF, hb⟩ := hrel
    have HFi := Lib.hid hF
    by_cases hlt : i < list.length
    · obtain ⟨x, hx⟩ : ∃ e, list[i]? = some e := ⟨_, List.getElem?_eq_getElem hlt⟩
      obtain ⟨b1, o1, k6, t6, u6, a6, l6, c6, a7, l7, c7, z7, rfl, hvx, hE1⟩ := el_at HROW.out HVS.out hx hb
      have hbn := sbelow_new wr (.cells #[.int .i64 k6, .string t6, .int .u64 u6, .slice a6 l6 c6, .slice a7 l7 c7, .int .i64 z7] 27)
      have hS5 : SixAt (wr.alloc (.cells #[.int .i64 k6, .string t6, .int .u64 u6, .slice a6 l6 c6, .slice a7 l7 c7, .int .i64 z7] 27)) wr.heap.size (.int .i64 k6) (.string t6) (.int .u64 u6) (.slice a6 l6 c6) (.slice a7 l7 c7) (.int .i64 z7) := heap_alloc_new _ _
      have hb1 := hb.trans (hbn.mono hb.size)
      have HC1 := Lib.hid (HC.out i x hx _ hb1 _ _ _ _ _ _ _ _ _ _ (ValC.step hvx hb1))
      have HB1 := Lib.hid hb1
      have hup := HFi.out
      rw [drop_atl hx, chkA] at hup
      have HUP := Lib.hid hup
      obtain ⟨-, g0, g1, g2, g3, g4, g5⟩ := hE1
      obtain ⟨q0, q1, q2, q3, q4, q5⟩ := hS5.cells
      clear hx hb hbn hb1 hF hup hvx hS5 HFi
      go_wp2_with fail
      refine HC1.out.mono ?_
      intro e' w3 hp
      rcases hp.cases with ⟨rfl, hz, b3⟩ | ⟨T, V, bb, rfl, hz, hn, hch, b3⟩
      · have HN : Hid (CaR w d list (list.length - (i + 1)) (.int .i64 ((i : Int) + 1)) w3) := Lib.hid ⟨i + 1, by omega, rfl, by go_num, by rw [← HUP.out, if_pos hz], HB1.out.trans (b3.mono HB1.out.size)⟩
        clear hp b3 q0 q1 q2 q3 q4 q5 g0 g1 g2 g3 g4 g5
        go_wp2_with fail
        go_roundg (list.length - (i + 1))
        case measure => omega
        case rel => exact HN.out
      · have HB3 := Lib.hid (HB1.out.trans (b3.mono HB1.out.size))
        have HE := Lib.hid (HUP.out.symm.trans ((if_neg hz).trans (inF_no hz)))
        have HCh := Lib.hid hch
        have HZ := Lib.hid (And.intro hz (Nat.le_trans HB1.out.size hn))
        clear hp b3 hch hz hn q0 q1 q2 q3 q4 q5 g0 g1 g2 g3 g4 g5
        go_wp2_with fail
        refine (HI.out i (by omega) _ (HT.out.below HB3.out)).mono ?_
        rintro e' w4 ⟨rfl, b4⟩
        have HB4 := Lib.hid (HB3.out.trans (b4.mono HB3.out.size))
        have HC4 := Lib.hid (HCh.out.keep b4)
        clear b4
        go_wp2_with fail
        refine (HIn.out _ T V _).mono ?_
        rintro e' w5 ⟨rfl, rfl⟩
        go_wp2_with fail
        go_ret
        rw [HE.out]
        exact FltPost.no HZ.out.1 HZ.out.2 (in_chain _ _ _ _ _ HC4.out) (HB4.out.trans ((sbelow_new _ _).mono HB4.out.size))
    · obtain rfl : i = list.length := by omega
      rw [List.drop_length, chkA] at hF
      have HE := Lib.hid (And.intro hF hb)
      clear hF hb
      go_wp2_with fail
      go_ret
      rw [← HE.out.1]
      exact FltPost.ok rfl HE.out.2
end Go.Proofs.YtajmlkephefapaaGreatDoor

namespace Go.Proofs.YtajmlkephefapaaGreatDoor
open Go.RowKit Go.Extern.Stop Go.Stop Go.Extern Go.WideMaps

/-- On the way through an object's members. -/
structure CoS (w : World) (d k : Int) (t : ByteArray) (u z : Int) (vl vk : Value) (list : List Val) (keys : List ByteArray) (i : Nat) (wr : World) : Prop where
  six : SixAt wr w.heap.size (.int .i64 k) (.string t) (.int .u64 u) vl vk (.int .i64 z)
  set : KsAt wr (w.heap.size + 1) i (keys.take i)
  flt : chkO d (list.drop i) (keys.drop i) (keys.take i) = chkO d list keys []
  below : Below w.heap.size w wr
set_option maxRecDepth 100000 in
set_option maxHeartbeats 8000000 in
theorem icheckObject_of (P : Nat → Prop) (d : Int) (list : List Val) (keys : List ByteArray) (hkl : keys.length = list.length) (hll : list.length ≤ 100000) (hky : ∀ y ∈ keys, y.size ≤ 100000) (w : World) (k : Int) (t : ByteArray) (u : Int) (a : Option Addr) (c : Nat) (a' : Option Addr) (c' : Nat) (z : Int) (xs : List Value)
    (hl : RowIn P w (.slice a list.length c) list.length xs) (hk : RowIn P w (.slice a' keys.length c') keys.length (keys.map Value.string)) (hvs : ValsC P w xs list)
    (HC : Hid (∀ (i : Nat) (x : Val), list[i]? = some x → ∀ W, Below w.heap.size w W → ∀ (k : Int) (t : ByteArray) (u : Int) (a : Option Addr) (l c : Nat) (a' : Option Addr) (l' c' : Nat) (z : Int), ValC P W [.int .i64 k, .string t, .int .u64 u, .slice a l c, .slice a' l' c', .int .i64 z] x →
      Calls Tryz.prog 48 #[.agg #[.int .i64 k, .string t, .int .u64 u, .slice a l c, .slice a' l' c', .int .i64 z], .int .i64 d] W (FltPost (chkV d x) W))) :
    Calls Tryz.prog 79 #[.agg #[.int .i64 k, .string t, .int .u64 u, .slice a list.length c, .slice a' keys.length c', .int .i64 z], .int .i64 d] w (FltPost (chkO d list keys []) w) := by
  have HROW := Lib.hid hl
  have HVS := Lib.hid hvs
  have HK := Lib.hid hk
  have HKY := Lib.hid hky
  have HKL := Lib.hid hkl
  have HKey := Lib.hid (fun y hy mb n seen W hm => icheckKey_any y hy mb n seen W hm)
  have HIn := Lib.hid (fun s T V W => in_any s T V W)
  have H0 := Lib.hid (sbelow_new w (.cells #[.int .i64 k, .string t, .int .u64 u, .slice a list.length c, .slice a' keys.length c', .int .i64 z] 27))
  have H6 : Hid (SixAt (w.alloc (.cells #[.int .i64 k, .string t, .int .u64 u, .slice a list.length c, .slice a' keys.length c', .int .i64 z] 27)) w.heap.size (.int .i64 k) (.string t) (.int .u64 u) (.slice a list.length c) (.slice a' keys.length c') (.int .i64 z)) := Lib.hid (heap_alloc_new w _)
  have hmm := @run_makeMap Tryz.prog
  obtain ⟨s0, s1, s2, s3, s4, s5⟩ := H6.out.cells
  have bm := sbelow_new (w.alloc (.cells #[.int .i64 k, .string t, .int .u64 u, .slice a list.length c, .slice a' keys.length c', .int .i64 z] 27)) (.map #[] 0)
  have hks := KsAt.new (w.alloc (.cells #[.int .i64 k, .string t, .int .u64 u, .slice a list.length c, .slice a' keys.length c', .int .i64 z] 27))
  rw [World.size_alloc] at hks
  have HR : Hid (CoS w d k t u z (.slice a list.length c) (.slice a' keys.length c') list keys 0 _) := Lib.hid ⟨H6.out.step bm, by rw [List.take_zero]; exact hks, by rw [List.drop_zero, List.drop_zero, List.take_zero], H0.out.trans (bm.mono H0.out.size)⟩
  clear hl hk hvs hky bm hks hkl
  go_enter Tryz.func79, Tryz.ntmps79
  go_wp2_with fail
  clear s0 s1 s2 s3 s4 s5 H6 H0
  go_loopg [13] keys.length (fun g u' wr => ∃ i : Nat, i ≤ keys.length ∧ g = keys.length - i ∧ u' = .int .i64 i ∧ CoS w d k t u z (.slice a list.length c) (.slice a' keys.length c') list keys i wr)
  case atStart => exact ⟨0, Nat.zero_le _, by omega, rfl, HR.out⟩
  case round =>
    clear HR
    obtain ⟨i, hi, hgi, rfl, hst⟩ := hrel
    have HST := Lib.hid hst
    by_cases hlt : i < keys.length
    · have hlt2 : i < list.length := by rw [← HKL.out]; exact hlt
      obtain ⟨x, hx⟩ : ∃ e, list[i]? = some e := ⟨_, List.getElem?_eq_getElem hlt2⟩
      obtain ⟨y, hy⟩ : ∃ e, keys[i]? = some e := ⟨_, List.getElem?_eq_getElem hlt⟩
      obtain ⟨bk, ok, rfl, ek⟩ := key_at HK.out hy hst.below
      have hup := hst.flt
      rw [drop_atl hx, drop_atl hy, chkO] at hup
      have htk : keys.take (i + 1) = keys.take i ++ [y] := by rw [List.take_add_one, hy]; rfl
      rw [← htk] at hup
      have HUP := Lib.hid hup
      have HTK := Lib.hid htk
      have HX := Lib.hid hx
      have HY := Lib.hid (HKY.out y (List.mem_of_getElem? hy))
      have hkey : keyOf Tryz.prog 9 (.string y) = some (.string y.data.toList) := keyOf_string_mk Tryz.underlying9 (by have := HY.out; unfold maxLen; omega)
      clear hst hup htk hx hy
      go_wp2_with fail
      refine (HKey.out y HY.out _ _ _ _ HST.out.set).mono ?_
      intro e' w3 hp
      rcases hp.cases with ⟨rfl, hz, b3⟩ | ⟨T, V, bb, rfl, hz, hn, hch, b3⟩
      · have H63 := Lib.hid (HST.out.six.step b3)
        have HK3 := Lib.hid (HST.out.set.step b3)
        have HB3 := Lib.hid (HST.out.below.trans (b3.mono HST.out.below.size))
        have HZ := Lib.hid hz
        clear hp b3 hz ek
        obtain ⟨b1, o1, k6, t6, u6, a6, l6, c6, a7, l7, c7, z7, rfl, hvx, hE1⟩ := el_at HROW.out HVS.out HX.out HB3.out
        have HC1 := Lib.hid (HC.out i x HX.out _ HB3.out _ _ _ _ _ _ _ _ _ _ (ValC.step hvx HB3.out))
        obtain ⟨-, g0, g1, g2, g3, g4, g5⟩ := hE1
        obtain ⟨s0, s1, s2, s3, s4, s5⟩ := H63.out.cells
        clear hvx
        go_wp2_with fail
        refine HC1.out.mono ?_
        intro e' w4 hp
        rcases hp.cases with ⟨rfl, hz, b4⟩ | ⟨T, V, bb, rfl, hz, hn, hch, b4⟩
        · have H64 := Lib.hid (H63.out.step b4)
          have HK4 := Lib.hid (HK3.out.step b4)
          have HB4 := Lib.hid (HB3.out.trans (b4.mono HB3.out.size))
          have HF4 := Lib.hid (HUP.out.symm.trans ((if_neg (fun h => h HZ.out)).trans (if_pos hz)))
          clear hp b4 hz s0 s1 s2 s3 s4 s5 g0 g1 g2 g3 g4 g5 H63 HK3 HB3
          obtain ⟨D, hown, hhas⟩ := HK4.out
          have HH := Lib.hid hhas
          have HIM := Lib.hid hown.isMap
          clear hhas
          go_wp2_with (at_mapUpdate; refine wpList_mapUpdate_own _ rfl _ _ _ 137 rfl 9 159 law9 Tryz.underlying137 (unitElem (H := Unit)) (w.heap.size + 1) i _ rfl hown (by unfold maxLen; omega) _ _ _ rfl rfl hkey _ [] unitElem_mk ?_)
          intro w6 hown6 hgrow6
          have HK6 : Hid (Keeps (· = w.heap.size + 1) w4 w6) := Lib.hid (Keeps.of_grown hgrow6 (fun k e => (by injection e with e; exact e.symm)))
          have HB6 : Hid (Below w.heap.size w w6) := Lib.hid (HB4.out.trans (HK6.out.below HB4.out.size (fun k e => by rw [e]; omega)))
          have HN : Hid (CoS w d k t u z _ _ list keys (i + 1) w6) := Lib.hid ⟨H64.out.keeps HK6.out (fun e => by omega), ⟨_, hown6, by rw [HTK.out]; exact has_put_key HIM.out HH.out y _⟩, HF4.out.symm, HB6.out⟩
          clear hown6 hgrow6 hown HK4 H64 HB4 HK6
          go_wp2_with fail
          go_roundg (keys.length - (i + 1))
          case measure => omega
          case rel => exact ⟨i + 1, by omega, rfl, by go_num, HN.out⟩
        · have HB4 := Lib.hid (HB3.out.trans (b4.mono HB3.out.size))
          have HE := Lib.hid (HUP.out.symm.trans ((if_neg (fun h => h HZ.out)).trans ((if_neg hz).trans (inF_no hz))))
          have HCh := Lib.hid hch
          have HZ4 := Lib.hid (And.intro hz (Nat.le_trans HB3.out.size hn))
          clear hp b4 hch hz hn s0 s1 s2 s3 s4 s5 g0 g1 g2 g3 g4 g5
          go_wp2_with fail
          refine (HIn.out _ T V _).mono ?_
          rintro e' w5 ⟨rfl, rfl⟩
          go_wp2_with fail
          go_ret
          rw [HE.out]
          exact FltPost.no HZ4.out.1 HZ4.out.2 (in_chain _ _ _ _ _ HCh.out) (HB4.out.trans ((sbelow_new _ _).mono HB4.out.size))
      · have HB3 := Lib.hid (HST.out.below.trans (b3.mono HST.out.below.size))
        have HE := Lib.hid (HUP.out.symm.trans ((if_pos hz).trans (inF_no hz)))
        have HCh := Lib.hid hch
        have HZ := Lib.hid (And.intro hz (Nat.le_trans HST.out.below.size hn))
        clear hp b3 hch hz hn ek
        go_wp2_with fail
        refine (HIn.out _ T V _).mono ?_
        rintro e' w5 ⟨rfl, rfl⟩
        go_wp2_with fail
        go_ret
        rw [HE.out]
        exact FltPost.no HZ.out.1 HZ.out.2 (in_chain _ _ _ _ _ HCh.out) (HB3.out.trans ((sbelow_new _ _).mono HB3.out.size))
    · obtain rfl : i = keys.length := by omega
      have hf := hst.flt
      rw [HKL.out, List.drop_length, chkO] at hf
      have HE := Lib.hid (And.intro hf hst.below)
      clear hf hst HST
      go_wp2_with fail
      go_ret
      rw [← HE.out.1]
      exact FltPost.ok rfl HE.out.2
end Go.Proofs.YtajmlkephefapaaGreatDoor

namespace Go.Proofs.YtajmlkephefapaaGreatDoor
open Go.RowKit Go.Extern.Stop Go.Stop Go.Extern Go.WideMaps

set_option maxRecDepth 100000 in
set_option maxHeartbeats 8000000 in
theorem icheck_go (HDg : Digs) (P : Nat → Prop) : ∀ (m : Nat) (x : Val), SizeOf.sizeOf x < m → okI x → okT x → ∀ (d : Int), 0 ≤ d → d ≤ 64 → ∀ (w : World) (k : Int) (t : ByteArray) (u : Int) (a : Option Addr) (l c : Nat) (a' : Option Addr) (l' c' : Nat) (z : Int), Tab w →
    ValC P w [.int .i64 k, .string t, .int .u64 u, .slice a l c, .slice a' l' c', .int .i64 z] x →
    Calls Tryz.prog 48 #[.agg #[.int .i64 k, .string t, .int .u64 u, .slice a l c, .slice a' l' c', .int .i64 z], .int .i64 d] w (FltPost (chkV d x) w) := by
  intro m
  induction m with
  | zero => intro x hx; exact absurd hx (Nat.not_lt_zero _)
  | succ m ih =>
    intro x hx hok hot d hd0 hd1 w k t u a l c a' l' c' z hT hv
    cases x with
    | mk k1 t1 n1 list keys z1 =>
      rw [okI] at hok
      rw [okT] at hot
      unfold ValC at hv
      obtain ⟨sl, sk', xs, e, hk, hl, hvs⟩ := hv
      simp only [List.cons.injEq, Value.int.injEq, Value.string.injEq, true_and, and_true] at e
      obtain ⟨rfl, rfl, rfl, rfl, rfl, rfl⟩ := e
      obtain ⟨_, _, es⟩ := hl.form
      simp only [Value.slice.injEq] at es
      obtain ⟨-, el, -⟩ := es
      subst el
      obtain ⟨_, _, es⟩ := hk.form
      simp only [Value.slice.injEq] at es
      obtain ⟨-, el, -⟩ := es
      subst el
      simp only [Val.mk.sizeOf_spec] at hx
      have hic : d < 64 → ∀ (W0 : World), Tab W0 → ∀ (i : Nat) (x : Val), list[i]? = some x → ∀ W, Below W0.heap.size W0 W → ∀ (k : Int) (t : ByteArray) (u : Int) (a : Option Addr) (l c : Nat) (a' : Option Addr) (l' c' : Nat) (z : Int), ValC P W [.int .i64 k, .string t, .int .u64 u, .slice a l c, .slice a' l' c', .int .i64 z] x →
          Calls Tryz.prog 48 #[.agg #[.int .i64 k, .string t, .int .u64 u, .slice a l c, .slice a' l' c', .int .i64 z], .int .i64 (d + 1)] W (FltPost (chkV (d + 1) x) W) :=
        fun hd W0 h0 i x hx' W hb k t u a l c a' l' c' z hv => ih x (by have := sizeOf_mem hx'; omega) (okIs_at hok.2.2 hx') (okTs_at hot.2.2 hx') (d + 1) (by omega) (by omega) W k t u a l c a' l' c' z (h0.below hb) hv
      have HA := Lib.hid (fun (hd : d < 64) W (hb : Below w.heap.size w W) => icheckArray_of HDg P (d + 1) list hok.1 W k t u a c a' keys.length c' z xs (RowIn.sb hl hb) (hvs.sb hb) (hT.below hb) (Lib.hid (hic hd W (hT.below hb))))
      have HO := Lib.hid (fun (hd : d < 64) (hkl : keys.length = list.length) W (hb : Below w.heap.size w W) => icheckObject_of P (d + 1) list keys hkl hok.1 hot.2.1 W k t u a c a' c' z xs (RowIn.sb hl hb) (RowIn.sb hk hb) (hvs.sb hb) (Lib.hid (hic hd W (hT.below hb))))
      have HF := Lib.hid (fun W => iflaw_any d k t u a list.length c a' keys.length c' z hot.1 W)
      have HN := Lib.hid (fun c W (h : c ≠ 0) => new_any c 0 h W)
      have H0 := Lib.hid (sbelow_new w (.cells #[.int .i64 k, .string t, .int .u64 u, .slice a list.length c, .slice a' keys.length c', .int .i64 z] 27))
      have H6 : Hid (SixAt (w.alloc (.cells #[.int .i64 k, .string t, .int .u64 u, .slice a list.length c, .slice a' keys.length c', .int .i64 z] 27)) w.heap.size (.int .i64 k) (.string t) (.int .u64 u) (.slice a list.length c) (.slice a' keys.length c') (.int .i64 z)) := Lib.hid (heap_alloc_new w _)
      obtain ⟨s0, s1, s2, s3, s4, s5⟩ := H6.out.cells
      have hcv := chkV.eq_1 d k t u list keys z
      have hfl : k = 6 → flawI d k t u list.length keys.length = 0 → keys.length = list.length := by
        rintro rfl h
        unfold flawI at h
        by_cases hq : keys.length = list.length
        · exact hq
        · have e12 : ((6 : Int) = 6 ∧ keys.length ≠ list.length) := ⟨rfl, hq⟩
          rw [if_pos e12, if_neg (fun h : (6 : Int) = 4 ∧ _ => absurd h.1 (by decide)), if_neg (fun h : (6 : Int) = 3 ∧ _ => absurd h.1 (by decide)), if_neg (by decide : ¬ ((6 : Int) < 0 ∨ (6 : Int) < 6))] at h
          split at h
          · exact absurd h (by decide)
          · exact absurd h (by decide)
      have hfd : (k = 5 ∨ k = 6) → flawI d k t u list.length keys.length = 0 → d < 64 := by
        intro hk h
        by_cases hq : 64 ≤ d
        · unfold flawI at h
          rw [if_pos ⟨hk, hq⟩] at h
          exact absurd h (by decide)
        · omega
      have HFD := Lib.hid hfd
      have HFL := Lib.hid hfl
      generalize flawI d k t u list.length keys.length = fl at *
      generalize chkV d (.mk k t u list keys z) = cf at *
      have HV := Lib.hid hcv
      clear hk hl hvs hok hot ih hic hT hx hfl hcv hfd
      go_enter Tryz.func48, Tryz.ntmps48
      go_wp2_with fail
      refine (HF.out _).mono ?_
      rintro e w1 ⟨rfl, b1⟩
      have HB1 := Lib.hid (H0.out.trans (b1.mono H0.out.size))
      have H61 := Lib.hid (H6.out.step b1)
      clear s0 s1 s2 s3 s4 s5 b1
      obtain ⟨s0, s1, s2, s3, s4, s5⟩ := H61.out.cells
      by_cases hfz : fl = 0
      · subst hfz
        have hv := HV.out
        rw [if_neg (fun h => h rfl)] at hv
        by_cases k5 : k = 5
        · subst k5
          rw [if_pos rfl] at hv
          rw [← hv] at HA
          clear hv
          go_wp2_with fail
          refine (HA.out (by simpa using HFD.out) _ HB1.out).mono ?_
          intro e w2 h2
          have HP := Lib.hid (h2.up HB1.out)
          obtain ⟨v, rfl, -⟩ := h2
          go_wp2_with fail
          go_ret
          exact HP.out
        by_cases k6 : k = 6
        · subst k6
          rw [if_neg k5, if_pos rfl] at hv
          rw [← hv] at HO
          clear hv
          go_wp2_with fail
          refine (HO.out (by simpa using HFD.out) (by simpa using HFL.out) _ HB1.out).mono ?_
          intro e w2 h2
          have HP := Lib.hid (h2.up HB1.out)
          obtain ⟨v, rfl, -⟩ := h2
          go_wp2_with fail
          go_ret
          exact HP.out
        rw [if_neg k5, if_neg k6] at hv
        have HV2 := Lib.hid hv
        clear hv
        go_wp2_with fail
        go_ret
        rw [HV2.out]
        exact FltPost.ok rfl HB1.out
      · have hv := HV.out
        rw [if_pos hfz] at hv
        have HV2 := Lib.hid hv
        clear hv
        have hfb : (fl != 0) = true := by simpa using hfz
        go_wp2_with fail
        refine (HN.out fl _ hfz).mono ?_
        rintro e w2 ⟨rfl, rfl⟩
        go_wp2_with fail
        go_ret
        rw [HV2.out]
        exact FltPost.new hfz HB1.out
end Go.Proofs.YtajmlkephefapaaGreatDoor

namespace Go.Proofs.YtajmlkephefapaaGreatDoor
open Go.RowKit Go.Extern.Stop Go.Stop Go.Extern Go.WideMaps

mutual
/-- Its numbers are none below 0. -/
def okN : Val → Prop
  | .mk _ _ n list _ _ => 0 ≤ n ∧ okNs list
def okNs : List Val → Prop
  | [] => True
  | x :: r => okN x ∧ okNs r
end
theorem chkA_ok : ∀ {d : Int} {l : List Val} {i : Nat}, (chkA d l i).1 = 0 → ∀ x ∈ l, (chkV d x).1 = 0
  | d, [], i, h, x, hx => by cases hx
  | d, y :: r, i, h, x, hx => by
    rw [chkA] at h
    by_cases hy : (chkV d y).1 = 0
    · rw [if_pos hy] at h
      rcases List.mem_cons.1 hx with rfl | hx
      · exact hy
      · exact chkA_ok h x hx
    · rw [if_neg hy, inF_fst] at h
      exact absurd h hy
theorem chkO_ok : ∀ {d : Int} {l : List Val} {ks seen : List ByteArray}, l.length = ks.length → (chkO d l ks seen).1 = 0 → ∀ x ∈ l, (chkV d x).1 = 0
  | d, [], ks, seen, hl, h, x, hx => by cases hx
  | d, y :: r, [], seen, hl, h, x, hx => by simp at hl
  | d, y :: r, k :: ks, seen, hl, h, x, hx => by
    rw [chkO] at h
    by_cases hk : (keyF seen k).1 ≠ 0
    · rw [if_pos hk, inF_fst] at h
      exact absurd h hk
    · rw [if_neg hk] at h
      by_cases hy : (chkV d y).1 = 0
      · rw [if_pos hy] at h
        rcases List.mem_cons.1 hx with rfl | hx
        · exact hy
        · exact chkO_ok (by simpa using hl) h x hx
      · rw [if_neg hy, inF_fst] at h
        exact absurd h hy
theorem okTs_mem {l : List Val} {x : Val} (h : okTs l) (hx : x ∈ l) : okT x := by
  obtain ⟨i, hi, rfl⟩ := List.getElem_of_mem hx
  exact okTs_at h (List.getElem?_eq_getElem hi)
theorem okNs_mem : ∀ {l : List Val} {x : Val}, okNs l → x ∈ l → okN x
  | [], x, _, hx => by cases hx
  | y :: r, x, h, hx => by
    rw [okNs] at h
    rcases List.mem_cons.1 hx with rfl | hx
    · exact h.1
    · exact okNs_mem h.2 hx
theorem whole_of_chk : ∀ (m : Nat) (x : Val), SizeOf.sizeOf x < m → ∀ d : Int, (chkV d x).1 = 0 → okT x → okN x → WholeV x := by
  intro m
  induction m with
  | zero => intro x hx; exact absurd hx (Nat.not_lt_zero _)
  | succ m ih =>
    intro x hx d hc ht hn
    cases x with
    | mk k t n list keys z =>
      rw [okT] at ht
      rw [okN] at hn
      rw [chkV] at hc
      simp only [Val.mk.sizeOf_spec] at hx
      by_cases hf : flawI d k t n list.length keys.length ≠ 0
      · rw [if_pos hf] at hc; exact absurd hc hf
      rw [if_neg hf] at hc
      have hkl : k = 6 → keys.length = list.length := by
        rintro rfl
        have h : flawI d 6 t n list.length keys.length = 0 := by simpa using hf
        unfold flawI at h
        by_cases hq : keys.length = list.length
        · exact hq
        · have e12 : ((6 : Int) = 6 ∧ keys.length ≠ list.length) := ⟨rfl, hq⟩
          rw [if_pos e12, if_neg (fun h : (6 : Int) = 4 ∧ _ => absurd h.1 (by decide)), if_neg (fun h : (6 : Int) = 3 ∧ _ => absurd h.1 (by decide)), if_neg (by decide : ¬ ((6 : Int) < 0 ∨ (6 : Int) < 6))] at h
          split at h
          · exact absurd h (by decide)
          · exact absurd h (by decide)
      refine .mk _ _ _ _ _ _ hkl ht.1 ht.2.1 ?_ hn.1
      intro hk y hy
      have hsy : SizeOf.sizeOf y < m := by
        have := List.sizeOf_lt_of_mem hy
        omega
      rcases hk with rfl | rfl
      · rw [if_pos rfl] at hc
        exact ih y hsy _ (chkA_ok hc y hy) (okTs_mem ht.2.2 hy) (okNs_mem hn.2 hy)
      · rw [if_neg (by decide), if_pos rfl] at hc
        exact ih y hsy _ (chkO_ok (hkl rfl).symm hc y hy) (okTs_mem ht.2.2 hy) (okNs_mem hn.2 hy)
set_option maxHeartbeats 2000000 in
theorem iCheck_any (HDg : Digs) (P : Nat → Prop) (x : Val) (hok : okI x) (hot : okT x) (w : World) (k : Int) (t : ByteArray) (u : Int) (a : Option Addr) (l c : Nat) (a' : Option Addr) (l' c' : Nat) (z : Int) (hT : Tab w)
    (hv : ValC P w [.int .i64 k, .string t, .int .u64 u, .slice a l c, .slice a' l' c', .int .i64 z] x) :
    Calls Tryz.prog 23 #[.agg #[.int .i64 k, .string t, .int .u64 u, .slice a l c, .slice a' l' c', .int .i64 z]] w (FltPost (chkV 0 x) w) := by
  have HO := Lib.hid (fun W (hW : Below w.heap.size w W) => icheck_go HDg P _ x (Nat.lt_succ_self _) hok hot 0 (by decide) (by decide) W k t u a l c a' l' c' z (hT.below hW) (hv.step hW))
  have HB0 := Lib.hid (sbelow_new w (.cells #[.int .i64 k, .string t, .int .u64 u, .slice a l c, .slice a' l' c', .int .i64 z] 27))
  have H6 : Hid (SixAt (w.alloc (.cells #[.int .i64 k, .string t, .int .u64 u, .slice a l c, .slice a' l' c', .int .i64 z] 27)) w.heap.size (.int .i64 k) (.string t) (.int .u64 u) (.slice a l c) (.slice a' l' c') (.int .i64 z)) := Lib.hid (heap_alloc_new w _)
  obtain ⟨s0, s1, s2, s3, s4, s5⟩ := H6.out.cells
  clear hv hT hok hot HDg
  generalize chkV 0 x = cf at *
  go_enter Tryz.func23, Tryz.ntmps23
  go_wp2_with fail
  refine (HO.out _ HB0.out).mono ?_
  intro e w2 h2
  have HP := Lib.hid (h2.up HB0.out)
  obtain ⟨v, rfl, -⟩ := h2
  go_wp2_with fail
  go_ret
  exact HP.out
/-- What Text answers: the text, or none and the fault's chain. -/
def TxtOut (F : Flt) (l : List UInt8) (w : World) (e : Ending) (w' : World) : Prop :=
  ∃ s v, e = .returned (.tuple #[.string s, v]) ∧ (F.1 = 0 → s = ⟨l.toArray⟩ ∧ v = .nilIface) ∧ (F.1 ≠ 0 → s = ⟨#[]⟩ ∧ ∃ b, w.heap.size ≤ b ∧ ChainAt w' (.fault b F.1 F.2.1) F.2.2 v) ∧ Below w.heap.size w w'
theorem ValC.lts {P : Nat → Prop} {w : World} {cs : List Value} {x : Val} (h : ValC P w cs x) : ValC (fun q => q < w.heap.size) w cs x := h.move (Nat.le_refl _) fun _ _ hlt => ⟨hlt, rfl⟩
set_option maxRecDepth 100000 in
set_option maxHeartbeats 2000000 in
theorem iText_any (P : Nat → Prop) (x : Val) (hok : okI x) (hot : okT x) (hon : okN x) (hlen : (inkV x).length ≤ 1000000) (w : World) (k : Int) (t : ByteArray) (u : Int) (a : Option Addr) (l c : Nat) (a' : Option Addr) (l' c' : Nat) (z : Int) (hT : Tab w)
    (hv : ValC P w [.int .i64 k, .string t, .int .u64 u, .slice a l c, .slice a' l' c', .int .i64 z] x) :
    Calls Tryz.prog 21 #[.agg #[.int .i64 k, .string t, .int .u64 u, .slice a l c, .slice a' l' c', .int .i64 z]] w (TxtOut (chkV 0 x) (inkV x) w) := by
  have HO := Lib.hid (fun W (hW : Below w.heap.size w W) => iCheck_any (fun u W h0 ht => adigits_any u h0 W ht) P x hok hot W k t u a l c a' l' c' z (hT.below hW) (hv.step hW))
  have HW : Hid ((chkV 0 x).1 = 0 → ∀ W, Below w.heap.size w W → Calls Tryz.prog 45 #[.pointer (some ⟨W.heap.size, 0, none⟩), .agg #[.int .i64 k, .string t, .int .u64 u, .slice a l c, .slice a' l' c', .int .i64 z]] (W.alloc (.cells #[.pointer none, .slice none 0 0] 80))
      fun e w' => e = .returned (.tuple #[]) ∧ BldAt W.heap.size W.heap.size (Lib.byteCells (inkV x)) w' ∧ Below W.heap.size W w') := Lib.hid (fun hc W hW => by
    have hb := sbelow_new W (.cells #[.pointer none, .slice none 0 0] 80)
    have hB : BldAt W.heap.size W.heap.size (Lib.byteCells []) (W.alloc (.cells #[.pointer none, .slice none 0 0] 80)) := BldAt.new W
    have hv' := ((hv.step hW).lts).step hb
    have hTW := hT.below hW
    have := write_go (fun u W h0 ht => adigits_any u h0 W ht) (SizeOf.sizeOf x + 1) x (by omega) (whole_of_chk _ x (Nat.lt_succ_self _) 0 hc hot hon) W.heap.size W.heap.size [] _ k t u a l c a' l' c' z hv' hB hb.size hTW.lt (hTW.below hb) (by simpa using hlen)
    exact this.mono fun e w' h => ⟨h.1, by simpa using h.2.1, hb.trans h.2.2.1⟩)
  have HSt := Lib.hid (fun B b l W h hB => bldString_any B b l W h hB)
  have HB0 := Lib.hid (sbelow_new w (.cells #[.int .i64 k, .string t, .int .u64 u, .slice a l c, .slice a' l' c', .int .i64 z] 27))
  have H6 : Hid (SixAt (w.alloc (.cells #[.int .i64 k, .string t, .int .u64 u, .slice a l c, .slice a' l' c', .int .i64 z] 27)) w.heap.size (.int .i64 k) (.string t) (.int .u64 u) (.slice a l c) (.slice a' l' c') (.int .i64 z)) := Lib.hid (heap_alloc_new w _)
  obtain ⟨s0, s1, s2, s3, s4, s5⟩ := H6.out.cells
  clear hv hT hok hot hon
  generalize chkV 0 x = cf at *
  generalize inkV x = il at *
  have HL := Lib.hid hlen
  clear hlen
  go_enter Tryz.func21, Tryz.ntmps21
  go_wp2_with fail
  refine (HO.out _ HB0.out).mono ?_
  intro e w2 hp
  rcases hp.cases with ⟨rfl, hz, b2⟩ | ⟨T, V, bb, rfl, hz, hn, hch, b2⟩
  · have HB2 := Lib.hid (HB0.out.trans (b2.mono HB0.out.size))
    have H62 := Lib.hid ((H6.out.step b2).step (sbelow_new w2 (.cells #[.pointer none, .slice none 0 0] 80)))
    have HWz := Lib.hid (HW.out hz)
    have HZ0 := Lib.hid hz
    clear hp hz b2 s0 s1 s2 s3 s4 s5
    obtain ⟨s0, s1, s2, s3, s4, s5⟩ := H62.out.cells
    go_wp2_with fail
    refine (HWz.out _ HB2.out).mono ?_
    rintro e w3 ⟨rfl, h3, b3⟩
    have H3 := Lib.hid h3
    have HB3 := Lib.hid (HB2.out.trans (b3.mono HB2.out.size))
    have HZ := Lib.hid b3.size
    clear h3 b3 s0 s1 s2 s3 s4 s5
    go_wp2_with fail
    refine (HSt.out _ _ _ _ H3.out HZ.out).mono ?_
    rintro e w4 ⟨rfl, -, b4, -⟩
    have HB4 := Lib.hid (HB3.out.trans (b4.mono HB2.out.size))
    clear b4
    go_wp2_with fail
    go_ret2
    exact ⟨_, _, rfl, fun _ => ⟨rfl, rfl⟩, fun h => absurd HZ0.out h, HB4.out⟩
  · have HP : Hid (TxtOut cf il w (.returned (.tuple #[.string ⟨#[]⟩, .iface T V])) w2) := Lib.hid ⟨_, _, rfl, fun h => absurd h hz, fun _ => ⟨rfl, bb, Nat.le_trans HB0.out.size hn, hch⟩, HB0.out.trans (b2.mono HB0.out.size)⟩
    clear hp hz hn hch b2
    go_wp2_with fail
    go_ret2
    exact HP.out
end Go.Proofs.YtajmlkephefapaaGreatDoor
