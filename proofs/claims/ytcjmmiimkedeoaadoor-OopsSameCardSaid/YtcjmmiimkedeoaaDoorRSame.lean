/-
  The reference of oops.Same by a contract: of two errors as plain values it answers as defined; old memory stays as it was.
-/
import Derived.Test.YtcjmmiimkedeoaaDoorSameC
namespace Go.Proofs.YtcjmmiimkedeoaaDoor
open Go.RowKit Go.Extern.Stop Go.Stop Go.Extern

/-- The reference's answer: numbers of none are compared alone. -/
def rsameB (c a : Int) (ws : List ByteArray) (c' a' : Int) (ws' : List ByteArray) : Bool := if c = 0 ∨ c' = 0 then decide (c = c') else sameB c a ws c' a' ws'


set_option maxRecDepth 100000 in
set_option maxHeartbeats 1600000 in
theorem rsame_zero (c a : Int) (v : Value) (c' a' : Int) (v' : Value) (w : World) (h : c = 0 ∨ c' = 0) :
    Calls Tryd.prog 27 #[.agg #[.int .i64 c, .int .i64 a, v], .agg #[.int .i64 c', .int .i64 a', v']] w fun e w' => e = .returned (.bool (decide (c = c'))) ∧ Below w.heap.size w w' := by
  obtain ⟨x, hx⟩ : ∃ x : Bool, x = decide (c = c') := ⟨_, rfl⟩
  have hcd : (c == c') = x := by rw [hx]; rfl
  have HX := Lib.hid hx
  clear hx
  have B2 : Below w.heap.size w ((w.alloc (.cells #[.int .i64 c, .int .i64 a, v] 28)).alloc (.cells #[.int .i64 c', .int .i64 a', v'] 28)) := ((Below.refl _ _).alloc (Nat.le_refl _) _).alloc (by simp) _
  by_cases h0 : c = 0
  · have hcb : (c == 0) = true := by simpa using h0
    clear h h0
    go_enter Tryd.func27, Tryd.ntmps27
    go_wp2_with fail
    go_ret
    exact ⟨ret_b HX.out, B2⟩
  · have hcb : (c == 0) = false := by simpa using h0
    have hcb' : (c' == 0) = true := by simp; omega
    clear h h0
    go_enter Tryd.func27, Tryd.ntmps27
    go_wp2_with fail
    go_ret
    exact ⟨ret_b HX.out, B2⟩

set_option maxRecDepth 100000 in
set_option maxHeartbeats 1600000 in
theorem rsame_parts (c a : Int) (v : Value) (c' a' : Int) (v' : Value) (ws ws' : List ByteArray) (w : World) (hc : c ≠ 0) (hc' : c' ≠ 0) (hv : StrsAt w v ws) (hv' : StrsAt w v' ws') (h : ¬ (c = c' ∧ a = a' ∧ ws.length = ws'.length)) :
    Calls Tryd.prog 27 #[.agg #[.int .i64 c, .int .i64 a, v], .agg #[.int .i64 c', .int .i64 a', v']] w fun e w' => e = .returned (.bool false) ∧ Below w.heap.size w w' := by
  obtain ⟨b, o, cp, rfl, -⟩ := hv.parts
  obtain ⟨b', o', cp', rfl, -⟩ := hv'.parts
  have hcb : (c == 0) = false := by simpa using hc
  have hcb' : (c' == 0) = false := by simpa using hc'
  have B2 : Below w.heap.size w ((w.alloc (.cells #[.int .i64 c, .int .i64 a, .slice b ws.length cp] 28)).alloc (.cells #[.int .i64 c', .int .i64 a', .slice b' ws'.length cp'] 28)) := ((Below.refl _ _).alloc (Nat.le_refl _) _).alloc (by simp) _
  clear hv hv' hc hc'
  by_cases h1 : c = c'
  · have n1 : (c != c') = false := by simpa using h1
    by_cases h2 : a = a'
    · have n2 : (a != a') = false := by simpa using h2
      have n3 : ((ws.length : Int) != ws'.length) = true := by rw [bne_iff_ne]; omega
      clear h h1 h2
      go_enter Tryd.func27, Tryd.ntmps27
      go_wp2_with fail
      go_ret
      exact ⟨rfl, B2⟩
    · have n2 : (a != a') = true := by simpa using h2
      clear h h1 h2
      go_enter Tryd.func27, Tryd.ntmps27
      go_wp2_with fail
      go_ret
      exact ⟨rfl, B2⟩
  · have n1 : (c != c') = true := by simpa using h1
    clear h h1
    go_enter Tryd.func27, Tryd.ntmps27
    go_wp2_with fail
    go_ret
    exact ⟨rfl, B2⟩

theorem below_drew2 {W w : World} (h : Below W.heap.size W w) (n : Nat) : Below W.heap.size W (w.drewN n) := h.trans ((below_drewN w n).mono h.size)

set_option maxRecDepth 100000 in
set_option maxHeartbeats 1600000 in
theorem rsame_words (c a : Int) (v v' : Value) (ws ws' : List ByteArray) (w : World) (hc : c ≠ 0) (hv : StrsAt w v ws) (hv' : StrsAt w v' ws') (hl : ws.length = ws'.length) (hlen : ws.length ≤ 1000) :
    Calls Tryd.prog 27 #[.agg #[.int .i64 c, .int .i64 a, v], .agg #[.int .i64 c, .int .i64 a, v']] w fun e w' => e = .returned (.bool (decide (ws = ws'))) ∧ Below w.heap.size w w' := by
  have hp := hv.parts
  have hp' := hv'.parts
  obtain ⟨b, o, cp, rfl, -⟩ := hp
  obtain ⟨b', o', cp', rfl, -⟩ := hp'
  have hcb : (c == 0) = false := by simpa using hc
  have n3 : ((ws.length : Int) != ws'.length) = false := by rw [hl]; simp
  have B2 : Below w.heap.size w ((w.alloc (.cells #[.int .i64 c, .int .i64 a, .slice b ws.length cp] 28)).alloc (.cells #[.int .i64 c, .int .i64 a, .slice b' ws'.length cp'] 28)) := ((Below.refl _ _).alloc (Nat.le_refl _) _).alloc (by simp) _
  have k1 : ((w.alloc (.cells #[.int .i64 c, .int .i64 a, .slice b ws.length cp] 28)).alloc (.cells #[.int .i64 c, .int .i64 a, .slice b' ws'.length cp'] 28)).cell? ⟨w.heap.size, 2, none⟩ = some (.slice b ws.length cp) := by
    rw [World.cell?_alloc_lt _ _ ⟨w.heap.size, 2, none⟩ (by simp)]; simp
  have k2 : ((w.alloc (.cells #[.int .i64 c, .int .i64 a, .slice b ws.length cp] 28)).alloc (.cells #[.int .i64 c, .int .i64 a, .slice b' ws'.length cp'] 28)).cell? ⟨w.heap.size + 1, 2, none⟩ = some (.slice b' ws'.length cp') := by simp
  obtain ⟨b1, o1, c1, e1, H1⟩ := (hv.keep B2).parts
  obtain ⟨rfl, rfl⟩ : b = b1 ∧ cp = c1 := by injection e1 with e1 e2 e3; exact ⟨e1, e3⟩
  obtain ⟨b2, o2, c2, e2, H2⟩ := (hv'.keep B2).parts
  obtain ⟨rfl, rfl⟩ : b' = b2 ∧ cp' = c2 := by injection e2 with e1 e2 e3; exact ⟨e1, e3⟩
  have HL := Lib.hid hl
  clear hl e1 e2 hv hv' hc
  go_enter Tryd.func27, Tryd.ntmps27
  go_wp2_with fail
  generalize (w.alloc (.cells #[.int .i64 c, .int .i64 a, .slice b ws.length cp] 28)).alloc (.cells #[.int .i64 c, .int .i64 a, .slice b' ws'.length cp'] 28) = W2 at B2 k1 k2 H1 H2 ⊢
  have H0 : Hid (EqRel W2 ws ws' ws.length (.int .i64 0) W2) := ⟨⟨0, Nat.zero_le _, rfl, rfl, fun m h => by omega⟩, 0, rfl⟩
  go_loopg [43] ws.length (fun k i wr => EqRel W2 ws ws' k i wr)
  case atStart => exact H0.out
  case round =>
    obtain ⟨⟨j, hj, hk, rfl, hall⟩, d, rfl⟩ := hrel
    have HK := Lib.hid hk
    have HA := Lib.hid hall
    clear hk hall
    by_cases hlt : j < ws.length
    · obtain ⟨b1', rfl, hb1, j1⟩ := H1.out j hlt
      obtain ⟨b2', rfl, hb2, j2⟩ := H2.out j (by rw [← HL.out]; exact hlt)
      have hlt2 : j < ws'.length := by rw [← HL.out]; exact hlt
      by_cases he : ws.getD j ByteArray.empty = ws'.getD j ByteArray.empty
      · have HE := Lib.hid he
        rw [← he] at j2
        clear he
        obtain ⟨s, hs⟩ : ∃ s, ws.getD j ByteArray.empty = s := ⟨_, rfl⟩
        rw [hs] at j1 j2
        clear hs
        go_wp2
        go_quiet (fail)
        go_wp2
        go_roundg (ws.length - (j + 1))
        case measure => have := HK.out; omega
        case rel =>
          refine ⟨⟨j + 1, by omega, rfl, by go_num, fun m hm => ?_⟩, _, rfl⟩
          by_cases hmj : m < j
          · exact HA.out m hmj
          · obtain rfl : m = j := by omega
            exact HE.out
      · have hne := bytes_ne he
        have HD := Lib.hid (show decide (ws = ws') = false from decide_eq_false (fun h => he (by rw [h])))
        clear he
        generalize ws.getD j ByteArray.empty = s at *
        generalize ws'.getD j ByteArray.empty = t at *
        go_wp2
        go_quiet (fail)
        go_wp2
        go_ret
        exact ⟨by rw [HD.out]; rfl, below_drew2 (below_drew2 B2 _) _⟩
    · obtain rfl : j = ws.length := by omega
      have HD := Lib.hid (show decide (ws = ws') = true from decide_eq_true (by
        refine List.ext_getElem HL.out (fun i hi hi' => ?_)
        have := HA.out i hi
        simpa [List.getD, List.getElem?_eq_getElem hi, List.getElem?_eq_getElem hi'] using this))
      go_wp2
      go_ret
      exact ⟨by rw [HD.out]; rfl, below_drew2 B2 _⟩

theorem rsame_any (c a : Int) (v : Value) (c' a' : Int) (v' : Value) (ws ws' : List ByteArray) (w : World) (hv : StrsAt w v ws) (hv' : StrsAt w v' ws') (hlen : ws.length ≤ 1000) :
    Calls Tryd.prog 27 #[.agg #[.int .i64 c, .int .i64 a, v], .agg #[.int .i64 c', .int .i64 a', v']] w fun e w' => e = .returned (.bool (rsameB c a ws c' a' ws')) ∧ Below w.heap.size w w' := by
  unfold rsameB
  by_cases h0 : c = 0 ∨ c' = 0
  · rw [if_pos h0]
    exact rsame_zero c a v c' a' v' w h0
  · rw [if_neg h0]
    by_cases h : c = c' ∧ a = a' ∧ ws.length = ws'.length
    · obtain ⟨rfl, rfl, hl⟩ := h
      have e : sameB c a ws c a ws' = decide (ws = ws') := by simp [sameB]
      rw [e]
      exact rsame_words c a v v' ws ws' w (by omega) hv hv' hl hlen
    · have e : sameB c a ws c' a' ws' = false := decide_eq_false (fun ⟨h1, h2, h3⟩ => h ⟨h1, h2, by rw [h3]⟩)
      rw [e]
      exact rsame_parts c a v c' a' v' ws ws' w (by omega) (by omega) hv hv' h
end Go.Proofs.YtcjmmiimkedeoaaDoor
