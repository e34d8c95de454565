/-
  oops.Same and its reference, by contracts: of two chains of faults, whether number, place and words are the same; of errors that are none, whether both are.
-/
import Derived.Test.YtcjmmiimkedeoaaDoorLaws1
namespace Go.Proofs.YtcjmmiimkedeoaaDoor
open Go.RowKit Go.Extern.Stop Go.Stop Go.Extern

/-- Do both tell the same? -/
def sameB (c a : Int) (ws : List ByteArray) (c' a' : Int) (ws' : List ByteArray) : Bool := decide (c = c' ∧ a = a' ∧ ws = ws')

theorem ret_b {a b : Bool} (h : a = b) : Ending.returned (.bool a) = .returned (.bool b) := by rw [h]

set_option maxHeartbeats 400000 in
theorem same_nils (w : World) : Calls Tryd.prog 24 #[.nilIface, .nilIface] w fun e w' => e = .returned (.bool true) ∧ Below w.heap.size w w' := by
  go_enter Tryd.func24, Tryd.ntmps24
  go_wp2_with fail
  go_ret
  exact ⟨rfl, Below.refl _ _⟩

set_option maxHeartbeats 400000 in
theorem same_nil_left (T : TypeId) (V : Value) (w : World) : Calls Tryd.prog 24 #[.nilIface, .iface T V] w fun e w' => e = .returned (.bool false) ∧ Below w.heap.size w w' := by
  go_enter Tryd.func24, Tryd.ntmps24
  go_wp2_with fail
  go_ret
  exact ⟨rfl, Below.refl _ _⟩

set_option maxHeartbeats 400000 in
theorem same_nil_right (T : TypeId) (V : Value) (w : World) : Calls Tryd.prog 24 #[.iface T V, .nilIface] w fun e w' => e = .returned (.bool false) ∧ Below w.heap.size w w' := by
  go_enter Tryd.func24, Tryd.ntmps24
  go_wp2_with fail
  go_ret
  exact ⟨rfl, Below.refl _ _⟩

/-- Two chains of faults in one world. -/
structure Pair (W : World) (fb : Nat) (c a : Int) (ws : List ByteArray) (u : Value) (fb' : Nat) (c' a' : Int) (ws' : List ByteArray) (u' : Value) (w : World) : Prop where
  below : Below W.heap.size W w
  handle : Handle w
  one : ChainAt w (.fault fb c a) ws u
  two : ChainAt w (.fault fb' c' a') ws' u'
theorem Pair.step {W w w' : World} {fb : Nat} {c a : Int} {ws : List ByteArray} {u : Value} {fb' : Nat} {c' a' : Int} {ws' : List ByteArray} {u' : Value} (h : Pair W fb c a ws u fb' c' a' ws' u' w) (hb : Below w.heap.size w w') :
    Pair W fb c a ws u fb' c' a' ws' u' w' :=
  ⟨h.below.trans (hb.mono h.below.size), h.handle.below hb, h.one.keep hb, h.two.keep hb⟩

set_option maxRecDepth 100000 in
set_option maxHeartbeats 1600000 in
theorem same_faults (fb : Nat) (c a : Int) (ws : List ByteArray) (u : Value) (fb' : Nat) (c' a' : Int) (ws' : List ByteArray) (u' : Value) (w : World)
    (h : ChainAt w (.fault fb c a) ws u) (h' : ChainAt w (.fault fb' c' a') ws' u') (hg : Handle w) (hl : ws.length ≤ 1000) (hl' : ws'.length ≤ 1000) :
    Calls Tryd.prog 24 #[u, u'] w fun e w' => e = .returned (.bool (sameB c a ws c' a' ws')) ∧ Below w.heap.size w w' := by
  obtain ⟨T, V, rfl⟩ := h.iface
  obtain ⟨T', V', rfl⟩ := h'.iface
  have H0 : Pair w fb c a ws (.iface T V) fb' c' a' ws' (.iface T' V') w := ⟨Below.refl _ _, hg, h, h'⟩
  clear h h' hg
  have HL := Lib.hid hl
  have HL' := Lib.hid hl'
  clear hl hl'
  by_cases hc : c = c'
  · have hcb : (c == c') = true := by simpa using hc
    have HC := Lib.hid hc
    clear hc
    by_cases ha : a = a'
    · have hab : (a == a') = true := by simpa using ha
      have HA := Lib.hid ha
      clear ha
      go_enter Tryd.func24, Tryd.ntmps24
      go_wp2_with fail
      refine (code_some _ c rfl _ _ _ H0.one H0.handle).mono ?_
      rintro e w1 ⟨rfl, b1⟩
      have H1 := H0.step b1
      go_wp2_with fail
      refine (code_some _ c' rfl _ _ _ H1.two H1.handle).mono ?_
      rintro e w2 ⟨rfl, b2⟩
      have H2 := H1.step b2
      go_wp2_with fail
      refine (at_chain _ _ _ _ _ _ H2.one H2.handle).mono ?_
      rintro e w3 ⟨rfl, b3⟩
      have H3 := H2.step b3
      go_wp2_with fail
      refine (at_chain _ _ _ _ _ _ H3.two H3.handle).mono ?_
      rintro e w4 ⟨rfl, b4⟩
      have H4 := H3.step b4
      go_wp2_with fail
      refine (words_any _ _ _ _ H4.one H4.handle HL.out).mono ?_
      rintro e w5 ⟨sl, rfl, ho, b5⟩
      have H5 := H4.step b5
      have S5 := strs_own ho
      clear ho
      go_wp2_with fail
      refine (words_any _ _ _ _ H5.two H5.handle HL'.out).mono ?_
      rintro e w6 ⟨sl', rfl, ho, b6⟩
      have H6 := H5.step b6
      have S6 := S5.keep b6
      have S6' := strs_own ho
      clear ho
      go_wp2_with fail
      refine (equalS_below _ _ _ _ _ S6 S6' HL.out).mono ?_
      rintro e w7 ⟨rfl, b7⟩
      have H7 := H6.step b7
      go_wp2_with fail
      go_ret
      exact ⟨ret_b (by simp [sameB, HC.out, HA.out]), H7.below⟩
    · have hab : (a == a') = false := by simpa using ha
      have HA := Lib.hid ha
      clear ha
      go_enter Tryd.func24, Tryd.ntmps24
      go_wp2_with fail
      refine (code_some _ c rfl _ _ _ H0.one H0.handle).mono ?_
      rintro e w1 ⟨rfl, b1⟩
      have H1 := H0.step b1
      go_wp2_with fail
      refine (code_some _ c' rfl _ _ _ H1.two H1.handle).mono ?_
      rintro e w2 ⟨rfl, b2⟩
      have H2 := H1.step b2
      go_wp2_with fail
      refine (at_chain _ _ _ _ _ _ H2.one H2.handle).mono ?_
      rintro e w3 ⟨rfl, b3⟩
      have H3 := H2.step b3
      go_wp2_with fail
      refine (at_chain _ _ _ _ _ _ H3.two H3.handle).mono ?_
      rintro e w4 ⟨rfl, b4⟩
      have H4 := H3.step b4
      go_wp2_with fail
      go_ret
      exact ⟨ret_b (by simp [sameB, HA.out]), H4.below⟩
  · have hcb : (c == c') = false := by simpa using hc
    have HC := Lib.hid hc
    clear hc
    go_enter Tryd.func24, Tryd.ntmps24
    go_wp2_with fail
    refine (code_some _ c rfl _ _ _ H0.one H0.handle).mono ?_
    rintro e w1 ⟨rfl, b1⟩
    have H1 := H0.step b1
    go_wp2_with fail
    refine (code_some _ c' rfl _ _ _ H1.two H1.handle).mono ?_
    rintro e w2 ⟨rfl, b2⟩
    have H2 := H1.step b2
    go_wp2_with fail
    go_ret
    exact ⟨ret_b (by simp [sameB, HC.out]), H2.below⟩
end Go.Proofs.YtcjmmiimkedeoaaDoor
