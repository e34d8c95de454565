/-
  The statement OopsUnwraps as a walk: whatever the number, the place and the word, the law answers true, and all of old memory stays as it was.
-/
import Derived.Test.YtcjmmiimkedeoaaDoorSameC
namespace Go.Proofs.YtcjmmiimkedeoaaDoor
open Go.RowKit Go.Extern.Stop Go.Stop Go.Extern

set_option maxHeartbeats 400000 in
theorem faultUnwrap_any (b : Nat) (c : Int) (w : World) (h : w.cell? ⟨b, 0, none⟩ = some (.int .i64 c)) :
    Calls Tryd.prog 22 #[.pointer (some ⟨b, 0, none⟩)] w fun e w' => e = .returned (.iface 22 (.int .i64 c)) ∧ w' = w := by
  go_enter Tryd.func22, Tryd.ntmps22
  go_wp2
  go_ret
  exact ⟨rfl, rfl⟩

set_option maxHeartbeats 400000 in
theorem placeUnwrap_any (b : Nat) (u : Value) (w : World) (h : w.cell? ⟨b, 1, none⟩ = some u) :
    Calls Tryd.prog 23 #[.pointer (some ⟨b, 0, none⟩)] w fun e w' => e = .returned u ∧ w' = w := by
  go_enter Tryd.func23, Tryd.ntmps23
  go_wp2
  go_ret
  exact ⟨rfl, rfl⟩

set_option maxHeartbeats 1000000 in
theorem unwraps_far (c a : Int) (s : ByteArray) (w : World) (hg : Handle w) (h : 100 < s.size ∨ c = 0) :
    Calls Tryd.prog 5 #[.int .i64 c, .int .i64 a, .string s] w fun e w' => e = .returned (.bool true) ∧ Below w.heap.size w w' := by
  by_cases hs : 100 < s.size
  · have hsb : (100 : Int) < s.size := by omega
    go_enter Tryd.func5, Tryd.ntmps5
    go_wp2_with fail
    refine (awake1_any _ hg).mono ?_
    rintro e w1 ⟨rfl, b1⟩
    go_wp2_with fail
    go_ret
    exact ⟨rfl, b1⟩
  · obtain rfl : c = 0 := by omega
    have hsb : ¬ (100 : Int) < s.size := by omega
    go_enter Tryd.func5, Tryd.ntmps5
    go_wp2_with fail
    refine (awake1_any _ hg).mono ?_
    rintro e w1 ⟨rfl, b1⟩
    go_wp2_with fail
    go_ret
    exact ⟨rfl, b1⟩

/-- What holds while the law asks the fault and the place that it laid. -/
structure UInv (W : World) (c a : Int) (s : ByteArray) (fb pb : Nat) (w : World) : Prop where
  below : Below W.heap.size W w
  handle : Handle w
  hf : fb < w.heap.size
  hp : pb < w.heap.size
  f0 : w.cell? ⟨fb, 0, none⟩ = some (.int .i64 c)
  f1 : w.cell? ⟨fb, 1, none⟩ = some (.int .i64 a)
  p1 : w.cell? ⟨pb, 1, none⟩ = some (.iface 36 (.pointer (some ⟨fb, 0, none⟩)))
section
variable {W w w' : World} {c a : Int} {s : ByteArray} {fb pb : Nat}
theorem UInv.step (h : UInv W c a s fb pb w) (hb : Below w.heap.size w w') : UInv W c a s fb pb w' :=
  ⟨h.below.trans (hb.mono h.below.size), h.handle.below hb, Nat.lt_of_lt_of_le h.hf hb.size, Nat.lt_of_lt_of_le h.hp hb.size,
    (hb.cell (p := ⟨fb, 0, none⟩) h.hf).trans h.f0, (hb.cell (p := ⟨fb, 1, none⟩) h.hf).trans h.f1, (hb.cell (p := ⟨pb, 1, none⟩) h.hp).trans h.p1⟩
theorem UInv.chain (h : UInv W c a s fb pb w) : ChainAt w (.fault fb c a) [] (.iface 36 (.pointer (some ⟨fb, 0, none⟩))) := ⟨rfl, h.hf, h.f0, h.f1⟩
end

set_option maxRecDepth 100000 in
set_option maxHeartbeats 4000000 in
theorem unwraps_some (c a : Int) (s : ByteArray) (w : World) (hg : Handle w) (hs : s.size ≤ 100) (hc : c ≠ 0) :
    Calls Tryd.prog 5 #[.int .i64 c, .int .i64 a, .string s] w fun e w' => e = .returned (.bool true) ∧ Below w.heap.size w w' := by
  have hsb : ¬ (100 : Int) < s.size := by omega
  have hcb : (c == 0) = false := by simpa using hc
  have HC := Lib.hid hc
  clear hc hs
  go_enter Tryd.func5, Tryd.ntmps5
  go_wp2_with fail
  refine (awake1_any _ hg).mono ?_
  rintro e w1 ⟨rfl, b1⟩
  have H3 : UInv w c a s w1.heap.size (w1.heap.size + 1) ((w1.alloc (.cells #[.int .i64 c, .int .i64 a] 42)).alloc (.cells #[.string s, .iface 36 (.pointer (some ⟨w1.heap.size, 0, none⟩))] 46)) := by
    have b2 := below_alloc w1 (.cells #[.int .i64 c, .int .i64 a] 42)
    have b3 := below_alloc (w1.alloc (.cells #[.int .i64 c, .int .i64 a] 42)) (.cells #[.string s, .iface 36 (.pointer (some ⟨w1.heap.size, 0, none⟩))] 46)
    have b13 := b2.trans (b3.mono b2.size)
    exact ⟨b1.trans (b13.mono b1.size), (hg.below b1).below b13, by simp; omega, by simp, by simp, by simp, by simp⟩
  go_wp2_with fail
  generalize (w1.alloc (.cells #[.int .i64 c, .int .i64 a] 42)).alloc (.cells #[.string s, .iface 36 (.pointer (some ⟨w1.heap.size, 0, none⟩))] 46) = w3 at H3 ⊢
  refine (faultUnwrap_any _ _ _ H3.f0).mono ?_
  rintro e w' ⟨rfl, rfl⟩
  go_wp2_with fail
  refine (is_yes w'.heap.size (.errno c) c rfl [] _ _ rfl).mono ?_
  rintro e w3 ⟨rfl, rfl⟩
  go_wp2_with fail
  refine (faultUnwrap_any _ _ _ H3.f0).mono ?_
  rintro e w' ⟨rfl, rfl⟩
  go_wp2_with fail
  refine (at_no (.errno c) (by intro b c a h; cases h) [] _ _ rfl H3.handle).mono ?_
  rintro e w4 ⟨rfl, b4⟩
  have H4 := H3.step b4
  go_wp2_with fail
  refine (placeUnwrap_any _ _ _ H4.p1).mono ?_
  rintro e w5 ⟨rfl, rfl⟩
  go_wp2_with fail
  refine (at_chain _ _ _ _ _ _ H4.chain H4.handle).mono ?_
  rintro e w6 ⟨rfl, b6⟩
  have H6 := H4.step b6
  go_wp2_with fail
  refine (placeUnwrap_any _ _ _ H6.p1).mono ?_
  rintro e w7 ⟨rfl, rfl⟩
  go_wp2_with fail
  refine (words_any _ _ _ _ H6.chain H6.handle (by decide)).mono ?_
  rintro e w8 ⟨sl, rfl, ho, b8⟩
  have H8 := H6.step b8
  obtain ⟨x, y, z, rfl, -⟩ := (strs_own ho).parts
  clear ho
  go_wp2_with fail
  refine (placeUnwrap_any _ _ _ H8.p1).mono ?_
  rintro e w9 ⟨rfl, rfl⟩
  go_wp2_with fail
  refine (same_faults _ _ _ _ _ _ _ _ _ _ _ H8.chain H8.chain H8.handle (by decide) (by decide)).mono ?_
  rintro e w10 ⟨rfl, b10⟩
  have H10 := H8.step b10
  have hsm : sameB c a [] c a [] = true := by simp [sameB]
  rw [hsm]
  go_wp2_with fail
  go_ret
  exact ⟨rfl, H10.below⟩

theorem unwraps_any (c a : Int) (s : ByteArray) (w : World) (hg : Handle w) :
    Calls Tryd.prog 5 #[.int .i64 c, .int .i64 a, .string s] w fun e w' => e = .returned (.bool true) ∧ Below w.heap.size w w' := by
  by_cases h : 100 < s.size ∨ c = 0
  · exact unwraps_far c a s w hg h
  · exact unwraps_some c a s w hg (by omega) (by omega)
end Go.Proofs.YtcjmmiimkedeoaaDoor
