/-
  The statement OopsIs as a walk: whatever the two numbers, the place and the words, the law answers true, and all of old memory stays as it was.
-/
import Derived.Test.YtcjmmiimkedeoaaDoorSameC
namespace Go.Proofs.YtcjmmiimkedeoaaDoor
open Go.RowKit Go.Extern.Stop Go.Stop Go.Extern

set_option maxHeartbeats 400000 in
theorem ois_any (B : Nat) (r : Base) (c d : Int) (hr : r.code = some c) (ws : List ByteArray) (v : Value) (w : World) (hch : Chain B w r ws v) :
    Calls Tryd.prog 20 #[v, .int .i64 d] w fun e w' => e = .returned (.bool (decide (c = d))) ∧ w' = w := by
  by_cases h : c = d
  · subst h
    have HC := Lib.hid (is_yes B r c hr ws v w hch)
    clear hr hch
    go_enter Tryd.func20, Tryd.ntmps20
    go_wp2_with fail
    refine HC.out.mono ?_
    rintro e w' ⟨rfl, rfl⟩
    go_wp2_with fail
    go_ret
    exact ⟨ret_b (by simp), rfl⟩
  · have HC := Lib.hid (is_no B r d (by rw [hr]; intro e; exact h (Option.some.inj e)) ws v w hch)
    have HD := Lib.hid h
    clear hr hch h
    go_enter Tryd.func20, Tryd.ntmps20
    go_wp2_with fail
    refine HC.out.mono ?_
    rintro e w' ⟨rfl, rfl⟩
    go_wp2_with fail
    go_ret
    exact ⟨ret_b (by simp [HD.out]), rfl⟩

set_option maxHeartbeats 400000 in
theorem ois_nil (d : Int) (w : World) : Calls Tryd.prog 20 #[.nilIface, .int .i64 d] w fun e w' => e = .returned (.bool false) ∧ w' = w := by
  go_enter Tryd.func20, Tryd.ntmps20
  go_wp2_with fail
  refine (is_nil _ _ _).mono ?_
  rintro e w' ⟨rfl, rfl⟩
  go_wp2_with fail
  go_ret
  exact ⟨rfl, rfl⟩

set_option maxHeartbeats 1000000 in
theorem isLaw_far (c d a : Int) (n : Nat) (b : Option Addr) (cp : Nat) (w : World) (hg : Handle w) (h : 20 < n ∨ c = 0) :
    Calls Tryd.prog 4 #[.int .i64 c, .int .i64 d, .int .i64 a, .slice b n cp] w fun e w' => e = .returned (.bool true) ∧ Below w.heap.size w w' := by
  by_cases hs : 20 < n
  · have hsb : (20 : Int) < n := by omega
    go_enter Tryd.func4, Tryd.ntmps4
    go_wp2_with fail
    refine (awake1_any _ hg).mono ?_
    rintro e w1 ⟨rfl, b1⟩
    go_wp2_with fail
    go_ret
    exact ⟨rfl, b1⟩
  · obtain rfl : c = 0 := by omega
    have hsb : ¬ (20 : Int) < n := by omega
    go_enter Tryd.func4, Tryd.ntmps4
    go_wp2_with fail
    refine (awake1_any _ hg).mono ?_
    rintro e w1 ⟨rfl, b1⟩
    go_wp2_with fail
    go_ret
    exact ⟨rfl, b1⟩

set_option maxRecDepth 100000 in
set_option maxHeartbeats 4000000 in
theorem isLaw_some (c d a : Int) (hc : c ≠ 0) (ws : List ByteArray) (v : Value) (w : World) (hv : StrsAt w v ws) (hg : Handle w) (hlen : ws.length ≤ 20) :
    Calls Tryd.prog 4 #[.int .i64 c, .int .i64 d, .int .i64 a, v] w fun e w' => e = .returned (.bool true) ∧ Below w.heap.size w w' := by
  have hp := hv.parts
  obtain ⟨b, o, cp, rfl, -⟩ := hp
  have hlb : ¬ (20 : Int) < ws.length := by omega
  have HL := Lib.hid hlen
  have hcb : (c == 0) = false := by simpa using hc
  have HC0 := Lib.hid hc
  clear hc hlen
  obtain ⟨x, hx⟩ : ∃ x : Bool, x = decide (c = d) := ⟨_, rfl⟩
  have hcd : (c == d) = x := by rw [hx]; rfl
  have HX := Lib.hid hx
  clear hx
  go_enter Tryd.func4, Tryd.ntmps4
  go_wp2_with fail
  refine (awake1_any _ hg).mono ?_
  rintro e w1 ⟨rfl, b1⟩
  go_wp2_with fail
  refine (of_any c _ HC0.out ws _ _ (hv.keep b1) (by have := HL.out; omega)).mono ?_
  rintro e w2 ⟨u, fb, rfl, hch, b2⟩
  obtain ⟨T, V, rfl⟩ := hch.iface
  have b02 := b1.trans (b2.mono b1.size)
  have q3 : ((w2.alloc (.cells #[.int .i64 c, .int .i64 a, .slice b ws.length cp] 28)).alloc (.cells #[.pointer none] 36)).cell? ⟨w2.heap.size + 1, 0, none⟩ = some (.pointer none) := by simp
  have q3f : ((w2.alloc (.cells #[.int .i64 c, .int .i64 a, .slice b ws.length cp] 28)).alloc (.cells #[.pointer none] 36)).frozen? ⟨w2.heap.size + 1, 0, none⟩ = false := by simp
  have b3 : Below w2.heap.size w2 ((w2.alloc (.cells #[.int .i64 c, .int .i64 a, .slice b ws.length cp] 28)).alloc (.cells #[.pointer none] 36)) := ((Below.refl _ _).alloc (Nat.le_refl _) _).alloc (by simp) _
  go_wp2_with fail
  generalize (w2.alloc (.cells #[.int .i64 c, .int .i64 a, .slice b ws.length cp] 28)).alloc (.cells #[.pointer none] 36) = w3 at q3 q3f b3 ⊢
  have c3 : Chain w2.heap.size w3 (.fault fb c a) ws (.iface T V) := Chain.keep b3 hch
  have g3 : Handle w3 := ((hg.below b02).below b3)
  obtain ⟨-, -, hfb, k0, k1⟩ := Chain.root c3
  have HC3 := Lib.hid c3
  clear hch c3
  refine (is_yes _ _ c rfl ws _ _ HC3.out).mono ?_
  rintro e w4 ⟨rfl, rfl⟩
  go_wp2_with fail
  refine (ois_any _ _ c d rfl ws _ _ HC3.out).mono ?_
  rintro e w4 ⟨rfl, rfl⟩
  rw [← HX.out]
  go_wp2_with fail
  refine (ois_nil _ _).mono ?_
  rintro e w5 ⟨rfl, rfl⟩
  go_wp2_with fail
  refine (as_fault w2.heap.size fb c a ws _ ⟨w2.heap.size + 1, 0, none⟩ (.pointer none) _ b3.size HC3.out g3 q3 q3f).mono ?_
  rintro e w6 ⟨rfl, w7, b7, rfl⟩
  have hlt7 : fb < w5.heap.size := Nat.lt_of_lt_of_le hfb b3.size
  have t7 : (w7.setCell ⟨w2.heap.size + 1, 0, none⟩ (.pointer (some ⟨fb, 0, none⟩))).cell? ⟨w2.heap.size + 1, 0, none⟩ = some (.pointer (some ⟨fb, 0, none⟩)) :=
    World.cell?_setCell_same _ _ _ ((b7.cell (p := ⟨w2.heap.size + 1, 0, none⟩) (World.block_lt_of_cell? w5 _ q3)).trans q3)
  have k07 : (w7.setCell ⟨w2.heap.size + 1, 0, none⟩ (.pointer (some ⟨fb, 0, none⟩))).cell? ⟨fb, 0, none⟩ = some (.int .i64 c) :=
    (World.cell?_setCell_other _ _ _ _ (by intro h; simp at h <;> omega)).trans ((b7.cell (p := ⟨fb, 0, none⟩) hlt7).trans k0)
  have k17 : (w7.setCell ⟨w2.heap.size + 1, 0, none⟩ (.pointer (some ⟨fb, 0, none⟩))).cell? ⟨fb, 1, none⟩ = some (.int .i64 a) :=
    (World.cell?_setCell_other _ _ _ _ (by intro h; simp at h)).trans ((b7.cell (p := ⟨fb, 1, none⟩) hlt7).trans k1)
  have bend : Below w.heap.size w (w7.setCell ⟨w2.heap.size + 1, 0, none⟩ (.pointer (some ⟨fb, 0, none⟩))) :=
    ((b02.trans (b3.mono b02.size)).trans (b7.mono (Nat.le_trans b02.size b3.size))).setCell (by have := b02.size; show w.heap.size ≤ w2.heap.size + 1; omega) _
  generalize w7.setCell ⟨w2.heap.size + 1, 0, none⟩ (.pointer (some ⟨fb, 0, none⟩)) = w8 at t7 k07 k17 bend ⊢
  go_wp2_with fail
  go_ret
  exact ⟨rfl, bend⟩

theorem isLaw_any (c d a : Int) (ws : List ByteArray) (v : Value) (w : World) (hv : StrsAt w v ws) (hg : Handle w) :
    Calls Tryd.prog 4 #[.int .i64 c, .int .i64 d, .int .i64 a, v] w fun e w' => e = .returned (.bool true) ∧ Below w.heap.size w w' := by
  by_cases h : 20 < ws.length ∨ c = 0
  · obtain ⟨b, o, cp, rfl, -⟩ := hv.parts
    exact isLaw_far c d a _ b cp w hg h
  · exact isLaw_some c d a (by omega) ws v w hv hg (by omega)
end Go.Proofs.YtcjmmiimkedeoaaDoor
