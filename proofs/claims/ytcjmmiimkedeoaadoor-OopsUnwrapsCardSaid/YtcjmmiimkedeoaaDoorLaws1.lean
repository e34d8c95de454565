/-
  The statements of chapter 1 (oops) as walks: whatever the arguments, the law answers true, and all of old memory stays as it was; the errors' number table is the one that the program's text lays.
-/
import Derived.Test.YtcjmmiimkedeoaaDoorAwake
import Derived.Deep.RegionWith
namespace Go.Proofs.YtcjmmiimkedeoaaDoor
open Go.RowKit Go.Extern.Stop Go.Stop Go.Extern

theorem below_drewN (w : World) (n : Nat) : Below w.heap.size w (w.drewN n) := by
  induction n with
  | zero => exact Below.refl _ _
  | succ n ih => exact ⟨ih.os, ih.tape, ih.output, ih.size, ih.block⟩

theorem equalS_below (v1 v2 : Value) (w1 w2 : List ByteArray) (w : World) (h1 : StrsAt w v1 w1) (h2 : StrsAt w v2 w2) (hlen : w1.length ≤ 1000) :
    Calls Tryd.prog 18 #[v1, v2] w fun e w' => e = .returned (.bool (decide (w1 = w2))) ∧ Below w.heap.size w w' :=
  (equalS_any v1 v2 w1 w2 w h1 h2 hlen).mono fun _ _ ⟨he, n, hw⟩ => ⟨he, by rw [hw]; exact below_drewN w n⟩

set_option maxHeartbeats 400000 in
theorem words_nil (w : World) : Calls Tryd.prog 17 #[.nilIface] w fun e w' => e = .returned (.slice none 0 0) ∧ Below w.heap.size w w' := by
  go_enter Tryd.func17, Tryd.ntmps17
  go_wp2_with fail
  refine wp_loop_rounds 1 ?_
  rw [rounds_succ]
  go_wp2_with (go_at_call 21; refine (as_nil _ _).mono ?_; rintro e w' ⟨rfl, rfl⟩)
  go_ret
  exact ⟨rfl, below_alloc _ _⟩

/-- What holds while a law asks the chain that it made: nothing old has turned, and the reference's answer lies in a block of its own. -/
structure Inv (W : World) (c a : Int) (fb : Nat) (ws : List ByteArray) (u v : Value) (q : Nat) (w : World) : Prop where
  below : Below W.heap.size W w
  handle : Handle w
  chain : ChainAt w (.fault fb c a) ws u
  strs : StrsAt w v ws
  hq : q < w.heap.size
  k0 : w.cell? ⟨q, 0, none⟩ = some (.int .i64 c)
  k1 : w.cell? ⟨q, 1, none⟩ = some (.int .i64 a)
  k2 : w.cell? ⟨q, 2, none⟩ = some v

section
variable {W w w' : World} {c a : Int} {fb : Nat} {ws : List ByteArray} {u v : Value} {q : Nat}
theorem Inv.step (h : Inv W c a fb ws u v q w) (hb : Below w.heap.size w w') : Inv W c a fb ws u v q w' :=
  ⟨h.below.trans (hb.mono h.below.size), h.handle.below hb, h.chain.keep hb, h.strs.keep hb, Nat.lt_of_lt_of_le h.hq hb.size,
    (hb.cell (p := ⟨q, 0, none⟩) h.hq).trans h.k0, (hb.cell (p := ⟨q, 1, none⟩) h.hq).trans h.k1, (hb.cell (p := ⟨q, 2, none⟩) h.hq).trans h.k2⟩

theorem Inv.drew (h : Inv W c a fb ws u v q w) : Inv W c a fb ws u v q w.drew := h.step (below_drewN w 1)
theorem code_inv (h : Inv W c a fb ws u v q w) : Calls Tryd.prog 15 #[u] w fun e w' => e = .returned (.int .i64 c) ∧ Inv W c a fb ws u v q w' :=
  (code_some _ c rfl ws u w h.chain h.handle).mono fun _ _ ⟨he, hb⟩ => ⟨he, h.step hb⟩
theorem at_inv (h : Inv W c a fb ws u v q w) : Calls Tryd.prog 16 #[u] w fun e w' => e = .returned (.int .i64 a) ∧ Inv W c a fb ws u v q w' :=
  (at_chain _ _ _ ws u w h.chain h.handle).mono fun _ _ ⟨he, hb⟩ => ⟨he, h.step hb⟩
theorem words_inv (h : Inv W c a fb ws u v q w) (hl : ws.length ≤ 1000) : Calls Tryd.prog 17 #[u] w fun e w' => ∃ sl, e = .returned sl ∧ StrsAt w' sl ws ∧ Inv W c a fb ws u v q w' :=
  (words_any _ ws u w h.chain h.handle hl).mono fun _ _ ⟨sl, he, ho, hb⟩ => ⟨sl, he, strs_own ho, h.step hb⟩
theorem equal_inv (h : Inv W c a fb ws u v q w) {sl : Value} (hs : StrsAt w sl ws) (hl : ws.length ≤ 1000) : Calls Tryd.prog 18 #[sl, v] w fun e w' => e = .returned (.bool true) ∧ Inv W c a fb ws u v q w' :=
  (equalS_below sl v ws ws w hs h.strs hl).mono fun _ _ ⟨he, hb⟩ => ⟨by rw [he]; simp, h.step hb⟩
end

set_option maxRecDepth 100000 in
set_option maxHeartbeats 4000000 in
theorem wraps_zero (a : Int) (ws : List ByteArray) (v : Value) (w : World) (hv : StrsAt w v ws) (hg : Handle w) (hlen : ws.length ≤ 20) :
    Calls Tryd.prog 3 #[.int .i64 0, .int .i64 a, v] w fun e w' => e = .returned (.bool true) ∧ Below w.heap.size w w' := by
  have hp := hv.parts
  obtain ⟨b, o, cp, rfl, -⟩ := hp
  have HL := Lib.hid hlen
  have hlb : ((20 : Int) < ws.length) = False := by simp; omega
  go_enter Tryd.func3, Tryd.ntmps3
  go_wp2_with fail
  refine (awake1_any _ hg).mono ?_
  rintro e w1 ⟨rfl, b1⟩
  go_wp2_with fail
  refine (of_nil _ ws _ _ (hv.keep b1) (by have := HL.out; omega)).mono ?_
  rintro e w2 ⟨rfl, b2⟩
  go_wp2_with fail
  refine (code_nil _).mono ?_
  rintro e w3 ⟨rfl, rfl⟩
  go_wp2_with fail
  refine (at_nil _).mono ?_
  rintro e w4 ⟨rfl, b4⟩
  go_wp2_with fail
  refine (words_nil _).mono ?_
  rintro e w5 ⟨rfl, b5⟩
  go_wp2_with fail
  go_ret
  have b3 := below_alloc w2 (.cells #[.int .i64 0, .int .i64 0, .slice none 0 0] 28)
  exact ⟨rfl, b1.trans ((b2.trans ((b3.trans ((b4.trans (b5.mono b4.size)).mono b3.size)).mono b2.size)).mono b1.size)⟩

set_option maxRecDepth 100000 in
set_option maxHeartbeats 4000000 in
theorem wraps_some (c a : Int) (hc : c ≠ 0) (ws : List ByteArray) (v : Value) (w : World) (hv : StrsAt w v ws) (hg : Handle w) (hlen : ws.length ≤ 20) :
    Calls Tryd.prog 3 #[.int .i64 c, .int .i64 a, v] w fun e w' => e = .returned (.bool true) ∧ Below w.heap.size w w' := by
  have hp := hv.parts
  obtain ⟨b, o, cp, rfl, -⟩ := hp
  have HL := Lib.hid hlen
  have hlb : ((20 : Int) < ws.length) = False := by simp; omega
  have hcb : (c == 0) = false := by simpa using hc
  have HC0 := Lib.hid hc
  have hl2 : ws.length ≤ 1000 := by omega
  clear hc
  go_enter Tryd.func3, Tryd.ntmps3
  go_wp2_with fail
  refine (awake1_any _ hg).mono ?_
  rintro e w1 ⟨rfl, b1⟩
  go_wp2_with fail
  refine (of_any c _ HC0.out ws _ _ (hv.keep b1) (by have := HL.out; omega)).mono ?_
  rintro e w2 ⟨u, fb, rfl, hch, b2⟩
  obtain ⟨T, V, rfl⟩ := hch.iface
  have hI : Inv w c a fb ws (.iface T V) (.slice b ws.length cp) w2.heap.size (w2.alloc (.cells #[.int .i64 c, .int .i64 a, .slice b ws.length cp] 28)) := by
    have b3 := below_alloc w2 (.cells #[.int .i64 c, .int .i64 a, .slice b ws.length cp] 28)
    have b02 := b1.trans (b2.mono b1.size)
    exact ⟨b02.trans (b3.mono b02.size), (hg.below b02).below b3, hch.keep b3, (hv.keep b02).keep b3, by simp, by simp, by simp, by simp⟩
  clear hch
  go_wp2_with fail
  generalize w2.alloc (.cells #[.int .i64 c, .int .i64 a, .slice b ws.length cp] 28) = w3 at hI ⊢
  have k0 := hI.k0
  have k1 := hI.k1
  have k2 := hI.k2
  generalize w2.heap.size = q at *
  go_region_with (first
    | (go_at_call 15; refine (code_inv (by first | assumption | exact Inv.drew (by assumption))).mono ?_; rintro e w' ⟨rfl, hJ⟩; have k0 := hJ.k0; have k1 := hJ.k1; have k2 := hJ.k2)
    | (go_at_call 16; refine (at_inv (by first | assumption | exact Inv.drew (by assumption))).mono ?_; rintro e w' ⟨rfl, hJ⟩; have k0 := hJ.k0; have k1 := hJ.k1; have k2 := hJ.k2)
    | (go_at_call 17; refine (words_inv (by first | assumption | exact Inv.drew (by assumption)) (by assumption)).mono ?_; rintro e w' ⟨sl, rfl, hsl, hJ⟩; have k0 := hJ.k0; have k1 := hJ.k1; have k2 := hJ.k2)
    | (go_at_call 18; refine (equal_inv (by first | assumption | exact Inv.drew (by assumption)) (by assumption) (by assumption)).mono ?_; rintro e w' ⟨rfl, hJ⟩; have k0 := hJ.k0; have k1 := hJ.k1; have k2 := hJ.k2))
  all_goals (try go_wp2)
  all_goals go_ret
  all_goals exact ⟨rfl, Inv.below (by assumption)⟩

set_option maxHeartbeats 1000000 in
theorem wraps_far (c a : Int) (n : Nat) (b : Option Addr) (cp : Nat) (w : World) (hg : Handle w) (hlen : 20 < n) :
    Calls Tryd.prog 3 #[.int .i64 c, .int .i64 a, .slice b n cp] w fun e w' => e = .returned (.bool true) ∧ Below w.heap.size w w' := by
  have hlb : (20 : Int) < n := by omega
  go_enter Tryd.func3, Tryd.ntmps3
  go_wp2_with fail
  refine (awake1_any _ hg).mono ?_
  rintro e w1 ⟨rfl, b1⟩
  go_wp2_with fail
  go_ret
  exact ⟨rfl, b1⟩

theorem wraps_any (c a : Int) (ws : List ByteArray) (v : Value) (w : World) (hv : StrsAt w v ws) (hg : Handle w) :
    Calls Tryd.prog 3 #[.int .i64 c, .int .i64 a, v] w fun e w' => e = .returned (.bool true) ∧ Below w.heap.size w w' := by
  by_cases hl : ws.length ≤ 20
  · by_cases hc : c = 0
    · subst hc; exact wraps_zero a ws v w hv hg hl
    · exact wraps_some c a hc ws v w hv hg hl
  · obtain ⟨b, o, cp, rfl, -⟩ := hv.parts
    exact wraps_far c a _ b cp w hg (by omega)
end Go.Proofs.YtcjmmiimkedeoaaDoor
