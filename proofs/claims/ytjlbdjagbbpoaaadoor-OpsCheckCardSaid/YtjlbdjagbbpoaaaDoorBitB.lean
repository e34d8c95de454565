/-
  Package bits by contracts, first part: Or, And, Less, the set of one number, the count of bits.
-/
import Derived.Test.YtjlbdjagbbpoaaaDoorBitA
import Derived.WalkKit
import Derived.WalkLawsBesides
import Derived.Deep.LoopGhost
import Derived.Lib.Hide
import Derived.Outline
import Derived.Laws.BitsAllLaws
import Derived.IntWalk
import Derived.Laws.Bits128
namespace Go.Proofs.YtjlbdjagbbpoaaaDoor
open Go.RowKit Go.Extern.Stop Go.Stop Go.Extern

theorem below_new (w : World) (o : Obj) : Below w.heap.size w (w.alloc o) := (Below.refl _ _).alloc (Nat.le_refl _) _
abbrev setV (a b : Nat) : Value := .agg #[.int .u64 (a : Int), .int .u64 (b : Int)]

theorem or64 (a b : Nat) (ha : U64 a) (hb : U64 b) : bits .or .u64 (a : Int) (b : Int) = ((a ||| b : Nat) : Int) := by
  have := u64_or a b (by omega) (by unfold U64 at ha; omega) (by omega) (by unfold U64 at hb; omega)
  simpa using this
theorem and64 (a b : Nat) (ha : U64 a) (hb : U64 b) : bits .and .u64 (a : Int) (b : Int) = ((a &&& b : Nat) : Int) := by
  have := u64_and a b (by omega) (by unfold U64 at ha; omega) (by omega) (by unfold U64 at hb; omega)
  simpa using this
theorem less64 (a b : Nat) (ha : U64 a) (hb : U64 b) : bits .andNot .u64 (a : Int) (b : Int) = ((lessN a b : Nat) : Int) := by
  have := u64_andNot a b (by omega) (by unfold U64 at ha; omega) (by omega) (by unfold U64 at hb; omega)
  simpa [lessN] using this

set_option maxHeartbeats 400000 in
theorem or_any (a b c d : Nat) (ha : U64 a) (hb : U64 b) (hc : U64 c) (hd : U64 d) (w : World) :
    Calls Tryd.prog 66 #[setV a b, setV c d] w fun e w' => e = .returned (setV (a ||| c) (b ||| d)) ∧ Below w.heap.size w w' := by
  have h1 := or64 a c ha hc
  have h2 := or64 b d hb hd
  go_enter Tryd.func66, Tryd.ntmps66
  go_wp2
  refine bodyPost_ret (v := setV (a ||| c) (b ||| d)) (by simp [results, Tryd.f66, go_sem]) rfl ⟨rfl, ?_⟩
  exact (((Below.refl _ _).alloc (Nat.le_refl _) _).alloc (by simp) _).alloc (by simp; omega) _
set_option maxHeartbeats 400000 in
theorem and_any (a b c d : Nat) (ha : U64 a) (hb : U64 b) (hc : U64 c) (hd : U64 d) (w : World) :
    Calls Tryd.prog 42 #[setV a b, setV c d] w fun e w' => e = .returned (setV (a &&& c) (b &&& d)) ∧ Below w.heap.size w w' := by
  have h1 := and64 a c ha hc
  have h2 := and64 b d hb hd
  go_enter Tryd.func42, Tryd.ntmps42
  go_wp2
  refine bodyPost_ret (v := setV (a &&& c) (b &&& d)) (by simp [results, Tryd.f42, go_sem]) rfl ⟨rfl, ?_⟩
  exact (((Below.refl _ _).alloc (Nat.le_refl _) _).alloc (by simp) _).alloc (by simp; omega) _

theorem wrap_nat {x : Int} (n : Nat) (h : x = (n : Int)) (hn : U64 n) : IntKind.u64.wrap x = (n : Int) := by
  subst h
  unfold U64 at hn
  simp [IntKind.wrap, IntKind.bits, IntKind.signed]
  omega
theorem ret_one {a b c d : Nat} (h : a = c) (h' : b = d) : (setV a b) = setV c d := by rw [h, h']
set_option maxHeartbeats 1000000 in
theorem one_lo (i : Int) (h0 : 0 ≤ i) (h1 : i < 64) (w : World) : Calls Tryd.prog 43 #[.int .i64 i] w fun e w' => e = .returned (setV (2 ^ i.toNat) 0) ∧ Below w.heap.size w w' := by
  have q0 : i / 64 = 0 := by omega
  have q1 : i % 64 = i := by omega
  have hw : IntKind.u64.wrap (2 ^ i.toNat) = ((2 ^ i.toNat : Nat) : Int) := wrap_nat _ (by simp) (pow_u64 (by omega))
  go_enter Tryd.func43, Tryd.ntmps43
  go_wp2
  refine bodyPost_ret (v := setV (2 ^ i.toNat) 0) (by simp [results, Tryd.f43, go_sem]) rfl ⟨rfl, ?_⟩
  exact ((Below.refl _ _).alloc (Nat.le_refl _) _).alloc (by simp) _
set_option maxHeartbeats 1000000 in
theorem one_hi (i : Int) (h0 : 64 ≤ i) (h1 : i < 128) (w : World) : Calls Tryd.prog 43 #[.int .i64 i] w fun e w' => e = .returned (setV 0 (2 ^ (i.toNat - 64))) ∧ Below w.heap.size w w' := by
  have q2 : (0 : Int) ≤ i := by omega
  obtain ⟨j, rfl⟩ : ∃ j : Nat, i = 64 + j := ⟨(i - 64).toNat, by omega⟩
  have q0 : (64 + (j : Int)) / 64 = 1 := by omega
  have q1 : (64 + (j : Int)) % 64 = j := by omega
  have hw : IntKind.u64.wrap (2 ^ j) = ((2 ^ j : Nat) : Int) := wrap_nat _ (by simp) (pow_u64 (by omega))
  have hj : (64 + (j : Int)).toNat - 64 = j := by omega
  rw [hj]
  clear hj
  go_enter Tryd.func43, Tryd.ntmps43
  go_wp2
  refine bodyPost_ret (v := setV 0 (2 ^ j)) (by simp [results, Tryd.f43, go_sem]) rfl ⟨rfl, ?_⟩
  exact ((Below.refl _ _).alloc (Nat.le_refl _) _).alloc (by simp) _
set_option maxHeartbeats 1000000 in
theorem one_out (i : Int) (h : i < 0 ∨ 128 ≤ i) (w : World) : Calls Tryd.prog 43 #[.int .i64 i] w fun e w' => e = .returned (setV 0 0) ∧ Below w.heap.size w w' := by
  rcases h with h | h
  · go_enter Tryd.func43, Tryd.ntmps43
    go_wp2
    refine bodyPost_ret (v := setV 0 0) (by simp [results, Tryd.f43, go_sem]) rfl ⟨rfl, ?_⟩
    exact ((Below.refl _ _).alloc (Nat.le_refl _) _).alloc (by simp) _
  · have h0 : 0 ≤ i := by omega
    go_enter Tryd.func43, Tryd.ntmps43
    go_wp2
    refine bodyPost_ret (v := setV 0 0) (by simp [results, Tryd.f43, go_sem]) rfl ⟨rfl, ?_⟩
    exact ((Below.refl _ _).alloc (Nat.le_refl _) _).alloc (by simp) _
theorem one_any (i : Int) (w : World) : Calls Tryd.prog 43 #[.int .i64 i] w fun e w' => e = .returned (setV (oneW i).1 (oneW i).2) ∧ Below w.heap.size w w' := by
  unfold oneW
  by_cases h : 0 ≤ i ∧ i < 64
  · rw [if_pos h]; exact one_lo i h.1 h.2 w
  · rw [if_neg h]
    by_cases h' : 64 ≤ i ∧ i < 128
    · rw [if_pos h']; exact one_hi i h'.1 h'.2 w
    · rw [if_neg h']; exact one_out i (by omega) w

set_option maxHeartbeats 1000000 in
theorem ones_any (x : Nat) (hx : U64 x) (w : World) : Calls Tryd.prog 44 #[.int .u64 (x : Int)] w fun e w' => e = .returned (.int .i64 (bitsOf 64 x).length) ∧ w = w' := by
  obtain ⟨x1, x2, x3, e1, e2, e3, l1, l2, l3, hs⟩ := ones64 x
  have HX := Lib.hid hx
  unfold U64 at hx
  have g1 : bits .and .u64 ((x : Int) / 2) 6148914691236517205 = ((x / 2 &&& 6148914691236517205 : Nat) : Int) := and64 (x / 2) 6148914691236517205 (by unfold U64; omega) (by unfold U64; decide)
  have g2 : bits .and .u64 (x : Int) 6148914691236517205 = ((x &&& 6148914691236517205 : Nat) : Int) := and64 x 6148914691236517205 HX.out (by unfold U64; decide)
  generalize x / 2 &&& 6148914691236517205 = A at *
  generalize x &&& 6148914691236517205 = A' at *
  have g3 : IntKind.u64.wrap ((A : Int) + A') = (x1 : Int) := wrap_nat x1 (by omega) l1
  have g4 : bits .and .u64 ((x1 : Int) / 4) 3689348814741910323 = ((x1 / 4 &&& 3689348814741910323 : Nat) : Int) := and64 (x1 / 4) 3689348814741910323 (by unfold U64; omega) (by unfold U64; decide)
  have g5 : bits .and .u64 (x1 : Int) 3689348814741910323 = ((x1 &&& 3689348814741910323 : Nat) : Int) := and64 x1 3689348814741910323 l1 (by unfold U64; decide)
  generalize x1 / 4 &&& 3689348814741910323 = C at *
  generalize x1 &&& 3689348814741910323 = C' at *
  have g6 : IntKind.u64.wrap ((C : Int) + C') = (x2 : Int) := wrap_nat x2 (by omega) (by unfold U64; omega)
  obtain ⟨s, es⟩ : ∃ s : Nat, s = x2 / 16 + x2 := ⟨_, rfl⟩
  have g7 : IntKind.u64.wrap ((x2 : Int) / 16 + x2) = (s : Int) := wrap_nat s (by omega) (by unfold U64; omega)
  have g8 : bits .and .u64 (s : Int) 1085102592571150095 = (x3 : Int) := by rw [e3, ← es]; exact and64 s 1085102592571150095 (by unfold U64; omega) (by unfold U64; decide)
  obtain ⟨y1, ey1⟩ : ∃ s : Nat, s = x3 + x3 / 256 := ⟨_, rfl⟩
  have g9 : IntKind.u64.wrap ((x3 : Int) + x3 / 256) = (y1 : Int) := wrap_nat y1 (by omega) (by unfold U64; omega)
  rw [← ey1] at hs
  obtain ⟨y2, ey2⟩ : ∃ s : Nat, s = y1 + y1 / 65536 := ⟨_, rfl⟩
  have g10 : IntKind.u64.wrap ((y1 : Int) + y1 / 65536) = (y2 : Int) := wrap_nat y2 (by omega) (by unfold U64; omega)
  rw [← ey2] at hs
  obtain ⟨y3, ey3⟩ : ∃ s : Nat, s = y2 + y2 / 4294967296 := ⟨_, rfl⟩
  have g11 : IntKind.u64.wrap ((y2 : Int) + y2 / 4294967296) = (y3 : Int) := wrap_nat y3 (by omega) (by unfold U64; omega)
  rw [← ey3] at hs
  have g12 : bits .and .i64 (y3 : Int) 127 = (y3 : Int) % 128 := i64_and127 _
  have g13 : IntKind.i64.wrap (y3 : Int) = y3 := IntWalk.i64_in _ (by omega)
  have HS := Lib.hid hs
  clear hs e1 e2 e3 es ey1 ey2 ey3 l1 l2 l3 HX hx
  go_enter Tryd.func44, Tryd.ntmps44
  go_wp2
  go_ret
  refine ⟨?_, rfl⟩
  rw [← HS.out]
  rfl
end Go.Proofs.YtjlbdjagbbpoaaaDoor
