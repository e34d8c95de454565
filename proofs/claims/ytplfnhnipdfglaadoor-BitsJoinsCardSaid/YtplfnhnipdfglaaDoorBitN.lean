/-
  Whether a set is a list, by contract.
-/
import Derived.Test.YtplfnhnipdfglaaDoorBitM
namespace Go.Proofs.YtplfnhnipdfglaaDoor
open Go.RowKit Go.Extern.Stop Go.Stop Go.Extern

structure IsSt (w0 : World) (B a b : Nat) (v : Value) (L : List Int) (W : World) : Prop where
  set : SetAt W B a b
  ints : IntsAt W v L
  tab : TabB W
  below : Below w0.heap.size w0 W
theorem IsSt.step {w0 : World} {B a b : Nat} {v : Value} {L : List Int} {W W' : World} (h : IsSt w0 B a b v L W) (hb : Below W.heap.size W W') : IsSt w0 B a b v L W' :=
  ⟨h.set.step hb, h.ints.step hb, h.tab.below h.tab.lt hb, h.below.trans (hb.mono h.below.size)⟩
theorem list_ints (a b : Nat) (ha : U64 a) (hb : U64 b) (w : World) (ht : TabB w) :
    Calls Tryd.prog 19 #[setV a b] w fun e w' => ∃ v, e = .returned v ∧ IntsAt w' v (intsL a b) ∧ Below w.heap.size w w' := by
  refine (list_own a b ha hb w ht).mono ?_
  rintro e w' ⟨v, rfl, h1, h2⟩
  rw [intsL_enc] at h1
  exact ⟨v, rfl, IntsAt.own h1 (intsL_len a b), h2⟩
set_option maxRecDepth 100000 in
set_option maxHeartbeats 4000000 in
theorem is_any (a b : Nat) (ha : U64 a) (hb : U64 b) (v : Value) (w : World) (hv : IntsAt w v (intsL a b)) (ht : TabB w) :
    Calls Tryd.prog 10 #[setV a b, v] w fun e w' => e = .returned (.bool true) ∧ Below w.heap.size w w' := by
  obtain ⟨L, hL⟩ : ∃ L, intsL a b = L := ⟨_, rfl⟩
  have hlen : (setL a b).length = L.length := by rw [← hL]; unfold intsL; rw [List.length_map]
  have hle : L.length ≤ 128 := hL ▸ intsL_le a b
  have HLst : Hid (∀ W, TabB W → Calls Tryd.prog 19 #[setV a b] W fun e w' => ∃ v, e = .returned v ∧ IntsAt w' v L ∧ Below W.heap.size W w') := Lib.hid fun W h => hL ▸ list_ints a b ha hb W h
  have HEq := Lib.hid fun W v v' (h : IntsAt W v L) (h' : IntsAt W v' L) => equalI_same L v v' W h h' (by omega)
  have HLen := Lib.hid fun W => len_any a b ha hb W
  rw [hlen] at HLen
  have HEm := Lib.hid fun W => empty_any a b W
  rw [intsL_nil ha hb, hL] at HEm
  have HFi := Lib.hid fun W h => first_any a b ha hb W h
  rw [firstI_eq, hL] at HFi
  rw [hL] at hv
  obtain ⟨p, cap, rfl⟩ := hv.form
  have hB := below_new w (.cells #[.int .u64 (a : Int), .int .u64 (b : Int)] 26)
  have HI : Hid (IsSt w w.heap.size a b (.slice p L.length cap) L (w.alloc (.cells #[.int .u64 (a : Int), .int .u64 (b : Int)] 26))) := Lib.hid ⟨boxed_set w a b, hv.step hB, ht.below ht.lt hB, hB⟩
  clear hL hlen hv ht hB
  cases L with
  | nil =>
    rw [show firstOf [] = -1 from rfl] at HFi
    rw [show decide (([] : List Int).length = 0) = true from rfl] at HEm
    rw [show (([] : List Int).length : Int) = 0 from rfl] at HLen
    rw [show ([] : List Int).length = 0 from rfl] at HI
    go_enter Tryd.func10, Tryd.ntmps10
    have k0 := HI.out.set.cells.1
    have k1 := HI.out.set.cells.2.1
    go_wp2_with fail
    refine (HLst.out _ HI.out.tab).mono ?_
    rintro e w2 ⟨x, rfl, hx, b2⟩
    have HX := Lib.hid hx
    have HI2 := Lib.hid (HI.out.step b2)
    clear k0 k1 HI b2 hx
    go_wp2_with fail
    refine (HEq.out _ _ _ HX.out HI2.out.ints).mono ?_
    rintro e w3 ⟨rfl, b3⟩
    have HI3 := Lib.hid (HI2.out.step b3)
    have k0 := HI3.out.set.cells.1
    have k1 := HI3.out.set.cells.2.1
    clear HI2 b3 HX
    go_wp2_with fail
    refine (HLen.out _).mono ?_
    rintro e w4 ⟨rfl, b4⟩
    have HI4 := Lib.hid (HI3.out.step b4)
    have k0 := HI4.out.set.cells.1
    have k1 := HI4.out.set.cells.2.1
    clear HI3 b4
    go_wp2_with fail
    refine (HEm.out _).mono ?_
    rintro e w5 ⟨rfl, b5⟩
    have HI5 := Lib.hid (HI4.out.step b5)
    have k0 := HI5.out.set.cells.1
    have k1 := HI5.out.set.cells.2.1
    clear HI4 b5
    go_wp2_with fail
    refine (HFi.out _ HI5.out.tab).mono ?_
    rintro e w6 ⟨rfl, b6⟩
    have HI6 := Lib.hid (HI5.out.step b6)
    clear HI5 b6 k0 k1
    go_wp2_with fail
    go_ret
    exact ⟨rfl, HI6.out.below⟩
  | cons y L =>
    rw [show firstOf (y :: L) = y from rfl] at HFi
    rw [show decide ((y :: L).length = 0) = false from by simp] at HEm
    have h0 : (0 : Int) < ((y :: L).length : Int) := by have : (y :: L).length = L.length + 1 := rfl; omega
    have h1 : ¬ ((y :: L).length : Int) = 0 := by omega
    have h2 : 0 < (y :: L).length := by omega
    go_enter Tryd.func10, Tryd.ntmps10
    have k0 := HI.out.set.cells.1
    have k1 := HI.out.set.cells.2.1
    obtain ⟨bb, off, rfl, hc⟩ := HI.out.ints.at (i := 0) (c := y) rfl (Below.refl _ _)
    rw [Nat.add_zero] at hc
    go_wp2_with fail
    refine (HLst.out _ HI.out.tab).mono ?_
    rintro e w2 ⟨x, rfl, hx, b2⟩
    have HX := Lib.hid hx
    have HI2 := Lib.hid (HI.out.step b2)
    clear k0 k1 HI b2 hx hc
    go_wp2_with fail
    refine (HEq.out _ _ _ HX.out HI2.out.ints).mono ?_
    rintro e w3 ⟨rfl, b3⟩
    have HI3 := Lib.hid (HI2.out.step b3)
    have k0 := HI3.out.set.cells.1
    have k1 := HI3.out.set.cells.2.1
    clear HI2 b3 HX
    go_wp2_with fail
    refine (HLen.out _).mono ?_
    rintro e w4 ⟨rfl, b4⟩
    have HI4 := Lib.hid (HI3.out.step b4)
    have k0 := HI4.out.set.cells.1
    have k1 := HI4.out.set.cells.2.1
    clear HI3 b4
    go_wp2_with fail
    refine (HEm.out _).mono ?_
    rintro e w5 ⟨rfl, b5⟩
    have HI5 := Lib.hid (HI4.out.step b5)
    have k0 := HI5.out.set.cells.1
    have k1 := HI5.out.set.cells.2.1
    clear HI4 b5
    go_wp2_with fail
    refine (HFi.out _ HI5.out.tab).mono ?_
    rintro e w6 ⟨rfl, b6⟩
    have HI6 := Lib.hid (HI5.out.step b6)
    clear HI5 b6 k0 k1
    go_wp2_with fail
    go_ret
    exact ⟨rfl, HI6.out.below⟩
end Go.Proofs.YtplfnhnipdfglaaDoor
