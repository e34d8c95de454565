/-
  Package ink by contracts: a text's text, sign by sign, into a builder.
-/
import Derived.Test.YtajmlkephefapaaGreatDoorInkA
import Derived.Test.YtajmlkephefapaaGreatDoorBld
import Derived.Test.YtajmlkephefapaaGreatDoorTreeD
namespace Go.Proofs.YtajmlkephefapaaGreatDoor
open Go.RowKit Go.Extern.Stop Go.Stop Go.Extern

theorem cells_snoc (l : List UInt8) (b : UInt8) : Lib.byteCells l ++ [.int .u8 (b.toNat : Int)] = Lib.byteCells (l ++ [b]) := by unfold Lib.byteCells; rw [List.map_append]; rfl
theorem cells_len (l : List UInt8) : (Lib.byteCells l).length = l.length := by unfold Lib.byteCells; rw [List.length_map]
/-- One byte more in a builder. -/
theorem byte_any (B b : Nat) (l : List UInt8) (c : UInt8) (x : Int) (hx : x = (c.toNat : Int)) (w : World) (h : BldAt B b (Lib.byteCells l) w) (hl : l.length ≤ 10000000) (hB : B ≤ w.heap.size) :
    Calls Tryz.prog 75 #[.pointer (some ⟨b, 0, none⟩), .int .u8 x] w fun e w' => e = .returned .nilIface ∧ BldAt B b (Lib.byteCells (l ++ [c])) w' ∧ Below B w w' ∧ Others b w w' := by
  subst hx
  refine (writeByte_any B b _ _ w h (by rw [cells_len]; omega) hB).mono ?_
  rintro e w' ⟨rfl, ⟨h1, h2, h3⟩, -⟩
  exact ⟨rfl, by rw [← cells_snoc]; exact h1, h2, h3⟩
theorem sign_cases (b : UInt8) : (b.toNat = 10 ∧ signQ b = [92, 110]) ∨ ((b.toNat = 34 ∨ b.toNat = 92) ∧ signQ b = [92, b]) ∨ (b.toNat ≠ 10 ∧ b.toNat ≠ 34 ∧ b.toNat ≠ 92 ∧ 32 ≤ b.toNat ∧ b.toNat ≤ 126 ∧ signQ b = [b]) ∨ (b.toNat ≠ 10 ∧ b.toNat ≠ 34 ∧ b.toNat ≠ 92 ∧ ¬ (32 ≤ b.toNat ∧ b.toNat ≤ 126) ∧ signQ b = []) := by
  have h10 : b = 10 ↔ b.toNat = 10 := u8_eq (n := 10) (by decide)
  have h34 : b = 34 ↔ b.toNat = 34 := u8_eq (n := 34) (by decide)
  have h92 : b = 92 ↔ b.toNat = 92 := u8_eq (n := 92) (by decide)
  have hle : (32 ≤ b ∧ b ≤ 126) ↔ (32 ≤ b.toNat ∧ b.toNat ≤ 126) := Iff.rfl
  unfold signQ
  by_cases a : b.toNat = 10
  · exact .inl ⟨a, by rw [if_pos (h10.2 a)]⟩
  · have a' : ¬ b = 10 := fun e => a (h10.1 e)
    by_cases c : b.toNat = 34 ∨ b.toNat = 92
    · exact .inr (.inl ⟨c, by rw [if_neg a', if_pos (c.imp h34.2 h92.2)]⟩)
    · have c' : ¬ (b = 34 ∨ b = 92) := fun e => c (e.imp h34.1 h92.1)
      by_cases d : 32 ≤ b.toNat ∧ b.toNat ≤ 126
      · exact .inr (.inr (.inl ⟨a, fun e => c (.inl e), fun e => c (.inr e), d.1, d.2, by rw [if_neg a', if_neg c', if_pos (hle.2 d)]⟩))
      · exact .inr (.inr (.inr ⟨a, fun e => c (.inl e), fun e => c (.inr e), d, by rw [if_neg a', if_neg c', if_neg (fun e => d (hle.1 e))]⟩))
def SgP (B b : Nat) (l : List UInt8) (w : World) (e : Ending) (w' : World) : Prop := e = .returned (.tuple #[]) ∧ BldAt B b (Lib.byteCells l) w' ∧ Below B w w' ∧ Others b w w'
set_option maxRecDepth 100000 in
set_option maxHeartbeats 2000000 in
theorem writeSign_any (B b : Nat) (l : List UInt8) (c : UInt8) (w : World) (h : BldAt B b (Lib.byteCells l) w) (hl : l.length ≤ 1000000) (hB : B ≤ w.heap.size) :
    Calls Tryz.prog 107 #[.pointer (some ⟨b, 0, none⟩), .int .u8 (c.toNat : Int)] w (SgP B b (l ++ signQ c) w) := by
  have HW := Lib.hid (fun (l : List UInt8) (c : UInt8) (x : Int) (hx : x = (c.toNat : Int)) W h hl hB => byte_any B b l c x hx W h hl hB)
  have HB := Lib.hid (And.intro h hB)
  have hc := c.toNat_lt
  rcases sign_cases c with ⟨hn, hs⟩ | ⟨hn, hs⟩ | ⟨h1, h2, h3, h4, h5, hs⟩ | ⟨h1, h2, h3, h4, hs⟩
  · have HS := Lib.hid hs
    have hx : (c.toNat : Int) = 10 := by omega
    rw [hx]
    clear hs hn h hB hc
    go_enter Tryz.func107, Tryz.ntmps107
    go_wp2_with fail
    refine (HW.out l 92 92 rfl _ HB.out.1 (by omega) HB.out.2).mono ?_
    rintro e w1 ⟨rfl, h1, b1, o1⟩
    have HB1 := Lib.hid (And.intro h1 (And.intro b1 o1))
    clear h1 b1 o1
    go_wp2_with fail
    refine (HW.out _ 110 110 rfl _ HB1.out.1 (by simp; omega) (Nat.le_trans HB.out.2 HB1.out.2.1.size)).mono ?_
    rintro e w2 ⟨rfl, h2, b2, o2⟩
    have HB2 : Hid (SgP B b (l ++ signQ c) w (.returned (.tuple #[])) w2) := Lib.hid ⟨rfl, by rw [HS.out]; simpa using h2, HB1.out.2.1.trans b2, HB1.out.2.2.trans o2⟩
    clear h2 b2 o2
    go_wp2_with fail
    go_end0
    exact HB2.out
  · have HS := Lib.hid hs
    have hx1 : ((c.toNat : Int) == 10) = false := by rw [beq_eq_false_iff_ne]; omega
    rcases hn with hn | hn
    · have hx : (c.toNat : Int) = 34 := by omega
      have hx2 : ((c.toNat : Int) == 34) = true := by rw [beq_iff_eq]; omega
      have HX := Lib.hid hx
      clear hs hn h hB hc hx
      go_enter Tryz.func107, Tryz.ntmps107
      go_wp2_with fail
      refine (HW.out l 92 92 rfl _ HB.out.1 (by omega) HB.out.2).mono ?_
      rintro e w1 ⟨rfl, h1, b1, o1⟩
      have HB1 := Lib.hid (And.intro h1 (And.intro b1 o1))
      clear h1 b1 o1
      go_wp2_with fail
      refine (HW.out _ c _ rfl _ HB1.out.1 (by simp; omega) (Nat.le_trans HB.out.2 HB1.out.2.1.size)).mono ?_
      rintro e w2 ⟨rfl, h2, b2, o2⟩
      have HB2 : Hid (SgP B b (l ++ signQ c) w (.returned (.tuple #[])) w2) := Lib.hid ⟨rfl, by rw [HS.out]; simpa using h2, HB1.out.2.1.trans b2, HB1.out.2.2.trans o2⟩
      clear h2 b2 o2
      go_wp2_with fail
      go_end0
      exact HB2.out
    · have hx : (c.toNat : Int) = 92 := by omega
      have hx2 : ((c.toNat : Int) == 34) = false := by rw [beq_eq_false_iff_ne]; omega
      have hx3 : ((c.toNat : Int) == 92) = true := by rw [beq_iff_eq]; omega
      clear hs hn h hB hc hx
      go_enter Tryz.func107, Tryz.ntmps107
      go_wp2_with fail
      refine (HW.out l 92 92 rfl _ HB.out.1 (by omega) HB.out.2).mono ?_
      rintro e w1 ⟨rfl, h1, b1, o1⟩
      have HB1 := Lib.hid (And.intro h1 (And.intro b1 o1))
      clear h1 b1 o1
      go_wp2_with fail
      refine (HW.out _ c _ rfl _ HB1.out.1 (by simp; omega) (Nat.le_trans HB.out.2 HB1.out.2.1.size)).mono ?_
      rintro e w2 ⟨rfl, h2, b2, o2⟩
      have HB2 : Hid (SgP B b (l ++ signQ c) w (.returned (.tuple #[])) w2) := Lib.hid ⟨rfl, by rw [HS.out]; simpa using h2, HB1.out.2.1.trans b2, HB1.out.2.2.trans o2⟩
      clear h2 b2 o2
      go_wp2_with fail
      go_end0
      exact HB2.out
  · have HS := Lib.hid hs
    have hx1 : ((c.toNat : Int) == 10) = false := by rw [beq_eq_false_iff_ne]; omega
    have hx2 : ((c.toNat : Int) == 34) = false := by rw [beq_eq_false_iff_ne]; omega
    have hx3 : ((c.toNat : Int) == 92) = false := by rw [beq_eq_false_iff_ne]; omega
    have hx4 : (32 : Int) ≤ (c.toNat : Int) := by omega
    have hx5 : (c.toNat : Int) ≤ 126 := by omega
    clear hs h1 h2 h3 h4 h5 h hB hc
    go_enter Tryz.func107, Tryz.ntmps107
    go_wp2_with fail
    refine (HW.out _ c _ rfl _ HB.out.1 (by omega) HB.out.2).mono ?_
    rintro e w2 ⟨rfl, h2, b2, o2⟩
    have HB2 : Hid (SgP B b (l ++ signQ c) w (.returned (.tuple #[])) w2) := Lib.hid ⟨rfl, by rw [HS.out]; exact h2, b2, o2⟩
    clear h2 b2 o2
    go_wp2_with fail
    go_end0
    exact HB2.out
  · have HB2 : Hid (SgP B b (l ++ signQ c) w (.returned (.tuple #[])) w) := Lib.hid ⟨rfl, by rw [hs, List.append_nil]; exact h, Below.refl _ _, Lib.OthersKept.refl _ _ _⟩
    have hx1 : ((c.toNat : Int) == 10) = false := by rw [beq_eq_false_iff_ne]; omega
    have hx2 : ((c.toNat : Int) == 34) = false := by rw [beq_eq_false_iff_ne]; omega
    have hx3 : ((c.toNat : Int) == 92) = false := by rw [beq_eq_false_iff_ne]; omega
    by_cases h6 : 32 ≤ c.toNat
    · have hx4 : (32 : Int) ≤ (c.toNat : Int) := by omega
      have hx5 : ¬ (c.toNat : Int) ≤ 126 := by omega
      clear hs h1 h2 h3 h4 h hB hc h6 HB HW
      go_enter Tryz.func107, Tryz.ntmps107
      go_wp2_with fail
      go_end0
      exact HB2.out
    · have hx4 : ¬ (32 : Int) ≤ (c.toNat : Int) := by omega
      clear hs h1 h2 h3 h4 h hB hc h6 HB HW
      go_enter Tryz.func107, Tryz.ntmps107
      go_wp2_with fail
      go_end0
      exact HB2.out
/-- On the way through a text. -/
def QuR (w : World) (s : ByteArray) (g : Nat) (u : Value) (wr : World) : Prop :=
  ∃ i : Nat, i ≤ s.size ∧ g = s.size - i ∧ u = .int .i64 i ∧ BldAt w.heap.size w.heap.size (Lib.byteCells (34 :: bodyQ (s.data.toList.take i))) wr ∧ Below w.heap.size w wr
set_option maxRecDepth 100000 in
set_option maxHeartbeats 2000000 in
theorem quote_any (s : ByteArray) (hs : s.size ≤ 100000) (w : World) :
    Calls Tryz.prog 74 #[.string s] w fun e w' => e = .returned (.string ⟨(quoL s.data.toList).toArray⟩) ∧ Below w.heap.size w w' := by
  have HW := Lib.hid (fun (l : List UInt8) (c : UInt8) (x : Int) (hx : x = (c.toNat : Int)) W h hl hB => byte_any w.heap.size w.heap.size l c x hx W h hl hB)
  have HSg := Lib.hid (fun l c W h hl hB => writeSign_any w.heap.size w.heap.size l c W h hl hB)
  have HSt := Lib.hid (fun l W h hB => bldString_any w.heap.size w.heap.size l W h hB)
  have h0 : BldAt w.heap.size w.heap.size (Lib.byteCells []) (w.alloc (.cells #[.pointer none, .slice none 0 0] 80)) := BldAt.new w
  have H0 := Lib.hid (And.intro h0 (sbelow_new w (.cells #[.pointer none, .slice none 0 0] 80)))
  clear h0
  go_enter Tryz.func74, Tryz.ntmps74
  go_wp2_with fail
  refine (HW.out [] 34 34 rfl _ H0.out.1 (by simp) H0.out.2.size).mono ?_
  rintro e w1 ⟨rfl, h1, b1, -⟩
  have H1 := Lib.hid (And.intro h1 (H0.out.2.trans b1))
  clear h1 b1 H0
  go_wp2_with fail
  go_loopg [8] s.size (fun g u wr => QuR w s g u wr)
  case atStart => exact ⟨0, Nat.zero_le _, by omega, rfl, H1.out.1, H1.out.2⟩
  case round =>
    clear H1
    obtain ⟨i, hi, hgi, rfl, hbl, hb⟩ := hrel
    have HL : Hid ((34 :: bodyQ (s.data.toList.take i)).length ≤ 1000000) := Lib.hid (by
      have := bodyQ_len (s.data.toList.take i)
      rw [List.length_take] at this
      simp only [List.length_cons]
      omega)
    have HB := Lib.hid (And.intro hbl hb)
    clear hbl hb
    by_cases hlt : i < s.size
    · have HT := Lib.hid (take_one hlt)
      go_wp2_with fail
      refine (HSg.out _ _ _ HB.out.1 HL.out HB.out.2.size).mono ?_
      rintro e w2 ⟨rfl, h2, b2, -⟩
      have HN : Hid (QuR w s (s.size - (i + 1)) (.int .i64 ((i : Int) + 1)) w2) := Lib.hid ⟨i + 1, by omega, by omega, by go_num, by
        rw [HT.out, bodyQ_append]
        simpa [bodyQ] using h2, HB.out.2.trans b2⟩
      clear h2 b2
      go_wp2_with fail
      go_roundg (s.size - (i + 1))
      case measure => omega
      case rel => exact HN.out
    · obtain rfl : i = s.size := by omega
      have HT : Hid (s.data.toList.take s.size = s.data.toList) := Lib.hid (List.take_of_length_le (by simp))
      go_wp2_with fail
      refine (HW.out _ 34 34 rfl _ HB.out.1 (by have := HL.out; omega) HB.out.2.size).mono ?_
      rintro e w2 ⟨rfl, h2, b2, -⟩
      rw [HT.out] at h2
      have H2 := Lib.hid (And.intro h2 (HB.out.2.trans b2))
      clear h2 b2
      go_wp2_with fail
      refine (HSt.out _ _ H2.out.1 H2.out.2.size).mono ?_
      rintro e w3 ⟨rfl, h3, b3, -⟩
      have HB3 := Lib.hid (H2.out.2.trans b3)
      go_wp2_with fail
      go_ret
      exact ⟨by unfold quoL; rfl, HB3.out⟩
end Go.Proofs.YtajmlkephefapaaGreatDoor
