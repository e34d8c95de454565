/-
  The references' numbers in digits, by contracts: the decimal numeral; old memory stays as it was.
-/
import Derived.Test.YtogbocgjijhmgaaGreatDoorFmtB
import Derived.Deep.LoopGhost
import Derived.Deep.RegionWith
namespace Go.Proofs.YtogbocgjijhmgaaGreatDoor
open Go.RowKit Go.Lib

/-- One byte in a new block, as a text. -/
theorem conv_one (x : Int) (h0 : 0 ≤ x) (h1 : x ≤ 9) (W : World) : (convert 127 9 (.slice (some ⟨W.heap.size, 0, none⟩) 1 1)).run Tryz.prog (W.alloc (.cells #[.int .u8 (48 + x)] 5)) = .ok (.string ⟨[UInt8.ofNat (48 + x.toNat)].toArray⟩) (W.alloc (.cells #[.int .u8 (48 + x)] 5)) := by
  refine run_convert_bytes_back (P := Tryz.prog) _ 127 9 5 ⟨W.heap.size, 0, none⟩ 1 [UInt8.ofNat (48 + x.toNat)] Tryz.underlying127 Tryz.underlying5 Tryz.underlying9 (fun j hj => ?_)
  obtain rfl : j = 0 := by simpa using hj
  have e : ((UInt8.ofNat (48 + x.toNat)).toNat : Int) = 48 + x := by
    rw [UInt8.toNat_ofNat_of_lt' (by show 48 + x.toNat < 256; omega)]
    omega
  show World.cell? _ _ = some (.int .u8 ((UInt8.ofNat (48 + x.toNat)).toNat : Int))
  rw [e]
  simp [Addr.add]

theorem str_cons (a : Nat) (l : List UInt8) : Value.string ((⟨#[48 + UInt8.ofNat a]⟩ : ByteArray) ++ (⟨l.toArray⟩ : ByteArray)) = Value.string ⟨(UInt8.ofNat (48 + a) :: l).toArray⟩ := by
  congr 1
  apply ByteArray.ext
  simp [ByteArray.data_append]
/-- The numeral so far: all that is left, ahead of what is laid. -/
def DigRel (N m : Nat) (l : List UInt8) : Prop := (m = 0 → l = Lib.decDigits N) ∧ (0 < m → Lib.decDigits N = Lib.decDigits m ++ l)
theorem DigRel.step {N m : Nat} {l : List UInt8} (h : DigRel N m l) (hm : 0 < m) : DigRel N (m / 10) (UInt8.ofNat (48 + m % 10) :: l) := by
  have e := h.2 hm
  by_cases h10 : m < 10
  · rw [Lib.decDigits_one h10] at e
    refine ⟨fun _ => ?_, fun h' => by omega⟩
    rw [e, Nat.mod_eq_of_lt h10]
    rfl
  · refine ⟨fun h' => by omega, fun _ => ?_⟩
    rw [e, Lib.decDigits, dif_neg h10]
    simp

structure DigLoop (N : Nat) (w : World) (m : Nat) (n s : Value) (wr : World) : Prop where
  ex : ∃ l : List UInt8, m ≤ N ∧ n = .int .i64 m ∧ s = .string ⟨l.toArray⟩ ∧ DigRel N m l
  below : Below w.heap.size w wr

structure NegLoop (N : Nat) (w : World) (m : Nat) (n s : Value) (wr : World) : Prop where
  ex : ∃ l : List UInt8, m ≤ N ∧ n = .int .i64 (-(m : Int)) ∧ s = .string ⟨l.toArray⟩ ∧ DigRel N m l
  below : Below w.heap.size w wr

theorem ret_v {a b : Value} (h : a = b) : Ending.returned a = .returned b := by rw [h]
theorem str_neg (l : List UInt8) : Value.string ((⟨#[45]⟩ : ByteArray) ++ (⟨l.toArray⟩ : ByteArray)) = Value.string ⟨(45 :: l).toArray⟩ := by
  congr 1
theorem str_nought (l : List UInt8) (x : Nat) (h : x = 0) : Value.string ((⟨#[48]⟩ : ByteArray) ++ (⟨l.toArray⟩ : ByteArray)) = Value.string ⟨(UInt8.ofNat (48 + x) :: l).toArray⟩ := by
  subst h
  congr 1
theorem neg_tmod (k : Nat) : (-(k : Int)).tmod 10 = -((k : Int) % 10) := by rw [Int.neg_tmod, Int.tmod_eq_emod_of_nonneg (by omega)]
theorem neg_tdiv (k : Nat) : (-(k : Int)).tdiv 10 = -((k : Int) / 10) := by rw [Int.neg_tdiv, Int.tdiv_eq_ediv_of_nonneg (by omega)]

end Go.Proofs.YtogbocgjijhmgaaGreatDoor
