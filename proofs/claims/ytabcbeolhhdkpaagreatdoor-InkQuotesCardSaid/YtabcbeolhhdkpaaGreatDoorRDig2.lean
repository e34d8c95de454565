/-
  amount.Digits and the reference's Digits by contracts: the decimal numeral of the amount; old memory stays as it was.
-/
import Derived.Test.YtabcbeolhhdkpaaGreatDoorRDig
import Derived.Test.YtabcbeolhhdkpaaGreatDoorAmt
namespace Go.Proofs.YtabcbeolhhdkpaaGreatDoor
open Go.RowKit Go.Lib

theorem capI_nat {a : Int} (h : 0 ≤ a) : ∃ u : Nat, capI a = u ∧ u ≤ 9223372036854775807 := by
  obtain ⟨h1, h2⟩ := capI_bd a h
  exact ⟨(capI a).toNat, by omega, by omega⟩

set_option maxHeartbeats 400000 in
theorem adigits_any (a : Int) (ha : 0 ≤ a) (w : World) (ht : Tab w) :
    Calls Tryz.prog 38 #[.int .u64 a] w fun e w' => e = .returned (.string ⟨(Lib.decDigits (capI a).toNat).toArray⟩) ∧ Below w.heap.size w w' := by
  obtain ⟨u, hu, hu2⟩ := capI_nat ha
  have HC := Lib.hid (show Calls Tryz.prog 66 #[.int .u64 a] w fun e w' => e = .returned (.int .u64 (u : Int)) ∧ w' = w by rw [← hu]; exact cap_any a w)
  have HF := Lib.hid (formatUint_any u (by omega) w ht)
  have HU := Lib.hid (show (capI a).toNat = u by rw [hu]; rfl)
  clear hu
  go_enter Tryz.func38, Tryz.ntmps38
  go_wp2_with fail
  refine HC.out.mono ?_
  rintro e w' ⟨rfl, rfl⟩
  go_wp2_with fail
  refine HF.out.mono ?_
  rintro e w1 ⟨rfl, hb⟩
  go_wp2_with fail
  go_ret
  exact ⟨by rw [HU.out]; rfl, hb⟩

theorem conv_at (x : Int) (h0 : 0 ≤ x) (h1 : x ≤ 9) (b : Nat) (W : World) (hc : W.cell? ⟨b, 0, none⟩ = some (.int .u8 (48 + x))) :
    (convert 38 9 (.slice (some ⟨b, 0, none⟩) 1 1)).run Tryz.prog W = .ok (.string ⟨[UInt8.ofNat (48 + x.toNat)].toArray⟩) W := by
  refine run_convert_bytes_back (P := Tryz.prog) _ 38 9 5 ⟨b, 0, none⟩ 1 [UInt8.ofNat (48 + x.toNat)] Tryz.underlying38 Tryz.underlying5 Tryz.underlying9 (fun j hj => ?_)
  obtain rfl : j = 0 := by simpa using hj
  have e : ((UInt8.ofNat (48 + x.toNat)).toNat : Int) = 48 + x := by
    rw [UInt8.toNat_ofNat_of_lt' (by show 48 + x.toNat < 256; omega)]
    omega
  show World.cell? _ _ = some (.int .u8 ((UInt8.ofNat (48 + x.toNat)).toNat : Int))
  rw [e]
  simpa [Addr.add] using hc

/-- The text of one byte, the byte behind a name. -/
theorem conv_byte (x : Nat) (h1 : x ≤ 9) : ∃ c : UInt8, c = UInt8.ofNat (48 + x) ∧ (∀ W : World, (convert 38 9 (.slice (some ⟨W.heap.size, 0, none⟩) 1 1)).run Tryz.prog (W.alloc (.cells #[.int .u8 (48 + (x : Int))] 5)) = .ok (.string ⟨#[c]⟩) (W.alloc (.cells #[.int .u8 (48 + (x : Int))] 5))) ∧
    ∀ (b : Nat) (W : World), W.cell? ⟨b, 0, none⟩ = some (.int .u8 (48 + (x : Int))) → (convert 38 9 (.slice (some ⟨b, 0, none⟩) 1 1)).run Tryz.prog W = .ok (.string ⟨#[c]⟩) W :=
  ⟨UInt8.ofNat (48 + x), rfl, fun W => conv_one (x : Int) (by omega) (by omega) W, fun b W h => conv_at (x : Int) (by omega) (by omega) b W h⟩

theorem str_end (l : List UInt8) (c : UInt8) : Value.string ((⟨l.toArray⟩ : ByteArray) ++ ⟨#[c]⟩) = Value.string ⟨(l ++ [c]).toArray⟩ := by
  congr 1

theorem cell_after {w0 w2 : World} {x : Value} {T : TypeId} (hb : Below (w0.alloc (.cells #[x] T)).drew.heap.size (w0.alloc (.cells #[x] T)).drew w2) : w2.cell? ⟨w0.heap.size, 0, none⟩ = some x :=
  (hb.cell (p := ⟨w0.heap.size, 0, none⟩) (by simp)).trans (by simp)

end Go.Proofs.YtabcbeolhhdkpaaGreatDoor
