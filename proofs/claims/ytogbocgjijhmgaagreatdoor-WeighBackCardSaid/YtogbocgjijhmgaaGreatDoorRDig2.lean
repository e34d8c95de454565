/-
  amount.Digits and the reference's Digits by contracts: the decimal numeral of the amount; old memory stays as it was.
-/
import Derived.Test.YtogbocgjijhmgaaGreatDoorRDig
import Derived.Test.YtogbocgjijhmgaaGreatDoorAmt
namespace Go.Proofs.YtogbocgjijhmgaaGreatDoor
open Go.RowKit Go.Lib

theorem capI_nat {a : Int} (h : 0 ≤ a) : ∃ u : Nat, capI a = u ∧ u ≤ 9223372036854775807 := by
  obtain ⟨h1, h2⟩ := capI_bd a h
  exact ⟨(capI a).toNat, by omega, by omega⟩

set_option maxHeartbeats 400000 in
theorem adigits_any (a : Int) (ha : 0 ≤ a) (w : World) (ht : Tab w) :
    Calls Tryz.prog 82 #[.int .u64 a] w fun e w' => e = .returned (.string ⟨(Lib.decDigits (capI a).toNat).toArray⟩) ∧ Below w.heap.size w w' := by
  obtain ⟨u, hu, hu2⟩ := capI_nat ha
  have HC := Lib.hid (show Calls Tryz.prog 64 #[.int .u64 a] w fun e w' => e = .returned (.int .u64 (u : Int)) ∧ w' = w by rw [← hu]; exact cap_any a w)
  have HF := Lib.hid (formatUint_any u (by omega) w ht)
  have HU := Lib.hid (show (capI a).toNat = u by rw [hu]; rfl)
  clear hu
  go_enter Tryz.func82, Tryz.ntmps82
  go_wp2_with fail
  refine HC.out.mono ?_
  rintro e w' ⟨rfl, rfl⟩
  go_wp2_with fail
  refine HF.out.mono ?_
  rintro e w1 ⟨rfl, hb⟩
  go_wp2_with fail
  go_ret
  exact ⟨by rw [HU.out]; rfl, hb⟩

theorem conv_at (x : Int) (h0 : 0 ≤ x) (h1 : x ≤ 9) (b : Nat) (W : World) (hc : W.cell? ⟨b, 0, none⟩ = some (.int .u8 (48 + x))) :
    (convert 127 9 (.slice (some ⟨b, 0, none⟩) 1 1)).run Tryz.prog W = .ok (.string ⟨[UInt8.ofNat (48 + x.toNat)].toArray⟩) W := by
  refine run_convert_bytes_back (P := Tryz.prog) _ 127 9 5 ⟨b, 0, none⟩ 1 [UInt8.ofNat (48 + x.toNat)] Tryz.underlying127 Tryz.underlying5 Tryz.underlying9 (fun j hj => ?_)
  obtain rfl : j = 0 := by simpa using hj
  have e : ((UInt8.ofNat (48 + x.toNat)).toNat : Int) = 48 + x := by
    rw [UInt8.toNat_ofNat_of_lt' (by show 48 + x.toNat < 256; omega)]
    omega
  show World.cell? _ _ = some (.int .u8 ((UInt8.ofNat (48 + x.toNat)).toNat : Int))
  rw [e]
  simpa [Addr.add] using hc

/-- The text of one byte, the byte behind a name. -/
theorem conv_byte (x : Nat) (h1 : x ≤ 9) : ∃ c : UInt8, c = UInt8.ofNat (48 + x) ∧ (∀ W : World, (convert 127 9 (.slice (some ⟨W.heap.size, 0, none⟩) 1 1)).run Tryz.prog (W.alloc (.cells #[.int .u8 (48 + (x : Int))] 5)) = .ok (.string ⟨#[c]⟩) (W.alloc (.cells #[.int .u8 (48 + (x : Int))] 5))) ∧
    ∀ (b : Nat) (W : World), W.cell? ⟨b, 0, none⟩ = some (.int .u8 (48 + (x : Int))) → (convert 127 9 (.slice (some ⟨b, 0, none⟩) 1 1)).run Tryz.prog W = .ok (.string ⟨#[c]⟩) W :=
  ⟨UInt8.ofNat (48 + x), rfl, fun W => conv_one (x : Int) (by omega) (by omega) W, fun b W h => conv_at (x : Int) (by omega) (by omega) b W h⟩

set_option maxRecDepth 100000 in
set_option maxHeartbeats 1600000 in
theorem rdigits_small (u : Nat) (hu : u < 10) (a : Int) (hc : capI a = u) (w : World) :
    Calls Tryz.prog 52 #[.int .u64 a] w fun e w' => e = .returned (.string ⟨(Lib.decDigits u).toArray⟩) ∧ Below w.heap.size w w' := by
  have HC := Lib.hid (show Calls Tryz.prog 86 #[.int .u64 a] w fun e w' => e = .returned (.int .u64 (u : Int)) ∧ w' = w by rw [← hc]; exact rcap_any a w)
  obtain ⟨c, hcc, hcv, -⟩ := conv_byte u (by omega)
  have HE := Lib.hid (show Lib.decDigits u = [c] by rw [hcc]; exact Lib.decDigits_one hu)
  have hcw := hcv w
  clear hc hcc hcv
  go_enter Tryz.func52, Tryz.ntmps52
  go_wp2_with fail
  refine HC.out.mono ?_
  rintro e w' ⟨rfl, rfl⟩
  go_wp2_with fail
  go_ret
  exact ⟨by rw [HE.out]; rfl, (Below.refl _ _).alloc (Nat.le_refl _) _⟩

theorem str_end (l : List UInt8) (c : UInt8) : Value.string ((⟨l.toArray⟩ : ByteArray) ++ ⟨#[c]⟩) = Value.string ⟨(l ++ [c]).toArray⟩ := by
  congr 1

theorem cell_after {w0 w2 : World} {x : Value} {T : TypeId} (hb : Below (w0.alloc (.cells #[x] T)).drew.heap.size (w0.alloc (.cells #[x] T)).drew w2) : w2.cell? ⟨w0.heap.size, 0, none⟩ = some x :=
  (hb.cell (p := ⟨w0.heap.size, 0, none⟩) (by simp)).trans (by simp)

set_option maxRecDepth 100000 in
set_option maxHeartbeats 3200000 in
theorem rdigits_step (u : Nat) (hu : ¬ u < 10) (hu2 : u ≤ 9223372036854775807) (a : Int) (hc : capI a = u)
    (ih : ∀ w, Calls Tryz.prog 52 #[.int .u64 ((u : Int) / 10)] w fun e w' => e = .returned (.string ⟨(Lib.decDigits (u / 10)).toArray⟩) ∧ Below w.heap.size w w') (w : World) :
    Calls Tryz.prog 52 #[.int .u64 a] w fun e w' => e = .returned (.string ⟨(Lib.decDigits u).toArray⟩) ∧ Below w.heap.size w w' := by
  have HC := Lib.hid (show Calls Tryz.prog 86 #[.int .u64 a] w fun e w' => e = .returned (.int .u64 (u : Int)) ∧ w' = w by rw [← hc]; exact rcap_any a w)
  obtain ⟨c, hcc, hcv, hcu⟩ := conv_byte (u % 10) (by omega)
  have HE := Lib.hid (show Lib.decDigits u = Lib.decDigits (u / 10) ++ [c] by rw [hcc, Lib.decDigits, dif_neg hu])
  have hll : (⟨(Lib.decDigits (u / 10)).toArray⟩ : ByteArray).size ≤ 20 := by
    have := Lib.nDigits_le20 (u / 10) (by omega)
    rw [← Lib.decDigits_length] at this
    simpa [ByteArray.size] using this
  have h4 : ¬ 9223372036854775807 < (⟨(Lib.decDigits (u / 10)).toArray⟩ : ByteArray).size + 1 := by omega
  obtain ⟨d, hd⟩ : ∃ d : ByteArray, d = ⟨(Lib.decDigits (u / 10)).toArray⟩ := ⟨_, rfl⟩
  rw [← hd] at ih hll h4
  have HD := Lib.hid hd
  have HI := Lib.hid ih
  have hm : ((u % 10 : Nat) : Int) = (u : Int) % 10 := by omega
  rw [hm] at hcv hcu
  clear hm
  have hm0 : 0 ≤ (u : Int) % 10 := by omega
  have hm9 : (u : Int) % 10 ≤ 9 := by omega
  have hlt : ¬ (u : Int) < 10 := by omega
  have HV := Lib.hid hcv
  have HU := Lib.hid hcu
  clear hc hcc hcv hcu ih hd hu
  go_enter Tryz.func52, Tryz.ntmps52
  go_wp2_with fail
  refine HC.out.mono ?_
  rintro e w' ⟨rfl, rfl⟩
  have hv0 := HU.out w'.heap.size (w'.alloc (.cells #[.int .u8 (48 + (u : Int) % 10)] 5)).drew (by simp)
  go_wp2_with fail
  have q1 : IntKind.u64.wrap ((u : Int) / 10) = (u : Int) / 10 := by rw [IntKind.wrap_u64]; omega
  have q2 : (u : Int).tmod 10 = (u : Int) % 10 := Int.tmod_eq_emod_of_nonneg (by omega)
  have q3 : IntKind.u64.wrap (48 + (u : Int) % 10) = 48 + (u : Int) % 10 := by rw [IntKind.wrap_u64]; omega
  have q4 : IntKind.u8.wrap (48 + (u : Int) % 10) = 48 + (u : Int) % 10 := by rw [IntKind.wrap_u8]; omega
  go_region_with (first
    | (go_at_call 52; refine (HI.out _).mono ?_; rintro e w2 ⟨rfl, hb⟩; have hv1 := HV.out w2; (first | (have hc2 := HU.out _ w2 (cell_after hb)) | skip)))
  all_goals go_wp2
  all_goals go_ret
  all_goals refine ⟨by rw [HE.out, HD.out]; exact ret_v (str_end _ _), ?_⟩
  all_goals first
    | exact (((Below.refl w'.heap.size w').drew).trans hb).alloc hb.size _
    | exact (((Below.refl w'.heap.size w').alloc (Nat.le_refl _) _).drew).trans (hb.mono (by simp))

theorem rdigits_nat (u : Nat) : u ≤ 9223372036854775807 → ∀ (a : Int), capI a = u → ∀ w, Calls Tryz.prog 52 #[.int .u64 a] w fun e w' => e = .returned (.string ⟨(Lib.decDigits u).toArray⟩) ∧ Below w.heap.size w w' := by
  induction u using Nat.strongRecOn with
  | _ u ih =>
    intro hu a hc w
    by_cases h : u < 10
    · exact rdigits_small u h a hc w
    · refine rdigits_step u h hu a hc (fun w => ?_) w
      have := ih (u / 10) (by omega) (by omega) ((u : Int) / 10) (by rw [capI_small (by omega)]; omega) w
      exact this

theorem rdigits_any (a : Int) (ha : 0 ≤ a) (w : World) : Calls Tryz.prog 52 #[.int .u64 a] w fun e w' => e = .returned (.string ⟨(Lib.decDigits (capI a).toNat).toArray⟩) ∧ Below w.heap.size w w' := by
  obtain ⟨u, hu, hu2⟩ := capI_nat ha
  have e : (capI a).toNat = u := by omega
  rw [e]
  exact rdigits_nat u hu2 a hu w
end Go.Proofs.YtogbocgjijhmgaaGreatDoor
