/-
  The references' numbers in digits, by contracts: the decimal numeral; old memory stays as it was.
  amount.Digits and the reference's Digits by contracts: the decimal numeral of the amount; old memory stays as it was.
-/
import Derived.Test.YtajmlkephefapaaGreatDoorFmtB
import Derived.Deep.LoopGhost
import Derived.Deep.RegionWith
import Derived.Test.YtajmlkephefapaaGreatDoorAmt
namespace Go.Proofs.YtajmlkephefapaaGreatDoor
open Go.RowKit Go.Lib

/-- One byte in a new block, as a text. -/
theorem conv_one (x : Int) (h0 : 0 ≤ x) (h1 : x ≤ 9) (W : World) : (convert 78 9 (.slice (some ⟨W.heap.size, 0, none⟩) 1 1)).run Tryz.prog (W.alloc (.cells #[.int .u8 (48 + x)] 5)) = .ok (.string ⟨[UInt8.ofNat (48 + x.toNat)].toArray⟩) (W.alloc (.cells #[.int .u8 (48 + x)] 5)) := by
  refine run_convert_bytes_back (P := Tryz.prog) _ 78 9 5 ⟨W.heap.size, 0, none⟩ 1 [UInt8.ofNat (48 + x.toNat)] Tryz.underlying78 Tryz.underlying5 Tryz.underlying9 (fun j hj => ?_)
  obtain rfl : j = 0 := by simpa using hj
  have e : ((UInt8.ofNat (48 + x.toNat)).toNat : Int) = 48 + x := by
    rw [UInt8.toNat_ofNat_of_lt' (by show 48 + x.toNat < 256; omega)]
    omega
  show World.cell? _ _ = some (.int .u8 ((UInt8.ofNat (48 + x.toNat)).toNat : Int))
  rw [e]
  simp [Addr.add]

theorem str_cons (a : Nat) (l : List UInt8) : Value.string ((⟨#[48 + UInt8.ofNat a]⟩ : ByteArray) ++ (⟨l.toArray⟩ : ByteArray)) = Value.string ⟨(UInt8.ofNat (48 + a) :: l).toArray⟩ := by
  congr 1
  apply ByteArray.ext
  simp [ByteArray.data_append]
/-- The numeral so far: all that is left, ahead of what is laid. -/
def DigRel (N m : Nat) (l : List UInt8) : Prop := (m = 0 → l = Lib.decDigits N) ∧ (0 < m → Lib.decDigits N = Lib.decDigits m ++ l)
theorem DigRel.step {N m : Nat} {l : List UInt8} (h : DigRel N m l) (hm : 0 < m) : DigRel N (m / 10) (UInt8.ofNat (48 + m % 10) :: l) := by
  have e := h.2 hm
  by_cases h10 : m < 10
  · rw [Lib.decDigits_one h10] at e
    refine ⟨fun _ => ?_, fun h' => by omega⟩
    rw [e, Nat.mod_eq_of_lt h10]
    rfl
  · refine ⟨fun h' => by omega, fun _ => ?_⟩
    rw [e, Lib.decDigits, dif_neg h10]
    simp

structure DigLoop (N : Nat) (w : World) (m : Nat) (n s : Value) (wr : World) : Prop where
  ex : ∃ l : List UInt8, m ≤ N ∧ n = .int .i64 m ∧ s = .string ⟨l.toArray⟩ ∧ DigRel N m l
  below : Below w.heap.size w wr

theorem digitsRef_zero (w : World) : Calls Tryz.prog 44 #[.int .i64 0] w fun e w' => e = .returned (.string ⟨(Lib.itoa 0).toArray⟩) ∧ Below w.heap.size w w' := by
  go_enter Tryz.func44, Tryz.ntmps44
  go_wp2
  go_ret
  have e : Lib.itoa 0 = [48] := by rw [show (0 : Int) = ((0 : Nat) : Int) from rfl, Lib.itoa_nonneg, Lib.decDigits_one (by decide)]; rfl
  rw [e]
  exact ⟨rfl, Below.refl _ _⟩

set_option maxHeartbeats 1600000 in
set_option maxRecDepth 100000 in
theorem digitsRef_pos (N : Nat) (h0 : 0 < N) (h1 : N ≤ 9223372036854775807) (w : World) :
    Calls Tryz.prog 44 #[.int .i64 N] w fun e w' => e = .returned (.string ⟨(Lib.decDigits N).toArray⟩) ∧ Below w.heap.size w w' := by
  have hb : ((N : Int) == 0) = false := by rw [beq_eq_false_iff_ne]; omega
  have hb2 : ¬ (N : Int) < 0 := by omega
  go_enter Tryz.func44, Tryz.ntmps44
  go_wp2
  have H0 : Hid (DigLoop N w N (.int .i64 N) (.string ⟨#[]⟩) w) := ⟨⟨[], Nat.le_refl _, rfl, rfl, ⟨fun h => by omega, fun _ => by simp⟩⟩, Below.refl _ _⟩
  go_loopg [0, 3] N (fun k n s wr => DigLoop N w k n s wr)
  case atStart => exact H0.out
  case round =>
    obtain ⟨⟨l, hm, rfl, rfl, hD⟩, hbel⟩ := hrel
    have HD := Lib.hid hD
    clear hD
    by_cases hz : gk = 0
    · subst hz
      have HL := Lib.hid (HD.out.1 rfl)
      rw [show ((0 : Nat) : Int) = 0 from rfl]
      go_wp2
      go_ret
      exact ⟨by rw [← HL.out]; rfl, hbel⟩
    · have hnb : ((gk : Int) != 0) = true := by rw [bne_iff_ne]; omega
      have hd1 : 0 ≤ (gk : Int) % 10 := by omega
      have hd2 : (gk : Int) % 10 ≤ 9 := by omega
      have hcv := conv_one ((gk : Int) % 10) hd1 hd2 wr
      have hll : l.length ≤ 20 := by
        have e := congrArg List.length (HD.out.2 (by omega))
        rw [Lib.decDigits_length, List.length_append] at e
        have := Lib.nDigits_le20 N (by omega)
        omega
      go_wp2
      go_roundg (gk / 10)
      case measure => omega
      case rel => exact ⟨⟨UInt8.ofNat (48 + gk % 10) :: l, by omega, by go_num, str_cons _ _, HD.out.step (by omega)⟩, hbel.alloc hbel.size _⟩

structure NegLoop (N : Nat) (w : World) (m : Nat) (n s : Value) (wr : World) : Prop where
  ex : ∃ l : List UInt8, m ≤ N ∧ n = .int .i64 (-(m : Int)) ∧ s = .string ⟨l.toArray⟩ ∧ DigRel N m l
  below : Below w.heap.size w wr

theorem ret_v {a b : Value} (h : a = b) : Ending.returned a = .returned b := by rw [h]
theorem str_neg (l : List UInt8) : Value.string ((⟨#[45]⟩ : ByteArray) ++ (⟨l.toArray⟩ : ByteArray)) = Value.string ⟨(45 :: l).toArray⟩ := by
  congr 1
theorem str_nought (l : List UInt8) (x : Nat) (h : x = 0) : Value.string ((⟨#[48]⟩ : ByteArray) ++ (⟨l.toArray⟩ : ByteArray)) = Value.string ⟨(UInt8.ofNat (48 + x) :: l).toArray⟩ := by
  subst h
  congr 1
theorem neg_tmod (k : Nat) : (-(k : Int)).tmod 10 = -((k : Int) % 10) := by rw [Int.neg_tmod, Int.tmod_eq_emod_of_nonneg (by omega)]
theorem neg_tdiv (k : Nat) : (-(k : Int)).tdiv 10 = -((k : Int) / 10) := by rw [Int.neg_tdiv, Int.tdiv_eq_ediv_of_nonneg (by omega)]

set_option maxHeartbeats 1600000 in
set_option maxRecDepth 100000 in
theorem digitsRef_neg (N : Nat) (h0 : 0 < N) (h1 : N ≤ 9223372036854775808) (w : World) :
    Calls Tryz.prog 44 #[.int .i64 (-(N : Int))] w fun e w' => e = .returned (.string ⟨(45 :: Lib.decDigits N).toArray⟩) ∧ Below w.heap.size w w' := by
  have hb : (-(N : Int) == 0) = false := by rw [beq_eq_false_iff_ne]; omega
  have hb2 : -(N : Int) < 0 := by omega
  have H0 : Hid (NegLoop N w N (.int .i64 (-(N : Int))) (.string ⟨#[]⟩) w) := ⟨⟨[], Nat.le_refl _, rfl, rfl, ⟨fun h => by omega, fun _ => by simp⟩⟩, Below.refl _ _⟩
  have hlen : (Lib.decDigits N).length ≤ 20 := by rw [Lib.decDigits_length]; exact Lib.nDigits_le20 N (by omega)
  go_enter Tryz.func44, Tryz.ntmps44
  go_wp2
  go_loopg [0, 3] N (fun k n s wr => NegLoop N w k n s wr)
  case atStart => exact H0.out
  case round =>
    obtain ⟨⟨l, hm, rfl, rfl, hD⟩, hbel⟩ := hrel
    have HD := Lib.hid hD
    clear hD
    by_cases hz : gk = 0
    · subst hz
      have HL := HD.out.1 rfl
      subst HL
      rw [show (-((0 : Nat) : Int)) = 0 from rfl]
      go_wp2
      go_ret
      exact ⟨ret_v (str_neg _), hbel⟩
    · have hnb : (-(gk : Int) != 0) = true := by rw [bne_iff_ne]; omega
      have hd1 : 0 ≤ (gk : Int) % 10 := by omega
      have hd2 : (gk : Int) % 10 ≤ 9 := by omega
      have hcv := conv_one ((gk : Int) % 10) hd1 hd2 wr
      have ht := neg_tmod gk
      have hq := neg_tdiv gk
      have hll : l.length ≤ 20 := by
        have e := congrArg List.length (HD.out.2 (by omega))
        rw [Lib.decDigits_length, List.length_append] at e
        have := Lib.nDigits_le20 N (by omega)
        omega
      by_cases hp : 0 < (gk : Int) % 10
      · go_wp2
        go_roundg (gk / 10)
        case measure => omega
        case rel => exact ⟨⟨UInt8.ofNat (48 + gk % 10) :: l, by omega, by congr 1, str_cons _ _, HD.out.step (by omega)⟩, hbel.alloc hbel.size _⟩
      · have h10 : (gk : Int) % 10 = 0 := by omega
        have ht0 : (-(gk : Int)).tmod 10 = 0 := by rw [ht, h10]; rfl
        have hcv0 : (convert 78 9 (.slice (some ⟨wr.heap.size, 0, none⟩) 1 1)).run Tryz.prog (wr.alloc (.cells #[.int .u8 48] 5)) = .ok (.string ⟨#[48]⟩) (wr.alloc (.cells #[.int .u8 48] 5)) := conv_one 0 (by decide) (by decide) wr
        clear ht hcv hd1 hd2 hp h10
        go_wp2
        go_roundg (gk / 10)
        case measure => omega
        case rel => exact ⟨⟨UInt8.ofNat (48 + gk % 10) :: l, by omega, by congr 1, str_nought _ _ (by have := neg_tmod gk; omega), HD.out.step (by omega)⟩, hbel.alloc hbel.size _⟩

theorem digitsRef_any (n : Int) (h0 : -9223372036854775808 ≤ n) (h1 : n ≤ 9223372036854775807) (w : World) :
    Calls Tryz.prog 44 #[.int .i64 n] w fun e w' => e = .returned (.string ⟨(Lib.itoa n).toArray⟩) ∧ Below w.heap.size w w' := by
  by_cases hz : n = 0
  · subst hz; exact digitsRef_zero w
  · by_cases hn : n < 0
    · obtain ⟨u, rfl⟩ : ∃ u : Nat, n = -(u : Int) := ⟨n.natAbs, by omega⟩
      rw [Lib.itoa_neg u (by omega)]
      exact digitsRef_neg u (by omega) (by omega) w
    · obtain ⟨u, rfl⟩ : ∃ u : Nat, n = u := ⟨n.toNat, by omega⟩
      rw [Lib.itoa_nonneg]
      exact digitsRef_pos u (by omega) (by omega) w
end Go.Proofs.YtajmlkephefapaaGreatDoor

namespace Go.Proofs.YtajmlkephefapaaGreatDoor
open Go.RowKit Go.Lib

theorem capI_nat {a : Int} (h : 0 ≤ a) : ∃ u : Nat, capI a = u ∧ u ≤ 9223372036854775807 := by
  obtain ⟨h1, h2⟩ := capI_bd a h
  exact ⟨(capI a).toNat, by omega, by omega⟩

set_option maxHeartbeats 400000 in
theorem adigits_any (a : Int) (ha : 0 ≤ a) (w : World) (ht : Tab w) :
    Calls Tryz.prog 73 #[.int .u64 a] w fun e w' => e = .returned (.string ⟨(Lib.decDigits (capI a).toNat).toArray⟩) ∧ Below w.heap.size w w' := by
  obtain ⟨u, hu, hu2⟩ := capI_nat ha
  have HC := Lib.hid (show Calls Tryz.prog 106 #[.int .u64 a] w fun e w' => e = .returned (.int .u64 (u : Int)) ∧ w' = w by rw [← hu]; exact cap_any a w)
  have HF := Lib.hid (formatUint_any u (by omega) w ht)
  have HU := Lib.hid (show (capI a).toNat = u by rw [hu]; rfl)
  clear hu
  go_enter Tryz.func73, Tryz.ntmps73
  go_wp2_with fail
  refine HC.out.mono ?_
  rintro e w' ⟨rfl, rfl⟩
  go_wp2_with fail
  refine HF.out.mono ?_
  rintro e w1 ⟨rfl, hb⟩
  go_wp2_with fail
  go_ret
  exact ⟨by rw [HU.out]; rfl, hb⟩

theorem conv_at (x : Int) (h0 : 0 ≤ x) (h1 : x ≤ 9) (b : Nat) (W : World) (hc : W.cell? ⟨b, 0, none⟩ = some (.int .u8 (48 + x))) :
    (convert 78 9 (.slice (some ⟨b, 0, none⟩) 1 1)).run Tryz.prog W = .ok (.string ⟨[UInt8.ofNat (48 + x.toNat)].toArray⟩) W := by
  refine run_convert_bytes_back (P := Tryz.prog) _ 78 9 5 ⟨b, 0, none⟩ 1 [UInt8.ofNat (48 + x.toNat)] Tryz.underlying78 Tryz.underlying5 Tryz.underlying9 (fun j hj => ?_)
  obtain rfl : j = 0 := by simpa using hj
  have e : ((UInt8.ofNat (48 + x.toNat)).toNat : Int) = 48 + x := by
    rw [UInt8.toNat_ofNat_of_lt' (by show 48 + x.toNat < 256; omega)]
    omega
  show World.cell? _ _ = some (.int .u8 ((UInt8.ofNat (48 + x.toNat)).toNat : Int))
  rw [e]
  simpa [Addr.add] using hc

/-- The text of one byte, the byte behind a name. -/
theorem conv_byte (x : Nat) (h1 : x ≤ 9) : ∃ c : UInt8, c = UInt8.ofNat (48 + x) ∧ (∀ W : World, (convert 78 9 (.slice (some ⟨W.heap.size, 0, none⟩) 1 1)).run Tryz.prog (W.alloc (.cells #[.int .u8 (48 + (x : Int))] 5)) = .ok (.string ⟨#[c]⟩) (W.alloc (.cells #[.int .u8 (48 + (x : Int))] 5))) ∧
    ∀ (b : Nat) (W : World), W.cell? ⟨b, 0, none⟩ = some (.int .u8 (48 + (x : Int))) → (convert 78 9 (.slice (some ⟨b, 0, none⟩) 1 1)).run Tryz.prog W = .ok (.string ⟨#[c]⟩) W :=
  ⟨UInt8.ofNat (48 + x), rfl, fun W => conv_one (x : Int) (by omega) (by omega) W, fun b W h => conv_at (x : Int) (by omega) (by omega) b W h⟩

set_option maxRecDepth 100000 in
set_option maxHeartbeats 1600000 in
theorem rdigits_small (u : Nat) (hu : u < 10) (a : Int) (hc : capI a = u) (w : World) :
    Calls Tryz.prog 49 #[.int .u64 a] w fun e w' => e = .returned (.string ⟨(Lib.decDigits u).toArray⟩) ∧ Below w.heap.size w w' := by
  have HC := Lib.hid (show Calls Tryz.prog 80 #[.int .u64 a] w fun e w' => e = .returned (.int .u64 (u : Int)) ∧ w' = w by rw [← hc]; exact rcap_any a w)
  obtain ⟨c, hcc, hcv, -⟩ := conv_byte u (by omega)
  have HE := Lib.hid (show Lib.decDigits u = [c] by rw [hcc]; exact Lib.decDigits_one hu)
  have hcw := hcv w
  clear hc hcc hcv
  go_enter Tryz.func49, Tryz.ntmps49
  go_wp2_with fail
  refine HC.out.mono ?_
  rintro e w' ⟨rfl, rfl⟩
  go_wp2_with fail
  go_ret
  exact ⟨by rw [HE.out]; rfl, (Below.refl _ _).alloc (Nat.le_refl _) _⟩

theorem str_end (l : List UInt8) (c : UInt8) : Value.string ((⟨l.toArray⟩ : ByteArray) ++ ⟨#[c]⟩) = Value.string ⟨(l ++ [c]).toArray⟩ := by
  congr 1

theorem cell_after {w0 w2 : World} {x : Value} {T : TypeId} (hb : Below (w0.alloc (.cells #[x] T)).drew.heap.size (w0.alloc (.cells #[x] T)).drew w2) : w2.cell? ⟨w0.heap.size, 0, none⟩ = some x :=
  (hb.cell (p := ⟨w0.heap.size, 0, none⟩) (by simp)).trans (by simp)

set_option maxRecDepth 100000 in
set_option maxHeartbeats 3200000 in
theorem rdigits_step (u : Nat) (hu : ¬ u < 10) (hu2 : u ≤ 9223372036854775807) (a : Int) (hc : capI a = u)
    (ih : ∀ w, Calls Tryz.prog 49 #[.int .u64 ((u : Int) / 10)] w fun e w' => e = .returned (.string ⟨(Lib.decDigits (u / 10)).toArray⟩) ∧ Below w.heap.size w w') (w : World) :
    Calls Tryz.prog 49 #[.int .u64 a] w fun e w' => e = .returned (.string ⟨(Lib.decDigits u).toArray⟩) ∧ Below w.heap.size w w' := by
  have HC := Lib.hid (show Calls Tryz.prog 80 #[.int .u64 a] w fun e w' => e = .returned (.int .u64 (u : Int)) ∧ w' = w by rw [← hc]; exact rcap_any a w)
  obtain ⟨c, hcc, hcv, hcu⟩ := conv_byte (u % 10) (by omega)
  have HE := Lib.hid (show Lib.decDigits u = Lib.decDigits (u / 10) ++ [c] by rw [hcc, Lib.decDigits, dif_neg hu])
  have hll : (⟨(Lib.decDigits (u / 10)).toArray⟩ : ByteArray).size ≤ 20 := by
    have := Lib.nDigits_le20 (u / 10) (by omega)
    rw [← Lib.decDigits_length] at this
    simpa [ByteArray.size] using this
  have h4 : ¬ 9223372036854775807 < (⟨(Lib.decDigits (u / 10)).toArray⟩ : ByteArray).size + 1 := by omega
  obtain ⟨d, hd⟩ : ∃ d : ByteArray, d = ⟨(Lib.decDigits (u / 10)).toArray⟩ := ⟨_, rfl⟩
  rw [← hd] at ih hll h4
  have HD := Lib.hid hd
  have HI := Lib.hid ih
  have hm : ((u % 10 : Nat) : Int) = (u : Int) % 10 := by omega
  rw [hm] at hcv hcu
  clear hm
  have hm0 : 0 ≤ (u : Int) % 10 := by omega
  have hm9 : (u : Int) % 10 ≤ 9 := by omega
  have hlt : ¬ (u : Int) < 10 := by omega
  have HV := Lib.hid hcv
  have HU := Lib.hid hcu
  clear hc hcc hcv hcu ih hd hu
  go_enter Tryz.func49, Tryz.ntmps49
  go_wp2_with fail
  refine HC.out.mono ?_
  rintro e w' ⟨rfl, rfl⟩
  have hv0 := HU.out w'.heap.size (w'.alloc (.cells #[.int .u8 (48 + (u : Int) % 10)] 5)).drew (by simp)
  go_wp2_with fail
  have q1 : IntKind.u64.wrap ((u : Int) / 10) = (u : Int) / 10 := by rw [IntKind.wrap_u64]; omega
  have q2 : (u : Int).tmod 10 = (u : Int) % 10 := Int.tmod_eq_emod_of_nonneg (by omega)
  have q3 : IntKind.u64.wrap (48 + (u : Int) % 10) = 48 + (u : Int) % 10 := by rw [IntKind.wrap_u64]; omega
  have q4 : IntKind.u8.wrap (48 + (u : Int) % 10) = 48 + (u : Int) % 10 := by rw [IntKind.wrap_u8]; omega
  go_region_with (first
    | (go_at_call 49; refine (HI.out _).mono ?_; rintro e w2 ⟨rfl, hb⟩; have hv1 := HV.out w2; (first | (have hc2 := HU.out _ w2 (cell_after hb)) | skip)))
  all_goals go_wp2
  all_goals go_ret
  all_goals refine ⟨by rw [HE.out, HD.out]; exact ret_v (str_end _ _), ?_⟩
  all_goals first
    | exact (((Below.refl w'.heap.size w').drew).trans hb).alloc hb.size _
    | exact (((Below.refl w'.heap.size w').alloc (Nat.le_refl _) _).drew).trans (hb.mono (by simp))

theorem rdigits_nat (u : Nat) : u ≤ 9223372036854775807 → ∀ (a : Int), capI a = u → ∀ w, Calls Tryz.prog 49 #[.int .u64 a] w fun e w' => e = .returned (.string ⟨(Lib.decDigits u).toArray⟩) ∧ Below w.heap.size w w' := by
  induction u using Nat.strongRecOn with
  | _ u ih =>
    intro hu a hc w
    by_cases h : u < 10
    · exact rdigits_small u h a hc w
    · refine rdigits_step u h hu a hc (fun w => ?_) w
      have := ih (u / 10) (by omega) (by omega) ((u : Int) / 10) (by rw [capI_small (by omega)]; omega) w
      exact this

theorem rdigits_any (a : Int) (ha : 0 ≤ a) (w : World) : Calls Tryz.prog 49 #[.int .u64 a] w fun e w' => e = .returned (.string ⟨(Lib.decDigits (capI a).toNat).toArray⟩) ∧ Below w.heap.size w w' := by
  obtain ⟨u, hu, hu2⟩ := capI_nat ha
  have e : (capI a).toNat = u := by omega
  rw [e]
  exact rdigits_nat u hu2 a hu w
end Go.Proofs.YtajmlkephefapaaGreatDoor
