/-
  Layer 6: the document's own text of a text, by contract.
-/
import Derived.Test.YtajmlkephefapaaGreatDoorScanA
namespace Go.Proofs.YtajmlkephefapaaGreatDoor
open Go.RowKit Go.Extern.Stop Go.Stop Go.Extern

/-- What is written for a byte of a text. -/
def signQ (b : UInt8) : List UInt8 := if b = 10 then [92, 110] else if b = 34 ∨ b = 92 then [92, b] else if 32 ≤ b ∧ b ≤ 126 then [b] else []
def bodyQ : List UInt8 → List UInt8
  | [] => []
  | b :: r => signQ b ++ bodyQ r
def quoL (l : List UInt8) : List UInt8 := 34 :: (bodyQ l ++ [34])
/-- Its bytes that may be written. -/
def mayS (b : UInt8) : Bool := decide (b = 10) || (decide (32 ≤ b) && decide (b ≤ 126))
def mayL (l : List UInt8) : List UInt8 := l.filter mayS
theorem mayL_self {l : List UInt8} (h : ∀ b ∈ l, mayS b = true) : mayL l = l := List.filter_eq_self.2 h
theorem bodyQ_len : ∀ l : List UInt8, (bodyQ l).length ≤ 2 * l.length
  | [] => by simp [bodyQ]
  | b :: r => by
    have := bodyQ_len r
    have hs : (signQ b).length ≤ 2 := by
      unfold signQ
      split
      · simp
      · split
        · simp
        · split <;> simp
    rw [bodyQ, List.length_append, List.length_cons]
    omega
theorem quoL_len (l : List UInt8) : (quoL l).length = (bodyQ l).length + 2 := by unfold quoL; simp


theorem bodyQ_append : ∀ a b : List UInt8, bodyQ (a ++ b) = bodyQ a ++ bodyQ b
  | [], b => rfl
  | x :: r, b => by rw [List.cons_append, bodyQ, bodyQ, bodyQ_append r b, List.append_assoc]
/-- What has been written of a text's bytes. -/
def outQ (l : List UInt8) : ByteArray := ⟨(34 :: bodyQ l).toArray⟩
theorem outQ_size (l : List UInt8) : (outQ l).size ≤ 2 * l.length + 1 := by
  have := bodyQ_len l
  show (34 :: bodyQ l).toArray.size ≤ _
  simp
  exact this
theorem outQ_snoc (l : List UInt8) (b : UInt8) : outQ (l ++ [b]) = outQ l ++ ⟨(signQ b).toArray⟩ := by
  apply ByteArray.ext
  apply Array.ext'
  simp [outQ, bodyQ_append, bodyQ]
theorem outQ_end (l : List UInt8) : outQ l ++ ⟨#[34]⟩ = ⟨(quoL l).toArray⟩ := by
  apply ByteArray.ext
  apply Array.ext'
  simp [outQ, quoL]
theorem one_extract {s : ByteArray} {i : Nat} (h : i < s.size) : s.extract i (i + 1) = ⟨#[s[i]]⟩ := by
  apply ByteArray.ext
  apply Array.ext'
  have hl : i < s.data.toList.length := by simpa using h
  simp only [ByteArray.data_extract, Array.toList_extract, List.extract_eq_take_drop]
  rw [show i + 1 - i = 1 by omega, List.drop_eq_getElem_cons hl]
  rfl
theorem take_one {s : ByteArray} {i : Nat} (h : i < s.size) : s.data.toList.take (i + 1) = s.data.toList.take i ++ [s[i]] := by
  have hl : i < s.data.toList.length := by simpa using h
  rw [List.take_add_one, List.getElem?_eq_getElem hl]
  rfl
theorem u8_at {b : UInt8} {n : Nat} (hn : n < 256) : b = UInt8.ofNat n ↔ (b.toNat : Int) = n := by
  constructor
  · rintro rfl
    simp
    omega
  · intro h
    apply UInt8.toNat_inj.1
    simp
    omega
def QuoRow (w : World) (s : ByteArray) (g : Nat) (v u : Value) (wr : World) : Prop := ∃ i : Nat, i ≤ s.size ∧ g = s.size - i ∧ v = .string (outQ (s.data.toList.take i)) ∧ u = .int .i64 i ∧ wr = w
set_option maxRecDepth 100000 in
set_option maxHeartbeats 4000000 in
theorem rquote_any (s : ByteArray) (hs : s.size ≤ 100000) (w : World) : Calls Tryz.prog 50 #[.string s] w fun e w' => e = .returned (.string ⟨(quoL s.data.toList).toArray⟩) ∧ w' = w := by
  go_enter Tryz.func50, Tryz.ntmps50
  go_wp2_with fail
  go_loopg [3, 4] s.size (fun g v u wr => QuoRow w s g v u wr)
  case atStart => exact ⟨0, Nat.zero_le _, by omega, rfl, rfl, rfl⟩
  case round =>
    obtain ⟨i, hi, hgi, rfl, rfl, rfl⟩ := hrel
    have hsz := outQ_size (s.data.toList.take i)
    have hlen : (s.data.toList.take i).length ≤ i := by simp; omega
    by_cases hlt : i < s.size
    · have hex := one_extract hlt
      have hsn := outQ_snoc (s.data.toList.take i) s[i]
      rw [← take_one hlt] at hsn
      have HR : Hid (∀ V, V = Value.string (outQ (s.data.toList.take (i + 1))) → ∀ U, U = Value.int .i64 ((i + 1 : Nat) : Int) → QuoRow wr s (s.size - (i + 1)) V U wr) := Lib.hid (fun V hV U hU => ⟨i + 1, by omega, rfl, hV, hU, rfl⟩)
      have HSN := Lib.hid hsn
      have HEX := Lib.hid hex
      clear hsn hex
      have hO1 : (outQ (s.data.toList.take i)).size ≤ 200001 := by omega
      generalize outQ (s.data.toList.take i) = O at *
      generalize outQ (s.data.toList.take (i + 1)) = O' at *
      have hz1 : ¬ 9223372036854775807 < O.size + 2 := by omega
      have hz2 : ¬ 9223372036854775807 < O.size + 1 := by omega
      have hz3 : ¬ 9223372036854775807 < O.size + 1 + 1 := by omega
      have hb10 : s[i] = 10 ↔ (s[i].toNat : Int) = 10 := u8_at (n := 10) (by decide)
      have hb34 : s[i] = 34 ↔ (s[i].toNat : Int) = 34 := u8_at (n := 34) (by decide)
      have hb92 : s[i] = 92 ↔ (s[i].toNat : Int) = 92 := u8_at (n := 92) (by decide)
      obtain ⟨j, hj⟩ : ∃ j, i + 1 = j := ⟨_, rfl⟩
      have hij : (i : Int) + 1 = (j : Int) := by omega
      have hj1 : i ≤ j := by omega
      have hj2 : j ≤ s.size := by omega
      rw [hj] at HR HEX
      by_cases h10 : (s[i].toNat : Int) = 10
      · have hsig : signQ s[i] = [92, 110] := by unfold signQ; rw [if_pos (hb10.2 h10)]
        rw [hsig] at HSN
        have q10 : ((s[i].toNat : Int) == 10) = true := by simpa using h10
        clear hb10 hb34 hb92 hsz hlen h10
        go_wp2_with fail
        go_roundg (s.size - j)
        case measure => omega
        case rel => exact HR.out _ (by rw [HSN.out]) _ rfl
      · have q10 : ((s[i].toNat : Int) == 10) = false := by simpa using h10
        by_cases hq : (s[i].toNat : Int) = 34 ∨ (s[i].toNat : Int) = 92
        · have hsig : signQ s[i] = [92, s[i]] := by unfold signQ; rw [if_neg (fun h => h10 (hb10.1 h)), if_pos (hq.imp hb34.2 hb92.2)]
          rw [hsig] at HSN
          have HF : Hid (O ++ ⟨#[92]⟩ ++ s.extract i j = O') := Lib.hid (by
            rw [HSN.out, HEX.out]
            apply ByteArray.ext
            apply Array.ext'
            simp)
          rcases hq with h | h
          · have q34 : ((s[i].toNat : Int) == 34) = true := by simpa using h
            clear hb10 hb34 hb92 hsz hlen h10 h
            go_wp2_with fail
            go_roundg (s.size - j)
            case measure => omega
            case rel => exact HR.out _ (by rw [HF.out]) _ rfl
          · have q34 : ((s[i].toNat : Int) == 34) = false := by rw [beq_eq_false_iff_ne]; omega
            have q92 : ((s[i].toNat : Int) == 92) = true := by simpa using h
            clear hb10 hb34 hb92 hsz hlen h10 h
            go_wp2_with fail
            go_roundg (s.size - j)
            case measure => omega
            case rel => exact HR.out _ (by rw [HF.out]) _ rfl
        · have q34 : ((s[i].toNat : Int) == 34) = false := by rw [beq_eq_false_iff_ne]; omega
          have q92 : ((s[i].toNat : Int) == 92) = false := by rw [beq_eq_false_iff_ne]; omega
          have hn : ¬ (s[i] = 34 ∨ s[i] = 92) := fun h => hq (h.imp hb34.1 hb92.1)
          have hge : (32 ≤ s[i]) ↔ (32 : Int) ≤ (s[i].toNat : Int) := by
            show 32 ≤ s[i].toNat ↔ _
            omega
          have hle : (s[i] ≤ 126) ↔ (s[i].toNat : Int) ≤ 126 := by
            show s[i].toNat ≤ 126 ↔ _
            omega
          by_cases h32 : (32 : Int) ≤ (s[i].toNat : Int)
          · by_cases h126 : (s[i].toNat : Int) ≤ 126
            · have hsig : signQ s[i] = [s[i]] := by unfold signQ; rw [if_neg (fun h => h10 (hb10.1 h)), if_neg hn, if_pos ⟨hge.2 h32, hle.2 h126⟩]
              rw [hsig] at HSN
              have HF : Hid (O ++ s.extract i j = O') := Lib.hid (by rw [HSN.out, HEX.out])
              clear hb10 hb34 hb92 hsz hlen h10 hq hn hge hle hsig
              go_wp2_with fail
              go_roundg (s.size - j)
              case measure => omega
              case rel => exact HR.out _ (by rw [HF.out]) _ rfl
            · have hsig : signQ s[i] = [] := by unfold signQ; rw [if_neg (fun h => h10 (hb10.1 h)), if_neg hn, if_neg (fun h => h126 (hle.1 h.2))]
              rw [hsig] at HSN
              have HF : Hid (O = O') := Lib.hid (by rw [HSN.out]; apply ByteArray.ext; simp)
              clear HEX hb10 hb34 hb92 hsz hlen h10 hq hn hge hle hsig
              go_wp2_with fail
              go_roundg (s.size - j)
              case measure => omega
              case rel => exact HR.out _ (by rw [HF.out]) _ rfl
          · have hsig : signQ s[i] = [] := by unfold signQ; rw [if_neg (fun h => h10 (hb10.1 h)), if_neg hn, if_neg (fun h => h32 (hge.1 h.1))]
            rw [hsig] at HSN
            have HF : Hid (O = O') := Lib.hid (by rw [HSN.out]; apply ByteArray.ext; simp)
            clear HEX hb10 hb34 hb92 hsz hlen h10 hq hn hge hle hsig
            go_wp2_with fail
            go_roundg (s.size - j)
            case measure => omega
            case rel => exact HR.out _ (by rw [HF.out]) _ rfl
    · obtain rfl : i = s.size := by omega
      have htk : s.data.toList.take s.size = s.data.toList := List.take_of_length_le (by simp)
      rw [htk] at hsz
      rw [htk]
      have hl2 : s.data.toList.length = s.size := by simp
      have he := outQ_end s.data.toList
      have HE := Lib.hid he
      clear he
      have hO1 : (outQ s.data.toList).size ≤ 200001 := by omega
      generalize outQ s.data.toList = O at *
      have hz2 : ¬ 9223372036854775807 < O.size + 1 := by omega
      go_wp2_with fail
      go_ret
      exact ⟨by rw [← HE.out]; rfl, rfl⟩
def mayI (b : UInt8) : Bool := ((b.toNat : Int) == 10) || (decide ((32 : Int) ≤ (b.toNat : Int)) && decide ((b.toNat : Int) ≤ 126))
theorem mayI_eq (b : UInt8) : mayI b = mayS b := by
  have h10 : b = 10 ↔ (b.toNat : Int) = 10 := u8_at (n := 10) (by decide)
  have hge : (32 ≤ b) ↔ (32 : Int) ≤ (b.toNat : Int) := by
    show 32 ≤ b.toNat ↔ _
    omega
  have hle : (b ≤ 126) ↔ (b.toNat : Int) ≤ 126 := by
    show b.toNat ≤ 126 ↔ _
    omega
  unfold mayI mayS
  rw [Bool.eq_iff_iff]
  simp only [Bool.or_eq_true, Bool.and_eq_true, decide_eq_true_eq, beq_iff_eq, h10, hge, hle]
set_option maxRecDepth 100000 in
set_option maxHeartbeats 4000000 in
theorem rplain_any (s : ByteArray) (hs : s.size ≤ 100000) (w : World) : Calls Tryz.prog 43 #[.string s] w fun e w' => e = .returned (.bool (s.data.toList.all mayS)) ∧ w' = w := by
  have hAll : s.data.toList.all mayS = true ↔ ∀ i (h : i < s.size), mayI s[i] = true := by
    rw [List.all_eq_true]
    constructor
    · intro h i hi
      rw [mayI_eq]
      exact h _ (List.getElem_mem (l := s.data.toList) (n := i) (by simpa using hi))
    · intro h x hx
      obtain ⟨i, hi, rfl⟩ := List.getElem_of_mem hx
      rw [← mayI_eq]
      exact h i (by simpa using hi)
  generalize s.data.toList.all mayS = r at *
  have HA := Lib.hid hAll
  clear hAll
  go_enter Tryz.func43, Tryz.ntmps43
  go_wp2_with fail
  go_loopg [3] s.size (fun g u wr => ∃ i : Nat, i ≤ s.size ∧ g = s.size - i ∧ u = .int .i64 i ∧ wr = w ∧ ∀ j (h : j < s.size), j < i → mayI s[j] = true)
  case atStart => exact ⟨0, Nat.zero_le _, by omega, rfl, rfl, fun j _ h => absurd h (Nat.not_lt_zero _)⟩
  case round =>
    obtain ⟨i, hi, hgi, rfl, rfl, hall⟩ := hrel
    have HL := Lib.hid hall
    clear hall
    by_cases hlt : i < s.size
    · have HNO : Hid (mayI s[i] = false → r = false) := Lib.hid (fun h => by
        cases hc : r
        · rfl
        · have := HA.out.1 hc i hlt
          rw [h] at this
          cases this)
      have HYES : Hid (mayI s[i] = true → ∀ j (h : j < s.size), j < i + 1 → mayI s[j] = true) := Lib.hid (fun h j hj hji => by
        by_cases e : j = i
        · subst e; exact h
        · exact HL.out j hj (by omega))
      unfold mayI at HNO HYES
      by_cases h10 : (s[i].toNat : Int) = 10
      · have q10 : ((s[i].toNat : Int) == 10) = true := by simpa using h10
        have q10' : ((s[i].toNat : Int) != 10) = false := by simpa using h10
        rw [q10] at HYES
        clear h10
        go_wp2_with fail
        go_roundg (s.size - (i + 1))
        case measure => omega
        case rel => exact ⟨i + 1, by omega, rfl, rfl, rfl, HYES.out (by simp)⟩
      · have q10 : ((s[i].toNat : Int) == 10) = false := by simpa using h10
        have q10' : ((s[i].toNat : Int) != 10) = true := by simpa using h10
        rw [q10] at HYES HNO
        clear h10
        by_cases h32 : (s[i].toNat : Int) < 32
        · have HN2 := Lib.hid (HNO.out (by simp; omega))
          clear HNO HYES
          go_wp2_with fail
          go_ret
          exact ⟨by rw [HN2.out]; rfl, rfl⟩
        · by_cases h126 : (126 : Int) < (s[i].toNat : Int)
          · have HN2 := Lib.hid (HNO.out (by simp; omega))
            clear HNO HYES
            go_wp2_with fail
            go_ret
            exact ⟨by rw [HN2.out]; rfl, rfl⟩
          · have HY2 := Lib.hid (HYES.out (by simp; omega))
            clear HNO HYES
            go_wp2_with fail
            go_roundg (s.size - (i + 1))
            case measure => omega
            case rel => exact ⟨i + 1, by omega, rfl, rfl, rfl, HY2.out⟩
    · obtain rfl : i = s.size := by omega
      have HE : Hid (r = true) := Lib.hid (HA.out.2 fun j h => HL.out j h h)
      go_wp2_with fail
      go_ret
      exact ⟨by rw [HE.out]; rfl, rfl⟩
end Go.Proofs.YtajmlkephefapaaGreatDoor
