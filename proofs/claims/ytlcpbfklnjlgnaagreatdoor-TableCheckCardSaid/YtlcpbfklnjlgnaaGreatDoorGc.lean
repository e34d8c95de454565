/-
  Package amount and its reference, by contracts: Cap, Add, Mul and Sum are what the plain numbers come to, cut off at 2^63 - 1, in the program and in the reference alike; no memory turns.
  amount.Parse and its reference, by contracts: of a text of digits alone, without noughts ahead and not too great, its number; else the error that the document tells, at its place; and chapter 2's example.
  The reference's Parse by a contract: the document's answer for any text; no memory turns.
-/
import Derived.Test.YtlcpbfklnjlgnaaGreatDoorProg
import Derived.WalkKit
import Derived.WalkLawsBesides
import Derived.Deep.LoopGhost
import Derived.Lib.Hide
import Derived.Outline
import Derived.Shelf.Bits.Mul64
import Derived.Test.YtlcpbfklnjlgnaaGreatDoorGb
namespace Go.Proofs.YtlcpbfklnjlgnaaGreatDoor
open Go.RowKit Go.Extern

/-! ### Plain numbers -/
def most : Int := 9223372036854775807
def capI (a : Int) : Int := if a > most then most else a
def addI (a b : Int) : Int := capI (capI a + capI b)
def mulI (a b : Int) : Int := capI (capI a * capI b)
def sumI (l : List Int) : Int := l.foldl addI 0

theorem capI_eq (a : Int) : capI a = min a most := by unfold capI; omega
theorem capI_le (a : Int) : capI a ≤ most := by unfold capI; split <;> omega
theorem capI_nonneg {a : Int} (h : 0 ≤ a) : 0 ≤ capI a := by unfold capI most; split <;> omega
theorem capI_of_le {a : Int} (h : a ≤ most) : capI a = a := by unfold capI; rw [if_neg (by omega)]
theorem capI_of_ge {a : Int} (h : most ≤ a) : capI a = most := by unfold capI; split <;> omega
theorem capI_capI (a : Int) : capI (capI a) = capI a := capI_of_le (capI_le a)
theorem capI_bd (a : Int) (h : 0 ≤ a) : 0 ≤ capI a ∧ capI a ≤ 9223372036854775807 := ⟨capI_nonneg h, capI_le a⟩
theorem addI_bd (a b : Int) (ha : 0 ≤ a) (hb : 0 ≤ b) : 0 ≤ addI a b ∧ addI a b ≤ 9223372036854775807 :=
  capI_bd _ (by have := capI_nonneg ha; have := capI_nonneg hb; omega)
theorem mulI_bd (a b : Int) (ha : 0 ≤ a) (hb : 0 ≤ b) : 0 ≤ mulI a b ∧ mulI a b ≤ 9223372036854775807 :=
  capI_bd _ (Int.mul_nonneg (capI_nonneg ha) (capI_nonneg hb))
theorem addI_cap (a b : Int) : addI (capI a) b = addI a b := by unfold addI; rw [capI_capI]
theorem addI_cap' (a b : Int) : addI a (capI b) = addI a b := by unfold addI; rw [capI_capI]

/-! ### What sums and products keep -/
theorem cap_add (x y : Int) (hx : 0 ≤ x) : capI (x + capI y) = capI (x + y) := by simp only [capI_eq]; unfold most; omega
theorem cap_add' (x y : Int) (hy : 0 ≤ y) : capI (capI x + y) = capI (x + y) := by rw [Int.add_comm, cap_add y x hy, Int.add_comm]
theorem cap_mul (x y : Int) (hx : 0 ≤ x) (hy : 0 ≤ y) : capI (x * capI y) = capI (x * y) := by
  by_cases h : y ≤ most
  · rw [capI_of_le h]
  · rw [capI_of_ge (a := y) (by omega)]
    by_cases h0 : x = 0
    · subst h0; simp
    · have h1 : most ≤ x * most := by
        have := Int.mul_le_mul_of_nonneg_right (show 1 ≤ x by omega) (show (0:Int) ≤ most by decide)
        simpa using this
      have h2 : y ≤ x * y := by
        have := Int.mul_le_mul_of_nonneg_right (show 1 ≤ x by omega) hy
        simpa using this
      rw [capI_of_ge h1, capI_of_ge (by omega)]
theorem cap_mul' (x y : Int) (hx : 0 ≤ x) (hy : 0 ≤ y) : capI (capI x * y) = capI (x * y) := by rw [Int.mul_comm, cap_mul y x hy hx, Int.mul_comm]
theorem addI_comm (a b : Int) : addI a b = addI b a := by unfold addI; rw [Int.add_comm]
theorem mulI_comm (a b : Int) : mulI a b = mulI b a := by unfold mulI; rw [Int.mul_comm]
theorem capI_small {a : Int} (h : a ≤ 9223372036854775807) : capI a = a := capI_of_le h
theorem addI_zero (a : Int) : addI a 0 = capI a := by unfold addI; rw [capI_small (a := 0) (by decide), Int.add_zero, capI_capI]
theorem mulI_one (a : Int) : mulI a 1 = capI a := by unfold mulI; rw [capI_small (a := 1) (by decide), Int.mul_one, capI_capI]
theorem mulI_zero (a : Int) : mulI a 0 = 0 := by unfold mulI; rw [capI_small (a := 0) (by decide), Int.mul_zero]; decide
theorem addI_assoc (a b c : Int) (ha : 0 ≤ a) (hc : 0 ≤ c) : addI a (addI b c) = addI (addI a b) c := by
  unfold addI
  rw [capI_capI, capI_capI, cap_add _ _ (capI_nonneg ha), cap_add' _ _ (capI_nonneg hc), Int.add_assoc]
theorem mulI_assoc (a b c : Int) (ha : 0 ≤ a) (hb : 0 ≤ b) (hc : 0 ≤ c) : mulI a (mulI b c) = mulI (mulI a b) c := by
  unfold mulI
  rw [capI_capI, capI_capI, cap_mul _ _ (capI_nonneg ha) (Int.mul_nonneg (capI_nonneg hb) (capI_nonneg hc)), cap_mul' _ _ (Int.mul_nonneg (capI_nonneg ha) (capI_nonneg hb)) (capI_nonneg hc), Int.mul_assoc]
theorem mulI_addI (a b c : Int) (ha : 0 ≤ a) (hb : 0 ≤ b) (hc : 0 ≤ c) : mulI a (addI b c) = addI (mulI a b) (mulI a c) := by
  have h1 := Int.mul_nonneg (capI_nonneg ha) (capI_nonneg hb)
  have h2 := Int.mul_nonneg (capI_nonneg ha) (capI_nonneg hc)
  have h3 := capI_nonneg hb
  have h4 := capI_nonneg hc
  unfold mulI addI
  rw [capI_capI, capI_capI, capI_capI, cap_mul _ _ (capI_nonneg ha) (by omega), cap_add _ _ (capI_nonneg h1), cap_add' _ _ h2, Int.mul_add]
theorem addI_ge (a b : Int) (hb : 0 ≤ b) : capI a ≤ addI a b := by
  have h1 := capI_nonneg hb
  have h2 := capI_le a
  unfold addI
  generalize capI a = x at *
  rw [capI_eq]
  omega
theorem mulI_ge (a b : Int) (ha : 0 ≤ a) (hb : 0 < b) : capI a ≤ mulI a b := by
  have h1 : 1 ≤ capI b := by unfold capI most; split <;> omega
  have h2 := capI_le a
  have h3 := Int.mul_le_mul_of_nonneg_left h1 (capI_nonneg ha)
  rw [Int.mul_one] at h3
  unfold mulI
  generalize capI a * capI b = y at *
  generalize capI a = x at *
  rw [capI_eq]
  omega

theorem ret_u {k : IntKind} {a b : Int} (h : a = b) : Ending.returned (.int k a) = .returned (.int k b) := by rw [h]

/-! ### Walks -/
set_option maxHeartbeats 400000 in
theorem cap_any (a : Int) (w : World) :
    Calls Tryz.prog 128 #[.int .u64 a] w fun e w' => e = .returned (.int .u64 (capI a)) ∧ w' = w := by
  go_enter Tryz.func128, Tryz.ntmps128
  go_wp2
  all_goals
    go_ret
    exact ⟨ret_u (by unfold capI most; split <;> omega), rfl⟩

set_option maxHeartbeats 400000 in
theorem add_any (a b : Int) (ha : 0 ≤ a) (hb : 0 ≤ b) (w : World) :
    Calls Tryz.prog 102 #[.int .u64 a, .int .u64 b] w fun e w' => e = .returned (.int .u64 (addI a b)) ∧ w' = w := by
  obtain ⟨a0, a1⟩ := capI_bd a ha
  obtain ⟨b0, b1⟩ := capI_bd b hb
  go_enter Tryz.func102, Tryz.ntmps102
  go_wp2_with (go_at_call 128; refine (cap_any _ _).mono ?_; rintro e w' ⟨rfl, rfl⟩)
  go_ret
  exact ⟨ret_u rfl, rfl⟩

/-! ### The reference's product, by doubling -/
theorem dbl_split (x y : Int) : x * y = 2 * (x * (y / 2)) + x * (y % 2) := by
  conv => lhs; rw [← Int.mul_ediv_add_emod y 2]
  rw [Int.mul_add, Int.mul_left_comm]

theorem dbl_step (n x y r : Int) (hn : 0 ≤ n) (hx : 0 ≤ x) (hxm : x ≤ most) (hy : 0 ≤ y) (hr : r = n + x * (y % 2)) :
    capI (capI r + addI x x * (y / 2)) = capI (n + x * y) := by
  rw [dbl_split x y]
  have hx2 : addI x x = capI (2 * x) := by unfold addI; rw [capI_of_le hxm]; congr 1; omega
  have hq : 0 ≤ y / 2 := by omega
  have hrx : 0 ≤ x * (y % 2) := Int.mul_nonneg hx (by omega)
  rw [hx2]
  have hp : 0 ≤ x * (y / 2) := Int.mul_nonneg hx hq
  by_cases h0 : y / 2 = 0
  · rw [h0]; simp only [Int.mul_zero, Int.add_zero]; rw [capI_capI]; congr 1; omega
  · by_cases h2 : 2 * x ≤ most
    · rw [capI_of_le h2, Int.mul_assoc]
      generalize x * (y / 2) = p at *
      generalize x * (y % 2) = q at *
      simp only [capI_eq]
      omega
    · have hp1 : x ≤ x * (y / 2) := by
        have := Int.mul_le_mul_of_nonneg_left (show 1 ≤ y / 2 by omega) hx
        simpa using this
      rw [capI_of_ge (a := 2 * x) (by omega)]
      have hm : most ≤ most * (y / 2) := by
        have := Int.mul_le_mul_of_nonneg_left (show 1 ≤ y / 2 by omega) (show (0:Int) ≤ most by unfold most; omega)
        simpa using this
      have h1 := capI_nonneg (a := r) (by omega)
      rw [capI_of_ge (a := capI r + most * (y / 2)) (by omega), capI_of_ge (by omega)]

def DblRel (a b x y n : Int) : Prop := 0 ≤ x ∧ x ≤ most ∧ 0 ≤ y ∧ y ≤ most ∧ 0 ≤ n ∧ n ≤ most ∧ capI (n + x * y) = mulI a b

theorem dbl_even {a b x y n : Int} (h : DblRel a b x y n) (h2 : ¬ y % 2 = 1) : DblRel a b (addI x x) (y / 2) n := by
  obtain ⟨h0, h1, h3, h4, h5, h6, h7⟩ := h
  have := addI_bd x x h0 h0
  refine ⟨this.1, this.2, by omega, by unfold most at *; omega, h5, h6, ?_⟩
  have e := dbl_step n x y n h5 h0 h1 h3 (by rw [show y % 2 = 0 by omega]; simp)
  rw [capI_of_le h6] at e
  rw [e, h7]
theorem dbl_odd {a b x y n : Int} (h : DblRel a b x y n) (h2 : y % 2 = 1) : DblRel a b (addI x x) (y / 2) (addI n x) := by
  obtain ⟨h0, h1, h3, h4, h5, h6, h7⟩ := h
  have := addI_bd x x h0 h0
  have hn := addI_bd n x h5 h0
  refine ⟨this.1, this.2, by omega, by unfold most at *; omega, hn.1, hn.2, ?_⟩
  have e := dbl_step n x y (n + x) h5 h0 h1 h3 (by rw [h2]; simp)
  rw [show addI n x = capI (n + x) by unfold addI; rw [capI_of_le h6, capI_of_le h1], e, h7]
theorem dbl_end {a b x n : Int} (h : DblRel a b x 0 n) : n = mulI a b := by
  obtain ⟨h0, h1, h3, h4, h5, h6, h7⟩ := h
  rw [Int.mul_zero, Int.add_zero, capI_of_le h6] at h7
  exact h7

/-! ### Sums of slices of numbers -/
/-- A slice value whose elements are these numbers. -/
def NumsAt (w : World) (v : Value) (zs : List Int) : Prop :=
  (∃ a cap, v = .slice a 0 cap ∧ zs = []) ∨ ∃ b off cap, v = .slice (some ⟨b, off, none⟩) zs.length cap ∧ ∀ i, i < zs.length → w.cell? ⟨b, off + i, none⟩ = some (.int .u64 (zs.getD i 0))

theorem NumsAt.keep {w w' : World} {v : Value} {zs : List Int} (h : NumsAt w v zs) (hb : Below w.heap.size w w') : NumsAt w' v zs := by
  rcases h with h | ⟨b, off, cap, e, hc⟩
  · exact .inl h
  · exact .inr ⟨b, off, cap, e, fun i hi => (hb.cell (p := ⟨b, off + i, none⟩) (World.block_lt_of_cell? w _ (hc i hi))).trans (hc i hi)⟩
theorem NumsAt.form {w : World} {v : Value} {zs : List Int} (h : NumsAt w v zs) : ∃ a cap, v = .slice a zs.length cap := by
  rcases h with ⟨a, cap, rfl, rfl⟩ | ⟨b, off, cap, rfl, -⟩
  · exact ⟨a, cap, rfl⟩
  · exact ⟨_, cap, rfl⟩

theorem sumI_snoc (zs : List Int) (k : Nat) (hk : k < zs.length) : sumI (zs.take (k + 1)) = addI (sumI (zs.take k)) (zs.getD k 0) := by
  unfold sumI
  rw [List.take_add_one, List.foldl_append]
  simp [List.getD, List.getElem?_eq_getElem hk]
theorem sumI_nonneg (zs : List Int) (h : ∀ z ∈ zs, 0 ≤ z) (k : Nat) : 0 ≤ sumI (zs.take k) := by
  unfold sumI
  have : ∀ (l : List Int) (a : Int), 0 ≤ a → (∀ z ∈ l, 0 ≤ z) → 0 ≤ l.foldl addI a := by
    intro l
    induction l with
    | nil => intro a h _; exact h
    | cons x l ih => intro a ha hl; exact ih _ (addI_bd a x ha (hl x (by simp))).1 (fun z hz => hl z (by simp [hz]))
  exact this _ 0 (by omega) (fun z hz => h z (List.mem_of_mem_take hz))

end Go.Proofs.YtlcpbfklnjlgnaaGreatDoor

namespace Go.Proofs.YtlcpbfklnjlgnaaGreatDoor
open Go.RowKit Go.Extern.Stop Go.Stop Go.Extern

/-! ### Plain texts of digits -/
def isD (c : UInt8) : Bool := 48 ≤ c.toNat && c.toNat ≤ 57
/-- Where the first byte stands that is no digit; the length, where there is none. -/
def firstBad (l : List UInt8) : Nat := l.findIdx fun c => !isD c
def valI (l : List UInt8) : Int := l.foldl (fun n c => n * 10 + ((c.toNat : Int) - 48)) 0
/-- The document's answer: the amount, the error's number, its place. -/
def parseR (l : List UInt8) : Int × Int × Int :=
  if l = [] then (0, 3, 0) else if firstBad l < l.length then (0, 4, firstBad l) else if 1 < l.length ∧ l.head? = some 48 then (0, 4, 0) else if most < valI l then (0, 7, 0) else (valI l, 0, 0)

theorem valI_snoc (l : List UInt8) (c : UInt8) : valI (l ++ [c]) = valI l * 10 + ((c.toNat : Int) - 48) := by simp [valI]
theorem take_snoc (s : ByteArray) (k : Nat) (h : k < s.size) : s.data.toList.take (k + 1) = s.data.toList.take k ++ [s[k]] := by
  rw [List.take_succ_eq_append_getElem (by simpa using h)]; rfl
theorem isD_iff (c : UInt8) : isD c = true ↔ 48 ≤ (c.toNat : Int) ∧ (c.toNat : Int) ≤ 57 := by simp [isD]; omega
theorem firstBad_all (l : List UInt8) (h : ∀ c ∈ l, isD c = true) : firstBad l = l.length := List.findIdx_eq_length.2 (fun c hc => by simp [h c hc])
theorem firstBad_at (l : List UInt8) (k : Nat) (hk : k < l.length) (h : ∀ i (hi : i < k), isD (l[i]'(by omega)) = true) (hb : isD l[k] = false) : firstBad l = k :=
  (List.findIdx_eq hk).2 ⟨by simp [hb], fun i hi => by simp [h i hi]⟩
theorem all_of_firstBad (l : List UInt8) (h : ¬ firstBad l < l.length) : ∀ c ∈ l, isD c = true := by
  have e : firstBad l = l.length := Nat.le_antisymm List.findIdx_le_length (Nat.le_of_not_lt h)
  intro c hc
  have := List.findIdx_eq_length.1 e c hc
  simpa using this

theorem valI_nonneg (l : List UInt8) (h : ∀ c ∈ l, isD c = true) : 0 ≤ valI l := by
  have : ∀ (l : List UInt8) (n : Int), 0 ≤ n → (∀ c ∈ l, isD c = true) → 0 ≤ l.foldl (fun n c => n * 10 + ((c.toNat : Int) - 48)) n := by
    intro l
    induction l with
    | nil => intro n hn _; exact hn
    | cons c l ih =>
      intro n hn hl
      have hc := (isD_iff c).1 (hl c (by simp))
      exact ih _ (show 0 ≤ n * 10 + ((c.toNat : Int) - 48) by omega) (fun x hx => hl x (by simp [hx]))
  exact this l 0 (by omega) h
theorem valI_grow (l r : List UInt8) (hl : ∀ c ∈ l ++ r, isD c = true) : valI l ≤ valI (l ++ r) := by
  induction r generalizing l with
  | nil => simp
  | cons c r ih =>
    have e : l ++ c :: r = (l ++ [c]) ++ r := by simp
    have h1 := ih (l ++ [c]) (by rw [← e]; exact hl)
    rw [← e] at h1
    have h2 := valI_snoc l c
    have h3 := valI_nonneg l (fun x hx => hl x (by simp [hx]))
    have hc := (isD_iff c).1 (hl c (by simp))
    omega
theorem valI_take_le (l : List UInt8) (hl : ∀ c ∈ l, isD c = true) (k : Nat) : valI (l.take k) ≤ valI l := by
  have := valI_grow (l.take k) (l.drop k) (by rw [List.take_append_drop]; exact hl)
  rwa [List.take_append_drop] at this
theorem valI_lt (l : List UInt8) (hl : ∀ c ∈ l, isD c = true) : valI l < 10 ^ l.length := by
  have : ∀ (n : Nat) (l : List UInt8), l.length = n → (∀ c ∈ l, isD c = true) → valI l < 10 ^ n := by
    intro n
    induction n with
    | zero => intro l h _; rw [List.eq_nil_of_length_eq_zero h]; simp [valI]
    | succ n ih =>
      intro l h hl
      obtain ⟨r, c, rfl⟩ : ∃ r c, l = r ++ [c] := ⟨l.dropLast, l.getLast (by intro e; rw [e] at h; simp at h), (List.dropLast_concat_getLast _).symm⟩
      have h1 := ih r (by simpa using h) (fun x hx => hl x (by simp [hx]))
      have hc := (isD_iff c).1 (hl c (by simp))
      rw [valI_snoc, Int.pow_succ]
      omega
  exact this _ l rfl hl
theorem valI_ge (c : UInt8) (l : List UInt8) (hl : ∀ x ∈ c :: l, isD x = true) (hc : c ≠ 48) : (10 : Int) ^ l.length ≤ valI (c :: l) := by
  have : ∀ (n : Nat) (l : List UInt8), l.length = n → (∀ x ∈ c :: l, isD x = true) → (10 : Int) ^ n ≤ valI (c :: l) := by
    intro n
    induction n with
    | zero =>
      intro l h hl
      rw [List.eq_nil_of_length_eq_zero h]
      have h1 := (isD_iff c).1 (hl c (by simp))
      have h2 : c.toNat ≠ 48 := fun e => hc (UInt8.toNat_inj.1 e)
      simp [valI]
      omega
    | succ n ih =>
      intro l h hl
      obtain ⟨r, x, rfl⟩ : ∃ r x, l = r ++ [x] := ⟨l.dropLast, l.getLast (by intro e; rw [e] at h; simp at h), (List.dropLast_concat_getLast _).symm⟩
      have h1 := ih r (by simpa using h) (fun y hy => hl y (by simp at hy ⊢; rcases hy with hy | hy <;> simp [hy]))
      have hx := (isD_iff x).1 (hl x (by simp))
      have e : c :: (r ++ [x]) = (c :: r) ++ [x] := by simp
      rw [e, valI_snoc, Int.pow_succ]
      omega
  exact this _ l rfl hl

/-! ### digitsAhead, value -/
set_option maxHeartbeats 1000000 in
theorem digits_any (s : ByteArray) (w : World) (hs : s.size ≤ maxLen) :
    Calls Tryz.prog 148 #[.string s] w fun e w' => e = .returned (.int .i64 (firstBad s.data.toList)) ∧ w' = w := by
  unfold maxLen at hs
  have H0 : Hid (∀ i (hi : i < 0), isD (s.data.toList[i]'(by omega)) = true) := fun i hi => by omega
  go_enter Tryz.func148, Tryz.ntmps148
  go_wp2
  go_loop [6] (fun i => ∃ k : Nat, k ≤ s.size ∧ i = .int .i64 k ∧ ∀ j (hj : j < k) (hj' : j < s.data.toList.length), isD s.data.toList[j] = true) (fun i => s.size - (intOf i).toNat)
  case atStart => exact ⟨0, Nat.zero_le _, rfl, fun j hj => by omega⟩
  case round =>
    obtain ⟨k, hk, rfl, hall⟩ := hrel
    have HA := Lib.hid hall
    clear hall
    by_cases hlt : k < s.size
    · have hl : k < s.data.toList.length := by simpa using hlt
      by_cases hd : isD s[k] = true
      · obtain ⟨d1, d2⟩ := (isD_iff _).1 hd
        have HD := Lib.hid hd
        clear hd
        go_wp2
        go_round
        case rel =>
          refine ⟨k + 1, by omega, by go_num, fun j hj hj' => ?_⟩
          by_cases e : j < k
          · exact HA.out j e hj'
          · obtain rfl : j = k := by omega
            exact HD.out
        case measure => simp [intOf]; omega
      · have hd' : isD s[k] = false := by simpa using hd
        have HF := Lib.hid (firstBad_at s.data.toList k hl (fun i hi => HA.out i hi (by omega)) hd')
        have hn : ¬ (48 ≤ (s[k].toNat : Int) ∧ (s[k].toNat : Int) ≤ 57) := fun h => hd ((isD_iff _).2 h)
        clear hd hd'
        by_cases h1 : (s[k].toNat : Int) < 48
        · clear hn
          go_wp2
          go_ret
          exact ⟨ret_u (by rw [HF.out]), rfl⟩
        · have h2 : 57 < (s[k].toNat : Int) := by omega
          clear hn
          go_wp2
          go_ret
          exact ⟨ret_u (by rw [HF.out]), rfl⟩
    · have HF := Lib.hid (firstBad_all s.data.toList (fun c hc => by
        obtain ⟨j, hj, rfl⟩ := List.mem_iff_getElem.1 hc
        exact HA.out j (by simp at hj; omega) hj))
      go_wp2
      go_ret
      exact ⟨ret_u (by rw [HF.out]; simp), rfl⟩

theorem valI_bd (l : List UInt8) (hl : ∀ c ∈ l, isD c = true) (k : Nat) (hk : k ≤ 18) : 0 ≤ valI (l.take k) ∧ valI (l.take k) ≤ 999999999999999999 := by
  have h1 : ∀ c ∈ l.take k, isD c = true := fun c hc => hl c (List.mem_of_mem_take hc)
  refine ⟨valI_nonneg _ h1, ?_⟩
  have h2 := valI_lt _ h1
  have h3 : (l.take k).length ≤ 18 := by simp; omega
  have h4 : (10 : Int) ^ (l.take k).length ≤ 10 ^ 18 := by
    have := Nat.pow_le_pow_right (show 0 < 10 by decide) h3
    exact_mod_cast this
  have h5 : (10 : Int) ^ 18 = 1000000000000000000 := by decide
  omega

set_option maxHeartbeats 1000000 in
theorem value_any (s : ByteArray) (w : World) (hs : s.size ≤ 19) (hd : ∀ c ∈ s.data.toList, isD c = true) :
    Calls Tryz.prog 149 #[.string s] w fun e w' => e = .returned (.int .u64 (valI s.data.toList)) ∧ w' = w := by
  have HD := Lib.hid hd
  clear hd
  go_enter Tryz.func149, Tryz.ntmps149
  go_wp2
  go_loop [3, 7] (fun n i => ∃ k : Nat, k ≤ s.size ∧ i = .int .i64 k ∧ n = .int .u64 (valI (s.data.toList.take k))) (fun _ i => s.size - (intOf i).toNat)
  case atStart => exact ⟨0, Nat.zero_le _, rfl, rfl⟩
  case round =>
    obtain ⟨k, hk, rfl, rfl⟩ := hrel
    by_cases hlt : k < s.size
    · obtain ⟨v1, v2⟩ := valI_bd s.data.toList HD.out k (by omega)
      have hmem : s[k] ∈ s.data.toList := by
        have := List.getElem_mem (l := s.data.toList) (n := k) (by simpa using hlt)
        exact this
      obtain ⟨d1, d2⟩ := (isD_iff _).1 (HD.out _ hmem)
      have HS : Hid (valI (s.data.toList.take (k + 1)) = valI (s.data.toList.take k) * 10 + ((s[k].toNat : Int) - 48)) := by rw [take_snoc s k hlt]; exact valI_snoc _ _
      clear hmem
      generalize valI (s.data.toList.take k) = n at *
      go_wp2
      go_round
      case rel => exact ⟨k + 1, by omega, by go_num, by rw [HS.out]⟩
      case measure => simp [intOf]; omega
    · obtain rfl : k = s.size := by omega
      have HF : Hid (s.data.toList.take s.size = s.data.toList) := List.take_of_length_le (by simp)
      go_wp2
      go_ret
      exact ⟨ret_u (by first | rw [HF.out] | simp), rfl⟩

/-! ### Parse -/
/-- How an answer of amount.Parse looks: the amount and no error, or a fault in a new block. -/
def ParseOut (w : World) (r : Int × Int × Int) (e : Ending) (w' : World) : Prop :=
  (r.2.1 = 0 ∧ e = .returned (.tuple #[.int .u64 r.1, .nilIface]) ∧ w' = w) ∨
  (r.2.1 ≠ 0 ∧ e = .returned (.tuple #[.int .u64 r.1, .iface 99 (.pointer (some ⟨w.heap.size, 0, none⟩))]) ∧ w' = w.alloc (.cells #[.int .i64 r.2.1, .int .i64 r.2.2] 102))

theorem head_get (s : ByteArray) (h : 0 < s.size) : s.data.toList.head? = some s[0] := by
  rw [List.head?_eq_getElem?]
  rw [List.getElem?_eq_getElem (by simpa using h)]
  rfl

theorem long_most (l : List UInt8) (hl : ∀ x ∈ l, isD x = true) (h : 19 < l.length) (h0 : l.head? ≠ some 48) : most < valI l := by
  cases l with
  | nil => simp at h
  | cons c l =>
    have h1 := valI_ge c l hl (fun e => h0 (by rw [e]; rfl))
    have h2 : (10 : Int) ^ 19 ≤ 10 ^ l.length := by
      have := Nat.pow_le_pow_right (show 0 < 10 by decide) (show 19 ≤ l.length by simp at h; omega)
      exact_mod_cast this
    have h3 : (10 : Int) ^ 19 = 10000000000000000000 := by decide
    unfold most
    omega


set_option maxRecDepth 100000 in
set_option maxHeartbeats 1600000 in
theorem parse_empty (s : ByteArray) (w : World) (hs : s.size ≤ maxLen) (h0 : s.size = 0) :
    Calls Tryz.prog 129 #[.string s] w (ParseOut w (parseR s.data.toList)) := by
  have hl : s.data.toList = [] := List.eq_nil_of_length_eq_zero (by simpa using h0)
  have HR := Lib.hid (show parseR s.data.toList = (0, 3, 0) by unfold parseR; rw [if_pos hl])
  have hb : s.toList = [] := by rw [Go.ByteArray.toList_eq, hl]
  clear hl
  go_enter Tryz.func129, Tryz.ntmps129
  go_wp2_with (first
      | (go_at_call 148; refine (digits_any s _ (by assumption)).mono ?_; rintro e w' ⟨rfl, rfl⟩)
      | (go_at_call 28; refine (new_any _ _ (by decide) _).mono ?_; rintro e w' ⟨rfl, rfl⟩))
  go_ret2
  rw [HR.out]
  exact .inr ⟨by decide, rfl, rfl⟩

theorem open_facts (s : ByteArray) (h0 : s.size ≠ 0) : s.data.toList ≠ [] ∧ s.toList.isEmpty = false ∧ (s.toList == []) = false := by
  have h : s.data.toList ≠ [] := fun e => h0 (by simpa using congrArg List.length e)
  rw [Go.ByteArray.toList_eq]
  exact ⟨h, by simpa using h, by simpa using h⟩

set_option maxRecDepth 100000 in
set_option maxHeartbeats 1600000 in
theorem parse_bad (s : ByteArray) (w : World) (hs : s.size ≤ maxLen) (h0 : s.size ≠ 0) (h1 : firstBad s.data.toList < s.size) :
    Calls Tryz.prog 129 #[.string s] w (ParseOut w (parseR s.data.toList)) := by
  obtain ⟨hl, hb, hb2⟩ := open_facts s h0
  have HR := Lib.hid (show parseR s.data.toList = (0, 4, (firstBad s.data.toList : Int)) by unfold parseR; rw [if_neg hl, if_pos (by simpa using h1)])
  clear hl
  go_enter Tryz.func129, Tryz.ntmps129
  go_wp2_with (first
      | (go_at_call 148; refine (digits_any s _ (by assumption)).mono ?_; rintro e w' ⟨rfl, rfl⟩)
      | (go_at_call 28; refine (new_any _ _ (by decide) _).mono ?_; rintro e w' ⟨rfl, rfl⟩))
  go_ret2
  rw [HR.out]
  exact .inr ⟨(by decide : (4 : Int) ≠ 0), rfl, rfl⟩

set_option maxRecDepth 100000 in
set_option maxHeartbeats 1600000 in
theorem parse_nought (s : ByteArray) (w : World) (hs : s.size ≤ maxLen) (h0 : s.size ≠ 0) (h1 : ¬ firstBad s.data.toList < s.size) (h2 : 1 < s.size) (h3 : s.data.toList.head? = some 48) :
    Calls Tryz.prog 129 #[.string s] w (ParseOut w (parseR s.data.toList)) := by
  obtain ⟨hl, hb, hb2⟩ := open_facts s h0
  have HR := Lib.hid (show parseR s.data.toList = (0, 4, 0) by unfold parseR; rw [if_neg hl, if_neg (by simpa using h1), if_pos ⟨by simpa using h2, h3⟩])
  have hp : 0 < s.size := by omega
  have h48 : s[0] = 48 := by rw [head_get s hp] at h3; exact Option.some.inj h3
  have hc : ((s[0].toNat : Int) == 48) = true := by rw [h48]; rfl
  clear hl h3 h48
  go_enter Tryz.func129, Tryz.ntmps129
  go_wp2_with (first
      | (go_at_call 148; refine (digits_any s _ (by assumption)).mono ?_; rintro e w' ⟨rfl, rfl⟩)
      | (go_at_call 28; refine (new_any _ _ (by decide) _).mono ?_; rintro e w' ⟨rfl, rfl⟩))
  go_ret2
  rw [HR.out]
  exact .inr ⟨by decide, rfl, rfl⟩

/-- No nought stands ahead of others. -/
def Plain (s : ByteArray) : Prop := ¬ (1 < s.size ∧ s.data.toList.head? = some 48)
theorem Plain.cases {s : ByteArray} (h : Plain s) : (∃ hp : 0 < s.size, ((s[0].toNat : Int) == 48) = false) ∨ ¬ 1 < s.size := by
  by_cases h1 : 1 < s.size
  · refine .inl ⟨by omega, ?_⟩
    rw [beq_eq_false_iff_ne]
    intro e
    refine h ⟨h1, ?_⟩
    rw [head_get s (by omega)]
    congr 1
    exact UInt8.toNat_inj.1 (show s[0].toNat = 48 by omega)
  · exact .inr h1

set_option maxRecDepth 100000 in
set_option maxHeartbeats 1600000 in
theorem parse_long (s : ByteArray) (w : World) (hs : s.size ≤ maxLen) (h0 : s.size ≠ 0) (h1 : ¬ firstBad s.data.toList < s.size) (h2 : Plain s) (h3 : 19 < s.size) :
    Calls Tryz.prog 129 #[.string s] w (ParseOut w (parseR s.data.toList)) := by
  obtain ⟨hl, hb, hb2⟩ := open_facts s h0
  have hd := all_of_firstBad s.data.toList (by simpa using h1)
  have hm := long_most s.data.toList hd (by simpa using h3) (fun e => h2 ⟨by omega, e⟩)
  have HR := Lib.hid (show parseR s.data.toList = (0, 7, 0) by unfold parseR; rw [if_neg hl, if_neg (by simpa using h1), if_neg (by simpa [Plain] using h2), if_pos hm])
  rcases h2.cases with ⟨hp, hc⟩ | h
  · clear hl hm hd h2
    go_enter Tryz.func129, Tryz.ntmps129
    go_wp2_with (first
      | (go_at_call 148; refine (digits_any s _ (by assumption)).mono ?_; rintro e w' ⟨rfl, rfl⟩)
      | (go_at_call 28; refine (new_any _ _ (by decide) _).mono ?_; rintro e w' ⟨rfl, rfl⟩))
    go_ret2
    rw [HR.out]
    exact .inr ⟨by decide, rfl, rfl⟩
  · omega

set_option maxRecDepth 100000 in
set_option maxHeartbeats 1600000 in
theorem parse_num (s : ByteArray) (w : World) (hs : s.size ≤ maxLen) (h0 : s.size ≠ 0) (h1 : ¬ firstBad s.data.toList < s.size) (h2 : Plain s) (h3 : s.size ≤ 19) :
    Calls Tryz.prog 129 #[.string s] w (ParseOut w (parseR s.data.toList)) := by
  obtain ⟨hl, hb, hb2⟩ := open_facts s h0
  have hd := all_of_firstBad s.data.toList (by simpa using h1)
  have HV := Lib.hid (fun w => value_any s w h3 hd)
  have h19 : ¬ (19 : Int) < s.size := by omega
  have hRR : parseR s.data.toList = if most < valI s.data.toList then (0, 7, 0) else (valI s.data.toList, 0, 0) := by
    unfold parseR; rw [if_neg hl, if_neg (by simpa using h1), if_neg (by simpa [Plain] using h2)]
  have hcs := h2.cases
  by_cases hm : 9223372036854775807 < valI s.data.toList
  · have HR := Lib.hid (show parseR s.data.toList = (0, 7, 0) by rw [hRR, if_pos (show most < _ from hm)])
    clear hRR hl hd h2
    generalize valI s.data.toList = n at *
    rcases hcs with ⟨hp, hc⟩ | h
    all_goals
      go_enter Tryz.func129, Tryz.ntmps129
      go_wp2_with (first
      | (go_at_call 149; refine (HV.out _).mono ?_; rintro e w' ⟨rfl, rfl⟩)
      | (go_at_call 148; refine (digits_any s _ (by assumption)).mono ?_; rintro e w' ⟨rfl, rfl⟩)
      | (go_at_call 28; refine (new_any _ _ (by decide) _).mono ?_; rintro e w' ⟨rfl, rfl⟩))
      all_goals
        go_ret2
        rw [HR.out]
        exact .inr ⟨by decide, rfl, rfl⟩
  · have HR := Lib.hid (show parseR s.data.toList = (valI s.data.toList, 0, 0) by rw [hRR, if_neg (show ¬ most < _ from hm)])
    clear hRR hl hd h2
    generalize valI s.data.toList = n at *
    rcases hcs with ⟨hp, hc⟩ | h
    all_goals
      go_enter Tryz.func129, Tryz.ntmps129
      go_wp2_with (first
      | (go_at_call 149; refine (HV.out _).mono ?_; rintro e w' ⟨rfl, rfl⟩)
      | (go_at_call 148; refine (digits_any s _ (by assumption)).mono ?_; rintro e w' ⟨rfl, rfl⟩)
      | (go_at_call 28; refine (new_any _ _ (by decide) _).mono ?_; rintro e w' ⟨rfl, rfl⟩))
      all_goals first
        | (exfalso; omega)
        | (go_ret2; rw [HR.out]; exact .inl ⟨rfl, rfl, rfl⟩)

theorem parse_any (s : ByteArray) (w : World) (hs : s.size ≤ maxLen) :
    Calls Tryz.prog 129 #[.string s] w (ParseOut w (parseR s.data.toList)) := by
  by_cases h0 : s.size = 0
  · exact parse_empty s w hs h0
  · by_cases h1 : firstBad s.data.toList < s.size
    · exact parse_bad s w hs h0 h1
    · by_cases h2 : 1 < s.size ∧ s.data.toList.head? = some 48
      · exact parse_nought s w hs h0 h1 h2.1 h2.2
      · by_cases h3 : 19 < s.size
        · exact parse_long s w hs h0 h1 h2 h3
        · exact parse_num s w hs h0 h1 h2 (by omega)
end Go.Proofs.YtlcpbfklnjlgnaaGreatDoor

namespace Go.Proofs.YtlcpbfklnjlgnaaGreatDoor
open Go.RowKit Go.Extern.Stop Go.Stop Go.Extern

end Go.Proofs.YtlcpbfklnjlgnaaGreatDoor
