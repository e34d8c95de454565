/-
  Plain: whether a text is a word, told twice; what is wrong with an expression; how many there are in one, of at most so many; an expression's text, and how long it may be.
  Whether a text is a word: package regex's answer and the document's, by contract.
  What is wrong with an expression's own words and kids: package regex's mayHave, wordsFault, ownFault, by contract.
-/
import Derived.Test.YtpccdhkghlbhkaaGreatDoorRxP
import Derived.Test.YtpccdhkghlbhkaaGreatDoorRxL
import Derived.Test.YtpccdhkghlbhkaaGreatDoorGn
import Derived.Lib.Join
import Derived.Test.YtpccdhkghlbhkaaGreatDoorRxD
import Derived.Test.YtpccdhkghlbhkaaGreatDoorRxS
namespace Go.Proofs.YtpccdhkghlbhkaaGreatDoor
open Go.RowKit Go.Extern.Stop Go.Stop Go.Extern

/-! ### Bytes of a part of a text -/
theorem size_ext (s : ByteArray) (a b : Nat) (hb : b ≤ s.size) : (s.extract a b).size = b - a := by
  rw [ByteArray.size_extract]
  omega
theorem byteI_ext {s : ByteArray} {a b : Nat} (hb : b ≤ s.size) (k : Nat) (hk : a + k < b) : byteI (s.extract a b) k = byteI s (a + k) := by
  have h1 : k < (s.extract a b).size := by rw [size_ext s a b hb]; omega
  rw [byteI_lt h1, byteI_lt (by omega : a + k < s.size)]
  congr 2
  simp [ByteArray.getElem_eq_getElem_data]
theorem byteI_ext_end {s : ByteArray} {a b : Nat} (hb : b ≤ s.size) (k : Nat) (hk : ¬ a + k < b) : byteI (s.extract a b) k = 0 := by
  rw [byteI_ge (by rw [size_ext s a b hb]; omega)]
theorem runTo_step (p : Int → Bool) (s : ByteArray) (k : Nat) (h : k < s.size) : runTo p s k = if p (byteI s k) then runTo p s (k + 1) else k := by
  rw [byteI_lt h]
  by_cases hp : p (s[k].toNat : Int) = true
  · rw [runTo_go h hp, if_pos hp]
  · rw [runTo_stop h (by simpa using hp), if_neg hp]
theorem runTo_halts (p : Int → Bool) (s : ByteArray) : ∀ (n k : Nat), s.size - k = n → runTo p s k < s.size → p (byteI s (runTo p s k)) = false := by
  intro n
  induction n with
  | zero => intro k h hk; rw [runTo_end (by omega)] at hk; omega
  | succ n ih =>
    intro k h hk
    have hlt : k < s.size := by omega
    rw [runTo_step p s k hlt] at hk ⊢
    split
    · rename_i hp
      rw [if_pos hp] at hk
      exact ih (k + 1) (by omega) hk
    · rename_i hp
      simpa using hp
theorem runTo_all (p : Int → Bool) (s : ByteArray) : ∀ (n k : Nat), s.size - k = n → ∀ j, k ≤ j → j < runTo p s k → p (byteI s j) = true := by
  intro n
  induction n with
  | zero => intro k h j h1 h2; rw [runTo_end (by omega)] at h2; omega
  | succ n ih =>
    intro k h j h1 h2
    have hlt : k < s.size := by omega
    rw [runTo_step p s k hlt] at h2
    split at h2
    · rename_i hp
      rcases Nat.lt_or_ge k j with h3 | h3
      · exact ih (k + 1) (by omega) j h3 h2
      · obtain rfl : k = j := by omega
        exact hp
    · omega
/-- In a text's end. -/
theorem runTo_tail (p : Int → Bool) (s : ByteArray) (a : Nat) : ∀ (n k : Nat), s.size - (a + k) = n → a + k ≤ s.size → a + runTo p (s.extract a s.size) k = runTo p s (a + k) := by
  intro n
  induction n with
  | zero =>
    intro k h hk
    rw [runTo_end (by rw [size_ext s a s.size (Nat.le_refl _)]; omega), runTo_end (by omega)]
  | succ n ih =>
    intro k h hk
    rw [runTo_step p _ k (by rw [size_ext s a s.size (Nat.le_refl _)]; omega), runTo_step p s (a + k) (by omega), byteI_ext (Nat.le_refl _) k (by omega)]
    split
    · exact ih (k + 1) (by omega) (by omega)
    · rfl
/-- In a text's beginning, where the byte behind it ends what is gone through. -/
theorem runTo_front (p : Int → Bool) (s : ByteArray) (b : Nat) (hb : b < s.size) (hp : p (byteI s b) = false) : ∀ (n k : Nat), b - k = n → k ≤ b → runTo p (s.extract 0 b) k = runTo p s k := by
  intro n
  induction n with
  | zero =>
    intro k h hk
    obtain rfl : k = b := by omega
    rw [runTo_end (by rw [size_ext s 0 k (by omega)]; omega), runTo_step p s k hb, if_neg (by rw [hp]; decide)]
  | succ n ih =>
    intro k h hk
    rw [runTo_step p _ k (by rw [size_ext s 0 b (by omega)]; omega), runTo_step p s k (by omega), byteI_ext (by omega) k (by omega), Nat.zero_add]
    split
    · exact ih (k + 1) (by omega) (by omega)
    · rfl

/-! ### Words -/
/-- Is a text a word? -/
def isWd (s : ByteArray) : Bool := decide (wdC s 0 = 0) && decide (wdK s 0 = s.size)
/-- The first # of a text, or its end. -/
def hashK (s : ByteArray) : Nat := runTo (fun c => decide (c ≠ 35)) s 0
/-- The same, as the document says it. -/
def refWd (s : ByteArray) : Bool :=
  if byteI s 0 = 36 then isNameR (s.extract 1 s.size)
  else if hashK s < s.size then isNameR (s.extract 0 (hashK s)) && isNameR (s.extract (hashK s + 1) s.size)
  else isNameR s
theorem isName_tail (s : ByteArray) (a : Nat) (ha : a ≤ s.size) : isNameR (s.extract a s.size) = (decide (nameC s a = 0) && decide (nameK s a = s.size)) := by
  have hb : byteI (s.extract a s.size) 0 = byteI s a := by
    by_cases h : a < s.size
    · exact byteI_ext (Nat.le_refl _) 0 h
    · rw [byteI_ext_end (Nat.le_refl _) 0 h, byteI_ge h]
  have hr := runTo_tail isIn s a _ 0 rfl ha
  have hz := size_ext s a s.size (Nat.le_refl _)
  have hm := missC_ne s a
  have hm2 := missC_ne (s.extract a s.size) 0
  have hle := le_runTo isIn s a ha
  unfold isNameR nameC nameK
  rw [hb, hz]
  rw [Nat.add_zero] at hr
  generalize runTo isIn (s.extract a s.size) 0 = r at *
  rw [← hr]
  rw [show a + r - a = r by omega, Nat.sub_zero]
  rw [Bool.eq_iff_iff]
  by_cases hl : isLet (byteI s a) = true
  · by_cases h32 : r ≤ 32
    · simp [hl, h32]
      omega
    · simp [hl, h32]
  · simp [hl, hm, hm2]
theorem isName_front (s : ByteArray) (b : Nat) (hb : b < s.size) (hp : isIn (byteI s b) = false) : isNameR (s.extract 0 b) = (decide (nameC s 0 = 0) && decide (nameK s 0 = b)) := by
  have hr := runTo_front isIn s b hb hp _ 0 rfl (Nat.zero_le _)
  have hz := size_ext s 0 b (by omega)
  rw [Nat.sub_zero] at hz
  have hm := missC_ne s 0
  have hm2 := missC_ne (s.extract 0 b) 0
  by_cases h0 : b = 0
  · subst h0
    have hb0 : byteI (s.extract 0 0) 0 = 0 := byteI_ext_end (by omega) 0 (by omega)
    have hnl : isLet (byteI s 0) = false := by
      cases hl : isLet (byteI s 0) with
      | false => rfl
      | true => rw [(isIn_iff _).2 (.inl hl)] at hp; cases hp
    have hnl0 : isLet 0 = false := by decide
    unfold isNameR nameC
    rw [hb0]
    simp [hnl, hnl0, hm]
    intro h
    exact absurd h (missC_ne _ _)
  · have hb0 : byteI (s.extract 0 b) 0 = byteI s 0 := byteI_ext (by omega) 0 (by omega)
    unfold isNameR nameC nameK
    rw [hb0, hz, hr]
    rw [Bool.eq_iff_iff]
    by_cases hl : isLet (byteI s 0) = true
    · by_cases h32 : runTo isIn s 0 ≤ 32
      · simp [hl, h32]
      · simp [hl, h32]
    · simp [hl, hm, hm2]
theorem isIn_hash : isIn 35 = false := by decide
theorem refWd_eq (s : ByteArray) : refWd s = isWd s := by
  unfold refWd isWd
  by_cases h36 : byteI s 0 = 36
  · have h0 := byteI_in h36 (by decide)
    have hw1 : wd1 s 0 = 1 := by unfold wd1; rw [if_pos h36]
    have hw2 : wd2 s 0 = false := by unfold wd2; rw [decide_eq_false (by simpa using h36)]; rfl
    rw [if_pos h36, isName_tail s 1 (by omega)]
    unfold wdC wdK
    rw [hw1, hw2]
    by_cases hc : nameC s 1 = 0
    · simp [hc]
    · simp [hc]
  · have hw1 : wd1 s 0 = 0 := by unfold wd1; rw [if_neg h36]
    have hw2 : wd2 s 0 = decide (byteI s (nameK s 0) = 35) := by unfold wd2; rw [decide_eq_true h36, hw1]; rfl
    rw [if_neg h36]
    have hkl := nameK_le s 0 (Nat.zero_le _)
    unfold wdC wdK
    rw [hw1, hw2]
    have hall := runTo_all (fun c => decide (c ≠ 35)) s _ 0 rfl
    have hhalt := runTo_halts (fun c => decide (c ≠ 35)) s _ 0 rfl
    rw [show runTo (fun c => decide (c ≠ 35)) s 0 = hashK s from rfl] at hall hhalt
    generalize hashK s = i at *
    by_cases hi : i < s.size
    · have h35 : byteI s i = 35 := by simpa using hhalt hi
      rw [if_pos hi, isName_front s i hi (by rw [h35]; exact isIn_hash), isName_tail s (i + 1) (by omega)]
      by_cases hc : nameC s 0 = 0
      · by_cases hk : nameK s 0 = i
        · simp [hc, hk, h35]
        · have hki : nameK s 0 < i := by
            rcases Nat.lt_or_ge (nameK s 0) i with h | h
            · exact h
            · exfalso
              have hnk : nameK s 0 ≤ runTo isIn s 0 := by unfold nameK; split <;> omega
              have := runTo_all isIn s _ 0 rfl i (Nat.zero_le _) (by omega)
              rw [h35, isIn_hash] at this
              cases this
          have hne : byteI s (nameK s 0) ≠ 35 := by simpa using hall _ (Nat.zero_le _) hki
          have hns : ¬ nameK s 0 = s.size := by omega
          simp [hc, hk, hne, hns]
      · simp [hc]
    · rw [if_neg hi]
      have hne : byteI s (nameK s 0) ≠ 35 := by
        rcases Nat.lt_or_ge (nameK s 0) i with h | h
        · simpa using hall _ (Nat.zero_le _) h
        · rw [byteI_ge (by omega)]; decide
      unfold isNameR
      by_cases hc : nameC s 0 = 0
      · simp [hc, hne]
        rw [Bool.eq_iff_iff]
        simp
      · simp [hc]

/-! ### What is wrong -/
/-- Is a text at most another? -/
def leB (y x : ByteArray) : Bool := Op.bytesLess y.toList x.toList || y.toList == x.toList
/-- Do words rise? -/
def risesW : List ByteArray → Bool
  | [] => true
  | [_] => true
  | x :: y :: r => !leB y x && risesW (y :: r)
def wordsF (ws : List ByteArray) : Int := if ws.length = 0 ∨ ws.any (fun w => !isWd w) = true then 4 else if risesW ws then 0 else 13
/-- May one of a kind have so many kids? -/
def mayH (k : Int) (n : Nat) : Bool :=
  if k = 0 ∨ k = 1 then decide (n = 0) else if k = 2 then decide (n ≠ 1) else if k = 3 then decide (2 ≤ n) else decide (n = 1)
def ownF (k : Int) (t : Bool) (ws : List ByteArray) (n : Nat) : Int :=
  if k < 0 ∨ 6 < k then 2 else if mayH k n = false then 4 else if k = 1 then wordsF ws else if t = true ∨ 0 < ws.length then 4 else 0
mutual
def faultE : Rx → Int
  | .mk k t ws ks => if ownF k t ws ks.length ≠ 0 then ownF k t ws ks.length else faultEs ks
def faultEs : List Rx → Int
  | [] => 0
  | x :: r => if faultE x ≠ 0 then faultE x else faultEs r
end
def checkE (x : Rx) : Int := if 100 < rxSize x then 6 else faultE x
theorem wordsF_in (ws : List ByteArray) : 0 ≤ wordsF ws ∧ wordsF ws ≤ 13 := by
  unfold wordsF
  split
  · omega
  · split <;> omega
theorem ownF_in (k : Int) (t : Bool) (ws : List ByteArray) (n : Nat) : 0 ≤ ownF k t ws n ∧ ownF k t ws n ≤ 13 := by
  have := wordsF_in ws
  unfold ownF
  repeat' split
  all_goals omega
mutual
theorem faultE_in : ∀ x : Rx, 0 ≤ faultE x ∧ faultE x ≤ 13
  | .mk k t ws ks => by
    have h1 := ownF_in k t ws ks.length
    have h2 := faultEs_in ks
    rw [faultE]
    split <;> omega
theorem faultEs_in : ∀ l : List Rx, 0 ≤ faultEs l ∧ faultEs l ≤ 13
  | [] => by rw [faultEs]; omega
  | x :: r => by
    have h1 := faultE_in x
    have h2 := faultEs_in r
    rw [faultEs]
    split <;> omega
end
theorem checkE_in (x : Rx) : 0 ≤ checkE x ∧ checkE x ≤ 13 := by
  have := faultE_in x
  unfold checkE
  split <;> omega
theorem faultE_zero {k : Int} {t : Bool} {ws : List ByteArray} {ks : List Rx} (h : faultE (.mk k t ws ks) = 0) : ownF k t ws ks.length = 0 ∧ faultEs ks = 0 := by
  rw [faultE] at h
  split at h
  · rename_i h1; exact absurd h h1
  · rename_i h1; exact ⟨by simpa using h1, h⟩
theorem faultEs_zero : ∀ {l : List Rx}, faultEs l = 0 → ∀ {i : Nat} {x : Rx}, l[i]? = some x → faultE x = 0
  | [], _, _, _, hx => by simp at hx
  | y :: r, h, i, x, hx => by
    rw [faultEs] at h
    split at h
    · rename_i h1; exact absurd h h1
    · rename_i h1
      cases i with
      | zero =>
        obtain rfl : y = x := by simpa using hx
        simpa using h1
      | succ i => exact faultEs_zero h (i := i) (by simpa using hx)
theorem faultEs_drop {l : List Rx} {i : Nat} {x : Rx} (hx : l[i]? = some x) : faultEs (l.drop i) = if faultE x ≠ 0 then faultE x else faultEs (l.drop (i + 1)) := by
  rw [drop_at hx, faultEs]
/-- What may be has a kind, and as many kids as that kind may have. -/
theorem ownF_zero {k : Int} {t : Bool} {ws : List ByteArray} {n : Nat} (h : ownF k t ws n = 0) : 0 ≤ k ∧ k ≤ 6 ∧ mayH k n = true ∧ (k = 1 → wordsF ws = 0) ∧ (k ≠ 1 → t = false ∧ ws.length = 0) := by
  unfold ownF at h
  split at h
  · omega
  · split at h
    · omega
    · rename_i h1 h2
      refine ⟨by omega, by omega, by simpa using h2, fun hk => ?_, fun hk => ?_⟩
      · rwa [if_pos hk] at h
      · rw [if_neg hk] at h
        split at h
        · omega
        · rename_i h3
          refine ⟨?_, by omega⟩
          cases t with
          | false => rfl
          | true => exact absurd (.inl rfl) h3
theorem wordsF_zero {ws : List ByteArray} (h : wordsF ws = 0) : 1 ≤ ws.length := by
  unfold wordsF at h
  split at h
  · omega
  · omega

/-! ### How many, of at most so many -/
mutual
def rsz : Rx → Int → Int
  | .mk _ _ _ ks, left => rszs ks 1 left
def rszs : List Rx → Int → Int → Int
  | [], n, _ => n
  | x :: r, n, left => if left < n then n else rszs r (n + rsz x (left - n)) left
end
mutual
theorem rsz_or : ∀ (x : Rx) (left : Int), rsz x left = rxSize x ∨ (left < rsz x left ∧ rsz x left ≤ rxSize x)
  | .mk k t ws ks, left => by
    have := rszs_or ks 1 left
    rw [rsz, rxSize]
    omega
theorem rszs_or : ∀ (l : List Rx) (n left : Int), rszs l n left = n + rxsSize l ∨ (left < rszs l n left ∧ rszs l n left ≤ n + rxsSize l)
  | [], n, left => by rw [rszs, rxsSize]; omega
  | x :: r, n, left => by
    rw [rszs, rxsSize]
    split
    · omega
    · have h1 := rsz_or x (left - n)
      have h2 := rszs_or r (n + rsz x (left - n)) left
      omega
end
theorem rsz_fits {x : Rx} {left : Int} (h : (rxSize x : Int) ≤ left) : rsz x left = rxSize x := by have := rsz_or x left; omega
theorem rsz_over {x : Rx} {left : Int} : left < rsz x left ↔ left < rxSize x := by have := rsz_or x left; omega
mutual
theorem rsz_pos : ∀ (x : Rx) (left : Int), 1 ≤ rsz x left
  | .mk k t ws ks, left => by
    have := rszs_ge ks 1 left
    rw [rsz]; omega
theorem rszs_ge : ∀ (l : List Rx) (n left : Int), n ≤ rszs l n left
  | [], n, left => by rw [rszs]; omega
  | x :: r, n, left => by
    rw [rszs]
    split
    · omega
    · have h1 := rsz_pos x (left - n)
      have h2 := rszs_ge r (n + rsz x (left - n)) left
      omega
end
theorem rsz_le (x : Rx) (left : Int) : rsz x left ≤ rxSize x := by have := rsz_or x left; omega
theorem rszs_le (l : List Rx) (n left : Int) : rszs l n left ≤ n + rxsSize l := by have := rszs_or l n left; omega

/-! ### Texts -/
def sepT (k : Int) : List UInt8 := if k = 2 then [32] else if k = 3 then [124] else []
def signT (k : Int) : List UInt8 := if k = 4 then [42] else if k = 5 then [43] else if k = 6 then [63] else []
/-- Does a kid stand in brackets? -/
def brk (k : Int) : Rx → Bool
  | .mk k' _ _ ks' => if k' = 2 then decide (0 < ks'.length) && decide (k ≠ 3) else decide (k' = 3)
def brT (b : Bool) (s : List UInt8) : List UInt8 := if b then 40 :: (s ++ [41]) else s
def wordsT (ws : List ByteArray) : List UInt8 := Lib.join (ws.map (·.data.toList)) [44]
def atomT (t : Bool) (ws : List ByteArray) : List UInt8 := if t then 91 :: 94 :: (wordsT ws ++ [93]) else if 1 < ws.length then 91 :: (wordsT ws ++ [93]) else wordsT ws
mutual
def textE : Rx → List UInt8
  | .mk k t ws ks => if k = 0 then [46] else if k = 1 then atomT t ws else if k = 2 ∧ ks.length = 0 then [40, 41] else Lib.join (kidsT k ks) (sepT k) ++ signT k
def kidsT : Int → List Rx → List (List UInt8)
  | _, [] => []
  | k, x :: r => brT (brk k x) (textE x) :: kidsT k r
end
theorem kidsT_len (k : Int) : ∀ l : List Rx, (kidsT k l).length = l.length
  | [] => by rw [kidsT]; rfl
  | x :: r => by rw [kidsT, List.length_cons, List.length_cons, kidsT_len k r]
theorem kidsT_at (k : Int) : ∀ {l : List Rx} {i : Nat} {x : Rx}, l[i]? = some x → (kidsT k l)[i]? = some (brT (brk k x) (textE x))
  | [], _, _, h => by simp at h
  | y :: r, 0, x, h => by
    obtain rfl : y = x := by simpa using h
    rw [kidsT]; rfl
  | y :: r, i + 1, x, h => by
    rw [kidsT, List.getElem?_cons_succ]
    exact kidsT_at k (by simpa using h)
theorem brT_len (b : Bool) (s : List UInt8) : (brT b s).length ≤ s.length + 2 := by
  unfold brT
  split
  · simp
  · omega
theorem sepT_len (k : Int) : (sepT k).length ≤ 1 := by unfold sepT; repeat' split
                                                       all_goals simp
theorem signT_len (k : Int) : (signT k).length ≤ 1 := by unfold signT; repeat' split
                                                         all_goals simp
theorem join_len_le (l : List (List UInt8)) (sep : List UInt8) (h : sep.length ≤ 1) : (Lib.join l sep).length ≤ Lib.lens l + l.length := by
  cases l with
  | nil => simp [Lib.join_nil]
  | cons x r =>
    rw [Lib.join_length, List.length_cons]
    have := Nat.mul_le_mul_right r.length h
    omega
theorem lens_cons (x : List UInt8) (r : List (List UInt8)) : Lib.lens (x :: r) = x.length + Lib.lens r := by simp [Lib.lens]
theorem words_lens : ∀ ws : List ByteArray, wordsWt ws ≤ 100000 → Lib.lens (ws.map (·.data.toList)) + ws.length = wordsWt ws
  | [], _ => by simp [Lib.lens, wordsWt]
  | w :: r, h => by
    rw [wordsWt] at h ⊢
    have := words_lens r (by omega)
    rw [List.map_cons, lens_cons, List.length_cons]
    rw [← Lib.size_eq]
    omega
theorem wordsT_len (ws : List ByteArray) (h : wordsWt ws ≤ 100000) : (wordsT ws).length ≤ wordsWt ws := by
  have h1 := words_lens ws h
  have h2 := join_len_le (ws.map (·.data.toList)) [44] (Nat.le_refl _)
  rw [List.length_map] at h2
  unfold wordsT
  omega
theorem atomT_len (t : Bool) (ws : List ByteArray) (h : wordsWt ws ≤ 100000) : (atomT t ws).length ≤ wordsWt ws + 3 := by
  have := wordsT_len ws h
  unfold atomT
  repeat' split
  all_goals simp
  all_goals omega
mutual
theorem textE_len : ∀ x : Rx, rxWt x ≤ 100000 → (textE x).length + 3 ≤ 8 * rxWt x
  | .mk k t ws ks, h => by
    rw [rxWt] at h ⊢
    have h1 := atomT_len t ws (by omega)
    have h2 := kidsT_lens k ks (by omega)
    have h3 := join_len_le (kidsT k ks) (sepT k) (sepT_len k)
    have h4 := signT_len k
    rw [kidsT_len] at h3
    rw [textE]
    split
    · simp; omega
    · split
      · omega
      · split
        · simp; omega
        · rw [List.length_append]
          omega
theorem kidsT_lens : ∀ (k : Int) (l : List Rx), rxsWt l ≤ 100000 → Lib.lens (kidsT k l) + l.length ≤ 8 * rxsWt l
  | k, [], _ => by simp [kidsT, Lib.lens, rxsWt]
  | k, x :: r, h => by
    rw [rxsWt] at h ⊢
    have h1 := textE_len x (by omega)
    have h2 := kidsT_lens k r (by omega)
    have h3 := brT_len (brk k x) (textE x)
    rw [kidsT, lens_cons, List.length_cons]
    omega
end
end Go.Proofs.YtpccdhkghlbhkaaGreatDoor

namespace Go.Proofs.YtpccdhkghlbhkaaGreatDoor
open Go.RowKit Go.Extern.Stop Go.Stop Go.Extern

set_option maxRecDepth 100000 in
set_option maxHeartbeats 4000000 in
theorem xisWord_any (s : ByteArray) (hs : s.size ≤ 65536) (w : World) :
    Calls Tryz.prog 77 #[.string s] w fun e w' => e = .returned (.bool (isWd s)) ∧ Below w.heap.size w w' := by
  have HN := Lib.hid (fun W => scanNew_any s hs W)
  have HR := Lib.hid (fun W => readWord_any s 0 (by omega) (Nat.zero_le _) W)
  have HE := Lib.hid (fun (k : Nat) W => end_any s k W)
  unfold isWd
  generalize wdC s 0 = cc at *
  generalize wdA s 0 = aa at *
  generalize wdK s 0 = kk at *
  generalize s.extract 0 kk = tt at *
  clear hs
  go_enter Tryz.func77, Tryz.ntmps77
  go_wp2_with fail
  refine (HN.out _).mono ?_
  rintro e w1 ⟨rfl, b1⟩
  have bn := sbelow_new w1 (.cells #[.string s, .int .i64 0] 42)
  have HC := Lib.hid (ScanAt.new w1 s 0 42)
  have HB := Lib.hid (b1.trans (bn.mono b1.size))
  obtain ⟨-, c0, c1, -⟩ := HC.out
  have HZ : Hid (w.heap.size ≤ w1.heap.size) := Lib.hid b1.size
  clear b1 bn
  go_wp2_with fail
  generalize w1.alloc (.cells #[.string s, .int .i64 0] 42) = w2 at *
  generalize w1.heap.size = cb at *
  refine (HR.out _).mono ?_
  rintro e w3 (⟨hc, rfl, b3⟩ | ⟨hc, fb, rfl, hf, b3⟩)
  · have hc3 := HC.out.step b3
    have HC4 : Hid (ScanAt ((w3.setCell ⟨cb, 0, none⟩ (.string s)).setCell ⟨cb, 1, none⟩ (.int .i64 kk)) cb s kk) := Lib.hid (hc3.set s kk)
    have HB4 := Lib.hid (((HB.out.trans (b3.mono HB.out.size)).setCell (p := ⟨cb, 0, none⟩) HZ.out (.string s)).setCell (p := ⟨cb, 1, none⟩) HZ.out (.int .i64 kk))
    obtain ⟨-, d0, d1, df⟩ := hc3
    have df0 := df 0
    have df1 := df 1
    subst hc
    clear b3 df c0 c1 HC HB
    go_wp2_with fail
    generalize (w3.setCell ⟨cb, 0, none⟩ (.string s)).setCell ⟨cb, 1, none⟩ (.int .i64 kk) = w4 at *
    clear d0 d1 df0 df1
    refine (HE.out kk _).mono ?_
    rintro e w5 ⟨rfl, b5⟩
    go_wp2_with fail
    go_ret
    exact ⟨rfl, HB4.out.trans (b5.mono HB4.out.size)⟩
  · have hc3 := HC.out.step b3
    have HB4 := Lib.hid (((HB.out.trans (b3.mono HB.out.size)).setCell (p := ⟨cb, 0, none⟩) HZ.out (.string s)).setCell (p := ⟨cb, 1, none⟩) HZ.out (.int .i64 (0 : Nat)))
    obtain ⟨-, d0, d1, df⟩ := hc3
    have df0 := df 0
    have df1 := df 1
    have HD : Hid (decide (cc = 0) = false) := Lib.hid (decide_eq_false hc)
    clear b3 df c0 c1 HC HB hc hf
    unfold pf
    go_wp2_with fail
    go_ret
    exact ⟨ret_b (by rw [HD.out]; rfl), HB4.out⟩

theorem byteI_eq_at {s : ByteArray} {k : Nat} (h : k < s.size) {c : Int} (hc : byteI s k = c) : ((s[k].toNat : Int) == c) = true := by rw [byteI_lt h] at hc; simpa using hc
theorem byteI_ne_at {s : ByteArray} {k : Nat} (h : k < s.size) {c : Int} (hc : ¬ byteI s k = c) : ((s[k].toNat : Int) == c) = false := by rw [byteI_lt h] at hc; simpa using hc
end Go.Proofs.YtpccdhkghlbhkaaGreatDoor

namespace Go.Proofs.YtpccdhkghlbhkaaGreatDoor
open Go.RowKit Go.Extern.Stop Go.Stop Go.Extern

set_option maxRecDepth 100000 in
set_option maxHeartbeats 4000000 in
theorem mayHave_any (k : Int) (n : Nat) (w : World) :
    Calls Tryz.prog 58 #[.int .i64 k, .int .i64 n] w fun e w' => e = .returned (.bool (mayH k n)) ∧ w = w' := by
  go_enter Tryz.func58, Tryz.ntmps58
  go_wp2
  all_goals
    go_ret
    refine ⟨ret_b ?_, rfl⟩
    go_light
    simp only [beq_iff_eq, beq_eq_false_iff_ne, ne_eq] at *
    unfold mayH
    rw [Bool.eq_iff_iff]
    repeat' split
    all_goals (try simp)
    all_goals omega

theorem wt_word : ∀ {l : List ByteArray} {i : Nat} {y : ByteArray} {b : Nat}, wordsWt l ≤ b → b ≤ 60000 → l[i]? = some y → y.size ≤ b
  | [], _, _, _, _, _, h => by simp at h
  | x :: r, 0, y, b, h, h2, hx => by
    obtain rfl : x = y := by simpa using hx
    rw [wordsWt] at h
    omega
  | x :: r, i + 1, y, b, h, h2, hx => by
    rw [wordsWt] at h
    exact wt_word (l := r) (i := i) (by omega) h2 (by simpa using hx)

/-! ### Is one of them no word? -/
set_option maxRecDepth 100000 in
set_option maxHeartbeats 1000000 in
theorem isNone_any (s : ByteArray) (hs : s.size ≤ 65536) (w : World) :
    Calls Tryz.prog 76 #[.string s] w fun e w' => e = .returned (.bool (!isWd s)) ∧ Below w.heap.size w w' := by
  have H := Lib.hid (fun W => xisWord_any s hs W)
  generalize isWd s = q at *
  clear hs
  go_enter Tryz.func76, Tryz.ntmps76
  go_wp2_with fail
  refine (H.out _).mono ?_
  rintro e w1 ⟨rfl, b1⟩
  go_wp2_with fail
  go_ret
  exact ⟨rfl, b1⟩
def noneW (l : List ByteArray) : Bool := l.any (fun w => !isWd w)
theorem noneW_drop {l : List ByteArray} {i : Nat} {y : ByteArray} (h : l[i]? = some y) : noneW (l.drop i) = (!isWd y || noneW (l.drop (i + 1))) := by
  rw [drop_at h]
  rfl
set_option maxRecDepth 100000 in
set_option maxHeartbeats 4000000 in
theorem indexNone_any (P : Nat → Prop) (ws : List ByteArray) (hwt : wordsWt ws ≤ 60000) (w : World) (a : Option Addr) (c : Nat) (hr : RowX P w (.slice a ws.length c) ws.length (ws.map Value.string)) :
    Calls Tryz.prog 89 #[.slice a ws.length c, .func (.func 76) #[] #[]] w fun e w' => ∃ i : Int, e = .returned (.int .i64 i) ∧ decide (0 ≤ i) = noneW ws ∧ Below w.heap.size w w' := by
  have HR := Lib.hid hr
  have HL : Hid (ws.length ≤ 60000) := Lib.hid (by have := wlen_wt ws; omega)
  have HWT := Lib.hid (fun i y h => wt_word (l := ws) (i := i) (y := y) hwt (Nat.le_refl _) h)
  clear hr hwt
  go_enter Tryz.func89, Tryz.ntmps89
  go_wp2_with fail
  go_loopg [8] ws.length (fun g v wr => ∃ i : Nat, i ≤ ws.length ∧ g = ws.length - i ∧ v = .int .i64 i ∧ noneW (ws.drop i) = noneW ws ∧ Below w.heap.size w wr)
  case atStart => exact ⟨0, Nat.zero_le _, by omega, rfl, by rw [List.drop_zero], Below.refl _ _⟩
  case round =>
    obtain ⟨i, hi, hgk, rfl, hd, hbel⟩ := hrel
    have HD := Lib.hid hd
    have HB := Lib.hid hbel
    clear hd hbel
    by_cases hlt : i < ws.length
    · obtain ⟨y, hy⟩ : ∃ y, ws[i]? = some y := ⟨_, List.getElem?_eq_getElem hlt⟩
      obtain ⟨b, o, rfl, hbl, e1⟩ := text_at HR.out hy HB.out
      have hup := HD.out
      rw [noneW_drop hy] at hup
      have HUP := Lib.hid hup
      have HC := Lib.hid (fun W => isNone_any y (by have := HWT.out i y hy; omega) W)
      generalize isWd y = q at *
      clear hy hup HD
      go_wp2_with fail
      refine (HC.out _).mono ?_
      rintro e w1 ⟨rfl, b1⟩
      cases q with
      | false =>
        go_wp2_with fail
        go_ret
        have hn : noneW ws = true := by have hu := HUP.out; simpa using hu.symm
        exact ⟨i, rfl, by rw [hn]; exact decide_eq_true (Int.natCast_nonneg i), HB.out.trans (b1.mono HB.out.size)⟩
      | true =>
        go_wp2_with fail
        go_roundg (ws.length - (i + 1))
        case measure => omega
        case rel => exact ⟨i + 1, by omega, rfl, by first | rfl | (rw [w64x _ (by have := HL.out; omega)]; rfl), by have hu := HUP.out; simpa using hu, HB.out.trans (b1.mono HB.out.size)⟩
    · obtain rfl : i = ws.length := by omega
      go_wp2_with fail
      go_ret
      have hu := HD.out
      rw [List.drop_length] at hu
      have hn : noneW ws = false := hu.symm
      exact ⟨-1, rfl, by rw [hn]; decide, HB.out⟩
set_option maxRecDepth 100000 in
set_option maxHeartbeats 1000000 in
theorem containsNone_any (P : Nat → Prop) (ws : List ByteArray) (hwt : wordsWt ws ≤ 60000) (w : World) (a : Option Addr) (c : Nat) (hr : RowX P w (.slice a ws.length c) ws.length (ws.map Value.string)) :
    Calls Tryz.prog 78 #[.slice a ws.length c, .func (.func 76) #[] #[]] w fun e w' => e = .returned (.bool (noneW ws)) ∧ Below w.heap.size w w' := by
  have H := Lib.hid (indexNone_any P ws hwt w a c hr)
  clear hr hwt
  go_enter Tryz.func78, Tryz.ntmps78
  go_wp2_with fail
  refine H.out.mono ?_
  rintro e w1 ⟨i, rfl, hi, b1⟩
  have HI := Lib.hid hi
  clear hi
  go_wp2_with fail
  go_ret
  exact ⟨ret_b HI.out, b1⟩

/-! ### The words -/
theorem ret_i {a b : Int} (h : a = b) : Ending.returned (.int .i64 a) = .returned (.int .i64 b) := by rw [h]
theorem rises_at {ws : List ByteArray} {i : Nat} {x y : ByteArray} (hx : ws[i]? = some x) (hy : ws[i + 1]? = some y) : risesW (ws.drop i) = (!leB y x && risesW (ws.drop (i + 1))) := by
  rw [drop_at hx, drop_at hy, risesW]
theorem rises_last {ws : List ByteArray} {i : Nat} (h : ws.length ≤ i + 1) : risesW (ws.drop i) = true := by
  by_cases h2 : i < ws.length
  · rw [List.drop_eq_getElem_cons h2, List.drop_eq_nil_of_le (by omega)]
    rfl
  · rw [List.drop_eq_nil_of_le (by omega)]
    rfl
set_option maxRecDepth 100000 in
set_option maxHeartbeats 4000000 in
theorem wordsFault_any (P : Nat → Prop) (ws : List ByteArray) (hwt : wordsWt ws ≤ 60000) (w : World) (a : Option Addr) (c : Nat) (hr : RowX P w (.slice a ws.length c) ws.length (ws.map Value.string)) :
    Calls Tryz.prog 59 #[.slice a ws.length c] w fun e w' => e = .returned (.int .i64 (wordsF ws)) ∧ Below w.heap.size w w' := by
  have HC := Lib.hid (containsNone_any P ws hwt w a c hr)
  have HR := Lib.hid hr
  have HL : Hid (ws.length ≤ 60000) := Lib.hid (by have := wlen_wt ws; omega)
  have HF : Hid (wordsF ws = if ws.length = 0 ∨ noneW ws = true then 4 else if risesW ws then 0 else 13) := Lib.hid rfl
  generalize wordsF ws = wf at *
  clear hr hwt
  by_cases h0 : ws.length = 0
  · have hf := HF.out
    rw [if_pos (.inl h0)] at hf
    subst hf
    go_enter Tryz.func59, Tryz.ntmps59
    go_wp2_with fail
    go_ret
    exact ⟨rfl, Below.refl _ _⟩
  · have hne : ((ws.length : Int) == 0) = false := beq_eq_false_iff_ne.2 (by omega)
    go_enter Tryz.func59, Tryz.ntmps59
    go_wp2_with fail
    refine HC.out.mono ?_
    rintro e w1 ⟨rfl, b1⟩
    cases hn : noneW ws with
    | true =>
      have hf := HF.out
      rw [if_pos (.inr hn)] at hf
      subst hf
      go_wp2_with fail
      go_ret
      exact ⟨rfl, b1⟩
    | false =>
      have hf := HF.out
      rw [if_neg (by rw [hn]; simp [h0])] at hf
      have HF2 := Lib.hid hf
      have HB := Lib.hid b1
      clear b1 hn hf HF HC
      go_wp2_with fail
      go_loopg [4] (ws.length - 1) (fun g v wr => ∃ i j : Nat, j = i + 1 ∧ j ≤ ws.length ∧ g = ws.length - j ∧ v = .int .i64 j ∧ risesW (ws.drop i) = risesW ws ∧ Below w.heap.size w wr)
      case atStart => exact ⟨0, 1, rfl, by omega, by omega, rfl, by rw [List.drop_zero], HB.out⟩
      case round =>
        clear HB
        obtain ⟨i, j, hij, hi, hgk, rfl, hd, hbel⟩ := hrel
        have HD := Lib.hid hd
        have HB := Lib.hid hbel
        clear hd hbel
        by_cases hlt : j < ws.length
        · have hlt0 : i < ws.length := by omega
          obtain ⟨x, hx⟩ : ∃ y, ws[i]? = some y := ⟨_, List.getElem?_eq_getElem hlt0⟩
          obtain ⟨y, hy⟩ : ∃ y, ws[j]? = some y := ⟨_, List.getElem?_eq_getElem hlt⟩
          obtain ⟨b, o, rfl, hbl, e1⟩ := text_at HR.out hx HB.out
          obtain ⟨b', o', eb, hbl', e2⟩ := text_at HR.out hy HB.out
          simp only [Option.some.injEq, Addr.mk.injEq, and_true] at eb
          obtain ⟨rfl, rfl⟩ := eb
          have hup := HD.out
          rw [rises_at hx (by rw [← hij]; exact hy), ← hij] at hup
          have HUP := Lib.hid hup
          have HIJ := Lib.hid hij
          clear hx hy hup HD hbl'
          have hcs : (leB y x = true ∧ Op.bytesLess y.toList x.toList = true) ∨ (leB y x = true ∧ Op.bytesLess y.toList x.toList = false ∧ (y.toList == x.toList) = true) ∨ (leB y x = false ∧ Op.bytesLess y.toList x.toList = false ∧ (y.toList == x.toList) = false) := by
            unfold leB
            cases Op.bytesLess y.toList x.toList <;> cases (y.toList == x.toList) <;> simp
          have hs1 : (j : Int) - 1 = (i : Int) := by omega
          have hs2 : IntKind.i64.wrap ((j : Int) - 1) = (i : Int) := by rw [hs1]; exact IntWalk.i64_in _ (by have := HL.out; omega)
          have hs3 : IntKind.i64.wrap (i : Int) = (i : Int) := IntWalk.i64_in _ (by have := HL.out; omega)
          have hs4 : (0 : Int) ≤ (i : Int) := by omega
          have hs5 : (i : Int) < (ws.length : Int) := by omega
          have HB1 := Lib.hid (HB.out.trans ((Below.refl wr.heap.size wr).drew.mono HB.out.size))
          rcases hcs with ⟨hq, hq1⟩ | ⟨hq, hq1, hq2⟩ | ⟨hq, hq1, hq2⟩
          · rw [hq] at HUP
            clear hq
            go_wp2_with fail
            have kk : wr.drew.cell? ⟨b, o + i, none⟩ = some (.string x) ∧ wr.drew.cell? ⟨b, o + j, none⟩ = some (.string y) := ⟨e1, e2⟩
            clear e1 e2 hij
            go_region_held3 (fun W => W.cell? ⟨b, o + i, none⟩ = some (.string x) ∧ W.cell? ⟨b, o + j, none⟩ = some (.string y))
              (first | exact kk | exact ⟨kk.1, kk.2⟩)
              (fail)
            all_goals
              go_wp2_with fail
              go_ret
              have hu := HUP.out
              simp only [Bool.not_true, Bool.false_and] at hu
              exact ⟨ret_i (by have hf := HF2.out; rw [← hu, if_neg (by decide)] at hf; exact hf.symm), HB1.out⟩
          · rw [hq] at HUP
            clear hq
            go_wp2_with fail
            have kk : wr.drew.cell? ⟨b, o + i, none⟩ = some (.string x) ∧ wr.drew.cell? ⟨b, o + j, none⟩ = some (.string y) := ⟨e1, e2⟩
            clear e1 e2 hij
            go_region_held3 (fun W => W.cell? ⟨b, o + i, none⟩ = some (.string x) ∧ W.cell? ⟨b, o + j, none⟩ = some (.string y))
              (first | exact kk | exact ⟨kk.1, kk.2⟩)
              (fail)
            all_goals
              go_wp2_with fail
              go_ret
              have hu := HUP.out
              simp only [Bool.not_true, Bool.false_and] at hu
              exact ⟨ret_i (by have hf := HF2.out; rw [← hu, if_neg (by decide)] at hf; exact hf.symm), HB1.out⟩
          · rw [hq] at HUP
            clear hq
            go_wp2_with fail
            have kk : wr.drew.cell? ⟨b, o + i, none⟩ = some (.string x) ∧ wr.drew.cell? ⟨b, o + j, none⟩ = some (.string y) := ⟨e1, e2⟩
            clear e1 e2 hij
            go_region_held3 (fun W => W.cell? ⟨b, o + i, none⟩ = some (.string x) ∧ W.cell? ⟨b, o + j, none⟩ = some (.string y))
              (first | exact kk | exact ⟨kk.1, kk.2⟩)
              (fail)
            all_goals
              go_wp2_with fail
              go_roundg (ws.length - (j + 1))
              case measure => omega
              case rel => exact ⟨j, j + 1, rfl, by omega, rfl, by first | rfl | (rw [w64x _ (by have := HL.out; omega)]; rfl), by have hu := HUP.out; simpa using hu, HB1.out⟩
        · have hr := HD.out
          rw [rises_last (by omega)] at hr
          have hf := HF2.out
          rw [← hr, if_pos rfl] at hf
          subst hf
          go_wp2_with fail
          go_ret
          exact ⟨rfl, HB.out⟩
end Go.Proofs.YtpccdhkghlbhkaaGreatDoor
