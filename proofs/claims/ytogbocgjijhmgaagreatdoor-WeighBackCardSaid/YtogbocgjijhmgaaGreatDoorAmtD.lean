/-
  Plain: a number's digits are read as that number; a text that is read is the digits of what it tells.
-/
import Derived.Test.YtogbocgjijhmgaaGreatDoorRDig2
import Derived.Test.YtogbocgjijhmgaaGreatDoorAmtP
namespace Go.Proofs.YtogbocgjijhmgaaGreatDoor
open Go.RowKit Go.Lib

/-! ### Digits, there and back -/
theorem head_app {l : List UInt8} (r : List UInt8) (h : l ≠ []) : (l ++ r).head? = l.head? := by
  cases l with
  | nil => exact absurd rfl h
  | cons x l => rfl
theorem digit_toNat (x : Nat) (h : x < 10) : (UInt8.ofNat (48 + x)).toNat = 48 + x := UInt8.toNat_ofNat_of_lt' (by show 48 + x < 256; omega)
theorem digit_isD (x : Nat) (h : x < 10) : isD (UInt8.ofNat (48 + x)) = true := (isD_iff _).2 (by rw [digit_toNat x h]; omega)

theorem dec_facts (n : Nat) : valI (Lib.decDigits n) = n ∧ (∀ c ∈ Lib.decDigits n, isD c = true) ∧ Lib.decDigits n ≠ [] ∧ (0 < n → (Lib.decDigits n).head? ≠ some 48) := by
  induction n using Nat.strongRecOn with
  | _ n ih =>
    by_cases h : n < 10
    · rw [Lib.decDigits_one h]
      refine ⟨?_, fun c hc => ?_, by simp, fun h0 => ?_⟩
      · have := digit_toNat n h
        show (0 : Int) * 10 + (((UInt8.ofNat (48 + n)).toNat : Int) - 48) = n
        omega
      · simp only [List.mem_singleton] at hc
        rw [hc]
        exact digit_isD n h
      · intro e
        have e2 : UInt8.ofNat (48 + n) = 48 := by simpa using e
        have e3 := congrArg UInt8.toNat e2
        rw [digit_toNat n h] at e3
        have : (48 : UInt8).toNat = 48 := rfl
        omega
    · obtain ⟨h1, h2, h3, h4⟩ := ih (n / 10) (by omega)
      have hd := digit_toNat (n % 10) (by omega)
      have hi := digit_isD (n % 10) (by omega)
      rw [Lib.decDigits, dif_neg h]
      refine ⟨?_, fun c hc => ?_, by simp, fun h0 => ?_⟩
      · rw [valI_snoc, h1, hd]
        omega
      · rcases List.mem_append.1 hc with hc | hc
        · exact h2 c hc
        · simp only [List.mem_singleton] at hc
          rw [hc]
          exact hi
      · rw [head_app _ h3]
        exact h4 (by omega)

theorem parse_dec (n : Nat) (h : (n : Int) ≤ 9223372036854775807) : parseR (Lib.decDigits n) = ((n : Int), 0, 0) := by
  obtain ⟨h1, h2, h3, h4⟩ := dec_facts n
  unfold parseR
  rw [if_neg h3, firstBad_all _ h2, if_neg (Nat.lt_irrefl _), h1]
  have hn : ¬ (1 < (Lib.decDigits n).length ∧ (Lib.decDigits n).head? = some 48) := by
    rintro ⟨ha, hb⟩
    by_cases h0 : 0 < n
    · exact h4 h0 hb
    · obtain rfl : n = 0 := by omega
      rw [Lib.decDigits_one (by decide)] at ha
      simp at ha
  rw [if_neg hn, if_neg (by unfold most; omega)]

theorem dec_val (l : List UInt8) (hl : ∀ c ∈ l, isD c = true) (h0 : l ≠ []) (hn : ¬ (1 < l.length ∧ l.head? = some 48)) : Lib.decDigits (valI l).toNat = l := by
  have : ∀ (n : Nat) (l : List UInt8), l.length = n → (∀ c ∈ l, isD c = true) → l ≠ [] → ¬ (1 < l.length ∧ l.head? = some 48) → Lib.decDigits (valI l).toNat = l := by
    intro n
    induction n with
    | zero => intro l h _ h0 _; exact absurd (List.eq_nil_of_length_eq_zero h) h0
    | succ n ih =>
      intro l h hl h0 hn
      obtain ⟨r, c, rfl⟩ : ∃ r c, l = r ++ [c] := ⟨l.dropLast, l.getLast h0, (List.dropLast_concat_getLast h0).symm⟩
      have hc := (isD_iff c).1 (hl c (by simp))
      have hcc : ∀ x : Nat, (c.toNat : Int) = 48 + x → UInt8.ofNat (48 + x) = c := fun x hx => UInt8.toNat_inj.1 (by rw [digit_toNat x (by omega)]; omega)
      rw [valI_snoc]
      by_cases hr : r = []
      · subst hr
        have e : valI [] * 10 + ((c.toNat : Int) - 48) = (c.toNat : Int) - 48 := by simp [valI]
        rw [e, Lib.decDigits_one (by omega), hcc _ (by omega)]
        rfl
      · have hh : (r ++ [c]).head? = r.head? := head_app _ hr
        have hlen : 1 < (r ++ [c]).length := by
          have : 0 < r.length := List.length_pos_iff.2 hr
          simp; omega
        have h48 : r.head? ≠ some 48 := fun e => hn ⟨hlen, by rw [hh]; exact e⟩
        have hrl : ∀ x ∈ r, isD x = true := fun x hx => hl x (by simp [hx])
        have hv0 := valI_nonneg r hrl
        have hv1 : 1 ≤ valI r := by
          cases r with
          | nil => exact absurd rfl hr
          | cons x r =>
            have h1 := valI_ge x r hrl (fun e => h48 (by rw [e]; rfl))
            have h2 : (1 : Int) ≤ 10 ^ r.length := by
              have := Nat.one_le_two_pow (n := 0)
              have h3 : 0 < 10 ^ r.length := Nat.pow_pos (by decide)
              exact_mod_cast h3
            omega
        have e1 : (valI r * 10 + ((c.toNat : Int) - 48)).toNat / 10 = (valI r).toNat := by omega
        have e2 : (c.toNat : Int) = 48 + (((valI r * 10 + ((c.toNat : Int) - 48)).toNat % 10 : Nat) : Int) := by omega
        rw [Lib.decDigits, dif_neg (by omega), e1, ih r (by simpa using h) hrl hr (fun e => h48 e.2), hcc _ e2]
  exact this _ l rfl hl h0 hn

/-- What is read of a text has the text for its digits. -/
theorem back (l : List UInt8) (h : (parseR l).2.1 = 0) : Lib.decDigits (capI (parseR l).1).toNat = l ∧ 0 ≤ (parseR l).1 := by
  unfold parseR at *
  by_cases h0 : l = []
  · rw [if_pos h0] at h; exact absurd h (by decide)
  · rw [if_neg h0] at *
    by_cases h1 : firstBad l < l.length
    · rw [if_pos h1] at h; exact absurd h (show ¬ (4 : Int) = 0 by decide)
    · rw [if_neg h1] at *
      by_cases h2 : 1 < l.length ∧ l.head? = some 48
      · rw [if_pos h2] at h; exact absurd h (by decide)
      · rw [if_neg h2] at *
        by_cases h3 : most < valI l
        · rw [if_pos h3] at h; exact absurd h (by decide)
        · rw [if_neg h3] at *
          have hl := all_of_firstBad l h1
          rw [capI_of_le (by omega)]
          exact ⟨dec_val l hl h0 h2, valI_nonneg l hl⟩
end Go.Proofs.YtogbocgjijhmgaaGreatDoor
