/-
  The statement AmountTexts as a walk: whatever the number and the text, the law answers true, and all of old memory stays as it was. A number's digits are read as that number; a text that is read is the digits of what it tells.
-/
import Derived.Test.YtcjmmiimkedeoaaDoorRDig2
import Derived.Test.YtcjmmiimkedeoaaDoorRPar
import Derived.Test.YtcjmmiimkedeoaaDoorAmtL
namespace Go.Proofs.YtcjmmiimkedeoaaDoor
open Go.RowKit Go.Lib

/-! ### Digits, there and back -/
theorem head_app {l : List UInt8} (r : List UInt8) (h : l ≠ []) : (l ++ r).head? = l.head? := by
  cases l with
  | nil => exact absurd rfl h
  | cons x l => rfl
theorem digit_toNat (x : Nat) (h : x < 10) : (UInt8.ofNat (48 + x)).toNat = 48 + x := UInt8.toNat_ofNat_of_lt' (by show 48 + x < 256; omega)
theorem digit_isD (x : Nat) (h : x < 10) : isD (UInt8.ofNat (48 + x)) = true := (isD_iff _).2 (by rw [digit_toNat x h]; omega)

theorem dec_facts (n : Nat) : valI (Lib.decDigits n) = n ∧ (∀ c ∈ Lib.decDigits n, isD c = true) ∧ Lib.decDigits n ≠ [] ∧ (0 < n → (Lib.decDigits n).head? ≠ some 48) := by
  induction n using Nat.strongRecOn with
  | _ n ih =>
    by_cases h : n < 10
    · rw [Lib.decDigits_one h]
      refine ⟨?_, fun c hc => ?_, by simp, fun h0 => ?_⟩
      · have := digit_toNat n h
        show (0 : Int) * 10 + (((UInt8.ofNat (48 + n)).toNat : Int) - 48) = n
        omega
      · simp only [List.mem_singleton] at hc
        rw [hc]
        exact digit_isD n h
      · intro e
        have e2 : UInt8.ofNat (48 + n) = 48 := by simpa using e
        have e3 := congrArg UInt8.toNat e2
        rw [digit_toNat n h] at e3
        have : (48 : UInt8).toNat = 48 := rfl
        omega
    · obtain ⟨h1, h2, h3, h4⟩ := ih (n / 10) (by omega)
      have hd := digit_toNat (n % 10) (by omega)
      have hi := digit_isD (n % 10) (by omega)
      rw [Lib.decDigits, dif_neg h]
      refine ⟨?_, fun c hc => ?_, by simp, fun h0 => ?_⟩
      · rw [valI_snoc, h1, hd]
        omega
      · rcases List.mem_append.1 hc with hc | hc
        · exact h2 c hc
        · simp only [List.mem_singleton] at hc
          rw [hc]
          exact hi
      · rw [head_app _ h3]
        exact h4 (by omega)

theorem parse_dec (n : Nat) (h : (n : Int) ≤ 9223372036854775807) : parseR (Lib.decDigits n) = ((n : Int), 0, 0) := by
  obtain ⟨h1, h2, h3, h4⟩ := dec_facts n
  unfold parseR
  rw [if_neg h3, firstBad_all _ h2, if_neg (Nat.lt_irrefl _), h1]
  have hn : ¬ (1 < (Lib.decDigits n).length ∧ (Lib.decDigits n).head? = some 48) := by
    rintro ⟨ha, hb⟩
    by_cases h0 : 0 < n
    · exact h4 h0 hb
    · obtain rfl : n = 0 := by omega
      rw [Lib.decDigits_one (by decide)] at ha
      simp at ha
  rw [if_neg hn, if_neg (by unfold most; omega)]

theorem dec_val (l : List UInt8) (hl : ∀ c ∈ l, isD c = true) (h0 : l ≠ []) (hn : ¬ (1 < l.length ∧ l.head? = some 48)) : Lib.decDigits (valI l).toNat = l := by
  have : ∀ (n : Nat) (l : List UInt8), l.length = n → (∀ c ∈ l, isD c = true) → l ≠ [] → ¬ (1 < l.length ∧ l.head? = some 48) → Lib.decDigits (valI l).toNat = l := by
    intro n
    induction n with
    | zero => intro l h _ h0 _; exact absurd (List.eq_nil_of_length_eq_zero h) h0
    | succ n ih =>
      intro l h hl h0 hn
      obtain ⟨r, c, rfl⟩ : ∃ r c, l = r ++ [c] := ⟨l.dropLast, l.getLast h0, (List.dropLast_concat_getLast h0).symm⟩
      have hc := (isD_iff c).1 (hl c (by simp))
      have hcc : ∀ x : Nat, (c.toNat : Int) = 48 + x → UInt8.ofNat (48 + x) = c := fun x hx => UInt8.toNat_inj.1 (by rw [digit_toNat x (by omega)]; omega)
      rw [valI_snoc]
      by_cases hr : r = []
      · subst hr
        have e : valI [] * 10 + ((c.toNat : Int) - 48) = (c.toNat : Int) - 48 := by simp [valI]
        rw [e, Lib.decDigits_one (by omega), hcc _ (by omega)]
        rfl
      · have hh : (r ++ [c]).head? = r.head? := head_app _ hr
        have hlen : 1 < (r ++ [c]).length := by
          have : 0 < r.length := List.length_pos_iff.2 hr
          simp; omega
        have h48 : r.head? ≠ some 48 := fun e => hn ⟨hlen, by rw [hh]; exact e⟩
        have hrl : ∀ x ∈ r, isD x = true := fun x hx => hl x (by simp [hx])
        have hv0 := valI_nonneg r hrl
        have hv1 : 1 ≤ valI r := by
          cases r with
          | nil => exact absurd rfl hr
          | cons x r =>
            have h1 := valI_ge x r hrl (fun e => h48 (by rw [e]; rfl))
            have h2 : (1 : Int) ≤ 10 ^ r.length := by
              have := Nat.one_le_two_pow (n := 0)
              have h3 : 0 < 10 ^ r.length := Nat.pow_pos (by decide)
              exact_mod_cast h3
            omega
        have e1 : (valI r * 10 + ((c.toNat : Int) - 48)).toNat / 10 = (valI r).toNat := by omega
        have e2 : (c.toNat : Int) = 48 + (((valI r * 10 + ((c.toNat : Int) - 48)).toNat % 10 : Nat) : Int) := by omega
        rw [Lib.decDigits, dif_neg (by omega), e1, ih r (by simpa using h) hrl hr (fun e => h48 e.2), hcc _ e2]
  exact this _ l rfl hl h0 hn

/-- What is read of a text has the text for its digits. -/
theorem back (l : List UInt8) (h : (parseR l).2.1 = 0) : Lib.decDigits (capI (parseR l).1).toNat = l ∧ 0 ≤ (parseR l).1 := by
  unfold parseR at *
  by_cases h0 : l = []
  · rw [if_pos h0] at h; exact absurd h (by decide)
  · rw [if_neg h0] at *
    by_cases h1 : firstBad l < l.length
    · rw [if_pos h1] at h; exact absurd h (show ¬ (4 : Int) = 0 by decide)
    · rw [if_neg h1] at *
      by_cases h2 : 1 < l.length ∧ l.head? = some 48
      · rw [if_pos h2] at h; exact absurd h (by decide)
      · rw [if_neg h2] at *
        by_cases h3 : most < valI l
        · rw [if_pos h3] at h; exact absurd h (by decide)
        · rw [if_neg h3] at *
          have hl := all_of_firstBad l h1
          rw [capI_of_le (by omega)]
          exact ⟨dec_val l hl h0 h2, valI_nonneg l hl⟩

/-! ### The law -/
theorem bytes_eta (s : ByteArray) : (⟨s.data.toList.toArray⟩ : ByteArray) = s := by cases s; simp

set_option maxHeartbeats 1000000 in
theorem amtTexts_far (a : Int) (s : ByteArray) (w : World) (hg : Handle w) (h : 200 < s.size) :
    Calls Tryd.prog 10 #[.int .u64 a, .string s] w fun e w' => e = .returned (.bool true) ∧ Below w.heap.size w w' := by
  have hb : (200 : Int) < s.size := by omega
  go_enter Tryd.func10, Tryd.ntmps10
  go_wp2_with fail
  refine (awake2_any _ hg).mono ?_
  rintro e w1 ⟨rfl, b1⟩
  go_wp2_with fail
  go_ret
  exact ⟨rfl, b1⟩

set_option maxRecDepth 100000 in
set_option maxHeartbeats 3200000 in
theorem amtTexts_near (a : Int) (ha : 0 ≤ a) (s : ByteArray) (w : World) (hg : Handle w) (ht : Tab w) (h : s.size ≤ 200) :
    Calls Tryd.prog 10 #[.int .u64 a, .string s] w fun e w' => e = .returned (.bool true) ∧ Below w.heap.size w w' := by
  have hlb : ¬ (200 : Int) < s.size := by omega
  obtain ⟨u, hu, hu2⟩ := capI_nat ha
  have hun : (capI a).toNat = u := by omega
  obtain ⟨T, hT⟩ : ∃ T : ByteArray, T = ⟨(Lib.decDigits u).toArray⟩ := ⟨_, rfl⟩
  have HA := Lib.hid (fun w ht => show Calls Tryd.prog 39 #[.int .u64 a] w fun e w' => e = .returned (.string T) ∧ Below w.heap.size w w' by rw [hT, ← hun]; exact adigits_any a ha w ht)
  have HR := Lib.hid (fun w => show Calls Tryd.prog 42 #[.int .u64 a] w fun e w' => e = .returned (.string T) ∧ Below w.heap.size w w' by rw [hT, ← hun]; exact rdigits_any a ha w)
  have HP := Lib.hid (fun w => show Calls Tryd.prog 40 #[.string T] w fun e w' => e = .returned (.tuple #[.int .u64 (capI a), .nilIface]) ∧ w' = w by
    have hl : T.data.toList = Lib.decDigits u := by rw [hT]
    have hsz : T.size ≤ maxLen := by
      have h1 := Lib.nDigits_le20 u (by omega)
      rw [← Lib.decDigits_length, ← hl] at h1
      simp at h1
      unfold maxLen
      omega
    refine (parse_any T w hsz).mono ?_
    rw [hl, parse_dec u (by omega), ← hu]
    rintro e w' (⟨-, h⟩ | ⟨h, -⟩)
    · exact h
    · exact absurd rfl h)
  have HQ := Lib.hid (fun w => parse_any s w (by unfold maxLen; omega))
  have HZ := Lib.hid (fun w => rparse_any s w (by unfold maxLen; omega))
  have HB := Lib.hid (back s.data.toList)
  generalize parseR s.data.toList = r at HQ HZ HB
  obtain ⟨v, code, at_⟩ := r
  clear hu hun hT
  go_enter Tryd.func10, Tryd.ntmps10
  go_wp2_with fail
  refine (awake2_any _ hg).mono ?_
  rintro e w1 ⟨rfl, b1⟩
  go_wp2_with fail
  refine (HA.out _ (ht.below b1)).mono ?_
  rintro e w2 ⟨rfl, b2⟩
  have b02 := b1.trans (b2.mono b1.size)
  go_wp2_with fail
  refine (HP.out _).mono ?_
  rintro e w' ⟨rfl, rfl⟩
  go_wp2_with fail
  refine (HQ.out _).mono ?_
  rintro e w3 (⟨hcode, he, hw⟩ | ⟨hcode, he, hw⟩)
  · subst he
    obtain rfl : code = 0 := hcode
    obtain rfl := hw
    obtain ⟨hd, hv⟩ := HB.out rfl
    have HD := Lib.hid (fun w ht => show Calls Tryd.prog 39 #[.int .u64 v] w fun e w' => e = .returned (.string s) ∧ Below w.heap.size w w' by
      have h1 := adigits_any v hv w ht
      have h2 : Lib.decDigits (capI v).toNat = s.data.toList := hd
      rw [h2, bytes_eta] at h1
      exact h1)
    clear hd
    go_wp2_with fail
    refine (HZ.out _).mono ?_
    rintro e w' ⟨he, rfl⟩
    subst he
    go_wp2_with fail
    refine (HR.out _).mono ?_
    rintro e w4 ⟨rfl, b4⟩
    have b04 := b02.trans (b4.mono b02.size)
    go_wp2_with fail
    refine (rcap_any _ _).mono ?_
    rintro e w' ⟨rfl, rfl⟩
    go_wp2_with fail
    refine (lawIs_nil _ _).mono ?_
    rintro e w' ⟨rfl, rfl⟩
    go_wp2_with fail
    refine (HD.out _ (ht.below b04)).mono ?_
    rintro e w5 ⟨rfl, b5⟩
    go_wp2_with fail
    go_ret
    exact ⟨rfl, b04.trans (b5.mono b04.size)⟩
  · subst he
    have hc0 : code ≠ 0 := hcode
    have b3 : Below w'.heap.size w' w3 := by rw [hw]; exact below_alloc _ _
    have c3 : ChainAt w3 (.fault w'.heap.size code at_) [] (.iface 36 (.pointer (some ⟨w'.heap.size, 0, none⟩))) := by rw [hw]; exact new_chain _ _ _
    have b03 := b02.trans (b3.mono b02.size)
    have C3 := Lib.hid c3
    have HC := Lib.hid hc0
    clear hw c3 hcode hc0
    go_wp2_with fail
    refine (HZ.out _).mono ?_
    rintro e w'' ⟨he, rfl⟩
    subst he
    go_wp2_with fail
    refine (HR.out _).mono ?_
    rintro e w4 ⟨rfl, b4⟩
    have b04 := b03.trans (b4.mono b03.size)
    go_wp2_with fail
    refine (rcap_any _ _).mono ?_
    rintro e w'' ⟨rfl, rfl⟩
    go_wp2_with fail
    refine (lawIs_fault _ code at_ HC.out _ _ (C3.out.keep b4) (hg.below b04)).mono ?_
    rintro e w5 ⟨rfl, b5⟩
    go_wp2_with fail
    go_ret
    exact ⟨rfl, b04.trans (b5.mono b04.size)⟩

theorem amtTexts_any (a : Int) (ha : 0 ≤ a) (s : ByteArray) (w : World) (hg : Handle w) (ht : Tab w) :
    Calls Tryd.prog 10 #[.int .u64 a, .string s] w fun e w' => e = .returned (.bool true) ∧ Below w.heap.size w w' := by
  by_cases h : 200 < s.size
  · exact amtTexts_far a s w hg h
  · exact amtTexts_near a ha s w hg ht (by omega)
end Go.Proofs.YtcjmmiimkedeoaaDoor
