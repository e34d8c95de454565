/-
  amount.Parse and its reference, by contracts: of a text of digits alone, without noughts ahead and not too great, its number; else the error that the document tells, at its place; and chapter 2's example.
-/
import Derived.Test.YtajmlkephefapaaGreatDoorAmt
import Derived.Test.YtajmlkephefapaaGreatDoorAwake
namespace Go.Proofs.YtajmlkephefapaaGreatDoor
open Go.RowKit Go.Extern.Stop Go.Stop Go.Extern

/-! ### Plain texts of digits -/
def isD (c : UInt8) : Bool := 48 ≤ c.toNat && c.toNat ≤ 57
/-- Where the first byte stands that is no digit; the length, where there is none. -/
def firstBad (l : List UInt8) : Nat := l.findIdx fun c => !isD c
def valI (l : List UInt8) : Int := l.foldl (fun n c => n * 10 + ((c.toNat : Int) - 48)) 0
/-- The document's answer: the amount, the error's number, its place. -/
def parseR (l : List UInt8) : Int × Int × Int :=
  if l = [] then (0, 3, 0) else if firstBad l < l.length then (0, 4, firstBad l) else if 1 < l.length ∧ l.head? = some 48 then (0, 4, 0) else if most < valI l then (0, 7, 0) else (valI l, 0, 0)

theorem valI_snoc (l : List UInt8) (c : UInt8) : valI (l ++ [c]) = valI l * 10 + ((c.toNat : Int) - 48) := by simp [valI]
theorem take_snoc (s : ByteArray) (k : Nat) (h : k < s.size) : s.data.toList.take (k + 1) = s.data.toList.take k ++ [s[k]] := by
  rw [List.take_succ_eq_append_getElem (by simpa using h)]; rfl
theorem isD_iff (c : UInt8) : isD c = true ↔ 48 ≤ (c.toNat : Int) ∧ (c.toNat : Int) ≤ 57 := by simp [isD]; omega
theorem firstBad_all (l : List UInt8) (h : ∀ c ∈ l, isD c = true) : firstBad l = l.length := List.findIdx_eq_length.2 (fun c hc => by simp [h c hc])
theorem firstBad_at (l : List UInt8) (k : Nat) (hk : k < l.length) (h : ∀ i (hi : i < k), isD (l[i]'(by omega)) = true) (hb : isD l[k] = false) : firstBad l = k :=
  (List.findIdx_eq hk).2 ⟨by simp [hb], fun i hi => by simp [h i hi]⟩
theorem all_of_firstBad (l : List UInt8) (h : ¬ firstBad l < l.length) : ∀ c ∈ l, isD c = true := by
  have e : firstBad l = l.length := Nat.le_antisymm List.findIdx_le_length (Nat.le_of_not_lt h)
  intro c hc
  have := List.findIdx_eq_length.1 e c hc
  simpa using this

theorem valI_nonneg (l : List UInt8) (h : ∀ c ∈ l, isD c = true) : 0 ≤ valI l := by
  have : ∀ (l : List UInt8) (n : Int), 0 ≤ n → (∀ c ∈ l, isD c = true) → 0 ≤ l.foldl (fun n c => n * 10 + ((c.toNat : Int) - 48)) n := by
    intro l
    induction l with
    | nil => intro n hn _; exact hn
    | cons c l ih =>
      intro n hn hl
      have hc := (isD_iff c).1 (hl c (by simp))
      exact ih _ (show 0 ≤ n * 10 + ((c.toNat : Int) - 48) by omega) (fun x hx => hl x (by simp [hx]))
  exact this l 0 (by omega) h
theorem valI_grow (l r : List UInt8) (hl : ∀ c ∈ l ++ r, isD c = true) : valI l ≤ valI (l ++ r) := by
  induction r generalizing l with
  | nil => simp
  | cons c r ih =>
    have e : l ++ c :: r = (l ++ [c]) ++ r := by simp
    have h1 := ih (l ++ [c]) (by rw [← e]; exact hl)
    rw [← e] at h1
    have h2 := valI_snoc l c
    have h3 := valI_nonneg l (fun x hx => hl x (by simp [hx]))
    have hc := (isD_iff c).1 (hl c (by simp))
    omega
theorem valI_take_le (l : List UInt8) (hl : ∀ c ∈ l, isD c = true) (k : Nat) : valI (l.take k) ≤ valI l := by
  have := valI_grow (l.take k) (l.drop k) (by rw [List.take_append_drop]; exact hl)
  rwa [List.take_append_drop] at this
theorem valI_lt (l : List UInt8) (hl : ∀ c ∈ l, isD c = true) : valI l < 10 ^ l.length := by
  have : ∀ (n : Nat) (l : List UInt8), l.length = n → (∀ c ∈ l, isD c = true) → valI l < 10 ^ n := by
    intro n
    induction n with
    | zero => intro l h _; rw [List.eq_nil_of_length_eq_zero h]; simp [valI]
    | succ n ih =>
      intro l h hl
      obtain ⟨r, c, rfl⟩ : ∃ r c, l = r ++ [c] := ⟨l.dropLast, l.getLast (by intro e; rw [e] at h; simp at h), (List.dropLast_concat_getLast _).symm⟩
      have h1 := ih r (by simpa using h) (fun x hx => hl x (by simp [hx]))
      have hc := (isD_iff c).1 (hl c (by simp))
      rw [valI_snoc, Int.pow_succ]
      omega
  exact this _ l rfl hl
theorem valI_ge (c : UInt8) (l : List UInt8) (hl : ∀ x ∈ c :: l, isD x = true) (hc : c ≠ 48) : (10 : Int) ^ l.length ≤ valI (c :: l) := by
  have : ∀ (n : Nat) (l : List UInt8), l.length = n → (∀ x ∈ c :: l, isD x = true) → (10 : Int) ^ n ≤ valI (c :: l) := by
    intro n
    induction n with
    | zero =>
      intro l h hl
      rw [List.eq_nil_of_length_eq_zero h]
      have h1 := (isD_iff c).1 (hl c (by simp))
      have h2 : c.toNat ≠ 48 := fun e => hc (UInt8.toNat_inj.1 e)
      simp [valI]
      omega
    | succ n ih =>
      intro l h hl
      obtain ⟨r, x, rfl⟩ : ∃ r x, l = r ++ [x] := ⟨l.dropLast, l.getLast (by intro e; rw [e] at h; simp at h), (List.dropLast_concat_getLast _).symm⟩
      have h1 := ih r (by simpa using h) (fun y hy => hl y (by simp at hy ⊢; rcases hy with hy | hy <;> simp [hy]))
      have hx := (isD_iff x).1 (hl x (by simp))
      have e : c :: (r ++ [x]) = (c :: r) ++ [x] := by simp
      rw [e, valI_snoc, Int.pow_succ]
      omega
  exact this _ l rfl hl

/-! ### digitsAhead, value -/
set_option maxHeartbeats 1000000 in
theorem digits_any (s : ByteArray) (w : World) (hs : s.size ≤ maxLen) :
    Calls Tryz.prog 116 #[.string s] w fun e w' => e = .returned (.int .i64 (firstBad s.data.toList)) ∧ w' = w := by
  unfold maxLen at hs
  have H0 : Hid (∀ i (hi : i < 0), isD (s.data.toList[i]'(by omega)) = true) := fun i hi => by omega
  go_enter Tryz.func116, Tryz.ntmps116
  go_wp2
  go_loop [6] (fun i => ∃ k : Nat, k ≤ s.size ∧ i = .int .i64 k ∧ ∀ j (hj : j < k) (hj' : j < s.data.toList.length), isD s.data.toList[j] = true) (fun i => s.size - (intOf i).toNat)
  case atStart => exact ⟨0, Nat.zero_le _, rfl, fun j hj => by omega⟩
  case round =>
    obtain ⟨k, hk, rfl, hall⟩ := hrel
    have HA := Lib.hid hall
    clear hall
    by_cases hlt : k < s.size
    · have hl : k < s.data.toList.length := by simpa using hlt
      by_cases hd : isD s[k] = true
      · obtain ⟨d1, d2⟩ := (isD_iff _).1 hd
        have HD := Lib.hid hd
        clear hd
        go_wp2
        go_round
        case rel =>
          refine ⟨k + 1, by omega, by go_num, fun j hj hj' => ?_⟩
          by_cases e : j < k
          · exact HA.out j e hj'
          · obtain rfl : j = k := by omega
            exact HD.out
        case measure => simp [intOf]; omega
      · have hd' : isD s[k] = false := by simpa using hd
        have HF := Lib.hid (firstBad_at s.data.toList k hl (fun i hi => HA.out i hi (by omega)) hd')
        have hn : ¬ (48 ≤ (s[k].toNat : Int) ∧ (s[k].toNat : Int) ≤ 57) := fun h => hd ((isD_iff _).2 h)
        clear hd hd'
        by_cases h1 : (s[k].toNat : Int) < 48
        · clear hn
          go_wp2
          go_ret
          exact ⟨ret_u (by rw [HF.out]), rfl⟩
        · have h2 : 57 < (s[k].toNat : Int) := by omega
          clear hn
          go_wp2
          go_ret
          exact ⟨ret_u (by rw [HF.out]), rfl⟩
    · have HF := Lib.hid (firstBad_all s.data.toList (fun c hc => by
        obtain ⟨j, hj, rfl⟩ := List.mem_iff_getElem.1 hc
        exact HA.out j (by simp at hj; omega) hj))
      go_wp2
      go_ret
      exact ⟨ret_u (by rw [HF.out]; simp), rfl⟩

theorem valI_bd (l : List UInt8) (hl : ∀ c ∈ l, isD c = true) (k : Nat) (hk : k ≤ 18) : 0 ≤ valI (l.take k) ∧ valI (l.take k) ≤ 999999999999999999 := by
  have h1 : ∀ c ∈ l.take k, isD c = true := fun c hc => hl c (List.mem_of_mem_take hc)
  refine ⟨valI_nonneg _ h1, ?_⟩
  have h2 := valI_lt _ h1
  have h3 : (l.take k).length ≤ 18 := by simp; omega
  have h4 : (10 : Int) ^ (l.take k).length ≤ 10 ^ 18 := by
    have := Nat.pow_le_pow_right (show 0 < 10 by decide) h3
    exact_mod_cast this
  have h5 : (10 : Int) ^ 18 = 1000000000000000000 := by decide
  omega

set_option maxHeartbeats 1000000 in
theorem value_any (s : ByteArray) (w : World) (hs : s.size ≤ 19) (hd : ∀ c ∈ s.data.toList, isD c = true) :
    Calls Tryz.prog 117 #[.string s] w fun e w' => e = .returned (.int .u64 (valI s.data.toList)) ∧ w' = w := by
  have HD := Lib.hid hd
  clear hd
  go_enter Tryz.func117, Tryz.ntmps117
  go_wp2
  go_loop [3, 7] (fun n i => ∃ k : Nat, k ≤ s.size ∧ i = .int .i64 k ∧ n = .int .u64 (valI (s.data.toList.take k))) (fun _ i => s.size - (intOf i).toNat)
  case atStart => exact ⟨0, Nat.zero_le _, rfl, rfl⟩
  case round =>
    obtain ⟨k, hk, rfl, rfl⟩ := hrel
    by_cases hlt : k < s.size
    · obtain ⟨v1, v2⟩ := valI_bd s.data.toList HD.out k (by omega)
      have hmem : s[k] ∈ s.data.toList := by
        have := List.getElem_mem (l := s.data.toList) (n := k) (by simpa using hlt)
        exact this
      obtain ⟨d1, d2⟩ := (isD_iff _).1 (HD.out _ hmem)
      have HS : Hid (valI (s.data.toList.take (k + 1)) = valI (s.data.toList.take k) * 10 + ((s[k].toNat : Int) - 48)) := by rw [take_snoc s k hlt]; exact valI_snoc _ _
      clear hmem
      generalize valI (s.data.toList.take k) = n at *
      go_wp2
      go_round
      case rel => exact ⟨k + 1, by omega, by go_num, by rw [HS.out]⟩
      case measure => simp [intOf]; omega
    · obtain rfl : k = s.size := by omega
      have HF : Hid (s.data.toList.take s.size = s.data.toList) := List.take_of_length_le (by simp)
      go_wp2
      go_ret
      exact ⟨ret_u (by first | rw [HF.out] | simp), rfl⟩

/-! ### Parse -/
/-- How an answer of amount.Parse looks: the amount and no error, or a fault in a new block. -/
def ParseOut (w : World) (r : Int × Int × Int) (e : Ending) (w' : World) : Prop :=
  (r.2.1 = 0 ∧ e = .returned (.tuple #[.int .u64 r.1, .nilIface]) ∧ w' = w) ∨
  (r.2.1 ≠ 0 ∧ e = .returned (.tuple #[.int .u64 r.1, .iface 100 (.pointer (some ⟨w.heap.size, 0, none⟩))]) ∧ w' = w.alloc (.cells #[.int .i64 r.2.1, .int .i64 r.2.2] 102))

theorem head_get (s : ByteArray) (h : 0 < s.size) : s.data.toList.head? = some s[0] := by
  rw [List.head?_eq_getElem?]
  rw [List.getElem?_eq_getElem (by simpa using h)]
  rfl

theorem long_most (l : List UInt8) (hl : ∀ x ∈ l, isD x = true) (h : 19 < l.length) (h0 : l.head? ≠ some 48) : most < valI l := by
  cases l with
  | nil => simp at h
  | cons c l =>
    have h1 := valI_ge c l hl (fun e => h0 (by rw [e]; rfl))
    have h2 : (10 : Int) ^ 19 ≤ 10 ^ l.length := by
      have := Nat.pow_le_pow_right (show 0 < 10 by decide) (show 19 ≤ l.length by simp at h; omega)
      exact_mod_cast this
    have h3 : (10 : Int) ^ 19 = 10000000000000000000 := by decide
    unfold most
    omega


set_option maxRecDepth 100000 in
set_option maxHeartbeats 1600000 in
theorem parse_empty (s : ByteArray) (w : World) (hs : s.size ≤ maxLen) (h0 : s.size = 0) :
    Calls Tryz.prog 89 #[.string s] w (ParseOut w (parseR s.data.toList)) := by
  have hl : s.data.toList = [] := List.eq_nil_of_length_eq_zero (by simpa using h0)
  have HR := Lib.hid (show parseR s.data.toList = (0, 3, 0) by unfold parseR; rw [if_pos hl])
  have hb : s.toList = [] := by rw [Go.ByteArray.toList_eq, hl]
  clear hl
  go_enter Tryz.func89, Tryz.ntmps89
  go_wp2_with (first
      | (go_at_call 116; refine (digits_any s _ (by assumption)).mono ?_; rintro e w' ⟨rfl, rfl⟩)
      | (go_at_call 30; refine (new_any _ _ (by decide) _).mono ?_; rintro e w' ⟨rfl, rfl⟩))
  go_ret2
  rw [HR.out]
  exact .inr ⟨by decide, rfl, rfl⟩

theorem open_facts (s : ByteArray) (h0 : s.size ≠ 0) : s.data.toList ≠ [] ∧ s.toList.isEmpty = false ∧ (s.toList == []) = false := by
  have h : s.data.toList ≠ [] := fun e => h0 (by simpa using congrArg List.length e)
  rw [Go.ByteArray.toList_eq]
  exact ⟨h, by simpa using h, by simpa using h⟩

set_option maxRecDepth 100000 in
set_option maxHeartbeats 1600000 in
theorem parse_bad (s : ByteArray) (w : World) (hs : s.size ≤ maxLen) (h0 : s.size ≠ 0) (h1 : firstBad s.data.toList < s.size) :
    Calls Tryz.prog 89 #[.string s] w (ParseOut w (parseR s.data.toList)) := by
  obtain ⟨hl, hb, hb2⟩ := open_facts s h0
  have HR := Lib.hid (show parseR s.data.toList = (0, 4, (firstBad s.data.toList : Int)) by unfold parseR; rw [if_neg hl, if_pos (by simpa using h1)])
  clear hl
  go_enter Tryz.func89, Tryz.ntmps89
  go_wp2_with (first
      | (go_at_call 116; refine (digits_any s _ (by assumption)).mono ?_; rintro e w' ⟨rfl, rfl⟩)
      | (go_at_call 30; refine (new_any _ _ (by decide) _).mono ?_; rintro e w' ⟨rfl, rfl⟩))
  go_ret2
  rw [HR.out]
  exact .inr ⟨(by decide : (4 : Int) ≠ 0), rfl, rfl⟩

set_option maxRecDepth 100000 in
set_option maxHeartbeats 1600000 in
theorem parse_nought (s : ByteArray) (w : World) (hs : s.size ≤ maxLen) (h0 : s.size ≠ 0) (h1 : ¬ firstBad s.data.toList < s.size) (h2 : 1 < s.size) (h3 : s.data.toList.head? = some 48) :
    Calls Tryz.prog 89 #[.string s] w (ParseOut w (parseR s.data.toList)) := by
  obtain ⟨hl, hb, hb2⟩ := open_facts s h0
  have HR := Lib.hid (show parseR s.data.toList = (0, 4, 0) by unfold parseR; rw [if_neg hl, if_neg (by simpa using h1), if_pos ⟨by simpa using h2, h3⟩])
  have hp : 0 < s.size := by omega
  have h48 : s[0] = 48 := by rw [head_get s hp] at h3; exact Option.some.inj h3
  have hc : ((s[0].toNat : Int) == 48) = true := by rw [h48]; rfl
  clear hl h3 h48
  go_enter Tryz.func89, Tryz.ntmps89
  go_wp2_with (first
      | (go_at_call 116; refine (digits_any s _ (by assumption)).mono ?_; rintro e w' ⟨rfl, rfl⟩)
      | (go_at_call 30; refine (new_any _ _ (by decide) _).mono ?_; rintro e w' ⟨rfl, rfl⟩))
  go_ret2
  rw [HR.out]
  exact .inr ⟨by decide, rfl, rfl⟩

/-- No nought stands ahead of others. -/
def Plain (s : ByteArray) : Prop := ¬ (1 < s.size ∧ s.data.toList.head? = some 48)
theorem Plain.cases {s : ByteArray} (h : Plain s) : (∃ hp : 0 < s.size, ((s[0].toNat : Int) == 48) = false) ∨ ¬ 1 < s.size := by
  by_cases h1 : 1 < s.size
  · refine .inl ⟨by omega, ?_⟩
    rw [beq_eq_false_iff_ne]
    intro e
    refine h ⟨h1, ?_⟩
    rw [head_get s (by omega)]
    congr 1
    exact UInt8.toNat_inj.1 (show s[0].toNat = 48 by omega)
  · exact .inr h1

set_option maxRecDepth 100000 in
set_option maxHeartbeats 1600000 in
theorem parse_long (s : ByteArray) (w : World) (hs : s.size ≤ maxLen) (h0 : s.size ≠ 0) (h1 : ¬ firstBad s.data.toList < s.size) (h2 : Plain s) (h3 : 19 < s.size) :
    Calls Tryz.prog 89 #[.string s] w (ParseOut w (parseR s.data.toList)) := by
  obtain ⟨hl, hb, hb2⟩ := open_facts s h0
  have hd := all_of_firstBad s.data.toList (by simpa using h1)
  have hm := long_most s.data.toList hd (by simpa using h3) (fun e => h2 ⟨by omega, e⟩)
  have HR := Lib.hid (show parseR s.data.toList = (0, 7, 0) by unfold parseR; rw [if_neg hl, if_neg (by simpa using h1), if_neg (by simpa [Plain] using h2), if_pos hm])
  rcases h2.cases with ⟨hp, hc⟩ | h
  · clear hl hm hd h2
    go_enter Tryz.func89, Tryz.ntmps89
    go_wp2_with (first
      | (go_at_call 116; refine (digits_any s _ (by assumption)).mono ?_; rintro e w' ⟨rfl, rfl⟩)
      | (go_at_call 30; refine (new_any _ _ (by decide) _).mono ?_; rintro e w' ⟨rfl, rfl⟩))
    go_ret2
    rw [HR.out]
    exact .inr ⟨by decide, rfl, rfl⟩
  · omega

set_option maxRecDepth 100000 in
set_option maxHeartbeats 1600000 in
theorem parse_num (s : ByteArray) (w : World) (hs : s.size ≤ maxLen) (h0 : s.size ≠ 0) (h1 : ¬ firstBad s.data.toList < s.size) (h2 : Plain s) (h3 : s.size ≤ 19) :
    Calls Tryz.prog 89 #[.string s] w (ParseOut w (parseR s.data.toList)) := by
  obtain ⟨hl, hb, hb2⟩ := open_facts s h0
  have hd := all_of_firstBad s.data.toList (by simpa using h1)
  have HV := Lib.hid (fun w => value_any s w h3 hd)
  have h19 : ¬ (19 : Int) < s.size := by omega
  have hRR : parseR s.data.toList = if most < valI s.data.toList then (0, 7, 0) else (valI s.data.toList, 0, 0) := by
    unfold parseR; rw [if_neg hl, if_neg (by simpa using h1), if_neg (by simpa [Plain] using h2)]
  have hcs := h2.cases
  by_cases hm : 9223372036854775807 < valI s.data.toList
  · have HR := Lib.hid (show parseR s.data.toList = (0, 7, 0) by rw [hRR, if_pos (show most < _ from hm)])
    clear hRR hl hd h2
    generalize valI s.data.toList = n at *
    rcases hcs with ⟨hp, hc⟩ | h
    all_goals
      go_enter Tryz.func89, Tryz.ntmps89
      go_wp2_with (first
      | (go_at_call 117; refine (HV.out _).mono ?_; rintro e w' ⟨rfl, rfl⟩)
      | (go_at_call 116; refine (digits_any s _ (by assumption)).mono ?_; rintro e w' ⟨rfl, rfl⟩)
      | (go_at_call 30; refine (new_any _ _ (by decide) _).mono ?_; rintro e w' ⟨rfl, rfl⟩))
      all_goals
        go_ret2
        rw [HR.out]
        exact .inr ⟨by decide, rfl, rfl⟩
  · have HR := Lib.hid (show parseR s.data.toList = (valI s.data.toList, 0, 0) by rw [hRR, if_neg (show ¬ most < _ from hm)])
    clear hRR hl hd h2
    generalize valI s.data.toList = n at *
    rcases hcs with ⟨hp, hc⟩ | h
    all_goals
      go_enter Tryz.func89, Tryz.ntmps89
      go_wp2_with (first
      | (go_at_call 117; refine (HV.out _).mono ?_; rintro e w' ⟨rfl, rfl⟩)
      | (go_at_call 116; refine (digits_any s _ (by assumption)).mono ?_; rintro e w' ⟨rfl, rfl⟩)
      | (go_at_call 30; refine (new_any _ _ (by decide) _).mono ?_; rintro e w' ⟨rfl, rfl⟩))
      all_goals first
        | (exfalso; omega)
        | (go_ret2; rw [HR.out]; exact .inl ⟨rfl, rfl, rfl⟩)

theorem parse_any (s : ByteArray) (w : World) (hs : s.size ≤ maxLen) :
    Calls Tryz.prog 89 #[.string s] w (ParseOut w (parseR s.data.toList)) := by
  by_cases h0 : s.size = 0
  · exact parse_empty s w hs h0
  · by_cases h1 : firstBad s.data.toList < s.size
    · exact parse_bad s w hs h0 h1
    · by_cases h2 : 1 < s.size ∧ s.data.toList.head? = some 48
      · exact parse_nought s w hs h0 h1 h2.1 h2.2
      · by_cases h3 : 19 < s.size
        · exact parse_long s w hs h0 h1 h2 h3
        · exact parse_num s w hs h0 h1 h2 (by omega)
end Go.Proofs.YtajmlkephefapaaGreatDoor
