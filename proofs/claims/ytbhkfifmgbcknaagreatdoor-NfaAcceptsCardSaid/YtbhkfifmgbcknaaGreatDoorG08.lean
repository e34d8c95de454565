/-
  A part of the proof of the statement NfaAccepts.
-/
import Derived.Test.YtbhkfifmgbcknaaGreatDoorG05
import Derived.Test.YtbhkfifmgbcknaaGreatDoorG07
import Derived.Calls
import Derived.Below
import Derived.Test.YtbhkfifmgbcknaaGreatDoorG04
set_option linter.unusedSimpArgs false
set_option linter.unusedVariables false
namespace Go.Proofs.YtbhkfifmgbcknaaGreatDoor
open Go.RowKit Go.Extern.Stop Go.Stop Go.Extern
def isD (c : UInt8) : Bool := 48 ≤ c.toNat && c.toNat ≤ 57
def firstBad (l : List UInt8) : Nat := l.findIdx fun c => !isD c
def valI (l : List UInt8) : Int := l.foldl (fun n c => n * 10 + ((c.toNat : Int) - 48)) 0
def parseR (l : List UInt8) : Int × Int × Int :=
  if l = [] then (0, 3, 0) else if firstBad l < l.length then (0, 4, firstBad l) else if 1 < l.length ∧ l.head? = some 48 then (0, 4, 0) else if most < valI l then (0, 7, 0) else (valI l, 0, 0)
theorem valI_snoc (l : List UInt8) (c : UInt8) : valI (l ++ [c]) = valI l * 10 + ((c.toNat : Int) - 48) := by simp [valI]
theorem take_snoc (s : ByteArray) (k : Nat) (h : k < s.size) : s.data.toList.take (k + 1) = s.data.toList.take k ++ [s[k]] := by
  rw [List.take_succ_eq_append_getElem (by simpa using h)]; rfl
theorem isD_iff (c : UInt8) : isD c = true ↔ 48 ≤ (c.toNat : Int) ∧ (c.toNat : Int) ≤ 57 := by simp [isD]; omega
theorem firstBad_all (l : List UInt8) (h : ∀ c ∈ l, isD c = true) : firstBad l = l.length := List.findIdx_eq_length.2 (fun c hc => by simp [h c hc])
theorem firstBad_at (l : List UInt8) (k : Nat) (hk : k < l.length) (h : ∀ i (hi : i < k), isD (l[i]'(by omega)) = true) (hb : isD l[k] = false) : firstBad l = k :=
  (List.findIdx_eq hk).2 ⟨by simp [hb], fun i hi => by simp [h i hi]⟩
theorem all_of_firstBad (l : List UInt8) (h : ¬ firstBad l < l.length) : ∀ c ∈ l, isD c = true := by
  have e : firstBad l = l.length := Nat.le_antisymm List.findIdx_le_length (Nat.le_of_not_lt h)
  intro c hc
  have := List.findIdx_eq_length.1 e c hc
  simpa using this
theorem valI_nonneg (l : List UInt8) (h : ∀ c ∈ l, isD c = true) : 0 ≤ valI l := by
  have : ∀ (l : List UInt8) (n : Int), 0 ≤ n → (∀ c ∈ l, isD c = true) → 0 ≤ l.foldl (fun n c => n * 10 + ((c.toNat : Int) - 48)) n := by
    intro l
    induction l with
    | nil => intro n hn _; exact hn
    | cons c l ih =>
      intro n hn hl
      have hc := (isD_iff c).1 (hl c (by simp))
      exact ih _ (show 0 ≤ n * 10 + ((c.toNat : Int) - 48) by omega) (fun x hx => hl x (by simp [hx]))
  exact this l 0 (by omega) h
theorem valI_lt (l : List UInt8) (hl : ∀ c ∈ l, isD c = true) : valI l < 10 ^ l.length := by
  have : ∀ (n : Nat) (l : List UInt8), l.length = n → (∀ c ∈ l, isD c = true) → valI l < 10 ^ n := by
    intro n
    induction n with
    | zero => intro l h _; rw [List.eq_nil_of_length_eq_zero h]; simp [valI]
    | succ n ih =>
      intro l h hl
      obtain ⟨r, c, rfl⟩ : ∃ r c, l = r ++ [c] := ⟨l.dropLast, l.getLast (by intro e; rw [e] at h; simp at h), (List.dropLast_concat_getLast _).symm⟩
      have h1 := ih r (by simpa using h) (fun x hx => hl x (by simp [hx]))
      have hc := (isD_iff c).1 (hl c (by simp))
      rw [valI_snoc, Int.pow_succ]
      omega
  exact this _ l rfl hl
theorem valI_ge (c : UInt8) (l : List UInt8) (hl : ∀ x ∈ c :: l, isD x = true) (hc : c ≠ 48) : (10 : Int) ^ l.length ≤ valI (c :: l) := by
  have : ∀ (n : Nat) (l : List UInt8), l.length = n → (∀ x ∈ c :: l, isD x = true) → (10 : Int) ^ n ≤ valI (c :: l) := by
    intro n
    induction n with
    | zero =>
      intro l h hl
      rw [List.eq_nil_of_length_eq_zero h]
      have h1 := (isD_iff c).1 (hl c (by simp))
      have h2 : c.toNat ≠ 48 := fun e => hc (UInt8.toNat_inj.1 e)
      simp [valI]
      omega
    | succ n ih =>
      intro l h hl
      obtain ⟨r, x, rfl⟩ : ∃ r x, l = r ++ [x] := ⟨l.dropLast, l.getLast (by intro e; rw [e] at h; simp at h), (List.dropLast_concat_getLast _).symm⟩
      have h1 := ih r (by simpa using h) (fun y hy => hl y (by simp at hy ⊢; rcases hy with hy | hy <;> simp [hy]))
      have hx := (isD_iff x).1 (hl x (by simp))
      have e : c :: (r ++ [x]) = (c :: r) ++ [x] := by simp
      rw [e, valI_snoc, Int.pow_succ]
      omega
  exact this _ l rfl hl
set_option maxHeartbeats 1000000 in
theorem digits_any (s : ByteArray) (w : World) (hs : s.size ≤ maxLen) :
    Calls Tryz.prog 204 #[.string s] w fun e w' => e = .returned (.int .i64 (firstBad s.data.toList)) ∧ w' = w := by
  unfold maxLen at hs
  have H0 : Hid (∀ i (hi : i < 0), isD (s.data.toList[i]'(by omega)) = true) := fun i hi => by omega
  go_enter Tryz.func204, Tryz.ntmps204
  go_wp2
  go_loop [6] (fun i => ∃ k : Nat, k ≤ s.size ∧ i = .int .i64 k ∧ ∀ j (hj : j < k) (hj' : j < s.data.toList.length), isD s.data.toList[j] = true) (fun i => s.size - (intOf i).toNat)
  case atStart => exact ⟨0, Nat.zero_le _, rfl, fun j hj => by omega⟩
  case round =>
    obtain ⟨k, hk, rfl, hall⟩ := hrel
    have HA := Lib.hid hall
    clear hall
    by_cases hlt : k < s.size
    · have hl : k < s.data.toList.length := by simpa using hlt
      by_cases hd : isD s[k] = true
      · obtain ⟨d1, d2⟩ := (isD_iff _).1 hd
        have HD := Lib.hid hd
        clear hd
        go_wp2
        go_round
        case rel =>
          refine ⟨k + 1, by omega, by go_num, fun j hj hj' => ?_⟩
          by_cases e : j < k
          · exact HA.out j e hj'
          · obtain rfl : j = k := by omega
            exact HD.out
        case measure => simp [intOf]; omega
      · have hd' : isD s[k] = false := by simpa using hd
        have HF := Lib.hid (firstBad_at s.data.toList k hl (fun i hi => HA.out i hi (by omega)) hd')
        have hn : ¬ (48 ≤ (s[k].toNat : Int) ∧ (s[k].toNat : Int) ≤ 57) := fun h => hd ((isD_iff _).2 h)
        clear hd hd'
        by_cases h1 : (s[k].toNat : Int) < 48
        · clear hn
          go_wp2
          go_ret
          exact ⟨ret_u (by rw [HF.out]), rfl⟩
        · have h2 : 57 < (s[k].toNat : Int) := by omega
          clear hn
          go_wp2
          go_ret
          exact ⟨ret_u (by rw [HF.out]), rfl⟩
    · have HF := Lib.hid (firstBad_all s.data.toList (fun c hc => by
        obtain ⟨j, hj, rfl⟩ := List.mem_iff_getElem.1 hc
        exact HA.out j (by simp at hj; omega) hj))
      go_wp2
      go_ret
      exact ⟨ret_u (by rw [HF.out]; simp), rfl⟩
theorem valI_bd (l : List UInt8) (hl : ∀ c ∈ l, isD c = true) (k : Nat) (hk : k ≤ 18) : 0 ≤ valI (l.take k) ∧ valI (l.take k) ≤ 999999999999999999 := by
  have h1 : ∀ c ∈ l.take k, isD c = true := fun c hc => hl c (List.mem_of_mem_take hc)
  refine ⟨valI_nonneg _ h1, ?_⟩
  have h2 := valI_lt _ h1
  have h3 : (l.take k).length ≤ 18 := by simp; omega
  have h4 : (10 : Int) ^ (l.take k).length ≤ 10 ^ 18 := by
    have := Nat.pow_le_pow_right (show 0 < 10 by decide) h3
    exact_mod_cast this
  have h5 : (10 : Int) ^ 18 = 1000000000000000000 := by decide
  omega
set_option maxHeartbeats 1000000 in
theorem value_any (s : ByteArray) (w : World) (hs : s.size ≤ 19) (hd : ∀ c ∈ s.data.toList, isD c = true) :
    Calls Tryz.prog 205 #[.string s] w fun e w' => e = .returned (.int .u64 (valI s.data.toList)) ∧ w' = w := by
  have HD := Lib.hid hd
  clear hd
  go_enter Tryz.func205, Tryz.ntmps205
  go_wp2
  go_loop [3, 7] (fun n i => ∃ k : Nat, k ≤ s.size ∧ i = .int .i64 k ∧ n = .int .u64 (valI (s.data.toList.take k))) (fun _ i => s.size - (intOf i).toNat)
  case atStart => exact ⟨0, Nat.zero_le _, rfl, rfl⟩
  case round =>
    obtain ⟨k, hk, rfl, rfl⟩ := hrel
    by_cases hlt : k < s.size
    · obtain ⟨v1, v2⟩ := valI_bd s.data.toList HD.out k (by omega)
      have hmem : s[k] ∈ s.data.toList := by
        have := List.getElem_mem (l := s.data.toList) (n := k) (by simpa using hlt)
        exact this
      obtain ⟨d1, d2⟩ := (isD_iff _).1 (HD.out _ hmem)
      have HS : Hid (valI (s.data.toList.take (k + 1)) = valI (s.data.toList.take k) * 10 + ((s[k].toNat : Int) - 48)) := by rw [take_snoc s k hlt]; exact valI_snoc _ _
      clear hmem
      generalize valI (s.data.toList.take k) = n at *
      go_wp2
      go_round
      case rel => exact ⟨k + 1, by omega, by go_num, by rw [HS.out]⟩
      case measure => simp [intOf]; omega
    · obtain rfl : k = s.size := by omega
      have HF : Hid (s.data.toList.take s.size = s.data.toList) := List.take_of_length_le (by simp)
      go_wp2
      go_ret
      exact ⟨ret_u (by first | rw [HF.out] | simp), rfl⟩
def ParseOut (w : World) (r : Int × Int × Int) (e : Ending) (w' : World) : Prop :=
  (r.2.1 = 0 ∧ e = .returned (.tuple #[.int .u64 r.1, .nilIface]) ∧ w' = w) ∨
  (r.2.1 ≠ 0 ∧ e = .returned (.tuple #[.int .u64 r.1, .iface 154 (.pointer (some ⟨w.heap.size, 0, none⟩))]) ∧ w' = w.alloc (.cells #[.int .i64 r.2.1, .int .i64 r.2.2] 156))
theorem head_get (s : ByteArray) (h : 0 < s.size) : s.data.toList.head? = some s[0] := by
  rw [List.head?_eq_getElem?]
  rw [List.getElem?_eq_getElem (by simpa using h)]
  rfl
theorem long_most (l : List UInt8) (hl : ∀ x ∈ l, isD x = true) (h : 19 < l.length) (h0 : l.head? ≠ some 48) : most < valI l := by
  cases l with
  | nil => simp at h
  | cons c l =>
    have h1 := valI_ge c l hl (fun e => h0 (by rw [e]; rfl))
    have h2 : (10 : Int) ^ 19 ≤ 10 ^ l.length := by
      have := Nat.pow_le_pow_right (show 0 < 10 by decide) (show 19 ≤ l.length by simp at h; omega)
      exact_mod_cast this
    have h3 : (10 : Int) ^ 19 = 10000000000000000000 := by decide
    unfold most
    omega
set_option maxRecDepth 100000 in
set_option maxHeartbeats 1600000 in
theorem parse_empty (s : ByteArray) (w : World) (hs : s.size ≤ maxLen) (h0 : s.size = 0) :
    Calls Tryz.prog 147 #[.string s] w (ParseOut w (parseR s.data.toList)) := by
  have hl : s.data.toList = [] := List.eq_nil_of_length_eq_zero (by simpa using h0)
  have HR := Lib.hid (show parseR s.data.toList = (0, 3, 0) by unfold parseR; rw [if_pos hl])
  have hb : s.toList = [] := by rw [Go.ByteArray.toList_eq, hl]
  clear hl
  go_enter Tryz.func147, Tryz.ntmps147
  go_wp2_with (first
      | (go_at_call 204; refine (digits_any s _ (by assumption)).mono ?_; rintro e w' ⟨rfl, rfl⟩)
      | (go_at_call 84; refine (new_any _ _ (by decide) _).mono ?_; rintro e w' ⟨rfl, rfl⟩))
  go_ret2
  rw [HR.out]
  exact .inr ⟨by decide, rfl, rfl⟩
theorem open_facts (s : ByteArray) (h0 : s.size ≠ 0) : s.data.toList ≠ [] ∧ s.toList.isEmpty = false ∧ (s.toList == []) = false := by
  have h : s.data.toList ≠ [] := fun e => h0 (by simpa using congrArg List.length e)
  rw [Go.ByteArray.toList_eq]
  exact ⟨h, by simpa using h, by simpa using h⟩
set_option maxRecDepth 100000 in
set_option maxHeartbeats 1600000 in
theorem parse_bad (s : ByteArray) (w : World) (hs : s.size ≤ maxLen) (h0 : s.size ≠ 0) (h1 : firstBad s.data.toList < s.size) :
    Calls Tryz.prog 147 #[.string s] w (ParseOut w (parseR s.data.toList)) := by
  obtain ⟨hl, hb, hb2⟩ := open_facts s h0
  have HR := Lib.hid (show parseR s.data.toList = (0, 4, (firstBad s.data.toList : Int)) by unfold parseR; rw [if_neg hl, if_pos (by simpa using h1)])
  clear hl
  go_enter Tryz.func147, Tryz.ntmps147
  go_wp2_with (first
      | (go_at_call 204; refine (digits_any s _ (by assumption)).mono ?_; rintro e w' ⟨rfl, rfl⟩)
      | (go_at_call 84; refine (new_any _ _ (by decide) _).mono ?_; rintro e w' ⟨rfl, rfl⟩))
  go_ret2
  rw [HR.out]
  exact .inr ⟨(by decide : (4 : Int) ≠ 0), rfl, rfl⟩
set_option maxRecDepth 100000 in
set_option maxHeartbeats 1600000 in
theorem parse_nought (s : ByteArray) (w : World) (hs : s.size ≤ maxLen) (h0 : s.size ≠ 0) (h1 : ¬ firstBad s.data.toList < s.size) (h2 : 1 < s.size) (h3 : s.data.toList.head? = some 48) :
    Calls Tryz.prog 147 #[.string s] w (ParseOut w (parseR s.data.toList)) := by
  obtain ⟨hl, hb, hb2⟩ := open_facts s h0
  have HR := Lib.hid (show parseR s.data.toList = (0, 4, 0) by unfold parseR; rw [if_neg hl, if_neg (by simpa using h1), if_pos ⟨by simpa using h2, h3⟩])
  have hp : 0 < s.size := by omega
  have h48 : s[0] = 48 := by rw [head_get s hp] at h3; exact Option.some.inj h3
  have hc : ((s[0].toNat : Int) == 48) = true := by rw [h48]; rfl
  clear hl h3 h48
  go_enter Tryz.func147, Tryz.ntmps147
  go_wp2_with (first
      | (go_at_call 204; refine (digits_any s _ (by assumption)).mono ?_; rintro e w' ⟨rfl, rfl⟩)
      | (go_at_call 84; refine (new_any _ _ (by decide) _).mono ?_; rintro e w' ⟨rfl, rfl⟩))
  go_ret2
  rw [HR.out]
  exact .inr ⟨by decide, rfl, rfl⟩
def Plain (s : ByteArray) : Prop := ¬ (1 < s.size ∧ s.data.toList.head? = some 48)
theorem Plain.cases {s : ByteArray} (h : Plain s) : (∃ hp : 0 < s.size, ((s[0].toNat : Int) == 48) = false) ∨ ¬ 1 < s.size := by
  by_cases h1 : 1 < s.size
  · refine .inl ⟨by omega, ?_⟩
    rw [beq_eq_false_iff_ne]
    intro e
    refine h ⟨h1, ?_⟩
    rw [head_get s (by omega)]
    congr 1
    exact UInt8.toNat_inj.1 (show s[0].toNat = 48 by omega)
  · exact .inr h1
set_option maxRecDepth 100000 in
set_option maxHeartbeats 1600000 in
theorem parse_long (s : ByteArray) (w : World) (hs : s.size ≤ maxLen) (h0 : s.size ≠ 0) (h1 : ¬ firstBad s.data.toList < s.size) (h2 : Plain s) (h3 : 19 < s.size) :
    Calls Tryz.prog 147 #[.string s] w (ParseOut w (parseR s.data.toList)) := by
  obtain ⟨hl, hb, hb2⟩ := open_facts s h0
  have hd := all_of_firstBad s.data.toList (by simpa using h1)
  have hm := long_most s.data.toList hd (by simpa using h3) (fun e => h2 ⟨by omega, e⟩)
  have HR := Lib.hid (show parseR s.data.toList = (0, 7, 0) by unfold parseR; rw [if_neg hl, if_neg (by simpa using h1), if_neg (by simpa [Plain] using h2), if_pos hm])
  rcases h2.cases with ⟨hp, hc⟩ | h
  · clear hl hm hd h2
    go_enter Tryz.func147, Tryz.ntmps147
    go_wp2_with (first
      | (go_at_call 204; refine (digits_any s _ (by assumption)).mono ?_; rintro e w' ⟨rfl, rfl⟩)
      | (go_at_call 84; refine (new_any _ _ (by decide) _).mono ?_; rintro e w' ⟨rfl, rfl⟩))
    go_ret2
    rw [HR.out]
    exact .inr ⟨by decide, rfl, rfl⟩
  · omega
set_option maxRecDepth 100000 in
set_option maxHeartbeats 1600000 in
theorem parse_num (s : ByteArray) (w : World) (hs : s.size ≤ maxLen) (h0 : s.size ≠ 0) (h1 : ¬ firstBad s.data.toList < s.size) (h2 : Plain s) (h3 : s.size ≤ 19) :
    Calls Tryz.prog 147 #[.string s] w (ParseOut w (parseR s.data.toList)) := by
  obtain ⟨hl, hb, hb2⟩ := open_facts s h0
  have hd := all_of_firstBad s.data.toList (by simpa using h1)
  have HV := Lib.hid (fun w => value_any s w h3 hd)
  have h19 : ¬ (19 : Int) < s.size := by omega
  have hRR : parseR s.data.toList = if most < valI s.data.toList then (0, 7, 0) else (valI s.data.toList, 0, 0) := by
    unfold parseR; rw [if_neg hl, if_neg (by simpa using h1), if_neg (by simpa [Plain] using h2)]
  have hcs := h2.cases
  by_cases hm : 9223372036854775807 < valI s.data.toList
  · have HR := Lib.hid (show parseR s.data.toList = (0, 7, 0) by rw [hRR, if_pos (show most < _ from hm)])
    clear hRR hl hd h2
    generalize valI s.data.toList = n at *
    rcases hcs with ⟨hp, hc⟩ | h
    all_goals
      go_enter Tryz.func147, Tryz.ntmps147
      go_wp2_with (first
      | (go_at_call 205; refine (HV.out _).mono ?_; rintro e w' ⟨rfl, rfl⟩)
      | (go_at_call 204; refine (digits_any s _ (by assumption)).mono ?_; rintro e w' ⟨rfl, rfl⟩)
      | (go_at_call 84; refine (new_any _ _ (by decide) _).mono ?_; rintro e w' ⟨rfl, rfl⟩))
      all_goals
        go_ret2
        rw [HR.out]
        exact .inr ⟨by decide, rfl, rfl⟩
  · have HR := Lib.hid (show parseR s.data.toList = (valI s.data.toList, 0, 0) by rw [hRR, if_neg (show ¬ most < _ from hm)])
    clear hRR hl hd h2
    generalize valI s.data.toList = n at *
    rcases hcs with ⟨hp, hc⟩ | h
    all_goals
      go_enter Tryz.func147, Tryz.ntmps147
      go_wp2_with (first
      | (go_at_call 205; refine (HV.out _).mono ?_; rintro e w' ⟨rfl, rfl⟩)
      | (go_at_call 204; refine (digits_any s _ (by assumption)).mono ?_; rintro e w' ⟨rfl, rfl⟩)
      | (go_at_call 84; refine (new_any _ _ (by decide) _).mono ?_; rintro e w' ⟨rfl, rfl⟩))
      all_goals first
        | (exfalso; omega)
        | (go_ret2; rw [HR.out]; exact .inl ⟨rfl, rfl, rfl⟩)
theorem parse_any (s : ByteArray) (w : World) (hs : s.size ≤ maxLen) :
    Calls Tryz.prog 147 #[.string s] w (ParseOut w (parseR s.data.toList)) := by
  by_cases h0 : s.size = 0
  · exact parse_empty s w hs h0
  · by_cases h1 : firstBad s.data.toList < s.size
    · exact parse_bad s w hs h0 h1
    · by_cases h2 : 1 < s.size ∧ s.data.toList.head? = some 48
      · exact parse_nought s w hs h0 h1 h2.1 h2.2
      · by_cases h3 : 19 < s.size
        · exact parse_long s w hs h0 h1 h2 h3
        · exact parse_num s w hs h0 h1 h2 (by omega)
end Go.Proofs.YtbhkfifmgbcknaaGreatDoor
namespace Go.Proofs.YtbhkfifmgbcknaaGreatDoor.Ex
open Go
inductive T (α : Type) where
  | leaf
  | node (v : Option α) (l r : T α)
noncomputable def T.get {α : Type} (t : T α) : Nat → Option α :=
  T.rec (motive := fun _ => Nat → Option α) (fun _ => none)
    (fun v _ _ ihl ihr n => Nat.rec (motive := fun _ => Option α) v (fun m _ => Nat.rec (motive := fun _ => Option α) (ihl (Nat.div m 2)) (fun _ _ => ihr (Nat.div m 2)) (Nat.mod m 2)) n) t
noncomputable def T.one {α : Type} (x : α) (f : Nat) : Nat → T α :=
  Nat.rec (motive := fun _ => Nat → T α) (fun _ => .leaf)
    (fun _ ih n => Nat.rec (motive := fun _ => T α) (.node (some x) .leaf .leaf) (fun m _ => Nat.rec (motive := fun _ => T α) (.node none (ih (Nat.div m 2)) .leaf) (fun _ _ => .node none .leaf (ih (Nat.div m 2))) (Nat.mod m 2)) n) f
noncomputable def T.set {α : Type} (x : α) (t : T α) : Nat → T α :=
  T.rec (motive := fun _ => Nat → T α) (fun n => T.one x (Nat.succ n) n)
    (fun v l r ihl ihr n => Nat.rec (motive := fun _ => T α) (.node (some x) l r) (fun m _ => Nat.rec (motive := fun _ => T α) (.node v (ihl (Nat.div m 2)) r) (fun _ _ => .node v l (ihr (Nat.div m 2))) (Nat.mod m 2)) n) t
noncomputable def T.del {α : Type} (t : T α) : Nat → T α :=
  T.rec (motive := fun _ => Nat → T α) (fun _ => .leaf)
    (fun v l r ihl ihr n => Nat.rec (motive := fun _ => T α) (.node none l r) (fun m _ => Nat.rec (motive := fun _ => T α) (.node v (ihl (Nat.div m 2)) r) (fun _ _ => .node v l (ihr (Nat.div m 2))) (Nat.mod m 2)) n) t
theorem div_mod_cases (m : Nat) : (Nat.mod m 2 = 0 ∧ m = 2 * Nat.div m 2) ∨ (∃ k, Nat.mod m 2 = k + 1 ∧ m = 2 * Nat.div m 2 + 1) := by
  have h1 : Nat.mod m 2 = m % 2 := rfl
  have h2 : Nat.div m 2 = m / 2 := rfl
  rw [h1, h2]
  rcases Nat.mod_two_eq_zero_or_one m with h | h
  · exact .inl ⟨h, by omega⟩
  · exact .inr ⟨0, h, by omega⟩
section
variable {α : Type}
theorem T.get_even (v : Option α) (l r : T α) {m : Nat} (h : Nat.mod m 2 = 0) : (T.node v l r).get (m + 1) = l.get (Nat.div m 2) := by
  show Nat.rec (motive := fun _ => Option α) (l.get (Nat.div m 2)) (fun _ _ => r.get (Nat.div m 2)) (Nat.mod m 2) = _
  rw [h]; try rfl
theorem T.get_odd (v : Option α) (l r : T α) {m k : Nat} (h : Nat.mod m 2 = k + 1) : (T.node v l r).get (m + 1) = r.get (Nat.div m 2) := by
  show Nat.rec (motive := fun _ => Option α) (l.get (Nat.div m 2)) (fun _ _ => r.get (Nat.div m 2)) (Nat.mod m 2) = _
  rw [h]; try rfl
theorem T.one_zero (x : α) (f : Nat) : T.one x (f + 1) 0 = .node (some x) .leaf .leaf := rfl
theorem T.one_even (x : α) (f : Nat) {m : Nat} (h : Nat.mod m 2 = 0) : T.one x (f + 1) (m + 1) = .node none (T.one x f (Nat.div m 2)) .leaf := by
  show Nat.rec (motive := fun _ => T α) (.node none (T.one x f (Nat.div m 2)) .leaf) (fun _ _ => .node none .leaf (T.one x f (Nat.div m 2))) (Nat.mod m 2) = _
  rw [h]; try rfl
theorem T.one_odd (x : α) (f : Nat) {m k : Nat} (h : Nat.mod m 2 = k + 1) : T.one x (f + 1) (m + 1) = .node none .leaf (T.one x f (Nat.div m 2)) := by
  show Nat.rec (motive := fun _ => T α) (.node none (T.one x f (Nat.div m 2)) .leaf) (fun _ _ => .node none .leaf (T.one x f (Nat.div m 2))) (Nat.mod m 2) = _
  rw [h]; try rfl
theorem T.set_leaf (x : α) (n : Nat) : (T.leaf : T α).set x n = T.one x (n + 1) n := rfl
theorem T.set_zero (x : α) (v : Option α) (l r : T α) : (T.node v l r).set x 0 = .node (some x) l r := rfl
theorem T.set_even (x : α) (v : Option α) (l r : T α) {m : Nat} (h : Nat.mod m 2 = 0) : (T.node v l r).set x (m + 1) = .node v (l.set x (Nat.div m 2)) r := by
  show Nat.rec (motive := fun _ => T α) (.node v (l.set x (Nat.div m 2)) r) (fun _ _ => .node v l (r.set x (Nat.div m 2))) (Nat.mod m 2) = _
  rw [h]; try rfl
theorem T.set_odd (x : α) (v : Option α) (l r : T α) {m k : Nat} (h : Nat.mod m 2 = k + 1) : (T.node v l r).set x (m + 1) = .node v l (r.set x (Nat.div m 2)) := by
  show Nat.rec (motive := fun _ => T α) (.node v (l.set x (Nat.div m 2)) r) (fun _ _ => .node v l (r.set x (Nat.div m 2))) (Nat.mod m 2) = _
  rw [h]; try rfl
theorem T.del_zero (v : Option α) (l r : T α) : (T.node v l r).del 0 = .node none l r := rfl
theorem T.del_even (v : Option α) (l r : T α) {m : Nat} (h : Nat.mod m 2 = 0) : (T.node v l r).del (m + 1) = .node v (l.del (Nat.div m 2)) r := by
  show Nat.rec (motive := fun _ => T α) (.node v (l.del (Nat.div m 2)) r) (fun _ _ => .node v l (r.del (Nat.div m 2))) (Nat.mod m 2) = _
  rw [h]; try rfl
theorem T.del_odd (v : Option α) (l r : T α) {m k : Nat} (h : Nat.mod m 2 = k + 1) : (T.node v l r).del (m + 1) = .node v l (r.del (Nat.div m 2)) := by
  show Nat.rec (motive := fun _ => T α) (.node v (l.del (Nat.div m 2)) r) (fun _ _ => .node v l (r.del (Nat.div m 2))) (Nat.mod m 2) = _
  rw [h]; try rfl
theorem T.get_one (x : α) : ∀ (f n m : Nat), n < f → (T.one x f n).get m = if m = n then some x else none
  | 0, n, m, h => absurd h (Nat.not_lt_zero _)
  | f + 1, 0, m, h => by
    rw [T.one_zero]
    cases m with
    | zero => rfl
    | succ m =>
      rw [if_neg (by omega)]
      rcases div_mod_cases m with ⟨hm, -⟩ | ⟨k, hm, -⟩
      · rw [T.get_even _ _ _ hm]; rfl
      · rw [T.get_odd _ _ _ hm]; rfl
  | f + 1, n + 1, m, h => by
    rcases div_mod_cases n with ⟨hn, en⟩ | ⟨k, hn, en⟩
    · rw [T.one_even x f hn]
      cases m with
      | zero => rw [if_neg (by omega)]; rfl
      | succ m =>
        rcases div_mod_cases m with ⟨hm, em⟩ | ⟨k', hm, em⟩
        · rw [T.get_even _ _ _ hm, T.get_one x f _ _ (by omega)]
          by_cases e : m = n
          · subst e; rw [if_pos rfl, if_pos rfl]
          · rw [if_neg (by omega), if_neg (by omega)]
        · rw [T.get_odd _ _ _ hm, if_neg (by omega)]; rfl
    · rw [T.one_odd x f hn]
      cases m with
      | zero => rw [if_neg (by omega)]; rfl
      | succ m =>
        rcases div_mod_cases m with ⟨hm, em⟩ | ⟨k', hm, em⟩
        · rw [T.get_even _ _ _ hm, if_neg (by omega)]; rfl
        · rw [T.get_odd _ _ _ hm, T.get_one x f _ _ (by omega)]
          by_cases e : m = n
          · subst e; rw [if_pos rfl, if_pos rfl]
          · rw [if_neg (by omega), if_neg (by omega)]
theorem T.get_set (x : α) : ∀ (t : T α) (n m : Nat), (t.set x n).get m = if m = n then some x else t.get m
  | .leaf, n, m => by
    rw [T.set_leaf, T.get_one x _ _ _ (Nat.lt_succ_self n)]; rfl
  | .node v l r, 0, m => by
    rw [T.set_zero]
    cases m with
    | zero => rfl
    | succ m =>
      rw [if_neg (by omega)]
      rcases div_mod_cases m with ⟨hm, -⟩ | ⟨k, hm, -⟩
      · rw [T.get_even _ _ _ hm, T.get_even _ _ _ hm]
      · rw [T.get_odd _ _ _ hm, T.get_odd _ _ _ hm]
  | .node v l r, n + 1, m => by
    rcases div_mod_cases n with ⟨hn, en⟩ | ⟨k, hn, en⟩
    · rw [T.set_even x _ _ _ hn]
      cases m with
      | zero => rw [if_neg (by omega)]; rfl
      | succ m =>
        rcases div_mod_cases m with ⟨hm, em⟩ | ⟨k', hm, em⟩
        · rw [T.get_even _ _ _ hm, T.get_even _ _ _ hm, T.get_set x l]
          by_cases e : m = n
          · subst e; rw [if_pos rfl, if_pos rfl]
          · rw [if_neg (by omega), if_neg (by omega)]
        · rw [T.get_odd _ _ _ hm, T.get_odd _ _ _ hm, if_neg (by omega)]
    · rw [T.set_odd x _ _ _ hn]
      cases m with
      | zero => rw [if_neg (by omega)]; rfl
      | succ m =>
        rcases div_mod_cases m with ⟨hm, em⟩ | ⟨k', hm, em⟩
        · rw [T.get_even _ _ _ hm, T.get_even _ _ _ hm, if_neg (by omega)]
        · rw [T.get_odd _ _ _ hm, T.get_odd _ _ _ hm, T.get_set x r]
          by_cases e : m = n
          · subst e; rw [if_pos rfl, if_pos rfl]
          · rw [if_neg (by omega), if_neg (by omega)]
theorem T.get_del : ∀ (t : T α) (n m : Nat), (t.del n).get m = if m = n then none else t.get m
  | .leaf, n, m => by show none = _; split <;> rfl
  | .node v l r, 0, m => by
    rw [T.del_zero]
    cases m with
    | zero => rfl
    | succ m =>
      rw [if_neg (by omega)]
      rcases div_mod_cases m with ⟨hm, -⟩ | ⟨k, hm, -⟩
      · rw [T.get_even _ _ _ hm, T.get_even _ _ _ hm]
      · rw [T.get_odd _ _ _ hm, T.get_odd _ _ _ hm]
  | .node v l r, n + 1, m => by
    rcases div_mod_cases n with ⟨hn, en⟩ | ⟨k, hn, en⟩
    · rw [T.del_even _ _ _ hn]
      cases m with
      | zero => rw [if_neg (by omega)]; rfl
      | succ m =>
        rcases div_mod_cases m with ⟨hm, em⟩ | ⟨k', hm, em⟩
        · rw [T.get_even _ _ _ hm, T.get_even _ _ _ hm, T.get_del l]
          by_cases e : m = n
          · subst e; rw [if_pos rfl, if_pos rfl]
          · rw [if_neg (by omega), if_neg (by omega)]
        · rw [T.get_odd _ _ _ hm, T.get_odd _ _ _ hm, if_neg (by omega)]
    · rw [T.del_odd _ _ _ hn]
      cases m with
      | zero => rw [if_neg (by omega)]; rfl
      | succ m =>
        rcases div_mod_cases m with ⟨hm, em⟩ | ⟨k', hm, em⟩
        · rw [T.get_even _ _ _ hm, T.get_even _ _ _ hm, if_neg (by omega)]
        · rw [T.get_odd _ _ _ hm, T.get_odd _ _ _ hm, T.get_del r]
          by_cases e : m = n
          · subst e; rw [if_pos rfl, if_pos rfl]
          · rw [if_neg (by omega), if_neg (by omega)]
end
section
variable {α : Type}
noncomputable def lget (l : List α) : Nat → Option α :=
  List.rec (motive := fun _ => Nat → Option α) (fun _ => none) (fun a _ ih n => Nat.rec (motive := fun _ => Option α) (some a) (fun m _ => ih m) n) l
theorem lget_eq : ∀ (l : List α) (n : Nat), lget l n = l[n]?
  | [], n => by simp [lget]
  | a :: l, 0 => rfl
  | a :: l, n + 1 => by
    have := lget_eq l n
    show lget l n = _
    simpa using this
noncomputable def ldrop (n : Nat) : List α → List α :=
  Nat.rec (motive := fun _ => List α → List α) (fun l => l) (fun _ ih l => List.rec (motive := fun _ => List α) [] (fun _ l _ => ih l) l) n
theorem ldrop_eq : ∀ (n : Nat) (l : List α), ldrop n l = l.drop n
  | 0, l => rfl
  | n + 1, [] => rfl
  | n + 1, a :: l => by
    show ldrop n l = _
    rw [ldrop_eq n l]; rfl
noncomputable def ltake (n : Nat) : List α → List α :=
  Nat.rec (motive := fun _ => List α → List α) (fun _ => []) (fun _ ih l => List.rec (motive := fun _ => List α) [] (fun a l _ => a :: ih l) l) n
theorem ltake_eq : ∀ (n : Nat) (l : List α), ltake n l = l.take n
  | 0, l => by rw [List.take_zero]; rfl
  | n + 1, [] => by rw [List.take_nil]; rfl
  | n + 1, a :: l => by
    show a :: ltake n l = _
    rw [ltake_eq n l]; rfl
noncomputable def lover (xs : List α) : List α → Option (List α) :=
  List.rec (motive := fun _ => List α → Option (List α)) (fun l => some l)
    (fun x _ ih l => List.rec (motive := fun _ => Option (List α)) none (fun _ l _ => Option.rec (motive := fun _ => Option (List α)) none (fun r => some (x :: r)) (ih l)) l) xs
noncomputable def lput (n : Nat) (xs : List α) : List α → Option (List α) :=
  Nat.rec (motive := fun _ => List α → Option (List α)) (fun l => lover xs l)
    (fun _ ih l => List.rec (motive := fun _ => Option (List α)) none (fun a l _ => Option.rec (motive := fun _ => Option (List α)) none (fun r => some (a :: r)) (ih l)) l) n
theorem lover_eq : ∀ (xs l r : List α), lover xs l = some r → xs.length ≤ l.length ∧ r = xs ++ l.drop xs.length
  | [], l, r, h => by
    have : some l = some r := h
    injection this with this
    subst this
    simp
  | x :: xs, [], r, h => by
    have : (none : Option (List α)) = some r := h
    cases this
  | x :: xs, a :: l, r, h => by
    have h' : Option.rec (motive := fun _ => Option (List α)) none (fun r => some (x :: r)) (lover xs l) = some r := h
    cases hq : lover xs l with
    | none => rw [hq] at h'; cases h'
    | some q =>
      rw [hq] at h'
      injection h' with h'
      subst h'
      obtain ⟨h1, h2⟩ := lover_eq xs l q hq
      subst h2
      exact ⟨by simp; omega, by simp⟩
theorem lput_eq : ∀ (n : Nat) (xs l r : List α), lput n xs l = some r → n + xs.length ≤ l.length ∧ r = l.take n ++ xs ++ l.drop (n + xs.length)
  | 0, xs, l, r, h => by
    obtain ⟨h1, h2⟩ := lover_eq xs l r h
    exact ⟨by omega, by simpa using h2⟩
  | n + 1, xs, [], r, h => by
    have : (none : Option (List α)) = some r := h
    cases this
  | n + 1, xs, a :: l, r, h => by
    have h' : Option.rec (motive := fun _ => Option (List α)) none (fun r => some (a :: r)) (lput n xs l) = some r := h
    cases hq : lput n xs l with
    | none => rw [hq] at h'; cases h'
    | some q =>
      rw [hq] at h'
      injection h' with h'
      subst h'
      obtain ⟨h1, h2⟩ := lput_eq n xs l q hq
      subst h2
      refine ⟨by simp; omega, ?_⟩
      have : n + 1 + xs.length = n + xs.length + 1 := by omega
      rw [this]
      simp
end
structure Pl where
  b : Nat
  o : Nat
  c : Option Nat
abbrev Env := Nat → Option Pl
def Pl.cap (p : Pl) (c k : Nat) : Nat := match p.c with | none => c | some m => m - k
mutual
inductive VR (E : Env) : Value → Value → Prop
  | bool (b : Bool) : VR E (.bool b) (.bool b)
  | int (k : IntKind) (n : Int) : VR E (.int k n) (.int k n)
  | string (s : ByteArray) : VR E (.string s) (.string s)
  | ptr0 : VR E (.pointer none) (.pointer none)
  | ptr {i o : Nat} {p : Pl} : E i = some p → VR E (.pointer (some ⟨i, o, none⟩)) (.pointer (some ⟨p.b, p.o + o, none⟩))
  | slice0 (l c : Nat) : VR E (.slice none l c) (.slice none l c)
  | slice {i o : Nat} {p : Pl} (l c : Nat) : E i = some p → p.c = none → VR E (.slice (some ⟨i, o, none⟩) l c) (.slice (some ⟨p.b, p.o + o, none⟩) l c)
  | grown {i o : Nat} {p : Pl} (l c c' : Nat) : E i = some p → p.c = some c' → VR E (.slice (some ⟨i, o, none⟩) l c) (.slice (some ⟨p.b, p.o + o, none⟩) l (c' - c))
  | map0 : VR E (.map none) (.map none)
  | map {i : Nat} {p : Pl} : E i = some p → VR E (.map (some i)) (.map (some p.b))
  | func {f : FuncId} {xs ys xs' ys' : List Value} : VsR E xs xs' → VsR E ys ys' → VR E (.func (.func f) xs.toArray ys.toArray) (.func (.func f) xs'.toArray ys'.toArray)
  | func0 : VR E .nilFunc .nilFunc
  | iface {v v' : Value} (t : TypeId) : VR E v v' → VR E (.iface t v) (.iface t v')
  | iface0 : VR E .nilIface .nilIface
  | agg {xs xs' : List Value} : VsR E xs xs' → VR E (.agg xs.toArray) (.agg xs'.toArray)
  | tuple {xs xs' : List Value} : VsR E xs xs' → VR E (.tuple xs.toArray) (.tuple xs'.toArray)
inductive VsR (E : Env) : List Value → List Value → Prop
  | nil : VsR E [] []
  | cons {v v' : Value} {xs xs' : List Value} : VR E v v' → VsR E xs xs' → VsR E (v :: xs) (v' :: xs')
end
def Env.le (E E' : Env) : Prop := ∀ i p, E i = some p → E' i = some p
theorem Env.le.refl (E : Env) : E.le E := fun _ _ h => h
theorem Env.le.trans {E E' E'' : Env} (h : E.le E') (h' : E'.le E'') : E.le E'' := fun i p hp => h' i p (h i p hp)
mutual
theorem VR.mono {E E' : Env} (hE : E.le E') : ∀ {v v' : Value}, VR E v v' → VR E' v v'
  | _, _, .bool b => .bool b
  | _, _, .int k n => .int k n
  | _, _, .string s => .string s
  | _, _, .ptr0 => .ptr0
  | _, _, .ptr h => .ptr (hE _ _ h)
  | _, _, .slice0 l c => .slice0 l c
  | _, _, .slice l c h hc => .slice l c (hE _ _ h) hc
  | _, _, .grown l c c' h hc => .grown l c c' (hE _ _ h) hc
  | _, _, .map0 => .map0
  | _, _, .map h => .map (hE _ _ h)
  | _, _, .func hx hy => .func (hx.mono hE) (hy.mono hE)
  | _, _, .func0 => .func0
  | _, _, .iface t h => .iface t (h.mono hE)
  | _, _, .iface0 => .iface0
  | _, _, .agg h => .agg (h.mono hE)
  | _, _, .tuple h => .tuple (h.mono hE)
theorem VsR.mono {E E' : Env} (hE : E.le E') : ∀ {xs xs' : List Value}, VsR E xs xs' → VsR E' xs xs'
  | _, _, .nil => .nil
  | _, _, .cons h hs => .cons (h.mono hE) (hs.mono hE)
end
section
variable {E : Env}
theorem VsR.length : ∀ {xs xs' : List Value}, VsR E xs xs' → xs.length = xs'.length
  | _, _, .nil => rfl
  | _, _, .cons _ hs => by simp [hs.length]
theorem VsR.at : ∀ {xs xs' : List Value}, VsR E xs xs' → ∀ {i : Nat} {v : Value}, xs[i]? = some v → ∃ v', xs'[i]? = some v' ∧ VR E v v'
  | _, _, .nil, i, v, h => by simp at h
  | _, _, .cons hv hs, 0, v, h => by
    simp only [List.getElem?_cons_zero, Option.some.injEq] at h
    subst h
    exact ⟨_, by simp, hv⟩
  | _, _, .cons hv hs, i + 1, v, h => by
    simp only [List.getElem?_cons_succ] at h ⊢
    exact hs.at h
theorem VsR.append : ∀ {xs xs' ys ys' : List Value}, VsR E xs xs' → VsR E ys ys' → VsR E (xs ++ ys) (xs' ++ ys')
  | _, _, _, _, .nil, h => h
  | _, _, _, _, .cons hv hs, h => .cons hv (hs.append h)
theorem VsR.take : ∀ {xs xs' : List Value}, VsR E xs xs' → ∀ n, VsR E (xs.take n) (xs'.take n)
  | _, _, .nil, n => by simpa using VsR.nil
  | _, _, .cons hv hs, 0 => by simpa using VsR.nil
  | _, _, .cons hv hs, n + 1 => by simpa using VsR.cons hv (hs.take n)
theorem VsR.drop : ∀ {xs xs' : List Value}, VsR E xs xs' → ∀ n, VsR E (xs.drop n) (xs'.drop n)
  | _, _, .nil, n => by simpa using VsR.nil
  | _, _, .cons hv hs, 0 => by simpa using VsR.cons hv hs
  | _, _, .cons hv hs, n + 1 => by simpa using hs.drop n
theorem VR.cells {v v' : Value} (h : VR E v v') : VsR E v.cells.toList v'.cells.toList := by
  have h0 := h
  cases h <;> first
    | exact VsR.cons h0 .nil
    | (rename_i h; simpa [Value.cells] using h)
end
end Go.Proofs.YtbhkfifmgbcknaaGreatDoor.Ex
namespace Go.Proofs.YtbhkfifmgbcknaaGreatDoor.Ex
open Go
def kFact (w : World) : Prop := Handle w ∧ TabB w
def kBs : List Nat := [1, 0]
theorem cell_only {w w' : World} {b : Nat} (h : w'.heap[b]? = w.heap[b]?) (i : Nat) : w'.cell? ⟨b, i, none⟩ = w.cell? ⟨b, i, none⟩ := by
  simp only [World.cell?, h]
theorem kOnly {w w' : World} (h : ∀ b, b ∈ kBs → w'.heap[b]? = w.heap[b]?) (hk : kFact w) : kFact w' := by
  have h1 := h 1 (by simp [kBs])
  have h2 := h 0 (by simp [kBs])
  refine ⟨(cell_only h1 0).trans hk.1, ?_, fun j hj => (cell_only h2 j).trans (hk.2.tab j hj)⟩
  have h3 : w'.heap[0]? = some (w.heap[0]'hk.2.lt) := h2.trans (Array.getElem?_eq_some_iff.2 ⟨hk.2.lt, rfl⟩)
  exact (Array.getElem?_eq_some_iff.1 h3).1
theorem kLt {w : World} (hk : kFact w) : ∀ b, b ∈ kBs → b < w.heap.size := by
  intro b hb
  simp only [kBs, List.mem_cons, List.not_mem_nil, or_false] at hb
  rcases hb with rfl | rfl
  · exact hk.1.pos
  · exact hk.2.lt
end Go.Proofs.YtbhkfifmgbcknaaGreatDoor.Ex
