/-
  The reference's Parse by a contract: the document's answer for any text; no memory turns.
-/
import Derived.Test.YtajmlkephefapaaGreatDoorAmtP
namespace Go.Proofs.YtajmlkephefapaaGreatDoor
open Go.RowKit Go.Extern.Stop Go.Stop Go.Extern

/-- The three parts of an answer. -/
def Three (r : Int × Int × Int) (e : Ending) : Prop := e = .returned (.tuple #[.int .u64 r.1, .int .i64 r.2.1, .int .i64 r.2.2])

theorem over_most (s : ByteArray) (hd : ∀ c ∈ s.data.toList, isD c = true) (k : Nat) (hk : k < s.size) (h : most < valI (s.data.toList.take k) * 10 + ((s[k].toNat : Int) - 48)) : most < valI s.data.toList := by
  have h1 := valI_take_le s.data.toList hd (k + 1)
  rw [take_snoc s k hk, valI_snoc] at h1
  omega

set_option maxRecDepth 100000 in
set_option maxHeartbeats 1600000 in
theorem rparse_empty (s : ByteArray) (w : World) (h0 : s.size = 0) :
    Calls Tryz.prog 98 #[.string s] w fun e w' => Three (parseR s.data.toList) e ∧ w' = w := by
  have hl : s.data.toList = [] := List.eq_nil_of_length_eq_zero (by simpa using h0)
  have HR := Lib.hid (show parseR s.data.toList = (0, 3, 0) by unfold parseR; rw [if_pos hl])
  have hb : ((s.size : Int) == 0) = true := by rw [h0]; rfl
  clear hl h0
  go_enter Tryz.func98, Tryz.ntmps98
  go_wp2
  go_ret3
  rw [HR.out]
  exact ⟨rfl, rfl⟩

set_option maxRecDepth 100000 in
set_option maxHeartbeats 3200000 in
theorem rparse_any' (s : ByteArray) (w : World) (hs : s.size ≤ maxLen) (h0 : s.size ≠ 0) :
    Calls Tryz.prog 98 #[.string s] w fun e w' => Three (parseR s.data.toList) e ∧ w' = w := by
  unfold maxLen at hs
  obtain ⟨hl, -, -⟩ := open_facts s h0
  have HN := Lib.hid hl
  have hb : ((s.size : Int) == 0) = false := by rw [beq_eq_false_iff_ne]; omega
  have hp : 0 < s.size := by omega
  clear hl
  go_enter Tryz.func98, Tryz.ntmps98
  go_wp2
  go_loop [5] (fun i => ∃ k : Nat, k ≤ s.size ∧ i = .int .i64 k ∧ ∀ j (hj : j < k) (hj' : j < s.data.toList.length), isD s.data.toList[j] = true) (fun i => s.size - (intOf i).toNat)
  case atStart => exact ⟨0, Nat.zero_le _, rfl, fun j hj => by omega⟩
  case round =>
    obtain ⟨k, hk, rfl, hall⟩ := hrel
    have HA := Lib.hid hall
    clear hall
    by_cases hlt : k < s.size
    · have hl : k < s.data.toList.length := by simpa using hlt
      by_cases hd : isD s[k] = true
      · obtain ⟨d1, d2⟩ := (isD_iff _).1 hd
        have HD := Lib.hid hd
        clear hd
        go_wp2
        go_round
        case rel =>
          refine ⟨k + 1, by omega, by go_num, fun j hj hj' => ?_⟩
          by_cases e : j < k
          · exact HA.out j e hj'
          · obtain rfl : j = k := by omega
            exact HD.out
        case measure => simp [intOf]; omega
      · have hd' : isD s[k] = false := by simpa using hd
        have hF := firstBad_at s.data.toList k hl (fun i hi => HA.out i hi (by omega)) hd'
        have HR := Lib.hid (show parseR s.data.toList = (0, 4, (k : Int)) by unfold parseR; rw [if_neg HN.out, hF, if_pos hl])
        have hn : ¬ (48 ≤ (s[k].toNat : Int) ∧ (s[k].toNat : Int) ≤ 57) := fun h => hd ((isD_iff _).2 h)
        clear hd hd' hF
        by_cases h1 : (s[k].toNat : Int) < 48
        · clear hn
          go_wp2
          go_ret3
          rw [HR.out]
          exact ⟨rfl, rfl⟩
        · have h2 : 57 < (s[k].toNat : Int) := by omega
          clear hn
          go_wp2
          go_ret3
          rw [HR.out]
          exact ⟨rfl, rfl⟩
    · have hd : ∀ c ∈ s.data.toList, isD c = true := fun c hc => by
        obtain ⟨j, hj, rfl⟩ := List.mem_iff_getElem.1 hc
        exact HA.out j (by simp at hj; omega) hj
      have hF := firstBad_all s.data.toList hd
      have HRR := Lib.hid (show parseR s.data.toList = if 1 < s.data.toList.length ∧ s.data.toList.head? = some 48 then (0, 4, 0) else if most < valI s.data.toList then (0, 7, 0) else (valI s.data.toList, 0, 0) by
        unfold parseR; rw [if_neg HN.out, hF, if_neg (Nat.lt_irrefl _)])
      have HD := Lib.hid hd
      clear hd hF
      by_cases hno : 1 < s.size ∧ s.data.toList.head? = some 48
      · have HR := Lib.hid (show parseR s.data.toList = (0, 4, 0) by rw [HRR.out, if_pos (by simpa using hno)])
        obtain ⟨h1, h48⟩ := hno
        have h48' : s[0] = 48 := by rw [head_get s hp] at h48; exact Option.some.inj h48
        have hc : ((s[0].toNat : Int) == 48) = true := by rw [h48']; rfl
        clear h48 h48'
        go_wp2
        go_ret3
        rw [HR.out]
        exact ⟨rfl, rfl⟩
      · have HR := Lib.hid (show parseR s.data.toList = if most < valI s.data.toList then (0, 7, 0) else (valI s.data.toList, 0, 0) by rw [HRR.out, if_neg (by simpa using hno)])
        have hcs : (1 < s.size ∧ ((s[0].toNat : Int) == 48) = false) ∨ ¬ 1 < s.size := by
          rcases Plain.cases (s := s) hno with ⟨hp', hc⟩ | h1
          · by_cases h1 : 1 < s.size
            · exact .inl ⟨h1, hc⟩
            · exact .inr h1
          · exact .inr h1
        clear hno
        rcases hcs with ⟨h1, hc⟩ | h1
        all_goals
          go_wp2
          go_loop [6, 7] (fun n i => ∃ k : Nat, k ≤ s.size ∧ i = .int .i64 k ∧ n = .int .u64 (valI (s.data.toList.take k)) ∧ valI (s.data.toList.take k) ≤ 9223372036854775807) (fun _ i => s.size - (intOf i).toNat)
          case atStart => exact ⟨0, Nat.zero_le _, rfl, rfl, by simp [valI]⟩
          case round =>
            obtain ⟨k2, hk2, rfl, rfl, hmost⟩ := hrel
            by_cases hlt2 : k2 < s.size
            · have hmem : s[k2] ∈ s.data.toList := List.getElem_mem (l := s.data.toList) (n := k2) (by simpa using hlt2)
              obtain ⟨d1, d2⟩ := (isD_iff _).1 (HD.out _ hmem)
              have hn0 : 0 ≤ valI (s.data.toList.take k2) := valI_nonneg _ (fun c hc => HD.out c (List.mem_of_mem_take hc))
              have HS : Hid (valI (s.data.toList.take (k2 + 1)) = valI (s.data.toList.take k2) * 10 + ((s[k2].toNat : Int) - 48)) := by rw [take_snoc s k2 hlt2]; exact valI_snoc _ _
              have HO : Hid (9223372036854775807 < valI (s.data.toList.take k2) * 10 + ((s[k2].toNat : Int) - 48) → most < valI s.data.toList) := over_most s HD.out k2 hlt2
              clear hmem
              generalize valI (s.data.toList.take k2) = n at *
              by_cases hov : 9223372036854775807 < n * 10 + ((s[k2].toNat : Int) - 48)
              · have HM := Lib.hid (HO.out hov)
                have ht : (9223372036854775807 - ((s[k2].toNat : Int) - 48)) / 10 < n := by omega
                clear hov
                go_wp2
                go_ret3
                rw [HR.out, if_pos HM.out]
                exact ⟨rfl, rfl⟩
              · have ht : ¬ (9223372036854775807 - ((s[k2].toNat : Int) - 48)) / 10 < n := by omega
                have hn1 : n ≤ 922337203685477580 := by omega
                have hn2 : n * 10 + ((s[k2].toNat : Int) - 48) ≤ 9223372036854775807 := by omega
                clear hov
                go_wp2
                go_round
                case rel => exact ⟨k2 + 1, by omega, by go_num, by rw [HS.out], by rw [HS.out]; exact hn2⟩
                case measure => simp [intOf]; omega
            · obtain rfl : k2 = s.size := by omega
              have HF : Hid (s.data.toList.take s.size = s.data.toList) := List.take_of_length_le (by simp)
              have HM : Hid (valI s.data.toList ≤ most) := by rw [← HF.out]; exact hmost
              rw [HF.out]
              go_wp2
              go_ret3
              rw [HR.out, if_neg (Int.not_lt.2 HM.out)]
              exact ⟨rfl, rfl⟩

theorem rparse_any (s : ByteArray) (w : World) (hs : s.size ≤ maxLen) :
    Calls Tryz.prog 98 #[.string s] w fun e w' => Three (parseR s.data.toList) e ∧ w' = w := by
  by_cases h0 : s.size = 0
  · exact rparse_empty s w h0
  · exact rparse_any' s w hs h0
end Go.Proofs.YtajmlkephefapaaGreatDoor
