/-
  The reference's numbers and names, whole; and chapter 3's example.
-/
import Derived.Test.YtajmlkephefapaaGreatDoorScanD
namespace Go.Proofs.YtajmlkephefapaaGreatDoor
open Go.RowKit Go.Extern.Stop Go.Stop Go.Extern

/-- What the reference's Number answers. -/
def RefNum (w : World) (s : ByteArray) (k : Nat) (e : Ending) (w' : World) : Prop :=
  e = .returned (.tuple #[.int .i64 (numK s k), .int .u64 (numN s k), .int .i64 (numC s k)]) ∧ Below w.heap.size w w'

set_option maxRecDepth 100000 in
set_option maxHeartbeats 1000000 in
theorem rnumber_any (s : ByteArray) (k : Nat) (hs : s.size ≤ 100000) (hk : k ≤ s.size) (w : World) :
    Calls Tryz.prog 65 #[.string s, .int .i64 k] w (RefNum w s k) := by
  have HF := Lib.hid (fun w => rfails_any s k w)
  have HR1 := Lib.hid (show ∀ e w', runTo isDig s k = k → e = .returned (.tuple #[.int .i64 k, .int .u64 0, .int .i64 (missC s k)]) ∧ Below w.heap.size w w' → RefNum w s k e w' by
    intro e w' hj h
    unfold RefNum numK numN numC
    rw [if_pos hj, if_pos hj, if_pos hj]
    exact h)
  have HR2 := Lib.hid (show ∀ e w', runTo isDig s k ≠ k → (digsR s k).2.1 = 0 → e = .returned (.tuple #[.int .i64 (runTo isDig s k), .int .u64 (digsR s k).1, .int .i64 0]) ∧ Below w.heap.size w w' → RefNum w s k e w' by
    intro e w' hj hc h
    unfold RefNum numK numN numC
    rw [if_neg hj, if_neg hj, if_neg hj, if_pos hc, if_pos hc, hc]
    exact h)
  have HR3 := Lib.hid (show ∀ e w', runTo isDig s k ≠ k → (digsR s k).2.1 ≠ 0 → e = .returned (.tuple #[.int .i64 k, .int .u64 0, .int .i64 (digsR s k).2.1]) ∧ Below w.heap.size w w' → RefNum w s k e w' by
    intro e w' hj hc h
    unfold RefNum numK numN numC
    rw [if_neg hj, if_neg hj, if_neg hj, if_neg hc, if_neg hc]
    exact h)
  have HP := Lib.hid (fun w => rparse_any (s.extract k (runTo isDig s k)) w (by have := runTo_le isDig s k hk; unfold maxLen; simp; omega))
  unfold digsR at HR2 HR3
  generalize missC s k = m at *
  go_enter Tryz.func65, Tryz.ntmps65
  go_wp2_with fail
  go_loop [7] (fun i => ∃ j : Nat, k ≤ j ∧ j ≤ s.size ∧ i = .int .i64 j ∧ runTo isDig s j = runTo isDig s k) (fun i => s.size - (intOf i).toNat)
  case atStart => exact ⟨k, Nat.le_refl _, hk, rfl, rfl⟩
  case round =>
    obtain ⟨j, hkj, hj, rfl, hrun⟩ := hrel
    have HRU := Lib.hid hrun
    clear hrun
    by_cases hb : ∃ h : j < s.size, isDig (s[j].toNat : Int) = true
    · obtain ⟨hlt2, hb⟩ := hb
      have HG := Lib.hid (runTo_go hlt2 hb)
      have hI := fun w => rdigit_any (s[j].toNat : Int) w
      rw [hb] at hI
      have HI := Lib.hid hI
      clear hb hI
      go_wp2_with fail
      refine (HI.out _).mono ?_
      rintro e w' ⟨rfl, rfl⟩
      go_wp2_with fail
      go_round
      case rel => exact ⟨j + 1, by omega, by omega, by go_num, HG.out.symm.trans HRU.out⟩
      case measure => simp [intOf]; omega
    · have HG : Hid (j = runTo isDig s k) := by
        refine Lib.hid (Eq.trans ?_ HRU.out)
        by_cases hlt2 : j < s.size
        · exact (runTo_stop hlt2 (by simpa using fun h => hb ⟨hlt2, h⟩)).symm
        · exact (runTo_end hlt2).symm
      have HI : Hid (∀ h : j < s.size, ∀ w, Calls Tryz.prog 64 #[.int .u8 (s[j].toNat : Int)] w fun e w' => e = .returned (.bool false) ∧ w = w') := by
        refine Lib.hid (fun h w => ?_)
        have := rdigit_any (s[j].toNat : Int) w
        rwa [show isDig (s[j].toNat : Int) = false by simpa using fun h' => hb ⟨h, h'⟩] at this
      clear hb
      by_cases hjk : j = k
      · subst hjk
        by_cases hlt2 : j < s.size
        · go_wp2_with fail
          refine (HI.out hlt2 _).mono ?_
          rintro e w' ⟨rfl, rfl⟩
          go_wp2_with fail
          refine (HF.out _).mono ?_
          rintro e w' ⟨rfl, rfl⟩
          go_wp2_with fail
          go_ret3
          exact HR1.out _ _ HG.out.symm ⟨rfl, Below.refl _ _⟩
        · go_wp2_with fail
          refine (HF.out _).mono ?_
          rintro e w' ⟨rfl, rfl⟩
          go_wp2_with fail
          go_ret3
          exact HR1.out _ _ HG.out.symm ⟨rfl, Below.refl _ _⟩
      · have hne : ((j : Int) == (k : Int)) = false := by rw [beq_eq_false_iff_ne]; omega
        have HNE : Hid (j ≠ k) := Lib.hid hjk
        rw [← HG.out] at HP HR2 HR3
        have HP2 := Lib.hid (show ∀ w, Calls Tryz.prog 98 #[.string (s.extract k j)] w fun e w' => e = .returned (.tuple #[.int .u64 (parseR (s.extract k j).data.toList).1, .int .i64 (parseR (s.extract k j).data.toList).2.1, .int .i64 (parseR (s.extract k j).data.toList).2.2]) ∧ w = w' from
          fun w => (HP.out w).mono (by rintro e w' ⟨h, rfl⟩; exact ⟨h, rfl⟩))
        clear HP hjk
        generalize (parseR (s.extract k j).data.toList) = r at *
        by_cases hc : r.2.1 = 0
        · have HC := Lib.hid hc
          rw [hc] at HP2
          clear hc
          by_cases hlt2 : j < s.size
          all_goals
            go_wp2_with (first | (go_at_call 64; refine (HI.out (by assumption) _).mono ?_; rintro e w' ⟨rfl, rfl⟩) | (go_at_call 98; refine (HP2.out _).mono ?_; rintro e w' ⟨rfl, rfl⟩))
            go_ret3
            exact HR2.out _ _ HNE.out HC.out ⟨rfl, Below.refl _ _⟩
        · have HC := Lib.hid hc
          have hcb : (r.2.1 != 0) = true := by simpa [bne] using hc
          clear hc
          by_cases hlt2 : j < s.size
          all_goals
            go_wp2_with (first | (go_at_call 64; refine (HI.out (by assumption) _).mono ?_; rintro e w' ⟨rfl, rfl⟩) | (go_at_call 98; refine (HP2.out _).mono ?_; rintro e w' ⟨rfl, rfl⟩))
            go_ret3
            exact HR3.out _ _ HNE.out HC.out ⟨rfl, Below.refl _ _⟩

end Go.Proofs.YtajmlkephefapaaGreatDoor
