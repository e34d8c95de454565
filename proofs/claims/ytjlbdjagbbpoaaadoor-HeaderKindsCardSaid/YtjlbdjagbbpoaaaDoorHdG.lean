/-
  Package header by contracts, fourth part: Of; the document's May.
-/
import Derived.Test.YtjlbdjagbbpoaaaDoorHdE
namespace Go.Proofs.YtjlbdjagbbpoaaaDoor
open Go.RowKit Go.Extern.Stop Go.Stop Go.Extern

theorem str_ne {s t : ByteArray} (h : s ≠ t) : (s.toList == t.toList) = false := by
  rw [beq_eq_false_iff_ne]
  intro e
  rw [Go.ByteArray.toList_eq, Go.ByteArray.toList_eq] at e
  exact h (ByteArray.ext (Array.toList_inj.1 e))
/-- A word's kind. -/
def ofW (s : ByteArray) : Int := if s = wordB 1 then 1 else if s = wordB 2 then 2 else if s = wordB 3 then 3 else 0
theorem ofW_word {k : Int} (hk : 1 ≤ k ∧ k ≤ 3) : ofW (wordB k) = k := by
  have : k = 1 ∨ k = 2 ∨ k = 3 := by omega
  rcases this with rfl | rfl | rfl <;> decide
theorem ofW_cases (s : ByteArray) : (ofW s = 0 ∧ s ≠ wordB 1 ∧ s ≠ wordB 2 ∧ s ≠ wordB 3) ∨ ∃ k : Nat, 1 ≤ k ∧ k ≤ 3 ∧ ofW s = (k : Int) ∧ s = wordB k := by
  unfold ofW
  by_cases h1 : s = wordB 1
  · rw [if_pos h1]; exact .inr ⟨1, by omega, by omega, rfl, h1⟩
  · rw [if_neg h1]
    by_cases h2 : s = wordB 2
    · rw [if_pos h2]; exact .inr ⟨2, by omega, by omega, rfl, h2⟩
    · rw [if_neg h2]
      by_cases h3 : s = wordB 3
      · rw [if_pos h3]; exact .inr ⟨3, by omega, by omega, rfl, h3⟩
      · rw [if_neg h3]; exact .inl ⟨rfl, h1, h2, h3⟩
theorem word_ne : wordB 1 ≠ wordB 2 ∧ wordB 1 ≠ wordB 3 ∧ wordB 2 ≠ wordB 3 := by decide
set_option maxHeartbeats 1000000 in
theorem hof_any (s : ByteArray) (w : World) : Calls Tryd.prog 16 #[.string s] w fun e w' => e = .returned (.int .i64 (ofW s)) ∧ w = w' := by
  have HW := Lib.hid (fun k => (word_any k w).mono fun _ _ h => (⟨h.1, h.2.symm⟩ : _ ∧ w = _))
  obtain ⟨n12, n13, n23⟩ := word_ne
  rcases ofW_cases s with ⟨e, h1, h2, h3⟩ | ⟨k, k1, k3, e, rfl⟩
  · rw [e]
    have q1 := str_ne (Ne.symm h1)
    have q2 := str_ne (Ne.symm h2)
    have q3 := str_ne (Ne.symm h3)
    clear e h1 h2 h3 n12 n13 n23
    go_enter Tryd.func16, Tryd.ntmps16
    go_wp2
    refine wp_loop_rounds 4 ?_
    rw [rounds_succ]
    go_wp2_with (go_at_call 18; refine (HW.out _).mono ?_; rintro e w' ⟨rfl, rfl⟩)
    rw [rounds_succ]
    go_wp2_with (go_at_call 18; refine (HW.out _).mono ?_; rintro e w' ⟨rfl, rfl⟩)
    rw [rounds_succ]
    go_wp2_with (go_at_call 18; refine (HW.out _).mono ?_; rintro e w' ⟨rfl, rfl⟩)
    rw [rounds_succ]
    go_wp2
    go_ret
    exact ⟨rfl, rfl⟩
  · rw [e]
    have hk : k = 1 ∨ k = 2 ∨ k = 3 := by omega
    have q12 := str_ne n12
    have q13 := str_ne n13
    have q23 := str_ne n23
    clear e n12 n13 n23
    rcases hk with rfl | rfl | rfl
    · go_enter Tryd.func16, Tryd.ntmps16
      go_wp2
      refine wp_loop_rounds 4 ?_
      rw [rounds_succ]
      go_wp2_with (go_at_call 18; refine (HW.out _).mono ?_; rintro e w' ⟨rfl, rfl⟩)
      go_ret
      exact ⟨rfl, rfl⟩
    · go_enter Tryd.func16, Tryd.ntmps16
      go_wp2
      refine wp_loop_rounds 4 ?_
      rw [rounds_succ]
      go_wp2_with (go_at_call 18; refine (HW.out _).mono ?_; rintro e w' ⟨rfl, rfl⟩)
      rw [rounds_succ]
      go_wp2_with (go_at_call 18; refine (HW.out _).mono ?_; rintro e w' ⟨rfl, rfl⟩)
      go_ret
      exact ⟨rfl, rfl⟩
    · go_enter Tryd.func16, Tryd.ntmps16
      go_wp2
      refine wp_loop_rounds 4 ?_
      rw [rounds_succ]
      go_wp2_with (go_at_call 18; refine (HW.out _).mono ?_; rintro e w' ⟨rfl, rfl⟩)
      rw [rounds_succ]
      go_wp2_with (go_at_call 18; refine (HW.out _).mono ?_; rintro e w' ⟨rfl, rfl⟩)
      rw [rounds_succ]
      go_wp2_with (go_at_call 18; refine (HW.out _).mono ?_; rintro e w' ⟨rfl, rfl⟩)
      go_ret
      exact ⟨rfl, rfl⟩
theorem rmay_any (a b : Int) (w : World) : Calls Tryd.prog 19 #[.int .i64 a, .int .i64 b] w fun e w' => e = .returned (.bool (mayB a b)) ∧ w = w' := by
  unfold mayB
  by_cases a2 : a = 2
  · subst a2
    by_cases b1 : b = 1
    · subst b1
      go_enter Tryd.func19, Tryd.ntmps19
      go_wp2
      go_ret
      exact ⟨rfl, rfl⟩
    · have e : (b == 1) = false := by simpa using b1
      go_enter Tryd.func19, Tryd.ntmps19
      go_wp2
      go_ret
      exact ⟨by simp [b1], rfl⟩
  · have e2 : (a == 2) = false := by simpa using a2
    by_cases a3 : a = 3
    · subst a3
      by_cases b2 : b = 2
      · subst b2
        go_enter Tryd.func19, Tryd.ntmps19
        go_wp2
        go_ret
        exact ⟨rfl, rfl⟩
      · have e : (b == 2) = false := by simpa using b2
        go_enter Tryd.func19, Tryd.ntmps19
        go_wp2
        go_ret
        exact ⟨by simp [b2]; rfl, rfl⟩
    · have e3 : (a == 3) = false := by simpa using a3
      go_enter Tryd.func19, Tryd.ntmps19
      go_wp2
      go_ret
      exact ⟨by simp [a2, a3], rfl⟩
end Go.Proofs.YtjlbdjagbbpoaaaDoor
