/-
  Package ink by contracts: may a value be written: chapter 6's example.
-/
import Derived.Test.YtabcbeolhhdkpaaGreatDoorInkG
import Derived.Test.YtabcbeolhhdkpaaGreatDoorTreeE
namespace Go.Proofs.YtabcbeolhhdkpaaGreatDoor
open Go.RowKit Go.Extern.Stop Go.Stop Go.Extern Go.WideMaps

set_option maxRecDepth 100000 in
set_option maxHeartbeats 4000000 in
theorem mayBe_any (s : ByteArray) (hs : s.size ≤ 100000) (w : World) : Calls Tryz.prog 78 #[.string s] w fun e w' => e = .returned (.bool (s.data.toList.all mayS)) ∧ w' = w := by
  have hAll : s.data.toList.all mayS = true ↔ ∀ i (h : i < s.size), mayI s[i] = true := by
    rw [List.all_eq_true]
    constructor
    · intro h i hi
      rw [mayI_eq]
      exact h _ (List.getElem_mem (l := s.data.toList) (n := i) (by simpa using hi))
    · intro h x hx
      obtain ⟨i, hi, rfl⟩ := List.getElem_of_mem hx
      rw [← mayI_eq]
      exact h i (by simpa using hi)
  generalize s.data.toList.all mayS = r at *
  have HA := Lib.hid hAll
  clear hAll
  go_enter Tryz.func78, Tryz.ntmps78
  go_wp2_with fail
  go_loopg [6] s.size (fun g u wr => ∃ i : Nat, i ≤ s.size ∧ g = s.size - i ∧ u = .int .i64 i ∧ wr = w ∧ ∀ j (h : j < s.size), j < i → mayI s[j] = true)
  case atStart => exact ⟨0, Nat.zero_le _, by omega, rfl, rfl, fun j _ h => absurd h (Nat.not_lt_zero _)⟩
  case round =>
    obtain ⟨i, hi, hgi, rfl, rfl, hall⟩ := hrel
    have HL := Lib.hid hall
    clear hall
    by_cases hlt : i < s.size
    · have HNO : Hid (mayI s[i] = false → r = false) := Lib.hid (fun h => by
        cases hc : r
        · rfl
        · have := HA.out.1 hc i hlt
          rw [h] at this
          cases this)
      have HYES : Hid (mayI s[i] = true → ∀ j (h : j < s.size), j < i + 1 → mayI s[j] = true) := Lib.hid (fun h j hj hji => by
        by_cases e : j = i
        · subst e; exact h
        · exact HL.out j hj (by omega))
      unfold mayI at HNO HYES
      by_cases h10 : (s[i].toNat : Int) = 10
      · have q10 : ((s[i].toNat : Int) == 10) = true := by simpa using h10
        have q10' : ((s[i].toNat : Int) != 10) = false := by simpa using h10
        rw [q10] at HYES
        clear h10
        go_wp2_with fail
        go_roundg (s.size - (i + 1))
        case measure => omega
        case rel => exact ⟨i + 1, by omega, rfl, rfl, rfl, HYES.out (by simp)⟩
      · have q10 : ((s[i].toNat : Int) == 10) = false := by simpa using h10
        have q10' : ((s[i].toNat : Int) != 10) = true := by simpa using h10
        rw [q10] at HYES HNO
        clear h10
        by_cases h32 : (s[i].toNat : Int) < 32
        · have HN2 := Lib.hid (HNO.out (by simp; omega))
          clear HNO HYES
          go_wp2_with fail
          go_ret
          exact ⟨by rw [HN2.out]; rfl, rfl⟩
        · by_cases h126 : (126 : Int) < (s[i].toNat : Int)
          · have HN2 := Lib.hid (HNO.out (by simp; omega))
            clear HNO HYES
            go_wp2_with fail
            go_ret
            exact ⟨by rw [HN2.out]; rfl, rfl⟩
          · have HY2 := Lib.hid (HYES.out (by simp; omega))
            clear HNO HYES
            go_wp2_with fail
            go_roundg (s.size - (i + 1))
            case measure => omega
            case rel => exact ⟨i + 1, by omega, rfl, rfl, rfl, HY2.out⟩
    · obtain rfl : i = s.size := by omega
      have HE : Hid (r = true) := Lib.hid (HA.out.2 fun j h => HL.out j h h)
      go_wp2_with fail
      go_ret
      exact ⟨by rw [HE.out]; rfl, rfl⟩

theorem kbelow_drewN (w : World) (n : Nat) : Below w.heap.size w (w.drewN n) := by
  induction n with
  | zero => exact Below.refl _ _
  | succ n ih => exact ⟨ih.os, ih.tape, ih.output, ih.size, ih.block⟩
set_option maxHeartbeats 400000 in
theorem iholds_any (k : Int) (t : ByteArray) (n : Int) (a : Option Addr) (l c : Nat) (a' : Option Addr) (l' c' : Nat) (z : Int) (w : World) :
    Calls Tryz.prog 77 #[.agg #[.int .i64 k, .string t, .int .u64 n, .slice a l c, .slice a' l' c', .int .i64 z]] w fun e w' => e = .returned (.bool (decide (k = 5 ∨ k = 6))) ∧ Below w.heap.size w w' := by
  go_enter Tryz.func77, Tryz.ntmps77
  go_wp2
  all_goals
    go_ret
    refine ⟨congrArg (fun b => Ending.returned (.bool b)) ?_, (Below.refl _ _).alloc (Nat.le_refl _) _⟩
    rw [Bool.eq_iff_iff]
    simp_all

set_option maxHeartbeats 400000 in
theorem iwhole_any (k : Int) (t : ByteArray) (n : Int) (a : Option Addr) (l c : Nat) (a' : Option Addr) (l' c' : Nat) (z : Int) (w : World) :
    Calls Tryz.prog 79 #[.agg #[.int .i64 k, .string t, .int .u64 n, .slice a l c, .slice a' l' c', .int .i64 z]] w fun e w' => e = .returned (.bool ((l' : Int) == (l : Int))) ∧ Below w.heap.size w w' := by
  go_enter Tryz.func79, Tryz.ntmps79
  go_wp2
  go_ret
  exact ⟨rfl, (Below.refl _ _).alloc (Nat.le_refl _) _⟩
set_option maxHeartbeats 2000000 in
theorem flaw_obj (a : Option Addr) (c : Nat) (a' : Option Addr) (c' : Nat) (w : World) :
    Calls Tryz.prog 62 #[.agg #[.int .i64 6, .string ⟨#[]⟩, .int .u64 0, .slice a 1 c, .slice a' 1 c', .int .i64 0], .int .i64 0] w fun e w' => e = .returned (.int .i64 0) ∧ Below w.heap.size w w' := by
  have HH := Lib.hid (fun W => iholds_any 6 ⟨#[]⟩ 0 a 1 c a' 1 c' 0 W)
  have HW := Lib.hid (fun W => iwhole_any 6 ⟨#[]⟩ 0 a 1 c a' 1 c' 0 W)
  have HC := Lib.hid (fun a W => cap_any a W)
  have HM := Lib.hid (fun W => mayBe_any ⟨#[]⟩ (by decide) W)
  have H0 := Lib.hid (sbelow_new w (.cells #[.int .i64 6, .string ⟨#[]⟩, .int .u64 0, .slice a 1 c, .slice a' 1 c', .int .i64 0] 28))
  have H6 : Hid (SixAt (w.alloc (.cells #[.int .i64 6, .string ⟨#[]⟩, .int .u64 0, .slice a 1 c, .slice a' 1 c', .int .i64 0] 28)) w.heap.size (.int .i64 6) (.string ⟨#[]⟩) (.int .u64 0) (.slice a 1 c) (.slice a' 1 c') (.int .i64 0)) := Lib.hid (heap_alloc_new w _)
  obtain ⟨s0, s1, s2, s3, s4, s5⟩ := H6.out.cells
  go_enter Tryz.func62, Tryz.ntmps62
  go_wp2_with fail
  refine (HH.out _).mono ?_
  rintro e w1 ⟨rfl, b1⟩
  have HB1 := Lib.hid (H0.out.trans (b1.mono H0.out.size))
  have H61 := Lib.hid (H6.out.step b1)
  clear s0 s1 s2 s3 s4 s5 b1
  obtain ⟨s0, s1, s2, s3, s4, s5⟩ := H61.out.cells
  go_wp2_with fail
  go_quiet (first | (go_at_call 66; exact Calls.quiet_of_same (HC.out _ _)) | (go_at_call 78; exact Calls.quiet_of_same (HM.out _)))
  go_wp2_with fail
  refine (HW.out _).mono ?_
  rintro e w2 ⟨rfl, b2⟩
  have HB2 := Lib.hid (HB1.out.trans ((kbelow_drewN w1 _).trans (b2.mono (Nat.le_refl _)) |>.mono HB1.out.size))
  clear s0 s1 s2 s3 s4 s5 b2
  go_wp2_with fail
  go_ret
  exact ⟨rfl, HB2.out⟩
set_option maxHeartbeats 2000000 in
theorem flaw_true (w : World) :
    Calls Tryz.prog 62 #[.agg #[.int .i64 2, .string ⟨#[]⟩, .int .u64 0, .slice none 0 0, .slice none 0 0, .int .i64 0], .int .i64 1] w fun e w' => e = .returned (.int .i64 0) ∧ Below w.heap.size w w' := by
  have HH := Lib.hid (fun W => iholds_any 2 ⟨#[]⟩ 0 none 0 0 none 0 0 0 W)
  have HC := Lib.hid (fun a W => cap_any a W)
  have HM := Lib.hid (fun W => mayBe_any ⟨#[]⟩ (by decide) W)
  have H0 := Lib.hid (sbelow_new w (.cells #[.int .i64 2, .string ⟨#[]⟩, .int .u64 0, .slice none 0 0, .slice none 0 0, .int .i64 0] 28))
  have H6 : Hid (SixAt (w.alloc (.cells #[.int .i64 2, .string ⟨#[]⟩, .int .u64 0, .slice none 0 0, .slice none 0 0, .int .i64 0] 28)) w.heap.size (.int .i64 2) (.string ⟨#[]⟩) (.int .u64 0) (.slice none 0 0) (.slice none 0 0) (.int .i64 0)) := Lib.hid (heap_alloc_new w _)
  obtain ⟨s0, s1, s2, s3, s4, s5⟩ := H6.out.cells
  go_enter Tryz.func62, Tryz.ntmps62
  go_wp2_with fail
  refine (HH.out _).mono ?_
  rintro e w1 ⟨rfl, b1⟩
  have HB1 := Lib.hid (H0.out.trans (b1.mono H0.out.size))
  have H61 := Lib.hid (H6.out.step b1)
  clear s0 s1 s2 s3 s4 s5 b1
  obtain ⟨s0, s1, s2, s3, s4, s5⟩ := H61.out.cells
  go_wp2_with fail
  go_quiet (first | (go_at_call 66; exact Calls.quiet_of_same (HC.out _ _)) | (go_at_call 78; exact Calls.quiet_of_same (HM.out _)))
  go_wp2_with fail
  go_ret
  exact ⟨rfl, HB1.out.trans ((kbelow_drewN w1 _).mono HB1.out.size)⟩
set_option maxHeartbeats 2000000 in
theorem check_true (w : World) :
    Calls Tryz.prog 36 #[.agg #[.int .i64 2, .string ⟨#[]⟩, .int .u64 0, .slice none 0 0, .slice none 0 0, .int .i64 0], .int .i64 1] w fun e w' => e = .returned .nilIface ∧ Below w.heap.size w w' := by
  have HF := Lib.hid (fun W => flaw_true W)
  have H0 := Lib.hid (sbelow_new w (.cells #[.int .i64 2, .string ⟨#[]⟩, .int .u64 0, .slice none 0 0, .slice none 0 0, .int .i64 0] 28))
  have H6 : Hid (SixAt (w.alloc (.cells #[.int .i64 2, .string ⟨#[]⟩, .int .u64 0, .slice none 0 0, .slice none 0 0, .int .i64 0] 28)) w.heap.size (.int .i64 2) (.string ⟨#[]⟩) (.int .u64 0) (.slice none 0 0) (.slice none 0 0) (.int .i64 0)) := Lib.hid (heap_alloc_new w _)
  obtain ⟨s0, s1, s2, s3, s4, s5⟩ := H6.out.cells
  go_enter Tryz.func36, Tryz.ntmps36
  go_wp2_with fail
  refine (HF.out _).mono ?_
  rintro e w1 ⟨rfl, b1⟩
  have HB1 := Lib.hid (H0.out.trans (b1.mono H0.out.size))
  have H61 := Lib.hid (H6.out.step b1)
  clear s0 s1 s2 s3 s4 s5 b1
  obtain ⟨s0, s1, s2, s3, s4, s5⟩ := H61.out.cells
  go_wp2_with fail
  go_ret
  exact ⟨rfl, HB1.out⟩
end Go.Proofs.YtabcbeolhhdkpaaGreatDoor
