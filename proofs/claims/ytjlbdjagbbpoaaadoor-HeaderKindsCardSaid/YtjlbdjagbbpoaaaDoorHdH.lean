/-
  HeaderKinds's body, by contract.
-/
import Derived.Test.YtjlbdjagbbpoaaaDoorHdG
import Derived.Test.YtjlbdjagbbpoaaaDoorShelf
namespace Go.Proofs.YtjlbdjagbbpoaaaDoor
open Go.RowKit Go.Extern.Stop Go.Stop Go.Extern

def wordsL : List ByteArray := [⟨#[]⟩, wordB 1, wordB 2, wordB 3]
/-- The four words, in a row. -/
def WordsIn (q : Nat) (w : World) : Prop := q < w.heap.size ∧ ∀ j, j < 4 → w.cell? ⟨q, j, none⟩ = some (.string (wordsL.getD j ByteArray.empty))
theorem WordsIn.step {q : Nat} {w w' : World} (h : WordsIn q w) (hb : Below w.heap.size w w') : WordsIn q w' := ⟨Nat.lt_of_lt_of_le h.1 hb.size, fun j hj => (hb.cell (p := ⟨q, j, none⟩) h.1).trans (h.2 j hj)⟩
theorem words_new (w : World) : WordsIn w.heap.size (w.alloc (.cells #[.string ⟨#[]⟩, .string ⟨#[105, 112]⟩, .string ⟨#[115, 109, 112, 108, 115]⟩, .string ⟨#[109, 112, 108, 115]⟩] 9)) := by
  refine ⟨by simp, fun j hj => ?_⟩
  rw [Lib.cell_of_heap (heap_alloc_new w _)]
  match j, hj with
  | 0, _ => rfl
  | 1, _ => rfl
  | 2, _ => rfl
  | 3, _ => rfl
theorem WordsIn.word {q : Nat} {w : World} (h : WordsIn q w) {k : Nat} (hk : 1 ≤ k ∧ k ≤ 3) : w.cell? ⟨q, k, none⟩ = some (.string (wordB (k : Int))) := by
  rw [h.2 k (by omega)]
  have : k = 1 ∨ k = 2 ∨ k = 3 := by omega
  rcases this with rfl | rfl | rfl <;> rfl
theorem WordsIn.zero {q : Nat} {w : World} (h : WordsIn q w) : w.cell? ⟨q, 0, none⟩ = some (.string ⟨#[]⟩) := h.2 0 (by omega)
theorem contains_no {s : ByteArray} (h0 : s ≠ ⟨#[]⟩) (h1 : s ≠ wordB 1) (h2 : s ≠ wordB 2) (h3 : s ≠ wordB 3) : Lib.containsS (wordsL.take 4) s = false := by
  cases hc : Lib.containsS (wordsL.take 4) s
  · rfl
  · rw [Lib.containsS_iff] at hc
    simp [wordsL, h0, h1, h2, h3] at hc
theorem toList_ne {s : ByteArray} (h : s ≠ ⟨#[]⟩) : ¬ s.toList = [] := by
  intro e
  rw [Go.ByteArray.toList_eq] at e
  exact h (ByteArray.ext (Array.toList_inj.1 e))
theorem len_below (k : Int) : (setL (belowW k) 0).length < 3 := by
  unfold belowW
  split
  · decide
  · split <;> decide
def KR (w : World) (g : Nat) (v : Value) (wr : World) : Prop := ∃ i : Nat, i ≤ 6 ∧ g = 6 - i ∧ v = .int .i64 i ∧ Below w.heap.size w wr

set_option maxRecDepth 100000 in
set_option maxHeartbeats 8000000 in
theorem headerKinds_low (k : Int) (hk : k < 1) (s : ByteArray) (w : World) (ht : TabB w) :
    Calls Tryd.prog 4 #[.int .i64 k, .string s] w fun e w' => e = .returned (.bool true) ∧ Below w.heap.size w w' := by
  have HA := Lib.hid (awake9_any w ht)
  clear ht
  go_enter Tryd.func4, Tryd.ntmps4
  go_wp2_with fail
  refine HA.out.mono ?_
  rintro e w1 ⟨rfl, b1⟩
  have HB := Lib.hid b1
  clear b1 HA
  by_cases g1 : 100 < s.size
  · have q1 : (100 : Int) < s.size := by omega
    go_wp2_with fail
    go_ret
    exact ⟨rfl, HB.out⟩
  have q1 : ¬ (100 : Int) < s.size := by omega
  have hk' : ¬ (1 : Int) ≤ k := by omega
  have hw : wordB k = ⟨#[]⟩ := wordB_none (by omega) (by omega) (by omega)
  have HWI := Lib.hid (words_new w1)
  have HBw := Lib.hid (HB.out.trans ((below_new w1 (.cells #[.string ⟨#[]⟩, .string ⟨#[105, 112]⟩, .string ⟨#[115, 109, 112, 108, 115]⟩, .string ⟨#[109, 112, 108, 115]⟩] 9)).mono HB.out.size))
  have HF := Lib.hid (fun s w' => hof_any s w')
  clear HB g1
  go_wp2_with fail
  refine (HF.out _ _).mono ?_
  rintro e w2 ⟨rfl, rfl⟩
  generalize w1.alloc (.cells #[.string ⟨#[]⟩, .string ⟨#[105, 112]⟩, .string ⟨#[115, 109, 112, 108, 115]⟩, .string ⟨#[109, 112, 108, 115]⟩] 9) = w2 at *
  generalize w1.heap.size = q at *
  have HWd := Lib.hid (fun (w' : World) => word_any k w')
  rw [hw] at HWd
  rcases ofW_cases s with ⟨e, h1, h2, h3⟩ | ⟨j, j1, j3, e, rfl⟩
  · rw [e]
    by_cases h0 : s = ⟨#[]⟩
    · subst h0
      clear e h1 h2 h3 HF
      go_wp2_with fail
      go_quiet ((go_at_call 18; exact Calls.quiet_of_same (HWd.out _)))
      all_goals
        go_wp2_with fail
        go_loopg [83] 6 (fun g u wr => KR w g u wr)
        case atStart => exact ⟨0, by omega, by omega, rfl, HBw.out.trans ((below_drewN _ _).mono HBw.out.size)⟩
        case round =>
          obtain ⟨i, hi, hgi, rfl, hb⟩ := hrel
          have hB := Lib.hid hb
          clear hb
          by_cases hlt : i < 6
          · have hl : (i : Int) < 6 := by omega
            have HM := Lib.hid (fun w' => rmay_any k (i : Int) w')
            have HE := Lib.hid (fun w' => below_any k w')
            have HO := Lib.hid (fun w' => onto_any k w')
            have HH := Lib.hid (fun w' => has_any (belowW k) 0 (i : Int) (belowW_u64 _) zero_u64 w')
            rw [has_below] at HH
            generalize belowW k = bw at *
            generalize mayB k (i : Int) = r at *
            go_wp2_with fail
            refine (HM.out _).mono ?_
            rintro e w2 ⟨rfl, rfl⟩
            go_wp2_with fail
            refine (HE.out _).mono ?_
            rintro e w3 ⟨rfl, b3⟩
            have hB3 := Lib.hid (hB.out.trans (b3.mono hB.out.size))
            clear b3
            go_wp2_with fail
            refine (HH.out _).mono ?_
            rintro e w4 ⟨rfl, b4⟩
            have hB4 := Lib.hid (hB3.out.trans (b4.mono hB3.out.size))
            clear b4
            go_wp2_with fail
            refine (HO.out _).mono ?_
            rintro e w5 ⟨rfl, b5⟩
            have hB5 := Lib.hid (hB4.out.trans (b5.mono hB4.out.size))
            clear b5
            go_wp2_with fail
            refine (HH.out _).mono ?_
            rintro e w6 ⟨rfl, b6⟩
            have hB6 := Lib.hid (hB5.out.trans (b6.mono hB5.out.size))
            clear b6
            go_wp2_with fail
            go_roundg (6 - (i + 1))
            case measure => omega
            case rel => exact ⟨i + 1, by omega, rfl, by go_num, hB6.out⟩
          · obtain rfl : i = 6 := by omega
            have HE := Lib.hid (fun w' => below_any k w')
            have HL := Lib.hid (fun w' => len_any (belowW k) 0 (belowW_u64 _) zero_u64 w')
            have hlen := len_below k
            generalize (setL (belowW k) 0).length = n at *
            generalize belowW k = bw at *
            have hn : (n : Int) < 3 := by omega
            go_wp2_with fail
            refine (HE.out _).mono ?_
            rintro e w3 ⟨rfl, b3⟩
            have hB3 := Lib.hid (hB.out.trans (b3.mono hB.out.size))
            clear b3
            go_wp2_with fail
            refine (HL.out _).mono ?_
            rintro e w4 ⟨rfl, b4⟩
            have hB4 := Lib.hid (hB3.out.trans (b4.mono hB3.out.size))
            clear b4
            go_wp2_with fail
            go_ret
            exact ⟨rfl, hB4.out⟩
    · have HC := Lib.hid (Tryd.slices_Contains_string q 0 4 4 wordsL s w2 (by decide) (by decide) (fun j hj => by rw [Nat.zero_add]; exact HWI.out.2 j hj))
      rw [contains_no h0 h1 h2 h3] at HC
      have q0 : ¬ s.toList = [] := toList_ne h0
      clear e h0 h1 h2 h3 HF
      go_wp2_with fail
      refine HC.out.mono ?_
      rintro e w3 ⟨rfl, rfl⟩
      clear HC
      go_wp2_with fail
      go_quiet ((go_at_call 18; exact Calls.quiet_of_same (HWd.out _)))
      all_goals
        go_wp2_with fail
        go_loopg [83] 6 (fun g u wr => KR w g u wr)
        case atStart => exact ⟨0, by omega, by omega, rfl, HBw.out.trans ((below_drewN _ _).mono HBw.out.size)⟩
        case round =>
          obtain ⟨i, hi, hgi, rfl, hb⟩ := hrel
          have hB := Lib.hid hb
          clear hb
          by_cases hlt : i < 6
          · have hl : (i : Int) < 6 := by omega
            have HM := Lib.hid (fun w' => rmay_any k (i : Int) w')
            have HE := Lib.hid (fun w' => below_any k w')
            have HO := Lib.hid (fun w' => onto_any k w')
            have HH := Lib.hid (fun w' => has_any (belowW k) 0 (i : Int) (belowW_u64 _) zero_u64 w')
            rw [has_below] at HH
            generalize belowW k = bw at *
            generalize mayB k (i : Int) = r at *
            go_wp2_with fail
            refine (HM.out _).mono ?_
            rintro e w2 ⟨rfl, rfl⟩
            go_wp2_with fail
            refine (HE.out _).mono ?_
            rintro e w3 ⟨rfl, b3⟩
            have hB3 := Lib.hid (hB.out.trans (b3.mono hB.out.size))
            clear b3
            go_wp2_with fail
            refine (HH.out _).mono ?_
            rintro e w4 ⟨rfl, b4⟩
            have hB4 := Lib.hid (hB3.out.trans (b4.mono hB3.out.size))
            clear b4
            go_wp2_with fail
            refine (HO.out _).mono ?_
            rintro e w5 ⟨rfl, b5⟩
            have hB5 := Lib.hid (hB4.out.trans (b5.mono hB4.out.size))
            clear b5
            go_wp2_with fail
            refine (HH.out _).mono ?_
            rintro e w6 ⟨rfl, b6⟩
            have hB6 := Lib.hid (hB5.out.trans (b6.mono hB5.out.size))
            clear b6
            go_wp2_with fail
            go_roundg (6 - (i + 1))
            case measure => omega
            case rel => exact ⟨i + 1, by omega, rfl, by go_num, hB6.out⟩
          · obtain rfl : i = 6 := by omega
            have HE := Lib.hid (fun w' => below_any k w')
            have HL := Lib.hid (fun w' => len_any (belowW k) 0 (belowW_u64 _) zero_u64 w')
            have hlen := len_below k
            generalize (setL (belowW k) 0).length = n at *
            generalize belowW k = bw at *
            have hn : (n : Int) < 3 := by omega
            go_wp2_with fail
            refine (HE.out _).mono ?_
            rintro e w3 ⟨rfl, b3⟩
            have hB3 := Lib.hid (hB.out.trans (b3.mono hB.out.size))
            clear b3
            go_wp2_with fail
            refine (HL.out _).mono ?_
            rintro e w4 ⟨rfl, b4⟩
            have hB4 := Lib.hid (hB3.out.trans (b4.mono hB3.out.size))
            clear b4
            go_wp2_with fail
            go_ret
            exact ⟨rfl, hB4.out⟩
  · rw [e]
    have cj := HWI.out.word ⟨j1, j3⟩
    have p0 : (0 : Int) ≤ (j : Int) := by omega
    have p1 : (j : Int) < 4 := by omega
    have p2 : ¬ (j : Int) < 0 := by omega
    have p3 : ¬ (3 : Int) < (j : Int) := by omega
    have p4 : (0 : Int) < (j : Int) := by omega
    have p5 : ((j : Int) == 0) = false := by rw [beq_eq_false_iff_ne]; omega
    clear e HF
    go_wp2_with fail
    go_quiet ((go_at_call 18; exact Calls.quiet_of_same (HWd.out _)))
    all_goals
      go_wp2_with fail
      go_loopg [83] 6 (fun g u wr => KR w g u wr)
      case atStart => exact ⟨0, by omega, by omega, rfl, HBw.out.trans ((below_drewN _ _).mono HBw.out.size)⟩
      case round =>
        obtain ⟨i, hi, hgi, rfl, hb⟩ := hrel
        have hB := Lib.hid hb
        clear hb
        by_cases hlt : i < 6
        · have hl : (i : Int) < 6 := by omega
          have HM := Lib.hid (fun w' => rmay_any k (i : Int) w')
          have HE := Lib.hid (fun w' => below_any k w')
          have HO := Lib.hid (fun w' => onto_any k w')
          have HH := Lib.hid (fun w' => has_any (belowW k) 0 (i : Int) (belowW_u64 _) zero_u64 w')
          rw [has_below] at HH
          generalize belowW k = bw at *
          generalize mayB k (i : Int) = r at *
          go_wp2_with fail
          refine (HM.out _).mono ?_
          rintro e w2 ⟨rfl, rfl⟩
          go_wp2_with fail
          refine (HE.out _).mono ?_
          rintro e w3 ⟨rfl, b3⟩
          have hB3 := Lib.hid (hB.out.trans (b3.mono hB.out.size))
          clear b3
          go_wp2_with fail
          refine (HH.out _).mono ?_
          rintro e w4 ⟨rfl, b4⟩
          have hB4 := Lib.hid (hB3.out.trans (b4.mono hB3.out.size))
          clear b4
          go_wp2_with fail
          refine (HO.out _).mono ?_
          rintro e w5 ⟨rfl, b5⟩
          have hB5 := Lib.hid (hB4.out.trans (b5.mono hB4.out.size))
          clear b5
          go_wp2_with fail
          refine (HH.out _).mono ?_
          rintro e w6 ⟨rfl, b6⟩
          have hB6 := Lib.hid (hB5.out.trans (b6.mono hB5.out.size))
          clear b6
          go_wp2_with fail
          go_roundg (6 - (i + 1))
          case measure => omega
          case rel => exact ⟨i + 1, by omega, rfl, by go_num, hB6.out⟩
        · obtain rfl : i = 6 := by omega
          have HE := Lib.hid (fun w' => below_any k w')
          have HL := Lib.hid (fun w' => len_any (belowW k) 0 (belowW_u64 _) zero_u64 w')
          have hlen := len_below k
          generalize (setL (belowW k) 0).length = n at *
          generalize belowW k = bw at *
          have hn : (n : Int) < 3 := by omega
          go_wp2_with fail
          refine (HE.out _).mono ?_
          rintro e w3 ⟨rfl, b3⟩
          have hB3 := Lib.hid (hB.out.trans (b3.mono hB.out.size))
          clear b3
          go_wp2_with fail
          refine (HL.out _).mono ?_
          rintro e w4 ⟨rfl, b4⟩
          have hB4 := Lib.hid (hB3.out.trans (b4.mono hB3.out.size))
          clear b4
          go_wp2_with fail
          go_ret
          exact ⟨rfl, hB4.out⟩
set_option maxRecDepth 100000 in
set_option maxHeartbeats 8000000 in
theorem headerKinds_high (k : Int) (hk : 3 < k) (s : ByteArray) (w : World) (ht : TabB w) :
    Calls Tryd.prog 4 #[.int .i64 k, .string s] w fun e w' => e = .returned (.bool true) ∧ Below w.heap.size w w' := by
  have HA := Lib.hid (awake9_any w ht)
  clear ht
  go_enter Tryd.func4, Tryd.ntmps4
  go_wp2_with fail
  refine HA.out.mono ?_
  rintro e w1 ⟨rfl, b1⟩
  have HB := Lib.hid b1
  clear b1 HA
  by_cases g1 : 100 < s.size
  · have q1 : (100 : Int) < s.size := by omega
    go_wp2_with fail
    go_ret
    exact ⟨rfl, HB.out⟩
  have q1 : ¬ (100 : Int) < s.size := by omega
  have hk1 : (1 : Int) ≤ k := by omega
  have hk2 : decide (k ≤ (3 : Int)) = false := decide_eq_false (by omega)
  have hw : wordB k = ⟨#[]⟩ := wordB_none (by omega) (by omega) (by omega)
  have HWI := Lib.hid (words_new w1)
  have HBw := Lib.hid (HB.out.trans ((below_new w1 (.cells #[.string ⟨#[]⟩, .string ⟨#[105, 112]⟩, .string ⟨#[115, 109, 112, 108, 115]⟩, .string ⟨#[109, 112, 108, 115]⟩] 9)).mono HB.out.size))
  have HF := Lib.hid (fun s w' => hof_any s w')
  clear HB g1
  go_wp2_with fail
  refine (HF.out _ _).mono ?_
  rintro e w2 ⟨rfl, rfl⟩
  generalize w1.alloc (.cells #[.string ⟨#[]⟩, .string ⟨#[105, 112]⟩, .string ⟨#[115, 109, 112, 108, 115]⟩, .string ⟨#[109, 112, 108, 115]⟩] 9) = w2 at *
  generalize w1.heap.size = q at *
  have HWd := Lib.hid (fun (w' : World) => word_any k w')
  rw [hw] at HWd
  rcases ofW_cases s with ⟨e, h1, h2, h3⟩ | ⟨j, j1, j3, e, rfl⟩
  · rw [e]
    by_cases h0 : s = ⟨#[]⟩
    · subst h0
      clear e h1 h2 h3 HF
      go_wp2_with fail
      go_quiet ((go_at_call 18; exact Calls.quiet_of_same (HWd.out _)))
      all_goals
        go_wp2_with fail
        go_loopg [83] 6 (fun g u wr => KR w g u wr)
        case atStart => exact ⟨0, by omega, by omega, rfl, HBw.out.trans ((below_drewN _ _).mono HBw.out.size)⟩
        case round =>
          obtain ⟨i, hi, hgi, rfl, hb⟩ := hrel
          have hB := Lib.hid hb
          clear hb
          by_cases hlt : i < 6
          · have hl : (i : Int) < 6 := by omega
            have HM := Lib.hid (fun w' => rmay_any k (i : Int) w')
            have HE := Lib.hid (fun w' => below_any k w')
            have HO := Lib.hid (fun w' => onto_any k w')
            have HH := Lib.hid (fun w' => has_any (belowW k) 0 (i : Int) (belowW_u64 _) zero_u64 w')
            rw [has_below] at HH
            generalize belowW k = bw at *
            generalize mayB k (i : Int) = r at *
            go_wp2_with fail
            refine (HM.out _).mono ?_
            rintro e w2 ⟨rfl, rfl⟩
            go_wp2_with fail
            refine (HE.out _).mono ?_
            rintro e w3 ⟨rfl, b3⟩
            have hB3 := Lib.hid (hB.out.trans (b3.mono hB.out.size))
            clear b3
            go_wp2_with fail
            refine (HH.out _).mono ?_
            rintro e w4 ⟨rfl, b4⟩
            have hB4 := Lib.hid (hB3.out.trans (b4.mono hB3.out.size))
            clear b4
            go_wp2_with fail
            refine (HO.out _).mono ?_
            rintro e w5 ⟨rfl, b5⟩
            have hB5 := Lib.hid (hB4.out.trans (b5.mono hB4.out.size))
            clear b5
            go_wp2_with fail
            refine (HH.out _).mono ?_
            rintro e w6 ⟨rfl, b6⟩
            have hB6 := Lib.hid (hB5.out.trans (b6.mono hB5.out.size))
            clear b6
            go_wp2_with fail
            go_roundg (6 - (i + 1))
            case measure => omega
            case rel => exact ⟨i + 1, by omega, rfl, by go_num, hB6.out⟩
          · obtain rfl : i = 6 := by omega
            have HE := Lib.hid (fun w' => below_any k w')
            have HL := Lib.hid (fun w' => len_any (belowW k) 0 (belowW_u64 _) zero_u64 w')
            have hlen := len_below k
            generalize (setL (belowW k) 0).length = n at *
            generalize belowW k = bw at *
            have hn : (n : Int) < 3 := by omega
            go_wp2_with fail
            refine (HE.out _).mono ?_
            rintro e w3 ⟨rfl, b3⟩
            have hB3 := Lib.hid (hB.out.trans (b3.mono hB.out.size))
            clear b3
            go_wp2_with fail
            refine (HL.out _).mono ?_
            rintro e w4 ⟨rfl, b4⟩
            have hB4 := Lib.hid (hB3.out.trans (b4.mono hB3.out.size))
            clear b4
            go_wp2_with fail
            go_ret
            exact ⟨rfl, hB4.out⟩
    · have HC := Lib.hid (Tryd.slices_Contains_string q 0 4 4 wordsL s w2 (by decide) (by decide) (fun j hj => by rw [Nat.zero_add]; exact HWI.out.2 j hj))
      rw [contains_no h0 h1 h2 h3] at HC
      have q0 : ¬ s.toList = [] := toList_ne h0
      clear e h0 h1 h2 h3 HF
      go_wp2_with fail
      refine HC.out.mono ?_
      rintro e w3 ⟨rfl, rfl⟩
      clear HC
      go_wp2_with fail
      go_quiet ((go_at_call 18; exact Calls.quiet_of_same (HWd.out _)))
      all_goals
        go_wp2_with fail
        go_loopg [83] 6 (fun g u wr => KR w g u wr)
        case atStart => exact ⟨0, by omega, by omega, rfl, HBw.out.trans ((below_drewN _ _).mono HBw.out.size)⟩
        case round =>
          obtain ⟨i, hi, hgi, rfl, hb⟩ := hrel
          have hB := Lib.hid hb
          clear hb
          by_cases hlt : i < 6
          · have hl : (i : Int) < 6 := by omega
            have HM := Lib.hid (fun w' => rmay_any k (i : Int) w')
            have HE := Lib.hid (fun w' => below_any k w')
            have HO := Lib.hid (fun w' => onto_any k w')
            have HH := Lib.hid (fun w' => has_any (belowW k) 0 (i : Int) (belowW_u64 _) zero_u64 w')
            rw [has_below] at HH
            generalize belowW k = bw at *
            generalize mayB k (i : Int) = r at *
            go_wp2_with fail
            refine (HM.out _).mono ?_
            rintro e w2 ⟨rfl, rfl⟩
            go_wp2_with fail
            refine (HE.out _).mono ?_
            rintro e w3 ⟨rfl, b3⟩
            have hB3 := Lib.hid (hB.out.trans (b3.mono hB.out.size))
            clear b3
            go_wp2_with fail
            refine (HH.out _).mono ?_
            rintro e w4 ⟨rfl, b4⟩
            have hB4 := Lib.hid (hB3.out.trans (b4.mono hB3.out.size))
            clear b4
            go_wp2_with fail
            refine (HO.out _).mono ?_
            rintro e w5 ⟨rfl, b5⟩
            have hB5 := Lib.hid (hB4.out.trans (b5.mono hB4.out.size))
            clear b5
            go_wp2_with fail
            refine (HH.out _).mono ?_
            rintro e w6 ⟨rfl, b6⟩
            have hB6 := Lib.hid (hB5.out.trans (b6.mono hB5.out.size))
            clear b6
            go_wp2_with fail
            go_roundg (6 - (i + 1))
            case measure => omega
            case rel => exact ⟨i + 1, by omega, rfl, by go_num, hB6.out⟩
          · obtain rfl : i = 6 := by omega
            have HE := Lib.hid (fun w' => below_any k w')
            have HL := Lib.hid (fun w' => len_any (belowW k) 0 (belowW_u64 _) zero_u64 w')
            have hlen := len_below k
            generalize (setL (belowW k) 0).length = n at *
            generalize belowW k = bw at *
            have hn : (n : Int) < 3 := by omega
            go_wp2_with fail
            refine (HE.out _).mono ?_
            rintro e w3 ⟨rfl, b3⟩
            have hB3 := Lib.hid (hB.out.trans (b3.mono hB.out.size))
            clear b3
            go_wp2_with fail
            refine (HL.out _).mono ?_
            rintro e w4 ⟨rfl, b4⟩
            have hB4 := Lib.hid (hB3.out.trans (b4.mono hB3.out.size))
            clear b4
            go_wp2_with fail
            go_ret
            exact ⟨rfl, hB4.out⟩
  · rw [e]
    have cj := HWI.out.word ⟨j1, j3⟩
    have p0 : (0 : Int) ≤ (j : Int) := by omega
    have p1 : (j : Int) < 4 := by omega
    have p2 : ¬ (j : Int) < 0 := by omega
    have p3 : ¬ (3 : Int) < (j : Int) := by omega
    have p4 : (0 : Int) < (j : Int) := by omega
    have p5 : ((j : Int) == 0) = false := by rw [beq_eq_false_iff_ne]; omega
    clear e HF
    go_wp2_with fail
    go_quiet ((go_at_call 18; exact Calls.quiet_of_same (HWd.out _)))
    all_goals
      go_wp2_with fail
      go_loopg [83] 6 (fun g u wr => KR w g u wr)
      case atStart => exact ⟨0, by omega, by omega, rfl, HBw.out.trans ((below_drewN _ _).mono HBw.out.size)⟩
      case round =>
        obtain ⟨i, hi, hgi, rfl, hb⟩ := hrel
        have hB := Lib.hid hb
        clear hb
        by_cases hlt : i < 6
        · have hl : (i : Int) < 6 := by omega
          have HM := Lib.hid (fun w' => rmay_any k (i : Int) w')
          have HE := Lib.hid (fun w' => below_any k w')
          have HO := Lib.hid (fun w' => onto_any k w')
          have HH := Lib.hid (fun w' => has_any (belowW k) 0 (i : Int) (belowW_u64 _) zero_u64 w')
          rw [has_below] at HH
          generalize belowW k = bw at *
          generalize mayB k (i : Int) = r at *
          go_wp2_with fail
          refine (HM.out _).mono ?_
          rintro e w2 ⟨rfl, rfl⟩
          go_wp2_with fail
          refine (HE.out _).mono ?_
          rintro e w3 ⟨rfl, b3⟩
          have hB3 := Lib.hid (hB.out.trans (b3.mono hB.out.size))
          clear b3
          go_wp2_with fail
          refine (HH.out _).mono ?_
          rintro e w4 ⟨rfl, b4⟩
          have hB4 := Lib.hid (hB3.out.trans (b4.mono hB3.out.size))
          clear b4
          go_wp2_with fail
          refine (HO.out _).mono ?_
          rintro e w5 ⟨rfl, b5⟩
          have hB5 := Lib.hid (hB4.out.trans (b5.mono hB4.out.size))
          clear b5
          go_wp2_with fail
          refine (HH.out _).mono ?_
          rintro e w6 ⟨rfl, b6⟩
          have hB6 := Lib.hid (hB5.out.trans (b6.mono hB5.out.size))
          clear b6
          go_wp2_with fail
          go_roundg (6 - (i + 1))
          case measure => omega
          case rel => exact ⟨i + 1, by omega, rfl, by go_num, hB6.out⟩
        · obtain rfl : i = 6 := by omega
          have HE := Lib.hid (fun w' => below_any k w')
          have HL := Lib.hid (fun w' => len_any (belowW k) 0 (belowW_u64 _) zero_u64 w')
          have hlen := len_below k
          generalize (setL (belowW k) 0).length = n at *
          generalize belowW k = bw at *
          have hn : (n : Int) < 3 := by omega
          go_wp2_with fail
          refine (HE.out _).mono ?_
          rintro e w3 ⟨rfl, b3⟩
          have hB3 := Lib.hid (hB.out.trans (b3.mono hB.out.size))
          clear b3
          go_wp2_with fail
          refine (HL.out _).mono ?_
          rintro e w4 ⟨rfl, b4⟩
          have hB4 := Lib.hid (hB3.out.trans (b4.mono hB3.out.size))
          clear b4
          go_wp2_with fail
          go_ret
          exact ⟨rfl, hB4.out⟩
set_option maxRecDepth 100000 in
set_option maxHeartbeats 8000000 in
theorem headerKinds_known (k : Nat) (hk : 1 ≤ k ∧ k ≤ 3) (s : ByteArray) (w : World) (ht : TabB w) :
    Calls Tryd.prog 4 #[.int .i64 (k : Int), .string s] w fun e w' => e = .returned (.bool true) ∧ Below w.heap.size w w' := by
  have HA := Lib.hid (awake9_any w ht)
  clear ht
  go_enter Tryd.func4, Tryd.ntmps4
  go_wp2_with fail
  refine HA.out.mono ?_
  rintro e w1 ⟨rfl, b1⟩
  have HB := Lib.hid b1
  clear b1 HA
  by_cases g1 : 100 < s.size
  · have q1 : (100 : Int) < s.size := by omega
    go_wp2_with fail
    go_ret
    exact ⟨rfl, HB.out⟩
  have q1 : ¬ (100 : Int) < s.size := by omega
  have hk1 : (1 : Int) ≤ (k : Int) := by omega
  have hk2 : (k : Int) ≤ 3 := by omega
  have hk3 : (0 : Int) ≤ (k : Int) := by omega
  have hk4 : (k : Int) < 4 := by omega
  have HWI := Lib.hid (words_new w1)
  have HBw := Lib.hid (HB.out.trans ((below_new w1 (.cells #[.string ⟨#[]⟩, .string ⟨#[105, 112]⟩, .string ⟨#[115, 109, 112, 108, 115]⟩, .string ⟨#[109, 112, 108, 115]⟩] 9)).mono HB.out.size))
  have HF := Lib.hid (fun s w' => hof_any s w')
  clear HB g1
  go_wp2_with fail
  refine (HF.out _ _).mono ?_
  rintro e w2 ⟨rfl, rfl⟩
  generalize w1.alloc (.cells #[.string ⟨#[]⟩, .string ⟨#[105, 112]⟩, .string ⟨#[115, 109, 112, 108, 115]⟩, .string ⟨#[109, 112, 108, 115]⟩] 9) = w2 at *
  generalize w1.heap.size = q at *
  have HWd := Lib.hid (fun (w' : World) => word_any (k : Int) w')
  have HOf := Lib.hid (fun (w' : World) => (hof_any (wordB (k : Int)) w').mono fun _ w2 h => (⟨h.1, h.2.symm⟩ : _ ∧ w2 = w'))
  rw [ofW_word (by omega)] at HOf
  have ck := HWI.out.word hk
  rcases ofW_cases s with ⟨e, h1, h2, h3⟩ | ⟨j, j1, j3, e, rfl⟩
  · rw [e]
    by_cases h0 : s = ⟨#[]⟩
    · subst h0
      clear e h1 h2 h3 HF
      go_wp2_with fail
      go_quiet (first | (go_at_call 18; exact Calls.quiet_of_same (HWd.out _)) | (go_at_call 16; exact Calls.quiet_of_same (HOf.out _)))
      all_goals
        go_wp2_with fail
        go_loopg [83] 6 (fun g u wr => KR w g u wr)
        case atStart => exact ⟨0, by omega, by omega, rfl, HBw.out.trans ((below_drewN _ _).mono HBw.out.size)⟩
        case round =>
          obtain ⟨i, hi, hgi, rfl, hb⟩ := hrel
          have hB := Lib.hid hb
          clear hb
          by_cases hlt : i < 6
          · have hl : (i : Int) < 6 := by omega
            have HM := Lib.hid (fun w' => rmay_any k (i : Int) w')
            have HE := Lib.hid (fun w' => below_any k w')
            have HO := Lib.hid (fun w' => onto_any k w')
            have HH := Lib.hid (fun w' => has_any (belowW k) 0 (i : Int) (belowW_u64 _) zero_u64 w')
            rw [has_below] at HH
            generalize belowW k = bw at *
            generalize mayB k (i : Int) = r at *
            go_wp2_with fail
            refine (HM.out _).mono ?_
            rintro e w2 ⟨rfl, rfl⟩
            go_wp2_with fail
            refine (HE.out _).mono ?_
            rintro e w3 ⟨rfl, b3⟩
            have hB3 := Lib.hid (hB.out.trans (b3.mono hB.out.size))
            clear b3
            go_wp2_with fail
            refine (HH.out _).mono ?_
            rintro e w4 ⟨rfl, b4⟩
            have hB4 := Lib.hid (hB3.out.trans (b4.mono hB3.out.size))
            clear b4
            go_wp2_with fail
            refine (HO.out _).mono ?_
            rintro e w5 ⟨rfl, b5⟩
            have hB5 := Lib.hid (hB4.out.trans (b5.mono hB4.out.size))
            clear b5
            go_wp2_with fail
            refine (HH.out _).mono ?_
            rintro e w6 ⟨rfl, b6⟩
            have hB6 := Lib.hid (hB5.out.trans (b6.mono hB5.out.size))
            clear b6
            go_wp2_with fail
            go_roundg (6 - (i + 1))
            case measure => omega
            case rel => exact ⟨i + 1, by omega, rfl, by go_num, hB6.out⟩
          · obtain rfl : i = 6 := by omega
            have HE := Lib.hid (fun w' => below_any k w')
            have HL := Lib.hid (fun w' => len_any (belowW k) 0 (belowW_u64 _) zero_u64 w')
            have hlen := len_below k
            generalize (setL (belowW k) 0).length = n at *
            generalize belowW k = bw at *
            have hn : (n : Int) < 3 := by omega
            go_wp2_with fail
            refine (HE.out _).mono ?_
            rintro e w3 ⟨rfl, b3⟩
            have hB3 := Lib.hid (hB.out.trans (b3.mono hB.out.size))
            clear b3
            go_wp2_with fail
            refine (HL.out _).mono ?_
            rintro e w4 ⟨rfl, b4⟩
            have hB4 := Lib.hid (hB3.out.trans (b4.mono hB3.out.size))
            clear b4
            go_wp2_with fail
            go_ret
            exact ⟨rfl, hB4.out⟩
    · have HC := Lib.hid (Tryd.slices_Contains_string q 0 4 4 wordsL s w2 (by decide) (by decide) (fun j hj => by rw [Nat.zero_add]; exact HWI.out.2 j hj))
      rw [contains_no h0 h1 h2 h3] at HC
      have q0 : ¬ s.toList = [] := toList_ne h0
      clear e h0 h1 h2 h3 HF
      go_wp2_with fail
      refine HC.out.mono ?_
      rintro e w3 ⟨rfl, rfl⟩
      clear HC
      go_wp2_with fail
      go_quiet (first | (go_at_call 18; exact Calls.quiet_of_same (HWd.out _)) | (go_at_call 16; exact Calls.quiet_of_same (HOf.out _)))
      all_goals
        go_wp2_with fail
        go_loopg [83] 6 (fun g u wr => KR w g u wr)
        case atStart => exact ⟨0, by omega, by omega, rfl, HBw.out.trans ((below_drewN _ _).mono HBw.out.size)⟩
        case round =>
          obtain ⟨i, hi, hgi, rfl, hb⟩ := hrel
          have hB := Lib.hid hb
          clear hb
          by_cases hlt : i < 6
          · have hl : (i : Int) < 6 := by omega
            have HM := Lib.hid (fun w' => rmay_any k (i : Int) w')
            have HE := Lib.hid (fun w' => below_any k w')
            have HO := Lib.hid (fun w' => onto_any k w')
            have HH := Lib.hid (fun w' => has_any (belowW k) 0 (i : Int) (belowW_u64 _) zero_u64 w')
            rw [has_below] at HH
            generalize belowW k = bw at *
            generalize mayB k (i : Int) = r at *
            go_wp2_with fail
            refine (HM.out _).mono ?_
            rintro e w2 ⟨rfl, rfl⟩
            go_wp2_with fail
            refine (HE.out _).mono ?_
            rintro e w3 ⟨rfl, b3⟩
            have hB3 := Lib.hid (hB.out.trans (b3.mono hB.out.size))
            clear b3
            go_wp2_with fail
            refine (HH.out _).mono ?_
            rintro e w4 ⟨rfl, b4⟩
            have hB4 := Lib.hid (hB3.out.trans (b4.mono hB3.out.size))
            clear b4
            go_wp2_with fail
            refine (HO.out _).mono ?_
            rintro e w5 ⟨rfl, b5⟩
            have hB5 := Lib.hid (hB4.out.trans (b5.mono hB4.out.size))
            clear b5
            go_wp2_with fail
            refine (HH.out _).mono ?_
            rintro e w6 ⟨rfl, b6⟩
            have hB6 := Lib.hid (hB5.out.trans (b6.mono hB5.out.size))
            clear b6
            go_wp2_with fail
            go_roundg (6 - (i + 1))
            case measure => omega
            case rel => exact ⟨i + 1, by omega, rfl, by go_num, hB6.out⟩
          · obtain rfl : i = 6 := by omega
            have HE := Lib.hid (fun w' => below_any k w')
            have HL := Lib.hid (fun w' => len_any (belowW k) 0 (belowW_u64 _) zero_u64 w')
            have hlen := len_below k
            generalize (setL (belowW k) 0).length = n at *
            generalize belowW k = bw at *
            have hn : (n : Int) < 3 := by omega
            go_wp2_with fail
            refine (HE.out _).mono ?_
            rintro e w3 ⟨rfl, b3⟩
            have hB3 := Lib.hid (hB.out.trans (b3.mono hB.out.size))
            clear b3
            go_wp2_with fail
            refine (HL.out _).mono ?_
            rintro e w4 ⟨rfl, b4⟩
            have hB4 := Lib.hid (hB3.out.trans (b4.mono hB3.out.size))
            clear b4
            go_wp2_with fail
            go_ret
            exact ⟨rfl, hB4.out⟩
  · rw [e]
    have cj := HWI.out.word ⟨j1, j3⟩
    have p0 : (0 : Int) ≤ (j : Int) := by omega
    have p1 : (j : Int) < 4 := by omega
    have p2 : ¬ (j : Int) < 0 := by omega
    have p3 : ¬ (3 : Int) < (j : Int) := by omega
    have p4 : (0 : Int) < (j : Int) := by omega
    have p5 : ((j : Int) == 0) = false := by rw [beq_eq_false_iff_ne]; omega
    clear e HF
    go_wp2_with fail
    go_quiet (first | (go_at_call 18; exact Calls.quiet_of_same (HWd.out _)) | (go_at_call 16; exact Calls.quiet_of_same (HOf.out _)))
    all_goals
      go_wp2_with fail
      go_loopg [83] 6 (fun g u wr => KR w g u wr)
      case atStart => exact ⟨0, by omega, by omega, rfl, HBw.out.trans ((below_drewN _ _).mono HBw.out.size)⟩
      case round =>
        obtain ⟨i, hi, hgi, rfl, hb⟩ := hrel
        have hB := Lib.hid hb
        clear hb
        by_cases hlt : i < 6
        · have hl : (i : Int) < 6 := by omega
          have HM := Lib.hid (fun w' => rmay_any k (i : Int) w')
          have HE := Lib.hid (fun w' => below_any k w')
          have HO := Lib.hid (fun w' => onto_any k w')
          have HH := Lib.hid (fun w' => has_any (belowW k) 0 (i : Int) (belowW_u64 _) zero_u64 w')
          rw [has_below] at HH
          generalize belowW k = bw at *
          generalize mayB k (i : Int) = r at *
          go_wp2_with fail
          refine (HM.out _).mono ?_
          rintro e w2 ⟨rfl, rfl⟩
          go_wp2_with fail
          refine (HE.out _).mono ?_
          rintro e w3 ⟨rfl, b3⟩
          have hB3 := Lib.hid (hB.out.trans (b3.mono hB.out.size))
          clear b3
          go_wp2_with fail
          refine (HH.out _).mono ?_
          rintro e w4 ⟨rfl, b4⟩
          have hB4 := Lib.hid (hB3.out.trans (b4.mono hB3.out.size))
          clear b4
          go_wp2_with fail
          refine (HO.out _).mono ?_
          rintro e w5 ⟨rfl, b5⟩
          have hB5 := Lib.hid (hB4.out.trans (b5.mono hB4.out.size))
          clear b5
          go_wp2_with fail
          refine (HH.out _).mono ?_
          rintro e w6 ⟨rfl, b6⟩
          have hB6 := Lib.hid (hB5.out.trans (b6.mono hB5.out.size))
          clear b6
          go_wp2_with fail
          go_roundg (6 - (i + 1))
          case measure => omega
          case rel => exact ⟨i + 1, by omega, rfl, by go_num, hB6.out⟩
        · obtain rfl : i = 6 := by omega
          have HE := Lib.hid (fun w' => below_any k w')
          have HL := Lib.hid (fun w' => len_any (belowW k) 0 (belowW_u64 _) zero_u64 w')
          have hlen := len_below k
          generalize (setL (belowW k) 0).length = n at *
          generalize belowW k = bw at *
          have hn : (n : Int) < 3 := by omega
          go_wp2_with fail
          refine (HE.out _).mono ?_
          rintro e w3 ⟨rfl, b3⟩
          have hB3 := Lib.hid (hB.out.trans (b3.mono hB.out.size))
          clear b3
          go_wp2_with fail
          refine (HL.out _).mono ?_
          rintro e w4 ⟨rfl, b4⟩
          have hB4 := Lib.hid (hB3.out.trans (b4.mono hB3.out.size))
          clear b4
          go_wp2_with fail
          go_ret
          exact ⟨rfl, hB4.out⟩
theorem headerKinds_any (k : Int) (s : ByteArray) (w : World) (ht : TabB w) :
    Calls Tryd.prog 4 #[.int .i64 k, .string s] w fun e w' => e = .returned (.bool true) ∧ Below w.heap.size w w' := by
  by_cases h1 : k < 1
  · exact headerKinds_low k h1 s w ht
  · by_cases h2 : 3 < k
    · exact headerKinds_high k h2 s w ht
    · obtain ⟨n, rfl⟩ := Int.eq_ofNat_of_zero_le (show 0 ≤ k by omega)
      exact headerKinds_known n (by omega) s w ht
end Go.Proofs.YtjlbdjagbbpoaaaDoor
