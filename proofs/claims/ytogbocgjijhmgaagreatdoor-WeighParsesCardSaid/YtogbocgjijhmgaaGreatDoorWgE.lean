/-
  A weight's text by contracts: the document's word and Print.
-/
import Derived.Test.YtogbocgjijhmgaaGreatDoorWgD
namespace Go.Proofs.YtogbocgjijhmgaaGreatDoor
open Go.RowKit Go.Extern.Stop Go.Stop Go.Extern

set_option maxRecDepth 100000 in
set_option maxHeartbeats 1000000 in
theorem rgword_0 (w : World) :
    Calls Tryz.prog 53 #[.int .i64 0] w fun e w' => e = .returned (.string (wordB 0)) ∧ Below w.heap.size w w' := by
  have HB := Lib.hid (sbelow_new w (.cells #[.string ⟨#[104, 111, 112, 115]⟩, .string ⟨#[100, 105, 115, 116]⟩, .string ⟨#[112, 117, 115, 104, 101, 115]⟩] 9))
  unfold wordB
  go_enter Tryz.func53, Tryz.ntmps53
  go_wp2_with fail
  go_ret
  exact ⟨rfl, HB.out⟩
set_option maxRecDepth 100000 in
set_option maxHeartbeats 1000000 in
theorem rgword_1 (w : World) :
    Calls Tryz.prog 53 #[.int .i64 1] w fun e w' => e = .returned (.string (wordB 1)) ∧ Below w.heap.size w w' := by
  have HB := Lib.hid (sbelow_new w (.cells #[.string ⟨#[104, 111, 112, 115]⟩, .string ⟨#[100, 105, 115, 116]⟩, .string ⟨#[112, 117, 115, 104, 101, 115]⟩] 9))
  unfold wordB
  go_enter Tryz.func53, Tryz.ntmps53
  go_wp2_with fail
  go_ret
  exact ⟨rfl, HB.out⟩
set_option maxRecDepth 100000 in
set_option maxHeartbeats 1000000 in
theorem rgword_2 (w : World) :
    Calls Tryz.prog 53 #[.int .i64 2] w fun e w' => e = .returned (.string (wordB 2)) ∧ Below w.heap.size w w' := by
  have HB := Lib.hid (sbelow_new w (.cells #[.string ⟨#[104, 111, 112, 115]⟩, .string ⟨#[100, 105, 115, 116]⟩, .string ⟨#[112, 117, 115, 104, 101, 115]⟩] 9))
  unfold wordB
  go_enter Tryz.func53, Tryz.ntmps53
  go_wp2_with fail
  go_ret
  exact ⟨rfl, HB.out⟩
theorem txB_zero (p : Nat → Nat) : txB p 0 = ⟨#[]⟩ := rfl
theorem txB_same {p : Nat → Nat} {k : Nat} (h : p k = 0) : txB p (k + 1) = txB p k := by unfold txB; rw [textU_same h]
theorem txB_first {p : Nat → Nat} {k : Nat} (h : p k ≠ 0) (h0 : textU p k = []) : txB p (k + 1) = tmB k (p k) := by unfold txB tmB; rw [textU_first h h0]
theorem txB_more {p : Nat → Nat} {k : Nat} (h : p k ≠ 0) (h0 : textU p k ≠ []) : txB p (k + 1) = txB p k ++ ⟨#[32, 43, 32]⟩ ++ tmB k (p k) := by
  unfold txB tmB
  rw [textU_more h h0]
  apply ByteArray.ext
  simp [ByteArray.data_append]
theorem txB_size {p : Nat → Nat} (hp : ∀ i, p i ≤ 1000000) (k : Nat) (hk : k ≤ 3) : (txB p k).size ≤ 99 := by
  have := textU_len hp k
  have e : (txB p k).size = (textU p k).length := by simp [txB, ByteArray.size]
  omega
theorem app_assoc (a b c : ByteArray) : a ++ b ++ c = a ++ (b ++ c) := by
  apply ByteArray.ext
  simp [ByteArray.data_append]
theorem emp_app (a : ByteArray) : (⟨#[]⟩ : ByteArray) ++ a = a := by
  apply ByteArray.ext
  simp [ByteArray.data_append]
/-- On the way through the three. -/
structure RpSt (w0 : World) (p : Nat → Nat) (w : World) : Prop where
  lt : w0.heap.size + 1 < w.heap.size
  c0 : w.cell? ⟨w0.heap.size + 1, 0, none⟩ = some (.int .u64 (p 0))
  c1 : w.cell? ⟨w0.heap.size + 1, 1, none⟩ = some (.int .u64 (p 1))
  c2 : w.cell? ⟨w0.heap.size + 1, 2, none⟩ = some (.int .u64 (p 2))
  below : Below w0.heap.size w0 w
theorem RpSt.step {w0 w w' : World} {p : Nat → Nat} (h : RpSt w0 p w) (hb : Below w.heap.size w w') : RpSt w0 p w' :=
  ⟨Nat.lt_of_lt_of_le h.lt hb.size, (hb.cell (p := ⟨w0.heap.size + 1, 0, none⟩) h.lt).trans h.c0, (hb.cell (p := ⟨w0.heap.size + 1, 1, none⟩) h.lt).trans h.c1, (hb.cell (p := ⟨w0.heap.size + 1, 2, none⟩) h.lt).trans h.c2, h.below.trans (hb.mono h.below.size)⟩
set_option maxRecDepth 100000 in
set_option maxHeartbeats 8000000 in
theorem rgprint_any (p : Nat → Nat) (hp : ∀ i, p i ≤ 1000000) (w : World) :
    Calls Tryz.prog 25 #[.agg #[.int .u64 (p 0), .int .u64 (p 1), .int .u64 (p 2)]] w fun e w' => e = .returned (.string ⟨(textW p).toArray⟩) ∧ Below w.heap.size w w' := by
  have HPP := Lib.hid hp
  have H0 : Hid (RpSt w p ((w.alloc (.cells #[.int .u64 (p 0), .int .u64 (p 1), .int .u64 (p 2)] 58)).alloc (.cells #[.int .u64 (p 0), .int .u64 (p 1), .int .u64 (p 2)] 53))) := Lib.hid ⟨by simp, by simp, by simp, by simp, (sbelow_new w _).trans ((sbelow_new _ _).mono (by simp))⟩
  clear hp
  go_enter Tryz.func25, Tryz.ntmps25
  go_wp2_with fail
  generalize (w.alloc (.cells #[.int .u64 (p 0), .int .u64 (p 1), .int .u64 (p 2)] 58)).alloc (.cells #[.int .u64 (p 0), .int .u64 (p 1), .int .u64 (p 2)] 53) = w1 at *
  go_loopg [3, 14] 3 (fun g u v wr => ∃ i : Nat, i ≤ 3 ∧ g = 3 - i ∧ v = .int .i64 i ∧ u = .string (txB p i) ∧ RpSt w p wr)
  case atStart => exact ⟨0, by decide, rfl, rfl, rfl, H0.out⟩
  case round =>
    clear H0
    obtain ⟨i, hi, hgk, rfl, rfl, hst⟩ := hrel
    have HST := Lib.hid hst
    clear hst
    have hi4 : i = 0 ∨ i = 1 ∨ i = 2 ∨ i = 3 := by omega
    rcases hi4 with rfl | rfl | rfl | rfl
    · subst hgk
      have cK := HST.out.c0
      by_cases hz : p 0 = 0
      · have hzi : ((p 0 : Int) == 0) = true := beq_iff_eq.2 (by omega)
        have HE := Lib.hid (txB_same hz)
        have HST2 := HST
        clear hz
        go_wp2_with fail
        go_roundg (3 - 1)
        case measure => decide
        case rel => exact ⟨1, by decide, rfl, rfl, congrArg Value.string HE.out.symm, HST.out⟩
      · have hzi : ((p 0 : Int) == 0) = false := beq_eq_false_iff_ne.2 (by omega)
        have hw := word_size 0
        have HWD := Lib.hid (fun W => rgword_0 W)
        have hd := dec_size (HPP.out 0)
        have HD := Lib.hid (fun W => rdig (p 0) (HPP.out 0) W)
        have htx := txB_size HPP.out 0 (by decide)
        by_cases h0 : textU p 0 = []
        · have HT : Hid (txB p (0 + 1) = tmB 0 (p 0)) := Lib.hid (txB_first hz h0)
          have e0 : txB p 0 = ⟨#[]⟩ := by unfold txB; rw [h0]
          rw [e0] at htx ⊢
          clear htx
          by_cases h1 : p 0 = 1
          · have h1i : ¬ (1 : Int) < (p 0 : Int) := by omega
            have HE := Lib.hid (show (⟨#[]⟩ : ByteArray) ++ wordB 0 = txB p (0 + 1) by rw [HT.out, h1, tmB_one, emp_app])
            clear hz h0 e0 h1 hd HD
            generalize wordB 0 = wd at *
            go_wp2_with fail
            refine (HWD.out _).mono ?_
            rintro e w7 ⟨rfl, b7⟩
            have H7 := Lib.hid (HST.out.step b7)
            clear b7
            go_wp2_with fail
            go_roundg (3 - 1)
            case measure => decide
            case rel => exact ⟨1, by decide, rfl, rfl, congrArg Value.string (HE.out), H7.out⟩
          · have h1i : (1 : Int) < (p 0 : Int) := by omega
            have HE := Lib.hid (show (⟨#[]⟩ : ByteArray) ++ (⟨(Lib.decDigits (p 0)).toArray⟩ : ByteArray) ++ ⟨#[42]⟩ ++ wordB 0 = txB p (0 + 1) by rw [HT.out, emp_app, tmB_more h1])
            clear hz h0 e0 h1
            generalize (⟨(Lib.decDigits (p 0)).toArray⟩ : ByteArray) = D at *
            generalize wordB 0 = wd at *
            go_wp2_with fail
            refine (HD.out _).mono ?_
            rintro e w6 ⟨rfl, b6⟩
            replace HST := Lib.hid (HST.out.step b6)
            clear b6
            go_wp2_with fail
            refine (HWD.out _).mono ?_
            rintro e w7 ⟨rfl, b7⟩
            have H7 := Lib.hid (HST.out.step b7)
            clear b7
            go_wp2_with fail
            go_roundg (3 - 1)
            case measure => decide
            case rel => exact ⟨1, by decide, rfl, rfl, congrArg Value.string (HE.out), H7.out⟩
        · have HT : Hid (txB p (0 + 1) = txB p 0 ++ ⟨#[32, 43, 32]⟩ ++ tmB 0 (p 0)) := Lib.hid (txB_more hz h0)
          have hne : (txB p 0).toList ≠ [] := by
            rw [Go.ByteArray.toList_eq]
            exact fun e => h0 (by simpa [txB] using e)
          have hn1 : (txB p 0).toList.isEmpty = false := by simpa using hne
          have hn2 : ((txB p 0).toList == []) = false := by simpa using hne
          generalize txB p 0 = tx at *
          by_cases h1 : p 0 = 1
          · have h1i : ¬ (1 : Int) < (p 0 : Int) := by omega
            have HE := Lib.hid (show tx ++ (⟨#[32, 43, 32]⟩ : ByteArray) ++ wordB 0 = txB p (0 + 1) by rw [HT.out, h1, tmB_one])
            clear hz h0 h1 hd HD
            generalize wordB 0 = wd at *
            go_wp2_with fail
            refine (HWD.out _).mono ?_
            rintro e w7 ⟨rfl, b7⟩
            have H7 := Lib.hid (HST.out.step b7)
            clear b7
            go_wp2_with fail
            go_roundg (3 - 1)
            case measure => decide
            case rel => exact ⟨1, by decide, rfl, rfl, congrArg Value.string (HE.out), H7.out⟩
          · have h1i : (1 : Int) < (p 0 : Int) := by omega
            have HE := Lib.hid (show tx ++ (⟨#[32, 43, 32]⟩ : ByteArray) ++ (⟨(Lib.decDigits (p 0)).toArray⟩ : ByteArray) ++ ⟨#[42]⟩ ++ wordB 0 = txB p (0 + 1) by rw [HT.out, ← tmB_more h1]; simp only [app_assoc])
            clear hz h0 h1
            generalize (⟨(Lib.decDigits (p 0)).toArray⟩ : ByteArray) = D at *
            generalize wordB 0 = wd at *
            go_wp2_with fail
            refine (HD.out _).mono ?_
            rintro e w6 ⟨rfl, b6⟩
            replace HST := Lib.hid (HST.out.step b6)
            clear b6
            go_wp2_with fail
            refine (HWD.out _).mono ?_
            rintro e w7 ⟨rfl, b7⟩
            have H7 := Lib.hid (HST.out.step b7)
            clear b7
            go_wp2_with fail
            go_roundg (3 - 1)
            case measure => decide
            case rel => exact ⟨1, by decide, rfl, rfl, congrArg Value.string (HE.out), H7.out⟩
    · subst hgk
      have cK := HST.out.c1
      by_cases hz : p 1 = 0
      · have hzi : ((p 1 : Int) == 0) = true := beq_iff_eq.2 (by omega)
        have HE := Lib.hid (txB_same hz)
        have HST2 := HST
        clear hz
        go_wp2_with fail
        go_roundg (3 - 2)
        case measure => decide
        case rel => exact ⟨2, by decide, rfl, rfl, congrArg Value.string HE.out.symm, HST.out⟩
      · have hzi : ((p 1 : Int) == 0) = false := beq_eq_false_iff_ne.2 (by omega)
        have hw := word_size 1
        have HWD := Lib.hid (fun W => rgword_1 W)
        have hd := dec_size (HPP.out 1)
        have HD := Lib.hid (fun W => rdig (p 1) (HPP.out 1) W)
        have htx := txB_size HPP.out 1 (by decide)
        by_cases h0 : textU p 1 = []
        · have HT : Hid (txB p (1 + 1) = tmB 1 (p 1)) := Lib.hid (txB_first hz h0)
          have e0 : txB p 1 = ⟨#[]⟩ := by unfold txB; rw [h0]
          rw [e0] at htx ⊢
          clear htx
          by_cases h1 : p 1 = 1
          · have h1i : ¬ (1 : Int) < (p 1 : Int) := by omega
            have HE := Lib.hid (show (⟨#[]⟩ : ByteArray) ++ wordB 1 = txB p (1 + 1) by rw [HT.out, h1, tmB_one, emp_app])
            clear hz h0 e0 h1 hd HD
            generalize wordB 1 = wd at *
            go_wp2_with fail
            refine (HWD.out _).mono ?_
            rintro e w7 ⟨rfl, b7⟩
            have H7 := Lib.hid (HST.out.step b7)
            clear b7
            go_wp2_with fail
            go_roundg (3 - 2)
            case measure => decide
            case rel => exact ⟨2, by decide, rfl, rfl, congrArg Value.string (HE.out), H7.out⟩
          · have h1i : (1 : Int) < (p 1 : Int) := by omega
            have HE := Lib.hid (show (⟨#[]⟩ : ByteArray) ++ (⟨(Lib.decDigits (p 1)).toArray⟩ : ByteArray) ++ ⟨#[42]⟩ ++ wordB 1 = txB p (1 + 1) by rw [HT.out, emp_app, tmB_more h1])
            clear hz h0 e0 h1
            generalize (⟨(Lib.decDigits (p 1)).toArray⟩ : ByteArray) = D at *
            generalize wordB 1 = wd at *
            go_wp2_with fail
            refine (HD.out _).mono ?_
            rintro e w6 ⟨rfl, b6⟩
            replace HST := Lib.hid (HST.out.step b6)
            clear b6
            go_wp2_with fail
            refine (HWD.out _).mono ?_
            rintro e w7 ⟨rfl, b7⟩
            have H7 := Lib.hid (HST.out.step b7)
            clear b7
            go_wp2_with fail
            go_roundg (3 - 2)
            case measure => decide
            case rel => exact ⟨2, by decide, rfl, rfl, congrArg Value.string (HE.out), H7.out⟩
        · have HT : Hid (txB p (1 + 1) = txB p 1 ++ ⟨#[32, 43, 32]⟩ ++ tmB 1 (p 1)) := Lib.hid (txB_more hz h0)
          have hne : (txB p 1).toList ≠ [] := by
            rw [Go.ByteArray.toList_eq]
            exact fun e => h0 (by simpa [txB] using e)
          have hn1 : (txB p 1).toList.isEmpty = false := by simpa using hne
          have hn2 : ((txB p 1).toList == []) = false := by simpa using hne
          generalize txB p 1 = tx at *
          by_cases h1 : p 1 = 1
          · have h1i : ¬ (1 : Int) < (p 1 : Int) := by omega
            have HE := Lib.hid (show tx ++ (⟨#[32, 43, 32]⟩ : ByteArray) ++ wordB 1 = txB p (1 + 1) by rw [HT.out, h1, tmB_one])
            clear hz h0 h1 hd HD
            generalize wordB 1 = wd at *
            go_wp2_with fail
            refine (HWD.out _).mono ?_
            rintro e w7 ⟨rfl, b7⟩
            have H7 := Lib.hid (HST.out.step b7)
            clear b7
            go_wp2_with fail
            go_roundg (3 - 2)
            case measure => decide
            case rel => exact ⟨2, by decide, rfl, rfl, congrArg Value.string (HE.out), H7.out⟩
          · have h1i : (1 : Int) < (p 1 : Int) := by omega
            have HE := Lib.hid (show tx ++ (⟨#[32, 43, 32]⟩ : ByteArray) ++ (⟨(Lib.decDigits (p 1)).toArray⟩ : ByteArray) ++ ⟨#[42]⟩ ++ wordB 1 = txB p (1 + 1) by rw [HT.out, ← tmB_more h1]; simp only [app_assoc])
            clear hz h0 h1
            generalize (⟨(Lib.decDigits (p 1)).toArray⟩ : ByteArray) = D at *
            generalize wordB 1 = wd at *
            go_wp2_with fail
            refine (HD.out _).mono ?_
            rintro e w6 ⟨rfl, b6⟩
            replace HST := Lib.hid (HST.out.step b6)
            clear b6
            go_wp2_with fail
            refine (HWD.out _).mono ?_
            rintro e w7 ⟨rfl, b7⟩
            have H7 := Lib.hid (HST.out.step b7)
            clear b7
            go_wp2_with fail
            go_roundg (3 - 2)
            case measure => decide
            case rel => exact ⟨2, by decide, rfl, rfl, congrArg Value.string (HE.out), H7.out⟩
    · subst hgk
      have cK := HST.out.c2
      by_cases hz : p 2 = 0
      · have hzi : ((p 2 : Int) == 0) = true := beq_iff_eq.2 (by omega)
        have HE := Lib.hid (txB_same hz)
        have HST2 := HST
        clear hz
        go_wp2_with fail
        go_roundg (3 - 3)
        case measure => decide
        case rel => exact ⟨3, by decide, rfl, rfl, congrArg Value.string HE.out.symm, HST.out⟩
      · have hzi : ((p 2 : Int) == 0) = false := beq_eq_false_iff_ne.2 (by omega)
        have hw := word_size 2
        have HWD := Lib.hid (fun W => rgword_2 W)
        have hd := dec_size (HPP.out 2)
        have HD := Lib.hid (fun W => rdig (p 2) (HPP.out 2) W)
        have htx := txB_size HPP.out 2 (by decide)
        by_cases h0 : textU p 2 = []
        · have HT : Hid (txB p (2 + 1) = tmB 2 (p 2)) := Lib.hid (txB_first hz h0)
          have e0 : txB p 2 = ⟨#[]⟩ := by unfold txB; rw [h0]
          rw [e0] at htx ⊢
          clear htx
          by_cases h1 : p 2 = 1
          · have h1i : ¬ (1 : Int) < (p 2 : Int) := by omega
            have HE := Lib.hid (show (⟨#[]⟩ : ByteArray) ++ wordB 2 = txB p (2 + 1) by rw [HT.out, h1, tmB_one, emp_app])
            clear hz h0 e0 h1 hd HD
            generalize wordB 2 = wd at *
            go_wp2_with fail
            refine (HWD.out _).mono ?_
            rintro e w7 ⟨rfl, b7⟩
            have H7 := Lib.hid (HST.out.step b7)
            clear b7
            go_wp2_with fail
            go_roundg (3 - 3)
            case measure => decide
            case rel => exact ⟨3, by decide, rfl, rfl, congrArg Value.string (HE.out), H7.out⟩
          · have h1i : (1 : Int) < (p 2 : Int) := by omega
            have HE := Lib.hid (show (⟨#[]⟩ : ByteArray) ++ (⟨(Lib.decDigits (p 2)).toArray⟩ : ByteArray) ++ ⟨#[42]⟩ ++ wordB 2 = txB p (2 + 1) by rw [HT.out, emp_app, tmB_more h1])
            clear hz h0 e0 h1
            generalize (⟨(Lib.decDigits (p 2)).toArray⟩ : ByteArray) = D at *
            generalize wordB 2 = wd at *
            go_wp2_with fail
            refine (HD.out _).mono ?_
            rintro e w6 ⟨rfl, b6⟩
            replace HST := Lib.hid (HST.out.step b6)
            clear b6
            go_wp2_with fail
            refine (HWD.out _).mono ?_
            rintro e w7 ⟨rfl, b7⟩
            have H7 := Lib.hid (HST.out.step b7)
            clear b7
            go_wp2_with fail
            go_roundg (3 - 3)
            case measure => decide
            case rel => exact ⟨3, by decide, rfl, rfl, congrArg Value.string (HE.out), H7.out⟩
        · have HT : Hid (txB p (2 + 1) = txB p 2 ++ ⟨#[32, 43, 32]⟩ ++ tmB 2 (p 2)) := Lib.hid (txB_more hz h0)
          have hne : (txB p 2).toList ≠ [] := by
            rw [Go.ByteArray.toList_eq]
            exact fun e => h0 (by simpa [txB] using e)
          have hn1 : (txB p 2).toList.isEmpty = false := by simpa using hne
          have hn2 : ((txB p 2).toList == []) = false := by simpa using hne
          generalize txB p 2 = tx at *
          by_cases h1 : p 2 = 1
          · have h1i : ¬ (1 : Int) < (p 2 : Int) := by omega
            have HE := Lib.hid (show tx ++ (⟨#[32, 43, 32]⟩ : ByteArray) ++ wordB 2 = txB p (2 + 1) by rw [HT.out, h1, tmB_one])
            clear hz h0 h1 hd HD
            generalize wordB 2 = wd at *
            go_wp2_with fail
            refine (HWD.out _).mono ?_
            rintro e w7 ⟨rfl, b7⟩
            have H7 := Lib.hid (HST.out.step b7)
            clear b7
            go_wp2_with fail
            go_roundg (3 - 3)
            case measure => decide
            case rel => exact ⟨3, by decide, rfl, rfl, congrArg Value.string (HE.out), H7.out⟩
          · have h1i : (1 : Int) < (p 2 : Int) := by omega
            have HE := Lib.hid (show tx ++ (⟨#[32, 43, 32]⟩ : ByteArray) ++ (⟨(Lib.decDigits (p 2)).toArray⟩ : ByteArray) ++ ⟨#[42]⟩ ++ wordB 2 = txB p (2 + 1) by rw [HT.out, ← tmB_more h1]; simp only [app_assoc])
            clear hz h0 h1
            generalize (⟨(Lib.decDigits (p 2)).toArray⟩ : ByteArray) = D at *
            generalize wordB 2 = wd at *
            go_wp2_with fail
            refine (HD.out _).mono ?_
            rintro e w6 ⟨rfl, b6⟩
            replace HST := Lib.hid (HST.out.step b6)
            clear b6
            go_wp2_with fail
            refine (HWD.out _).mono ?_
            rintro e w7 ⟨rfl, b7⟩
            have H7 := Lib.hid (HST.out.step b7)
            clear b7
            go_wp2_with fail
            go_roundg (3 - 3)
            case measure => decide
            case rel => exact ⟨3, by decide, rfl, rfl, congrArg Value.string (HE.out), H7.out⟩
    · by_cases hz : textU p 3 = []
      · have e0 : txB p 3 = ⟨#[]⟩ := by unfold txB; rw [hz]
        have HE : Hid ((⟨(textW p).toArray⟩ : ByteArray) = ⟨#[48]⟩) := Lib.hid (by rw [textW_eq, if_pos hz])
        rw [e0]
        clear hz e0
        go_wp2_with fail
        go_ret
        exact ⟨congrArg (fun t => Ending.returned (.string t)) HE.out.symm, HST.out.below⟩
      · have hne : (txB p 3).toList ≠ [] := by
          rw [Go.ByteArray.toList_eq]
          exact fun e => hz (by simpa [txB] using e)
        have hn1 : (txB p 3).toList.isEmpty = false := by simpa using hne
        have hn2 : ((txB p 3).toList == []) = false := by simpa using hne
        have HE : Hid ((⟨(textW p).toArray⟩ : ByteArray) = txB p 3) := Lib.hid (by rw [textW_eq, if_neg hz]; rfl)
        generalize txB p 3 = tx at *
        clear hz
        go_wp2_with fail
        go_ret
        exact ⟨congrArg (fun t => Ending.returned (.string t)) HE.out.symm, HST.out.below⟩
end Go.Proofs.YtogbocgjijhmgaaGreatDoor
