/-
  The document's own text of an expression, by contract.
  The document's own text of an expression, by contract: of any.
  The statement RegexPrints as a walk: whatever the expression and the text, the law answers true, and all of old memory stays as it was.
-/
import Derived.Test.YtocfcnhaecmgpaaGreatDoorRgc
namespace Go.Proofs.YtocfcnhaecmgpaaGreatDoor
open Go.RowKit Go.Extern.Stop Go.Stop Go.Extern

theorem join_take {l : List (List UInt8)} {sep y : List UInt8} : ∀ {i : Nat}, l[i]? = some y → Lib.join (l.take (i + 1)) sep = if i = 0 then y else Lib.join (l.take i) sep ++ sep ++ y := by
  intro i h
  cases l with
  | nil => simp at h
  | cons x r =>
    cases i with
    | zero =>
      obtain rfl : x = y := by simpa using h
      rw [if_pos rfl]
      exact Lib.join_one _ _
    | succ i =>
      rw [if_neg (by omega), List.take_succ_cons, List.take_succ_cons, Lib.join_cons, Lib.join_cons, Lib.joinTail_take_succ sep r i y (by simpa using h)]
      simp [List.append_assoc]
theorem join_take_len (l : List (List UInt8)) (sep : List UInt8) (i : Nat) (hs : sep.length ≤ 1) : (Lib.join (l.take i) sep).length ≤ Lib.lens l + l.length := by
  have h1 := join_len_le (l.take i) sep hs
  have h2 := Lib.lens_take_le l i
  have h3 : (l.take i).length ≤ l.length := by rw [List.length_take]; omega
  omega
theorem cat3y (a b : List UInt8) (y : ByteArray) : (⟨a.toArray⟩ : ByteArray) ++ ⟨b.toArray⟩ ++ y = ⟨(a ++ (b ++ y.data.toList)).toArray⟩ := by
  apply ByteArray.ext
  simp [List.append_assoc]
theorem cat2y (a : List UInt8) (y : ByteArray) : (⟨a.toArray⟩ : ByteArray) ++ y = ⟨(a ++ y.data.toList).toArray⟩ := by
  apply ByteArray.ext
  simp
theorem toB (y : ByteArray) : (⟨y.data.toList.toArray⟩ : ByteArray) = y := by simp
theorem val_s {a b : ByteArray} (h : a = b) : Value.string a = .string b := by rw [h]

def preT : List UInt8 := [91, 94]
def preF : List UInt8 := [91]
def dataL (ws : List ByteArray) : List (List UInt8) := ws.map (·.data.toList)
theorem dataL_len (ws : List ByteArray) : (dataL ws).length = ws.length := List.length_map _
set_option maxRecDepth 100000 in
set_option maxHeartbeats 8000000 in
theorem rprint_atom (P : Nat → Prop) (t : Bool) (ws : List ByteArray) (kids : List Rx) (hwt : wordsWt ws ≤ 60000) (hpos : 1 ≤ ws.length) (w : World) (a : Option Addr) (l c : Nat) (a' : Option Addr) (l' c' : Nat)
    (hv : ExC P w [.int .i64 1, .bool t, .slice a l c, .slice a' l' c'] (.mk 1 t ws kids)) :
    Calls Tryz.prog 20 #[.agg #[.int .i64 1, .bool t, .slice a l c, .slice a' l' c']] w fun e w' => e = .returned (.string ⟨(atomT t ws).toArray⟩) ∧ Below w.heap.size w w' := by
  obtain ⟨-, -, hk, -⟩ := hv.open
  obtain ⟨_, _, es⟩ := hk.form
  simp only [Value.slice.injEq] at es
  obtain ⟨-, el, -⟩ := es
  subst el
  have HK := Lib.hid hk
  have HWT := Lib.hid (fun i y h => wt_word (l := ws) (i := i) (y := y) hwt (Nat.le_refl _) h)
  have HLEN : Hid (Lib.lens (dataL ws) + ws.length ≤ 60000) := Lib.hid (by have := words_lens ws (by omega); unfold dataL; omega)
  have HB := Lib.hid (sbelow_new w (.cells #[.int .i64 1, .bool t, .slice a ws.length c, .slice a' l' c'] 30))
  have HF := Lib.hid (four_new w 30 (.int .i64 1) (.bool t) (.slice a ws.length c) (.slice a' l' c'))
  obtain ⟨p0, p1, p2, p3⟩ := HF.out.box
  have HA : Hid (atomT t ws = if t then 91 :: 94 :: (wordsT ws ++ [93]) else if 1 < ws.length then 91 :: (wordsT ws ++ [93]) else wordsT ws) := Lib.hid rfl
  generalize hTX : atomT t ws = tx at *
  clear hv hk hwt hTX
  cases t with
  | true =>
    have HTX : Hid (tx = 91 :: 94 :: (wordsT ws ++ [93])) := Lib.hid HA.out
    clear HA
    by_cases h1 : ws.length = 1
    · have hne : ((ws.length : Int) == 1) = true := beq_iff_eq.2 (by omega)
      clear h1
      go_enter Tryz.func20, Tryz.ntmps20
      go_wp2_with fail
      generalize w.alloc (.cells #[.int .i64 1, .bool true, .slice a ws.length c, .slice a' l' c'] 30) = w1 at *
      clear p0 p1 p2 p3
      go_loopg [3, 38] ws.length (fun g u v wr => ∃ i : Nat, i ≤ ws.length ∧ g = ws.length - i ∧ v = .int .i64 i ∧ u = .string ⟨(preT ++ Lib.join ((dataL ws).take i) [44]).toArray⟩ ∧ Below w.heap.size w wr)
      case atStart => exact ⟨0, Nat.zero_le _, by omega, rfl, rfl, HB.out⟩
      case round =>
        clear HB
        obtain ⟨i, hi, hgk, rfl, rfl, hbel⟩ := hrel
        have HB := Lib.hid hbel
        clear hbel
        have hjl := join_take_len (dataL ws) [44] i (Nat.le_refl _)
        have HL := Lib.hid HLEN.out
        rw [dataL_len] at hjl
        by_cases hlt : i < ws.length
        · obtain ⟨y, hy⟩ : ∃ y, ws[i]? = some y := ⟨_, List.getElem?_eq_getElem hlt⟩
          obtain ⟨b, o, rfl, hbl, e1⟩ := text_at HK.out hy HB.out
          have hys := HWT.out i y hy
          have HJ := Lib.hid (join_take (l := dataL ws) (sep := [44]) (i := i) (y := y.data.toList) (by unfold dataL; simp [hy]))
          generalize hJ : Lib.join ((dataL ws).take i) [44] = jt at *
          have HJT := Lib.hid hJ
          have hl : (preT ++ jt).length ≤ 1000000 := by have := HL.out; unfold preT; simp; omega
          have hsz : (⟨(preT ++ jt).toArray⟩ : ByteArray).size = (preT ++ jt).length := by simp [ByteArray.size]
          clear hy hJ hjl
          by_cases h0 : i = 0
          · subst h0
            rw [Nat.add_zero] at e1
            have HE : Hid (jt = []) := Lib.hid (by rw [← HJT.out, List.take_zero]; rfl)
            generalize hat : preT ++ jt = at1 at *
            have HAT := Lib.hid hat
            clear hat
            go_wp2_with fail
            go_roundg (ws.length - (0 + 1))
            case measure => omega
            case rel =>
              refine ⟨0 + 1, by omega, rfl, rfl, val_s ?_, HB.out⟩
              rw [HJ.out, if_pos (by trivial), cat2y, ← HAT.out, HE.out, List.append_nil]
          · have hpos : 0 < i := by omega
            generalize hat : preT ++ jt = at1 at *
            have HAT := Lib.hid hat
            clear hat
            go_wp2_with fail
            go_roundg (ws.length - (i + 1))
            case measure => omega
            case rel =>
              refine ⟨i + 1, by omega, rfl, by first | rfl | (rw [w64x _ (by have := HL.out; omega)]; rfl), val_s ?_, HB.out⟩
              rw [HJ.out, if_neg h0]
              refine (cat3y at1 [44] y).trans ?_
              rw [← HAT.out, List.append_assoc, List.append_assoc]
        · obtain rfl : i = ws.length := by omega
          have hf : (dataL ws).take ws.length = dataL ws := List.take_of_length_le (by rw [dataL_len]; exact Nat.le_refl _)
          rw [hf] at hjl ⊢
          have HW : Hid (Lib.join (dataL ws) [44] = wordsT ws) := Lib.hid rfl
          generalize hJ : Lib.join (dataL ws) [44] = jt at *
          have hl : (preT ++ jt).length ≤ 1000000 := by have := HL.out; unfold preT; simp; omega
          have hsz : (⟨(preT ++ jt).toArray⟩ : ByteArray).size = (preT ++ jt).length := by simp [ByteArray.size]
          generalize hat : preT ++ jt = at1 at *
          have HAT := Lib.hid hat
          clear hat hJ hf hjl
          go_wp2_with fail
          go_ret
          refine ⟨ret_s ((cat2 at1 [93]).trans ?_), HB.out⟩
          rw [HTX.out, ← HAT.out, HW.out]
          unfold preT
          simp
    · have hne : ((ws.length : Int) == 1) = false := beq_eq_false_iff_ne.2 (by omega)
      clear h1
      go_enter Tryz.func20, Tryz.ntmps20
      go_wp2_with fail
      generalize w.alloc (.cells #[.int .i64 1, .bool true, .slice a ws.length c, .slice a' l' c'] 30) = w1 at *
      clear p0 p1 p2 p3
      go_loopg [3, 38] ws.length (fun g u v wr => ∃ i : Nat, i ≤ ws.length ∧ g = ws.length - i ∧ v = .int .i64 i ∧ u = .string ⟨(preT ++ Lib.join ((dataL ws).take i) [44]).toArray⟩ ∧ Below w.heap.size w wr)
      case atStart => exact ⟨0, Nat.zero_le _, by omega, rfl, rfl, HB.out⟩
      case round =>
        clear HB
        obtain ⟨i, hi, hgk, rfl, rfl, hbel⟩ := hrel
        have HB := Lib.hid hbel
        clear hbel
        have hjl := join_take_len (dataL ws) [44] i (Nat.le_refl _)
        have HL := Lib.hid HLEN.out
        rw [dataL_len] at hjl
        by_cases hlt : i < ws.length
        · obtain ⟨y, hy⟩ : ∃ y, ws[i]? = some y := ⟨_, List.getElem?_eq_getElem hlt⟩
          obtain ⟨b, o, rfl, hbl, e1⟩ := text_at HK.out hy HB.out
          have hys := HWT.out i y hy
          have HJ := Lib.hid (join_take (l := dataL ws) (sep := [44]) (i := i) (y := y.data.toList) (by unfold dataL; simp [hy]))
          generalize hJ : Lib.join ((dataL ws).take i) [44] = jt at *
          have HJT := Lib.hid hJ
          have hl : (preT ++ jt).length ≤ 1000000 := by have := HL.out; unfold preT; simp; omega
          have hsz : (⟨(preT ++ jt).toArray⟩ : ByteArray).size = (preT ++ jt).length := by simp [ByteArray.size]
          clear hy hJ hjl
          by_cases h0 : i = 0
          · subst h0
            rw [Nat.add_zero] at e1
            have HE : Hid (jt = []) := Lib.hid (by rw [← HJT.out, List.take_zero]; rfl)
            generalize hat : preT ++ jt = at1 at *
            have HAT := Lib.hid hat
            clear hat
            go_wp2_with fail
            go_roundg (ws.length - (0 + 1))
            case measure => omega
            case rel =>
              refine ⟨0 + 1, by omega, rfl, rfl, val_s ?_, HB.out⟩
              rw [HJ.out, if_pos (by trivial), cat2y, ← HAT.out, HE.out, List.append_nil]
          · have hpos : 0 < i := by omega
            generalize hat : preT ++ jt = at1 at *
            have HAT := Lib.hid hat
            clear hat
            go_wp2_with fail
            go_roundg (ws.length - (i + 1))
            case measure => omega
            case rel =>
              refine ⟨i + 1, by omega, rfl, by first | rfl | (rw [w64x _ (by have := HL.out; omega)]; rfl), val_s ?_, HB.out⟩
              rw [HJ.out, if_neg h0]
              refine (cat3y at1 [44] y).trans ?_
              rw [← HAT.out, List.append_assoc, List.append_assoc]
        · obtain rfl : i = ws.length := by omega
          have hf : (dataL ws).take ws.length = dataL ws := List.take_of_length_le (by rw [dataL_len]; exact Nat.le_refl _)
          rw [hf] at hjl ⊢
          have HW : Hid (Lib.join (dataL ws) [44] = wordsT ws) := Lib.hid rfl
          generalize hJ : Lib.join (dataL ws) [44] = jt at *
          have hl : (preT ++ jt).length ≤ 1000000 := by have := HL.out; unfold preT; simp; omega
          have hsz : (⟨(preT ++ jt).toArray⟩ : ByteArray).size = (preT ++ jt).length := by simp [ByteArray.size]
          generalize hat : preT ++ jt = at1 at *
          have HAT := Lib.hid hat
          clear hat hJ hf hjl
          go_wp2_with fail
          go_ret
          refine ⟨ret_s ((cat2 at1 [93]).trans ?_), HB.out⟩
          rw [HTX.out, ← HAT.out, HW.out]
          unfold preT
          simp
  | false =>
    have ha := HA.out
    rw [if_neg (by decide)] at ha
    by_cases h1 : 1 < ws.length
    · rw [if_pos h1] at ha
      have HTX := Lib.hid ha
      have hne : ((ws.length : Int) == 1) = false := beq_eq_false_iff_ne.2 (by omega)
      clear HA ha
      go_enter Tryz.func20, Tryz.ntmps20
      go_wp2_with fail
      generalize w.alloc (.cells #[.int .i64 1, .bool false, .slice a ws.length c, .slice a' l' c'] 30) = w1 at *
      clear p0 p1 p2 p3
      go_loopg [3, 38] ws.length (fun g u v wr => ∃ i : Nat, i ≤ ws.length ∧ g = ws.length - i ∧ v = .int .i64 i ∧ u = .string ⟨(preF ++ Lib.join ((dataL ws).take i) [44]).toArray⟩ ∧ Below w.heap.size w wr)
      case atStart => exact ⟨0, Nat.zero_le _, by omega, rfl, rfl, HB.out⟩
      case round =>
        clear HB
        obtain ⟨i, hi, hgk, rfl, rfl, hbel⟩ := hrel
        have HB := Lib.hid hbel
        clear hbel
        have hjl := join_take_len (dataL ws) [44] i (Nat.le_refl _)
        have HL := Lib.hid HLEN.out
        rw [dataL_len] at hjl
        by_cases hlt : i < ws.length
        · obtain ⟨y, hy⟩ : ∃ y, ws[i]? = some y := ⟨_, List.getElem?_eq_getElem hlt⟩
          obtain ⟨b, o, rfl, hbl, e1⟩ := text_at HK.out hy HB.out
          have hys := HWT.out i y hy
          have HJ := Lib.hid (join_take (l := dataL ws) (sep := [44]) (i := i) (y := y.data.toList) (by unfold dataL; simp [hy]))
          generalize hJ : Lib.join ((dataL ws).take i) [44] = jt at *
          have HJT := Lib.hid hJ
          have hl : (preF ++ jt).length ≤ 1000000 := by have := HL.out; unfold preF; simp; omega
          have hsz : (⟨(preF ++ jt).toArray⟩ : ByteArray).size = (preF ++ jt).length := by simp [ByteArray.size]
          clear hy hJ hjl
          by_cases h0 : i = 0
          · subst h0
            rw [Nat.add_zero] at e1
            have HE : Hid (jt = []) := Lib.hid (by rw [← HJT.out, List.take_zero]; rfl)
            generalize hat : preF ++ jt = at1 at *
            have HAT := Lib.hid hat
            clear hat
            go_wp2_with fail
            go_roundg (ws.length - (0 + 1))
            case measure => omega
            case rel =>
              refine ⟨0 + 1, by omega, rfl, rfl, val_s ?_, HB.out⟩
              rw [HJ.out, if_pos (by trivial), cat2y, ← HAT.out, HE.out, List.append_nil]
          · have hpos : 0 < i := by omega
            generalize hat : preF ++ jt = at1 at *
            have HAT := Lib.hid hat
            clear hat
            go_wp2_with fail
            go_roundg (ws.length - (i + 1))
            case measure => omega
            case rel =>
              refine ⟨i + 1, by omega, rfl, by first | rfl | (rw [w64x _ (by have := HL.out; omega)]; rfl), val_s ?_, HB.out⟩
              rw [HJ.out, if_neg h0]
              refine (cat3y at1 [44] y).trans ?_
              rw [← HAT.out, List.append_assoc, List.append_assoc]
        · obtain rfl : i = ws.length := by omega
          have hf : (dataL ws).take ws.length = dataL ws := List.take_of_length_le (by rw [dataL_len]; exact Nat.le_refl _)
          rw [hf] at hjl ⊢
          have HW : Hid (Lib.join (dataL ws) [44] = wordsT ws) := Lib.hid rfl
          generalize hJ : Lib.join (dataL ws) [44] = jt at *
          have hl : (preF ++ jt).length ≤ 1000000 := by have := HL.out; unfold preF; simp; omega
          have hsz : (⟨(preF ++ jt).toArray⟩ : ByteArray).size = (preF ++ jt).length := by simp [ByteArray.size]
          generalize hat : preF ++ jt = at1 at *
          have HAT := Lib.hid hat
          clear hat hJ hf hjl
          go_wp2_with fail
          go_ret
          refine ⟨ret_s ((cat2 at1 [93]).trans ?_), HB.out⟩
          rw [HTX.out, ← HAT.out, HW.out]
          unfold preF
          simp
    · rw [if_neg h1] at ha
      obtain ⟨y, hy⟩ : ∃ y, ws[0]? = some y := ⟨_, List.getElem?_eq_getElem (by omega)⟩
      obtain ⟨b, o, rfl, hbl, e1⟩ := text_at HK.out hy HB.out
      have hw : wordsT ws = y.data.toList := by
        unfold wordsT
        cases ws with
        | nil => simp at hy
        | cons z r =>
          cases r with
          | nil =>
            obtain rfl : z = y := by simpa using hy
            exact Lib.join_one _ _
          | cons z2 r2 => simp at h1
      have HTX : Hid (tx = y.data.toList) := Lib.hid (by rw [ha, hw])
      have heq : ((ws.length : Int) == 1) = true := beq_iff_eq.2 (by omega)
      have hl0 : (0 : Int) < (ws.length : Int) := by omega
      rw [Nat.add_zero] at e1
      clear HA ha hw hy h1
      go_enter Tryz.func20, Tryz.ntmps20
      go_wp2_with fail
      go_ret
      exact ⟨ret_s (by rw [HTX.out]), HB.out⟩
end Go.Proofs.YtocfcnhaecmgpaaGreatDoor

namespace Go.Proofs.YtocfcnhaecmgpaaGreatDoor
open Go.RowKit Go.Extern.Stop Go.Stop Go.Extern

set_option maxRecDepth 100000 in
set_option maxHeartbeats 8000000 in
theorem rprint_kids2 (P : Nat → Prop) (t : Bool) (ws : List ByteArray) (kids : List Rx) (hkw : rxsWt kids ≤ 60000) (h0 : kids.length ≠ 0) (w : World) (HKS : Hid (∀ (i : Nat) (y : Rx), kids[i]? = some y → RpSpec P w y)) (a : Option Addr) (l c : Nat) (a' : Option Addr) (l' c' : Nat)
    (hv : ExC P w [.int .i64 2, .bool t, .slice a l c, .slice a' l' c'] (.mk 2 t ws kids)) :
    Calls Tryz.prog 20 #[.agg #[.int .i64 2, .bool t, .slice a l c, .slice a' l' c']] w fun e w' => e = .returned (.string ⟨(Lib.join (kidsT 2 kids) [32]).toArray⟩) ∧ Below w.heap.size w w' := by
  obtain ⟨-, -, -, xs, hl, hvs⟩ := hv.open
  obtain ⟨_, _, es⟩ := hl.form
  simp only [Value.slice.injEq] at es
  obtain ⟨-, el, -⟩ := es
  subst el
  have HROW := Lib.hid hl
  have HVS := Lib.hid hvs
  have hkl := len_wt kids
  have HI : Hid (kids.length ≤ 60000) := Lib.hid (by omega)
  have HKW := Lib.hid hkw
  have HLENS : Hid (Lib.lens (kidsT 2 kids) + kids.length ≤ 480000) := Lib.hid (by have := kidsT_lens 2 kids (by omega); omega)
  have HB0 := Lib.hid (sbelow_new w (.cells #[.int .i64 2, .bool t, .slice a l c, .slice a' kids.length c'] 30))
  have HF0 := Lib.hid (four_new w 30 (.int .i64 2) (.bool t) (.slice a l c) (.slice a' kids.length c'))
  obtain ⟨p0, p1, p2, p3⟩ := HF0.out.box
  have hne : ((kids.length : Int) == 0) = false := beq_eq_false_iff_ne.2 (by omega)
  obtain ⟨tot, ht⟩ : ∃ z, Lib.join (kidsT 2 kids) [32] = z := ⟨_, rfl⟩
  rw [ht]
  have HT := Lib.hid ht
  clear hl hvs hv hkl hkw h0 ht
  go_enter Tryz.func20, Tryz.ntmps20
  go_wp2_with fail
  generalize w.alloc (.cells #[.int .i64 2, .bool t, .slice a l c, .slice a' kids.length c'] 30) = w1 at *
  clear p0 p1 p2 p3
  go_loopg [6, 77] kids.length (fun g u v wr => ∃ i : Nat, i ≤ kids.length ∧ g = kids.length - i ∧ v = .int .i64 i ∧ u = .string ⟨(Lib.join ((kidsT 2 kids).take i) [32]).toArray⟩ ∧ Four wr w.heap.size 0 (.int .i64 2) (.bool t) (.slice a l c) (.slice a' kids.length c') ∧ Below w.heap.size w wr)
  case atStart => exact ⟨0, Nat.zero_le _, by omega, rfl, rfl, HF0.out, HB0.out⟩
  case round =>
    clear HB0 HF0
    obtain ⟨i, hi, hgk, rfl, rfl, hbx, hbel⟩ := hrel
    have HB := Lib.hid hbel
    have HX := Lib.hid hbx
    clear hbel hbx
    have hjl := join_take_len (kidsT 2 kids) [32] i (Nat.le_refl _)
    rw [kidsT_len] at hjl
    by_cases hlt : i < kids.length
    · obtain ⟨y, hy⟩ : ∃ y, kids[i]? = some y := ⟨_, List.getElem?_eq_getElem hlt⟩
      have HJ := Lib.hid (join_take (sep := [32]) (kidsT_at 2 hy))
      obtain ⟨b1, o1, k6, t6, a6, l6, c6, a7, l7, c7, rfl, hvx, hE1⟩ := ex_at HROW.out HVS.out hy HB.out
      have bn := sbelow_new wr (.cells #[.int .i64 k6, .bool t6, .slice a6 l6 c6, .slice a7 l7 c7] 30)
      have HN := Lib.hid (four_new wr 30 (.int .i64 k6) (.bool t6) (.slice a6 l6 c6) (.slice a7 l7 c7))
      have HX1 := Lib.hid (HX.out.step bn)
      have HB1 := Lib.hid (HB.out.trans (bn.mono HB.out.size))
      have hyw : rxWt y ≤ 60000 := by have := HKW.out; have := wt_mem hy; omega
      have HRB := Lib.hid (rbrackets_of P y hyw _ (Lib.hid (fun W hb => HKS.out i y hy W (HB1.out.trans (hb.mono HB1.out.size)))) 2 t a l c (some ⟨b1, o1, none⟩) kids.length c' k6 t6 a6 l6 c6 a7 l7 c7 (hvx.step HB1.out))
      have hbl := brT_len (brk 2 y) (textE y)
      have htl := textE_len y (by omega)
      have HBL : Hid ((brT (brk 2 y) (textE y)).length ≤ 1000000) := Lib.hid (by omega)
      generalize brT (brk 2 y) (textE y) = bt at *
      generalize hJ : Lib.join ((kidsT 2 kids).take i) [32] = at1 at *
      have HJT := Lib.hid hJ
      have hl : at1.length ≤ 1000000 := by have := HLENS.out; omega
      have hsz : (⟨at1.toArray⟩ : ByteArray).size = at1.length := by simp [ByteArray.size]
      obtain ⟨-, g0, g1, g2, g3⟩ := hE1
      obtain ⟨n0, n1, n2, n3⟩ := HN.out.box
      obtain ⟨p0, p1, p2, p3⟩ := HX1.out.box
      clear hy bn hvx hJ hjl hbl htl hyw
      by_cases h0 : i = 0
      · subst h0
        have HE : Hid (at1 = []) := Lib.hid (by rw [← HJT.out, List.take_zero]; rfl)
        rw [Nat.zero_mul, Nat.add_zero] at g0 g1 g2 g3
        go_wp2_with fail
        refine HRB.out.mono ?_
        rintro e w4 ⟨rfl, b4⟩
        have hl2 := HBL.out
        have hsz2 : (⟨bt.toArray⟩ : ByteArray).size = bt.length := by simp [ByteArray.size]
        clear g0 g1 g2 g3 n0 n1 n2 n3 p0 p1 p2 p3
        go_wp2_with fail
        go_roundg (kids.length - (0 + 1))
        case measure => omega
        case rel =>
          refine ⟨0 + 1, by omega, rfl, rfl, val_s ?_, HX1.out.step b4, HB1.out.trans (b4.mono HB1.out.size)⟩
          rw [HJ.out, if_pos (by trivial), cat2, HE.out, List.nil_append]
      · have hpos : 0 < i := by omega
        go_wp2_with fail
        refine HRB.out.mono ?_
        rintro e w4 ⟨rfl, b4⟩
        have hl2 := HBL.out
        have hsz2 : (⟨bt.toArray⟩ : ByteArray).size = bt.length := by simp [ByteArray.size]
        clear g0 g1 g2 g3 n0 n1 n2 n3 p0 p1 p2 p3
        go_wp2_with fail
        go_roundg (kids.length - (i + 1))
        case measure => omega
        case rel =>
          refine ⟨i + 1, by omega, rfl, by first | rfl | (rw [w64x _ (by have := HI.out; omega)]; rfl), val_s ?_, HX1.out.step b4, HB1.out.trans (b4.mono HB1.out.size)⟩
          rw [HJ.out, if_neg h0, List.append_assoc]
          exact cat3 at1 [32] bt
    · obtain rfl : i = kids.length := by omega
      have hf : (kidsT 2 kids).take kids.length = kidsT 2 kids := List.take_of_length_le (by rw [kidsT_len]; exact Nat.le_refl _)
      rw [hf, HT.out]
      clear hf hjl
      go_wp2_with fail
      go_ret
      exact ⟨rfl, HB.out⟩
set_option maxRecDepth 100000 in
set_option maxHeartbeats 8000000 in
theorem rprint_kids3 (P : Nat → Prop) (t : Bool) (ws : List ByteArray) (kids : List Rx) (hkw : rxsWt kids ≤ 60000) (h0 : kids.length ≠ 0) (w : World) (HKS : Hid (∀ (i : Nat) (y : Rx), kids[i]? = some y → RpSpec P w y)) (a : Option Addr) (l c : Nat) (a' : Option Addr) (l' c' : Nat)
    (hv : ExC P w [.int .i64 3, .bool t, .slice a l c, .slice a' l' c'] (.mk 3 t ws kids)) :
    Calls Tryz.prog 20 #[.agg #[.int .i64 3, .bool t, .slice a l c, .slice a' l' c']] w fun e w' => e = .returned (.string ⟨(Lib.join (kidsT 3 kids) [124]).toArray⟩) ∧ Below w.heap.size w w' := by
  obtain ⟨-, -, -, xs, hl, hvs⟩ := hv.open
  obtain ⟨_, _, es⟩ := hl.form
  simp only [Value.slice.injEq] at es
  obtain ⟨-, el, -⟩ := es
  subst el
  have HROW := Lib.hid hl
  have HVS := Lib.hid hvs
  have hkl := len_wt kids
  have HI : Hid (kids.length ≤ 60000) := Lib.hid (by omega)
  have HKW := Lib.hid hkw
  have HLENS : Hid (Lib.lens (kidsT 3 kids) + kids.length ≤ 480000) := Lib.hid (by have := kidsT_lens 3 kids (by omega); omega)
  have HB0 := Lib.hid (sbelow_new w (.cells #[.int .i64 3, .bool t, .slice a l c, .slice a' kids.length c'] 30))
  have HF0 := Lib.hid (four_new w 30 (.int .i64 3) (.bool t) (.slice a l c) (.slice a' kids.length c'))
  obtain ⟨p0, p1, p2, p3⟩ := HF0.out.box
  have hne : ((kids.length : Int) == 0) = false := beq_eq_false_iff_ne.2 (by omega)
  obtain ⟨tot, ht⟩ : ∃ z, Lib.join (kidsT 3 kids) [124] = z := ⟨_, rfl⟩
  rw [ht]
  have HT := Lib.hid ht
  clear hl hvs hv hkl hkw h0 ht
  go_enter Tryz.func20, Tryz.ntmps20
  go_wp2_with fail
  generalize w.alloc (.cells #[.int .i64 3, .bool t, .slice a l c, .slice a' kids.length c'] 30) = w1 at *
  clear p0 p1 p2 p3
  go_loopg [6, 77] kids.length (fun g u v wr => ∃ i : Nat, i ≤ kids.length ∧ g = kids.length - i ∧ v = .int .i64 i ∧ u = .string ⟨(Lib.join ((kidsT 3 kids).take i) [124]).toArray⟩ ∧ Four wr w.heap.size 0 (.int .i64 3) (.bool t) (.slice a l c) (.slice a' kids.length c') ∧ Below w.heap.size w wr)
  case atStart => exact ⟨0, Nat.zero_le _, by omega, rfl, rfl, HF0.out, HB0.out⟩
  case round =>
    clear HB0 HF0
    obtain ⟨i, hi, hgk, rfl, rfl, hbx, hbel⟩ := hrel
    have HB := Lib.hid hbel
    have HX := Lib.hid hbx
    clear hbel hbx
    have hjl := join_take_len (kidsT 3 kids) [124] i (Nat.le_refl _)
    rw [kidsT_len] at hjl
    by_cases hlt : i < kids.length
    · obtain ⟨y, hy⟩ : ∃ y, kids[i]? = some y := ⟨_, List.getElem?_eq_getElem hlt⟩
      have HJ := Lib.hid (join_take (sep := [124]) (kidsT_at 3 hy))
      obtain ⟨b1, o1, k6, t6, a6, l6, c6, a7, l7, c7, rfl, hvx, hE1⟩ := ex_at HROW.out HVS.out hy HB.out
      have bn := sbelow_new wr (.cells #[.int .i64 k6, .bool t6, .slice a6 l6 c6, .slice a7 l7 c7] 30)
      have HN := Lib.hid (four_new wr 30 (.int .i64 k6) (.bool t6) (.slice a6 l6 c6) (.slice a7 l7 c7))
      have HX1 := Lib.hid (HX.out.step bn)
      have HB1 := Lib.hid (HB.out.trans (bn.mono HB.out.size))
      have hyw : rxWt y ≤ 60000 := by have := HKW.out; have := wt_mem hy; omega
      have HRB := Lib.hid (rbrackets_of P y hyw _ (Lib.hid (fun W hb => HKS.out i y hy W (HB1.out.trans (hb.mono HB1.out.size)))) 3 t a l c (some ⟨b1, o1, none⟩) kids.length c' k6 t6 a6 l6 c6 a7 l7 c7 (hvx.step HB1.out))
      have hbl := brT_len (brk 3 y) (textE y)
      have htl := textE_len y (by omega)
      have HBL : Hid ((brT (brk 3 y) (textE y)).length ≤ 1000000) := Lib.hid (by omega)
      generalize brT (brk 3 y) (textE y) = bt at *
      generalize hJ : Lib.join ((kidsT 3 kids).take i) [124] = at1 at *
      have HJT := Lib.hid hJ
      have hl : at1.length ≤ 1000000 := by have := HLENS.out; omega
      have hsz : (⟨at1.toArray⟩ : ByteArray).size = at1.length := by simp [ByteArray.size]
      obtain ⟨-, g0, g1, g2, g3⟩ := hE1
      obtain ⟨n0, n1, n2, n3⟩ := HN.out.box
      obtain ⟨p0, p1, p2, p3⟩ := HX1.out.box
      clear hy bn hvx hJ hjl hbl htl hyw
      by_cases h0 : i = 0
      · subst h0
        have HE : Hid (at1 = []) := Lib.hid (by rw [← HJT.out, List.take_zero]; rfl)
        rw [Nat.zero_mul, Nat.add_zero] at g0 g1 g2 g3
        go_wp2_with fail
        refine HRB.out.mono ?_
        rintro e w4 ⟨rfl, b4⟩
        have hl2 := HBL.out
        have hsz2 : (⟨bt.toArray⟩ : ByteArray).size = bt.length := by simp [ByteArray.size]
        clear g0 g1 g2 g3 n0 n1 n2 n3 p0 p1 p2 p3
        go_wp2_with fail
        go_roundg (kids.length - (0 + 1))
        case measure => omega
        case rel =>
          refine ⟨0 + 1, by omega, rfl, rfl, val_s ?_, HX1.out.step b4, HB1.out.trans (b4.mono HB1.out.size)⟩
          rw [HJ.out, if_pos (by trivial), cat2, HE.out, List.nil_append]
      · have hpos : 0 < i := by omega
        go_wp2_with fail
        refine HRB.out.mono ?_
        rintro e w4 ⟨rfl, b4⟩
        have hl2 := HBL.out
        have hsz2 : (⟨bt.toArray⟩ : ByteArray).size = bt.length := by simp [ByteArray.size]
        clear g0 g1 g2 g3 n0 n1 n2 n3 p0 p1 p2 p3
        go_wp2_with fail
        go_roundg (kids.length - (i + 1))
        case measure => omega
        case rel =>
          refine ⟨i + 1, by omega, rfl, by first | rfl | (rw [w64x _ (by have := HI.out; omega)]; rfl), val_s ?_, HX1.out.step b4, HB1.out.trans (b4.mono HB1.out.size)⟩
          rw [HJ.out, if_neg h0, List.append_assoc]
          exact cat3 at1 [124] bt
    · obtain rfl : i = kids.length := by omega
      have hf : (kidsT 3 kids).take kids.length = kidsT 3 kids := List.take_of_length_le (by rw [kidsT_len]; exact Nat.le_refl _)
      rw [hf, HT.out]
      clear hf hjl
      go_wp2_with fail
      go_ret
      exact ⟨rfl, HB.out⟩

/-! ### Any expression -/
set_option maxRecDepth 100000 in
set_option maxHeartbeats 8000000 in
theorem rprint_go (P : Nat → Prop) : ∀ (m : Nat) (x : Rx), SizeOf.sizeOf x < m → rxWt x ≤ 60000 → faultE x = 0 → ∀ (w : World) (k : Int) (t : Bool) (a : Option Addr) (l c : Nat) (a' : Option Addr) (l' c' : Nat),
    ExC P w [.int .i64 k, .bool t, .slice a l c, .slice a' l' c'] x →
    Calls Tryz.prog 20 #[.agg #[.int .i64 k, .bool t, .slice a l c, .slice a' l' c']] w fun e w' => e = .returned (.string ⟨(textE x).toArray⟩) ∧ Below w.heap.size w w' := by
  intro m
  induction m with
  | zero => intro x hx; exact absurd hx (Nat.not_lt_zero _)
  | succ m ih =>
    intro x hx hsz hf w k t a l c a' l' c' hv
    cases x with
    | mk k1 t1 words kids =>
      have HV := Lib.hid hv
      obtain ⟨rfl, rfl, hk, xs, hl0, hvs⟩ := hv.open
      obtain ⟨_, _, es⟩ := hl0.form
      simp only [Value.slice.injEq] at es
      obtain ⟨-, el, -⟩ := es
      subst el
      obtain ⟨_, _, es⟩ := hk.form
      simp only [Value.slice.injEq] at es
      obtain ⟨-, el, -⟩ := es
      subst el
      simp only [Rx.mk.sizeOf_spec] at hx
      rw [rxWt] at hsz
      obtain ⟨h1, h2⟩ := faultE_zero hf
      obtain ⟨hk0, hk6, hmay, hatom, -⟩ := ownF_zero h1
      have HSZ : Hid (rxsWt kids ≤ 60000) := Lib.hid (by omega)
      have HWT : Hid (wordsWt words ≤ 60000) := Lib.hid (by omega)
      have HAT : Hid (k = 1 → 1 ≤ words.length) := Lib.hid (fun h => wordsF_zero (hatom h))
      have HKS : Hid (∀ (i : Nat) (y : Rx), kids[i]? = some y → RpSpec P w y) := Lib.hid (fun i y hy W hb k t a l c a' l' c' hvy =>
        ih y (by have := rx_mem hy; omega) (by have := wt_mem hy; omega) (faultEs_zero h2 hy) W k t a l c a' l' c' hvy)
      have HB := Lib.hid (sbelow_new w (.cells #[.int .i64 k, .bool t, .slice a words.length c, .slice a' kids.length c'] 30))
      have HF := Lib.hid (four_new w 30 (.int .i64 k) (.bool t) (.slice a words.length c) (.slice a' kids.length c'))
      obtain ⟨p0, p1, p2, p3⟩ := HF.out.box
      clear hv hx hsz hf ih h1 h2 hk hatom
      obtain rfl | rfl | rfl | rfl | rfl | rfl | rfl : k = 0 ∨ k = 1 ∨ k = 2 ∨ k = 3 ∨ k = 4 ∨ k = 5 ∨ k = 6 := by omega
      · rw [textE, if_pos rfl]
        clear hl0 hvs hmay
        go_enter Tryz.func20, Tryz.ntmps20
        go_wp2_with fail
        go_ret
        exact ⟨rfl, HB.out⟩
      · rw [textE, if_neg (by decide), if_pos rfl]
        exact rprint_atom P t words kids HWT.out (HAT.out rfl) w a words.length c a' kids.length c' HV.out
      · by_cases h0 : kids.length = 0
        · rw [textE, if_neg (by decide), if_neg (by decide), if_pos ⟨rfl, h0⟩]
          have h0i : ((kids.length : Int) == 0) = true := beq_iff_eq.2 (by omega)
          clear h0 hl0 hvs hmay
          go_enter Tryz.func20, Tryz.ntmps20
          go_wp2_with fail
          go_ret
          exact ⟨rfl, HB.out⟩
        · rw [textE, if_neg (by decide), if_neg (by decide), if_neg (fun h => h0 h.2)]
          have h := rprint_kids2 P t words kids HSZ.out h0 w HKS a words.length c a' kids.length c' HV.out
          rw [show Lib.join (kidsT 2 kids) (sepT 2) ++ signT 2 = Lib.join (kidsT 2 kids) [32] from List.append_nil _]
          exact h
      · have h2k : 2 ≤ kids.length := by simpa [mayH] using hmay
        rw [textE, if_neg (by decide), if_neg (by decide), if_neg (fun h => absurd h.1 (by decide))]
        have h := rprint_kids3 P t words kids HSZ.out (by omega) w HKS a words.length c a' kids.length c' HV.out
        rw [show Lib.join (kidsT 3 kids) (sepT 3) ++ signT 3 = Lib.join (kidsT 3 kids) [124] from List.append_nil _]
        exact h
      · have HT : Hid (textE (.mk 4 t words kids) = Lib.join (kidsT 4 kids) [] ++ [42]) := Lib.hid (by rw [textE, if_neg (by decide), if_neg (by decide), if_neg (by simp)]; rfl)
        have h1k : kids.length = 1 := by simpa [mayH] using hmay
        obtain ⟨y, hy⟩ : ∃ y, kids[0]? = some y := ⟨_, List.getElem?_eq_getElem (by omega)⟩
        have hkk : kids = [y] := by
          match kids, h1k with
          | [z], _ =>
            obtain rfl : z = y := by simpa using hy
            rfl
        have HJ1 : Hid (Lib.join (kidsT 4 kids) [] = brT (brk 4 y) (textE y)) := Lib.hid (by rw [hkk, kidsT, kidsT]; exact Lib.join_one _ _)
        obtain ⟨b1, o1, k6, t6, a6, l6, c6, a7, l7, c7, rfl, hvx, hE1⟩ := ex_at hl0 hvs hy HB.out
        have hyw : rxWt y ≤ 60000 := by have := HSZ.out; have := wt_mem hy; omega
        have HRB := Lib.hid (fun W (hb : Below w.heap.size w W) => rbrackets_of P y hyw W (Lib.hid (fun W2 hb2 => HKS.out 0 y hy W2 (hb.trans (hb2.mono hb.size)))) 4 t a words.length c (some ⟨b1, o1, none⟩) kids.length c' k6 t6 a6 l6 c6 a7 l7 c7 (hvx.step hb))
        have hbl := brT_len (brk 4 y) (textE y)
        have htl := textE_len y (by omega)
        have hl : (brT (brk 4 y) (textE y)).length ≤ 1000000 := by omega
        have hlt0 : (0 : Int) < (kids.length : Int) := by omega
        have hkn : kids ≠ [] := by rw [hkk]; simp
        generalize textE (.mk 4 t words kids) = tx at *
        generalize Lib.join (kidsT 4 kids) [] = jt at *
        generalize brT (brk 4 y) (textE y) = bt at *
        have hsz : (⟨bt.toArray⟩ : ByteArray).size = bt.length := by simp [ByteArray.size]
        have HBL := Lib.hid hl
        have hw1 : IntKind.i64.wrap ((4 : Int) - 4) = 0 := by decide
        have hw2 : IntKind.i64.wrap (0 : Int) = 0 := by decide
        have hE2 := hE1.step (Below.refl _ _).drew
        rw [Nat.zero_mul, Nat.add_zero] at hE2
        clear hvs hl0 hvx hE1 hkk h1k hy hyw hbl htl hl hmay hsz
        go_enter Tryz.func20, Tryz.ntmps20
        go_wp2_with fail
        generalize w.alloc (.cells #[.int .i64 4, .bool t, .slice a words.length c, .slice (some ⟨b1, o1, none⟩) kids.length c'] 30) = w1 at *
        have hI := HF.out.step (Below.refl w1.heap.size w1).drew
        have hB := HB.out.trans ((Below.refl w1.heap.size w1).drew.mono HB.out.size)
        have kk : w1.drew.cell? ⟨w.heap.size, 0, none⟩ = some (.int .i64 4) ∧ w1.drew.cell? ⟨w.heap.size, 1, none⟩ = some (.bool t) ∧ w1.drew.cell? ⟨w.heap.size, 2, none⟩ = some (.slice a words.length c) ∧ w1.drew.cell? ⟨w.heap.size, 3, none⟩ = some (.slice (some ⟨b1, o1, none⟩) kids.length c') ∧ w1.drew.cell? ⟨b1, o1, none⟩ = some (.int .i64 k6) ∧ w1.drew.cell? ⟨b1, o1 + 1, none⟩ = some (.bool t6) ∧ w1.drew.cell? ⟨b1, o1 + 2, none⟩ = some (.slice a6 l6 c6) ∧ w1.drew.cell? ⟨b1, o1 + 3, none⟩ = some (.slice a7 l7 c7) :=
          ⟨hI.box.1, hI.box.2.1, hI.box.2.2.1, hI.box.2.2.2, hE2.2.1, hE2.2.2.1, hE2.2.2.2.1, hE2.2.2.2.2⟩
        clear p0 p1 p2 p3
        refine region_T (fun W : World => W.cell? ⟨w.heap.size, 0, none⟩ = some (.int .i64 4) ∧ W.cell? ⟨w.heap.size, 1, none⟩ = some (.bool t) ∧ W.cell? ⟨w.heap.size, 2, none⟩ = some (.slice a words.length c) ∧ W.cell? ⟨w.heap.size, 3, none⟩ = some (.slice (some ⟨b1, o1, none⟩) kids.length c') ∧ W.cell? ⟨b1, o1, none⟩ = some (.int .i64 k6) ∧ W.cell? ⟨b1, o1 + 1, none⟩ = some (.bool t6) ∧ W.cell? ⟨b1, o1 + 2, none⟩ = some (.slice a6 l6 c6) ∧ W.cell? ⟨b1, o1 + 3, none⟩ = some (.slice a7 l7 c7)) 13 (by kernel_rfl) ?_
        refine wpT_take (i := 0) (v := .agg #[.int .i64 4, .bool t, .slice a words.length c, .slice (some ⟨b1, o1, none⟩) kids.length c']) rfl (by kernel_rfl) (by kernel_rfl) (by kernel_rfl) (by kernel_rfl) (by kernel_rfl) (by kernel_rfl) (by kernel_rfl) (by kernel_rfl) (fun _ _ _ h => h) (Or.inl ⟨by rfl, ?_⟩) kk ?_
        · rintro w' ⟨s0, s1, s2, s3, r0, r1, r2, r3⟩
          go_simp
        try simp only [Act.put]
        refine wpT_take (i := 1) (v := .pointer (some ⟨w.heap.size, 3, none⟩)) rfl (by kernel_rfl) (by kernel_rfl) (by kernel_rfl) (by kernel_rfl) (by kernel_rfl) (by kernel_rfl) (by kernel_rfl) (by kernel_rfl) (fun _ _ _ h => h) (Or.inl ⟨by rfl, ?_⟩) kk ?_
        · rintro w' ⟨s0, s1, s2, s3, r0, r1, r2, r3⟩
          go_simp
        try simp only [Act.put]
        refine wpT_take (i := 2) (v := .slice (some ⟨b1, o1, none⟩) kids.length c') rfl (by kernel_rfl) (by kernel_rfl) (by kernel_rfl) (by kernel_rfl) (by kernel_rfl) (by kernel_rfl) (by kernel_rfl) (by kernel_rfl) (fun _ _ _ h => h) (Or.inl ⟨by rfl, ?_⟩) kk ?_
        · rintro w' ⟨s0, s1, s2, s3, r0, r1, r2, r3⟩
          go_simp
        try simp only [Act.put]
        refine wpT_take (i := 3) (v := .pointer (some ⟨b1, o1, none⟩)) rfl (by kernel_rfl) (by kernel_rfl) (by kernel_rfl) (by kernel_rfl) (by kernel_rfl) (by kernel_rfl) (by kernel_rfl) (by kernel_rfl) (fun _ _ _ h => h) (Or.inl ⟨by rfl, ?_⟩) kk ?_
        · rintro w' ⟨s0, s1, s2, s3, r0, r1, r2, r3⟩
          go_simp
          all_goals (intro h; exact absurd h hkn)
        try simp only [Act.put]
        refine wpT_take (i := 4) (v := .agg #[.int .i64 k6, .bool t6, .slice a6 l6 c6, .slice a7 l7 c7]) rfl (by kernel_rfl) (by kernel_rfl) (by kernel_rfl) (by kernel_rfl) (by kernel_rfl) (by kernel_rfl) (by kernel_rfl) (by kernel_rfl) (fun _ _ _ h => h) (Or.inl ⟨by rfl, ?_⟩) kk ?_
        · rintro w' ⟨s0, s1, s2, s3, r0, r1, r2, r3⟩
          go_simp
        try simp only [Act.put]
        refine wpT_take (i := 6) (v := .pointer (some ⟨w.heap.size, 0, none⟩)) rfl (by kernel_rfl) (by kernel_rfl) (by kernel_rfl) (by kernel_rfl) (by kernel_rfl) (by kernel_rfl) (by kernel_rfl) (by kernel_rfl) (fun _ _ _ h => h) (Or.inl ⟨by rfl, ?_⟩) kk ?_
        · rintro w' ⟨s0, s1, s2, s3, r0, r1, r2, r3⟩
          go_simp
        try simp only [Act.put]
        refine wpT_take (i := 7) (v := .int .i64 4) rfl (by kernel_rfl) (by kernel_rfl) (by kernel_rfl) (by kernel_rfl) (by kernel_rfl) (by kernel_rfl) (by kernel_rfl) (by kernel_rfl) (fun _ _ _ h => h) (Or.inl ⟨by rfl, ?_⟩) kk ?_
        · rintro w' ⟨s0, s1, s2, s3, r0, r1, r2, r3⟩
          go_simp
        try simp only [Act.put]
        refine wpT_take (i := 8) (v := .int .i64 0) rfl (by kernel_rfl) (by kernel_rfl) (by kernel_rfl) (by kernel_rfl) (by kernel_rfl) (by kernel_rfl) (by kernel_rfl) (by kernel_rfl) (fun _ _ _ h => h) (Or.inl ⟨by rfl, ?_⟩) kk ?_
        · rintro w' ⟨s0, s1, s2, s3, r0, r1, r2, r3⟩
          go_simp
        try simp only [Act.put]
        refine wpT_take (i := 9) (v := .pointer (some ⟨w.heap.size, 0, none⟩)) rfl (by kernel_rfl) (by kernel_rfl) (by kernel_rfl) (by kernel_rfl) (by kernel_rfl) (by kernel_rfl) (by kernel_rfl) (by kernel_rfl) (fun _ _ _ h => h) (Or.inl ⟨by rfl, ?_⟩) kk ?_
        · rintro w' ⟨s0, s1, s2, s3, r0, r1, r2, r3⟩
          go_simp
        try simp only [Act.put]
        refine wpT_take (i := 10) (v := .int .i64 4) rfl (by kernel_rfl) (by kernel_rfl) (by kernel_rfl) (by kernel_rfl) (by kernel_rfl) (by kernel_rfl) (by kernel_rfl) (by kernel_rfl) (fun _ _ _ h => h) (Or.inl ⟨by rfl, ?_⟩) kk ?_
        · rintro w' ⟨s0, s1, s2, s3, r0, r1, r2, r3⟩
          go_simp
        try simp only [Act.put]
        refine wpT_take (i := 11) (v := .int .i64 (0 + 1)) rfl (by kernel_rfl) (by kernel_rfl) (by kernel_rfl) (by kernel_rfl) (by kernel_rfl) (by kernel_rfl) (by kernel_rfl) (by kernel_rfl) (fun _ _ _ h => h) (Or.inl ⟨by rfl, ?_⟩) kk ?_
        · rintro w' ⟨s0, s1, s2, s3, r0, r1, r2, r3⟩
          go_simp
          all_goals decide
        try simp only [Act.put]
        refine wpT_take (i := 12) (v := .string ⟨#[42]⟩) rfl (by kernel_rfl) (by kernel_rfl) (by kernel_rfl) (by kernel_rfl) (by kernel_rfl) (by kernel_rfl) (by kernel_rfl) (by kernel_rfl) (fun _ _ _ h => h) (Or.inl ⟨by rfl, ?_⟩) kk ?_
        · rintro w' ⟨s0, s1, s2, s3, r0, r1, r2, r3⟩
          go_simp
          all_goals rfl
        try simp only [Act.put]
        refine wpT_one (i := 5) (by kernel_rfl) rfl ?_
        intro KK hKK
        go_simp
        refine (HRB.out _ hB).mono ?_
        rintro e w5 ⟨rfl, b5⟩
        replace hI := hI.step b5
        replace hE2 := hE2.step b5
        replace hB := hB.trans (b5.mono hB.size)
        refine hKK _ _ ⟨fun _ => ⟨hI.box.1, hI.box.2.1, hI.box.2.2.1, hI.box.2.2.2, hE2.2.1, hE2.2.2.1, hE2.2.2.2.1, hE2.2.2.2.2⟩, ?_⟩
        clear hKK b5
        try simp only [Act.put]
        refine wpT_tail 13 2 rfl rfl (by kernel_rfl) (by kernel_rfl) ?_
        simp only [List.drop_succ_cons, List.drop_zero]
        have hl := HBL.out
        have hsz : (⟨bt.toArray⟩ : ByteArray).size = bt.length := by simp [ByteArray.size]
        go_wp2_with fail
        go_ret
        refine ⟨ret_s ?_, hB⟩
        rw [HT.out, HJ1.out]
        exact cat2 bt [42]
      · have HT : Hid (textE (.mk 5 t words kids) = Lib.join (kidsT 5 kids) [] ++ [43]) := Lib.hid (by rw [textE, if_neg (by decide), if_neg (by decide), if_neg (by simp)]; rfl)
        have h1k : kids.length = 1 := by simpa [mayH] using hmay
        obtain ⟨y, hy⟩ : ∃ y, kids[0]? = some y := ⟨_, List.getElem?_eq_getElem (by omega)⟩
        have hkk : kids = [y] := by
          match kids, h1k with
          | [z], _ =>
            obtain rfl : z = y := by simpa using hy
            rfl
        have HJ1 : Hid (Lib.join (kidsT 5 kids) [] = brT (brk 5 y) (textE y)) := Lib.hid (by rw [hkk, kidsT, kidsT]; exact Lib.join_one _ _)
        obtain ⟨b1, o1, k6, t6, a6, l6, c6, a7, l7, c7, rfl, hvx, hE1⟩ := ex_at hl0 hvs hy HB.out
        have hyw : rxWt y ≤ 60000 := by have := HSZ.out; have := wt_mem hy; omega
        have HRB := Lib.hid (fun W (hb : Below w.heap.size w W) => rbrackets_of P y hyw W (Lib.hid (fun W2 hb2 => HKS.out 0 y hy W2 (hb.trans (hb2.mono hb.size)))) 5 t a words.length c (some ⟨b1, o1, none⟩) kids.length c' k6 t6 a6 l6 c6 a7 l7 c7 (hvx.step hb))
        have hbl := brT_len (brk 5 y) (textE y)
        have htl := textE_len y (by omega)
        have hl : (brT (brk 5 y) (textE y)).length ≤ 1000000 := by omega
        have hlt0 : (0 : Int) < (kids.length : Int) := by omega
        have hkn : kids ≠ [] := by rw [hkk]; simp
        generalize textE (.mk 5 t words kids) = tx at *
        generalize Lib.join (kidsT 5 kids) [] = jt at *
        generalize brT (brk 5 y) (textE y) = bt at *
        have hsz : (⟨bt.toArray⟩ : ByteArray).size = bt.length := by simp [ByteArray.size]
        have HBL := Lib.hid hl
        have hw1 : IntKind.i64.wrap ((5 : Int) - 4) = 1 := by decide
        have hw2 : IntKind.i64.wrap (1 : Int) = 1 := by decide
        have hE2 := hE1.step (Below.refl _ _).drew
        rw [Nat.zero_mul, Nat.add_zero] at hE2
        clear hvs hl0 hvx hE1 hkk h1k hy hyw hbl htl hl hmay hsz
        go_enter Tryz.func20, Tryz.ntmps20
        go_wp2_with fail
        generalize w.alloc (.cells #[.int .i64 5, .bool t, .slice a words.length c, .slice (some ⟨b1, o1, none⟩) kids.length c'] 30) = w1 at *
        have hI := HF.out.step (Below.refl w1.heap.size w1).drew
        have hB := HB.out.trans ((Below.refl w1.heap.size w1).drew.mono HB.out.size)
        have kk : w1.drew.cell? ⟨w.heap.size, 0, none⟩ = some (.int .i64 5) ∧ w1.drew.cell? ⟨w.heap.size, 1, none⟩ = some (.bool t) ∧ w1.drew.cell? ⟨w.heap.size, 2, none⟩ = some (.slice a words.length c) ∧ w1.drew.cell? ⟨w.heap.size, 3, none⟩ = some (.slice (some ⟨b1, o1, none⟩) kids.length c') ∧ w1.drew.cell? ⟨b1, o1, none⟩ = some (.int .i64 k6) ∧ w1.drew.cell? ⟨b1, o1 + 1, none⟩ = some (.bool t6) ∧ w1.drew.cell? ⟨b1, o1 + 2, none⟩ = some (.slice a6 l6 c6) ∧ w1.drew.cell? ⟨b1, o1 + 3, none⟩ = some (.slice a7 l7 c7) :=
          ⟨hI.box.1, hI.box.2.1, hI.box.2.2.1, hI.box.2.2.2, hE2.2.1, hE2.2.2.1, hE2.2.2.2.1, hE2.2.2.2.2⟩
        clear p0 p1 p2 p3
        refine region_T (fun W : World => W.cell? ⟨w.heap.size, 0, none⟩ = some (.int .i64 5) ∧ W.cell? ⟨w.heap.size, 1, none⟩ = some (.bool t) ∧ W.cell? ⟨w.heap.size, 2, none⟩ = some (.slice a words.length c) ∧ W.cell? ⟨w.heap.size, 3, none⟩ = some (.slice (some ⟨b1, o1, none⟩) kids.length c') ∧ W.cell? ⟨b1, o1, none⟩ = some (.int .i64 k6) ∧ W.cell? ⟨b1, o1 + 1, none⟩ = some (.bool t6) ∧ W.cell? ⟨b1, o1 + 2, none⟩ = some (.slice a6 l6 c6) ∧ W.cell? ⟨b1, o1 + 3, none⟩ = some (.slice a7 l7 c7)) 13 (by kernel_rfl) ?_
        refine wpT_take (i := 0) (v := .agg #[.int .i64 5, .bool t, .slice a words.length c, .slice (some ⟨b1, o1, none⟩) kids.length c']) rfl (by kernel_rfl) (by kernel_rfl) (by kernel_rfl) (by kernel_rfl) (by kernel_rfl) (by kernel_rfl) (by kernel_rfl) (by kernel_rfl) (fun _ _ _ h => h) (Or.inl ⟨by rfl, ?_⟩) kk ?_
        · rintro w' ⟨s0, s1, s2, s3, r0, r1, r2, r3⟩
          go_simp
        try simp only [Act.put]
        refine wpT_take (i := 1) (v := .pointer (some ⟨w.heap.size, 3, none⟩)) rfl (by kernel_rfl) (by kernel_rfl) (by kernel_rfl) (by kernel_rfl) (by kernel_rfl) (by kernel_rfl) (by kernel_rfl) (by kernel_rfl) (fun _ _ _ h => h) (Or.inl ⟨by rfl, ?_⟩) kk ?_
        · rintro w' ⟨s0, s1, s2, s3, r0, r1, r2, r3⟩
          go_simp
        try simp only [Act.put]
        refine wpT_take (i := 2) (v := .slice (some ⟨b1, o1, none⟩) kids.length c') rfl (by kernel_rfl) (by kernel_rfl) (by kernel_rfl) (by kernel_rfl) (by kernel_rfl) (by kernel_rfl) (by kernel_rfl) (by kernel_rfl) (fun _ _ _ h => h) (Or.inl ⟨by rfl, ?_⟩) kk ?_
        · rintro w' ⟨s0, s1, s2, s3, r0, r1, r2, r3⟩
          go_simp
        try simp only [Act.put]
        refine wpT_take (i := 3) (v := .pointer (some ⟨b1, o1, none⟩)) rfl (by kernel_rfl) (by kernel_rfl) (by kernel_rfl) (by kernel_rfl) (by kernel_rfl) (by kernel_rfl) (by kernel_rfl) (by kernel_rfl) (fun _ _ _ h => h) (Or.inl ⟨by rfl, ?_⟩) kk ?_
        · rintro w' ⟨s0, s1, s2, s3, r0, r1, r2, r3⟩
          go_simp
          all_goals (intro h; exact absurd h hkn)
        try simp only [Act.put]
        refine wpT_take (i := 4) (v := .agg #[.int .i64 k6, .bool t6, .slice a6 l6 c6, .slice a7 l7 c7]) rfl (by kernel_rfl) (by kernel_rfl) (by kernel_rfl) (by kernel_rfl) (by kernel_rfl) (by kernel_rfl) (by kernel_rfl) (by kernel_rfl) (fun _ _ _ h => h) (Or.inl ⟨by rfl, ?_⟩) kk ?_
        · rintro w' ⟨s0, s1, s2, s3, r0, r1, r2, r3⟩
          go_simp
        try simp only [Act.put]
        refine wpT_take (i := 6) (v := .pointer (some ⟨w.heap.size, 0, none⟩)) rfl (by kernel_rfl) (by kernel_rfl) (by kernel_rfl) (by kernel_rfl) (by kernel_rfl) (by kernel_rfl) (by kernel_rfl) (by kernel_rfl) (fun _ _ _ h => h) (Or.inl ⟨by rfl, ?_⟩) kk ?_
        · rintro w' ⟨s0, s1, s2, s3, r0, r1, r2, r3⟩
          go_simp
        try simp only [Act.put]
        refine wpT_take (i := 7) (v := .int .i64 5) rfl (by kernel_rfl) (by kernel_rfl) (by kernel_rfl) (by kernel_rfl) (by kernel_rfl) (by kernel_rfl) (by kernel_rfl) (by kernel_rfl) (fun _ _ _ h => h) (Or.inl ⟨by rfl, ?_⟩) kk ?_
        · rintro w' ⟨s0, s1, s2, s3, r0, r1, r2, r3⟩
          go_simp
        try simp only [Act.put]
        refine wpT_take (i := 8) (v := .int .i64 1) rfl (by kernel_rfl) (by kernel_rfl) (by kernel_rfl) (by kernel_rfl) (by kernel_rfl) (by kernel_rfl) (by kernel_rfl) (by kernel_rfl) (fun _ _ _ h => h) (Or.inl ⟨by rfl, ?_⟩) kk ?_
        · rintro w' ⟨s0, s1, s2, s3, r0, r1, r2, r3⟩
          go_simp
        try simp only [Act.put]
        refine wpT_take (i := 9) (v := .pointer (some ⟨w.heap.size, 0, none⟩)) rfl (by kernel_rfl) (by kernel_rfl) (by kernel_rfl) (by kernel_rfl) (by kernel_rfl) (by kernel_rfl) (by kernel_rfl) (by kernel_rfl) (fun _ _ _ h => h) (Or.inl ⟨by rfl, ?_⟩) kk ?_
        · rintro w' ⟨s0, s1, s2, s3, r0, r1, r2, r3⟩
          go_simp
        try simp only [Act.put]
        refine wpT_take (i := 10) (v := .int .i64 5) rfl (by kernel_rfl) (by kernel_rfl) (by kernel_rfl) (by kernel_rfl) (by kernel_rfl) (by kernel_rfl) (by kernel_rfl) (by kernel_rfl) (fun _ _ _ h => h) (Or.inl ⟨by rfl, ?_⟩) kk ?_
        · rintro w' ⟨s0, s1, s2, s3, r0, r1, r2, r3⟩
          go_simp
        try simp only [Act.put]
        refine wpT_take (i := 11) (v := .int .i64 (1 + 1)) rfl (by kernel_rfl) (by kernel_rfl) (by kernel_rfl) (by kernel_rfl) (by kernel_rfl) (by kernel_rfl) (by kernel_rfl) (by kernel_rfl) (fun _ _ _ h => h) (Or.inl ⟨by rfl, ?_⟩) kk ?_
        · rintro w' ⟨s0, s1, s2, s3, r0, r1, r2, r3⟩
          go_simp
          all_goals decide
        try simp only [Act.put]
        refine wpT_take (i := 12) (v := .string ⟨#[43]⟩) rfl (by kernel_rfl) (by kernel_rfl) (by kernel_rfl) (by kernel_rfl) (by kernel_rfl) (by kernel_rfl) (by kernel_rfl) (by kernel_rfl) (fun _ _ _ h => h) (Or.inl ⟨by rfl, ?_⟩) kk ?_
        · rintro w' ⟨s0, s1, s2, s3, r0, r1, r2, r3⟩
          go_simp
          all_goals rfl
        try simp only [Act.put]
        refine wpT_one (i := 5) (by kernel_rfl) rfl ?_
        intro KK hKK
        go_simp
        refine (HRB.out _ hB).mono ?_
        rintro e w5 ⟨rfl, b5⟩
        replace hI := hI.step b5
        replace hE2 := hE2.step b5
        replace hB := hB.trans (b5.mono hB.size)
        refine hKK _ _ ⟨fun _ => ⟨hI.box.1, hI.box.2.1, hI.box.2.2.1, hI.box.2.2.2, hE2.2.1, hE2.2.2.1, hE2.2.2.2.1, hE2.2.2.2.2⟩, ?_⟩
        clear hKK b5
        try simp only [Act.put]
        refine wpT_tail 13 2 rfl rfl (by kernel_rfl) (by kernel_rfl) ?_
        simp only [List.drop_succ_cons, List.drop_zero]
        have hl := HBL.out
        have hsz : (⟨bt.toArray⟩ : ByteArray).size = bt.length := by simp [ByteArray.size]
        go_wp2_with fail
        go_ret
        refine ⟨ret_s ?_, hB⟩
        rw [HT.out, HJ1.out]
        exact cat2 bt [43]
      · have HT : Hid (textE (.mk 6 t words kids) = Lib.join (kidsT 6 kids) [] ++ [63]) := Lib.hid (by rw [textE, if_neg (by decide), if_neg (by decide), if_neg (by simp)]; rfl)
        have h1k : kids.length = 1 := by simpa [mayH] using hmay
        obtain ⟨y, hy⟩ : ∃ y, kids[0]? = some y := ⟨_, List.getElem?_eq_getElem (by omega)⟩
        have hkk : kids = [y] := by
          match kids, h1k with
          | [z], _ =>
            obtain rfl : z = y := by simpa using hy
            rfl
        have HJ1 : Hid (Lib.join (kidsT 6 kids) [] = brT (brk 6 y) (textE y)) := Lib.hid (by rw [hkk, kidsT, kidsT]; exact Lib.join_one _ _)
        obtain ⟨b1, o1, k6, t6, a6, l6, c6, a7, l7, c7, rfl, hvx, hE1⟩ := ex_at hl0 hvs hy HB.out
        have hyw : rxWt y ≤ 60000 := by have := HSZ.out; have := wt_mem hy; omega
        have HRB := Lib.hid (fun W (hb : Below w.heap.size w W) => rbrackets_of P y hyw W (Lib.hid (fun W2 hb2 => HKS.out 0 y hy W2 (hb.trans (hb2.mono hb.size)))) 6 t a words.length c (some ⟨b1, o1, none⟩) kids.length c' k6 t6 a6 l6 c6 a7 l7 c7 (hvx.step hb))
        have hbl := brT_len (brk 6 y) (textE y)
        have htl := textE_len y (by omega)
        have hl : (brT (brk 6 y) (textE y)).length ≤ 1000000 := by omega
        have hlt0 : (0 : Int) < (kids.length : Int) := by omega
        have hkn : kids ≠ [] := by rw [hkk]; simp
        generalize textE (.mk 6 t words kids) = tx at *
        generalize Lib.join (kidsT 6 kids) [] = jt at *
        generalize brT (brk 6 y) (textE y) = bt at *
        have hsz : (⟨bt.toArray⟩ : ByteArray).size = bt.length := by simp [ByteArray.size]
        have HBL := Lib.hid hl
        have hw1 : IntKind.i64.wrap ((6 : Int) - 4) = 2 := by decide
        have hw2 : IntKind.i64.wrap (2 : Int) = 2 := by decide
        have hE2 := hE1.step (Below.refl _ _).drew
        rw [Nat.zero_mul, Nat.add_zero] at hE2
        clear hvs hl0 hvx hE1 hkk h1k hy hyw hbl htl hl hmay hsz
        go_enter Tryz.func20, Tryz.ntmps20
        go_wp2_with fail
        generalize w.alloc (.cells #[.int .i64 6, .bool t, .slice a words.length c, .slice (some ⟨b1, o1, none⟩) kids.length c'] 30) = w1 at *
        have hI := HF.out.step (Below.refl w1.heap.size w1).drew
        have hB := HB.out.trans ((Below.refl w1.heap.size w1).drew.mono HB.out.size)
        have kk : w1.drew.cell? ⟨w.heap.size, 0, none⟩ = some (.int .i64 6) ∧ w1.drew.cell? ⟨w.heap.size, 1, none⟩ = some (.bool t) ∧ w1.drew.cell? ⟨w.heap.size, 2, none⟩ = some (.slice a words.length c) ∧ w1.drew.cell? ⟨w.heap.size, 3, none⟩ = some (.slice (some ⟨b1, o1, none⟩) kids.length c') ∧ w1.drew.cell? ⟨b1, o1, none⟩ = some (.int .i64 k6) ∧ w1.drew.cell? ⟨b1, o1 + 1, none⟩ = some (.bool t6) ∧ w1.drew.cell? ⟨b1, o1 + 2, none⟩ = some (.slice a6 l6 c6) ∧ w1.drew.cell? ⟨b1, o1 + 3, none⟩ = some (.slice a7 l7 c7) :=
          ⟨hI.box.1, hI.box.2.1, hI.box.2.2.1, hI.box.2.2.2, hE2.2.1, hE2.2.2.1, hE2.2.2.2.1, hE2.2.2.2.2⟩
        clear p0 p1 p2 p3
        refine region_T (fun W : World => W.cell? ⟨w.heap.size, 0, none⟩ = some (.int .i64 6) ∧ W.cell? ⟨w.heap.size, 1, none⟩ = some (.bool t) ∧ W.cell? ⟨w.heap.size, 2, none⟩ = some (.slice a words.length c) ∧ W.cell? ⟨w.heap.size, 3, none⟩ = some (.slice (some ⟨b1, o1, none⟩) kids.length c') ∧ W.cell? ⟨b1, o1, none⟩ = some (.int .i64 k6) ∧ W.cell? ⟨b1, o1 + 1, none⟩ = some (.bool t6) ∧ W.cell? ⟨b1, o1 + 2, none⟩ = some (.slice a6 l6 c6) ∧ W.cell? ⟨b1, o1 + 3, none⟩ = some (.slice a7 l7 c7)) 13 (by kernel_rfl) ?_
        refine wpT_take (i := 0) (v := .agg #[.int .i64 6, .bool t, .slice a words.length c, .slice (some ⟨b1, o1, none⟩) kids.length c']) rfl (by kernel_rfl) (by kernel_rfl) (by kernel_rfl) (by kernel_rfl) (by kernel_rfl) (by kernel_rfl) (by kernel_rfl) (by kernel_rfl) (fun _ _ _ h => h) (Or.inl ⟨by rfl, ?_⟩) kk ?_
        · rintro w' ⟨s0, s1, s2, s3, r0, r1, r2, r3⟩
          go_simp
        try simp only [Act.put]
        refine wpT_take (i := 1) (v := .pointer (some ⟨w.heap.size, 3, none⟩)) rfl (by kernel_rfl) (by kernel_rfl) (by kernel_rfl) (by kernel_rfl) (by kernel_rfl) (by kernel_rfl) (by kernel_rfl) (by kernel_rfl) (fun _ _ _ h => h) (Or.inl ⟨by rfl, ?_⟩) kk ?_
        · rintro w' ⟨s0, s1, s2, s3, r0, r1, r2, r3⟩
          go_simp
        try simp only [Act.put]
        refine wpT_take (i := 2) (v := .slice (some ⟨b1, o1, none⟩) kids.length c') rfl (by kernel_rfl) (by kernel_rfl) (by kernel_rfl) (by kernel_rfl) (by kernel_rfl) (by kernel_rfl) (by kernel_rfl) (by kernel_rfl) (fun _ _ _ h => h) (Or.inl ⟨by rfl, ?_⟩) kk ?_
        · rintro w' ⟨s0, s1, s2, s3, r0, r1, r2, r3⟩
          go_simp
        try simp only [Act.put]
        refine wpT_take (i := 3) (v := .pointer (some ⟨b1, o1, none⟩)) rfl (by kernel_rfl) (by kernel_rfl) (by kernel_rfl) (by kernel_rfl) (by kernel_rfl) (by kernel_rfl) (by kernel_rfl) (by kernel_rfl) (fun _ _ _ h => h) (Or.inl ⟨by rfl, ?_⟩) kk ?_
        · rintro w' ⟨s0, s1, s2, s3, r0, r1, r2, r3⟩
          go_simp
          all_goals (intro h; exact absurd h hkn)
        try simp only [Act.put]
        refine wpT_take (i := 4) (v := .agg #[.int .i64 k6, .bool t6, .slice a6 l6 c6, .slice a7 l7 c7]) rfl (by kernel_rfl) (by kernel_rfl) (by kernel_rfl) (by kernel_rfl) (by kernel_rfl) (by kernel_rfl) (by kernel_rfl) (by kernel_rfl) (fun _ _ _ h => h) (Or.inl ⟨by rfl, ?_⟩) kk ?_
        · rintro w' ⟨s0, s1, s2, s3, r0, r1, r2, r3⟩
          go_simp
        try simp only [Act.put]
        refine wpT_take (i := 6) (v := .pointer (some ⟨w.heap.size, 0, none⟩)) rfl (by kernel_rfl) (by kernel_rfl) (by kernel_rfl) (by kernel_rfl) (by kernel_rfl) (by kernel_rfl) (by kernel_rfl) (by kernel_rfl) (fun _ _ _ h => h) (Or.inl ⟨by rfl, ?_⟩) kk ?_
        · rintro w' ⟨s0, s1, s2, s3, r0, r1, r2, r3⟩
          go_simp
        try simp only [Act.put]
        refine wpT_take (i := 7) (v := .int .i64 6) rfl (by kernel_rfl) (by kernel_rfl) (by kernel_rfl) (by kernel_rfl) (by kernel_rfl) (by kernel_rfl) (by kernel_rfl) (by kernel_rfl) (fun _ _ _ h => h) (Or.inl ⟨by rfl, ?_⟩) kk ?_
        · rintro w' ⟨s0, s1, s2, s3, r0, r1, r2, r3⟩
          go_simp
        try simp only [Act.put]
        refine wpT_take (i := 8) (v := .int .i64 2) rfl (by kernel_rfl) (by kernel_rfl) (by kernel_rfl) (by kernel_rfl) (by kernel_rfl) (by kernel_rfl) (by kernel_rfl) (by kernel_rfl) (fun _ _ _ h => h) (Or.inl ⟨by rfl, ?_⟩) kk ?_
        · rintro w' ⟨s0, s1, s2, s3, r0, r1, r2, r3⟩
          go_simp
        try simp only [Act.put]
        refine wpT_take (i := 9) (v := .pointer (some ⟨w.heap.size, 0, none⟩)) rfl (by kernel_rfl) (by kernel_rfl) (by kernel_rfl) (by kernel_rfl) (by kernel_rfl) (by kernel_rfl) (by kernel_rfl) (by kernel_rfl) (fun _ _ _ h => h) (Or.inl ⟨by rfl, ?_⟩) kk ?_
        · rintro w' ⟨s0, s1, s2, s3, r0, r1, r2, r3⟩
          go_simp
        try simp only [Act.put]
        refine wpT_take (i := 10) (v := .int .i64 6) rfl (by kernel_rfl) (by kernel_rfl) (by kernel_rfl) (by kernel_rfl) (by kernel_rfl) (by kernel_rfl) (by kernel_rfl) (by kernel_rfl) (fun _ _ _ h => h) (Or.inl ⟨by rfl, ?_⟩) kk ?_
        · rintro w' ⟨s0, s1, s2, s3, r0, r1, r2, r3⟩
          go_simp
        try simp only [Act.put]
        refine wpT_take (i := 11) (v := .int .i64 (2 + 1)) rfl (by kernel_rfl) (by kernel_rfl) (by kernel_rfl) (by kernel_rfl) (by kernel_rfl) (by kernel_rfl) (by kernel_rfl) (by kernel_rfl) (fun _ _ _ h => h) (Or.inl ⟨by rfl, ?_⟩) kk ?_
        · rintro w' ⟨s0, s1, s2, s3, r0, r1, r2, r3⟩
          go_simp
          all_goals decide
        try simp only [Act.put]
        refine wpT_take (i := 12) (v := .string ⟨#[63]⟩) rfl (by kernel_rfl) (by kernel_rfl) (by kernel_rfl) (by kernel_rfl) (by kernel_rfl) (by kernel_rfl) (by kernel_rfl) (by kernel_rfl) (fun _ _ _ h => h) (Or.inl ⟨by rfl, ?_⟩) kk ?_
        · rintro w' ⟨s0, s1, s2, s3, r0, r1, r2, r3⟩
          go_simp
          all_goals rfl
        try simp only [Act.put]
        refine wpT_one (i := 5) (by kernel_rfl) rfl ?_
        intro KK hKK
        go_simp
        refine (HRB.out _ hB).mono ?_
        rintro e w5 ⟨rfl, b5⟩
        replace hI := hI.step b5
        replace hE2 := hE2.step b5
        replace hB := hB.trans (b5.mono hB.size)
        refine hKK _ _ ⟨fun _ => ⟨hI.box.1, hI.box.2.1, hI.box.2.2.1, hI.box.2.2.2, hE2.2.1, hE2.2.2.1, hE2.2.2.2.1, hE2.2.2.2.2⟩, ?_⟩
        clear hKK b5
        try simp only [Act.put]
        refine wpT_tail 13 2 rfl rfl (by kernel_rfl) (by kernel_rfl) ?_
        simp only [List.drop_succ_cons, List.drop_zero]
        have hl := HBL.out
        have hsz : (⟨bt.toArray⟩ : ByteArray).size = bt.length := by simp [ByteArray.size]
        go_wp2_with fail
        go_ret
        refine ⟨ret_s ?_, hB⟩
        rw [HT.out, HJ1.out]
        exact cat2 bt [63]
end Go.Proofs.YtocfcnhaecmgpaaGreatDoor

namespace Go.Proofs.YtocfcnhaecmgpaaGreatDoor
open Go.RowKit Go.Extern.Stop Go.Stop Go.Extern Go.WideMaps

/-- On the way: the argument's box, and the document's own expression in its box. -/
structure PrSt (w0 : World) (x0 x1 x2 x3 : Value) (qb : Nat) (y0 y1 y2 y3 : Value) (q : Rx) (w : World) : Prop where
  sa : Four w w0.heap.size 0 x0 x1 x2 x3
  sq : Four w qb 0 y0 y1 y2 y3
  ex : ExC (fun b => w0.heap.size ≤ b) w [y0, y1, y2, y3] q
  below : Below w0.heap.size w0 w
section
variable {w0 w w' : World} {x0 x1 x2 x3 y0 y1 y2 y3 : Value} {qb : Nat} {q : Rx}
theorem PrSt.step (h : PrSt w0 x0 x1 x2 x3 qb y0 y1 y2 y3 q w) (hb : Below w.heap.size w w') : PrSt w0 x0 x1 x2 x3 qb y0 y1 y2 y3 q w' :=
  ⟨h.sa.step hb, h.sq.step hb, h.ex.step hb, h.below.trans (hb.mono h.below.size)⟩
theorem PrSt.cells (h : PrSt w0 x0 x1 x2 x3 qb y0 y1 y2 y3 q w) :
    w.cell? ⟨w0.heap.size, 0, none⟩ = some x0 ∧ w.cell? ⟨w0.heap.size, 1, none⟩ = some x1 ∧ w.cell? ⟨w0.heap.size, 2, none⟩ = some x2 ∧ w.cell? ⟨w0.heap.size, 3, none⟩ = some x3 ∧ w.cell? ⟨qb, 0, none⟩ = some y0 ∧ w.cell? ⟨qb, 1, none⟩ = some y1 ∧ w.cell? ⟨qb, 2, none⟩ = some y2 ∧ w.cell? ⟨qb, 3, none⟩ = some y3 := by
  obtain ⟨a0, a1, a2, a3⟩ := h.sa.box
  obtain ⟨b0, b1, b2, b3⟩ := h.sq.box
  exact ⟨a0, a1, a2, a3, b0, b1, b2, b3⟩
end
/-- On the way, with an error that was told. -/
theorem ErrIs.go {w w' : World} {v : Value} {c a : Int} (h : ErrIs w v c a) (hb : Below w.heap.size w w') : ErrIs w' v c a := h.keep hb
set_option maxRecDepth 100000 in
set_option maxHeartbeats 8000000 in
theorem regexPrints_any (x : Rx) (s : ByteArray) (xk : Int) (xt : Bool) (xa1 : Option Addr) (xl1 xc1 : Nat) (xa2 : Option Addr) (xl2 xc2 : Nat) (w : World)
    (hx : ExD (fun _ => True) w [.int .i64 xk, .bool xt, .slice xa1 xl1 xc1, .slice xa2 xl2 xc2] x) (hg : Handle w) :
    Calls Tryz.prog 3 #[.agg #[.int .i64 xk, .bool xt, .slice xa1 xl1 xc1, .slice xa2 xl2 xc2], .string s] w fun e w' => e = .returned (.bool true) ∧ Below w.heap.size w w' := by
  have HL := Lib.hid (fun W (hb : Below w.heap.size w W) => left_go (fun _ => True) _ x (Nat.lt_succ_self _) 600 (by decide) (by decide) W _ _ _ _ _ _ _ _ (hx.step hb).toC)
  have HTO := Lib.hid (fun (hw : rxWt x ≤ 1000000) W (hb : Below w.heap.size w W) => xto_go (fun _ => True) _ x (Nat.lt_succ_self _) hw W _ _ _ _ _ _ _ _ (hx.step hb).toC)
  have HPO := Lib.hid (fun (hw : rxWt x ≤ 60000) (h0 : checkE x = 0) W (hb : Below w.heap.size w W) => xprint_ok (fun _ => True) x hw h0 W _ _ _ _ _ _ _ _ (hx.step hb))
  have HPN := Lib.hid (fun (hw : rxWt x ≤ 60000) (h0 : checkE x ≠ 0) W (hb : Below w.heap.size w W) => xprint_no (fun _ => True) x hw h0 W _ _ _ _ _ _ _ _ (hx.step hb).toC)
  have HCO := Lib.hid (fun (hw : rxWt x ≤ 60000) (h0 : checkE x = 0) W (hb : Below w.heap.size w W) => xcheck_ok (fun _ => True) x hw h0 W _ _ _ _ _ _ _ _ (hx.step hb).toC)
  have HCN := Lib.hid (fun (hw : rxWt x ≤ 60000) (h0 : checkE x ≠ 0) W (hb : Below w.heap.size w W) => xcheck_no (fun _ => True) x hw h0 W _ _ _ _ _ _ _ _ (hx.step hb).toC)
  have HSZ := Lib.hid (fun (hw : rxSize x ≤ 1000000) W (hb : Below w.heap.size w W) => xsize_go (fun _ => True) _ x (Nat.lt_succ_self _) hw W _ _ _ _ _ _ _ _ (hx.step hb).toC)
  have HRC := Lib.hid (fun (hw : rxWt x ≤ 60000) W (k : Int) (t : Bool) (a : Option Addr) (l c : Nat) (a' : Option Addr) (l' c' : Nat) (h : ExC (fun b => w.heap.size ≤ b) W [.int .i64 k, .bool t, .slice a l c, .slice a' l' c'] x) => rCheck_any _ x hw W k t a l c a' l' c' h)
  have HRS := Lib.hid (fun (hw : rxSize x ≤ 1000) W (k : Int) (t : Bool) (a : Option Addr) (l c : Nat) (a' : Option Addr) (l' c' : Nat) (h : ExC (fun b => w.heap.size ≤ b) W [.int .i64 k, .bool t, .slice a l c, .slice a' l' c'] x) => by
    have h1 := rsize_go _ _ x (Nat.lt_succ_self _) (by omega) 1000 (by omega) (by omega) W k t a l c a' l' c' h
    rw [rsz_fits (by omega)] at h1
    exact h1)
  have HRP := Lib.hid (fun (hw : rxWt x ≤ 60000) (h0 : faultE x = 0) W (k : Int) (t : Bool) (a : Option Addr) (l c : Nat) (a' : Option Addr) (l' c' : Nat) (h : ExC (fun b => w.heap.size ≤ b) W [.int .i64 k, .bool t, .slice a l c, .slice a' l' c'] x) => rprint_go _ _ x (Nat.lt_succ_self _) hw h0 W k t a l c a' l' c' h)
  have HW := Lib.hid (wt_of_left (x := x))
  have HIW := Lib.hid (fun (h : s.size ≤ 200) W => xisWord_any s (by omega) W)
  have HRW := Lib.hid (fun (h : s.size ≤ 200) W => rxisWord_any s (by omega) W)
  have HSW := Lib.hid (size_wt x)
  have HFE : Hid (checkE x = 0 → faultE x = 0) := Lib.hid (fun h => by
    unfold checkE at h
    split at h
    · cases h
    · exact h)
  have HG := Lib.hid hg
  have hF := four_new w 25 (.int .i64 xk) (.bool xt) (.slice xa1 xl1 xc1) (.slice xa2 xl2 xc2)
  have hB := sbelow_new w (.cells #[.int .i64 xk, .bool xt, .slice xa1 xl1 xc1, .slice xa2 xl2 xc2] 25)
  have HF0 := Lib.hid hF
  have HB0 := Lib.hid hB
  generalize leftE x 600 = la at *
  clear hx hg hF hB
  go_enter Tryz.func3, Tryz.ntmps3
  go_wp2_with fail
  generalize w.alloc (.cells #[.int .i64 xk, .bool xt, .slice xa1 xl1 xc1, .slice xa2 xl2 xc2] 25) = w1 at *
  refine (awake15_any _ (HG.out.below HB0.out)).mono ?_
  rintro e w2 ⟨rfl, b2⟩
  have HF2 := Lib.hid (HF0.out.step b2)
  have HB2 := Lib.hid (HB0.out.trans (b2.mono HB0.out.size))
  clear b2 HF0 HB0
  obtain ⟨p0, p1, p2, p3⟩ := HF2.out.box
  go_wp2_with fail
  refine (HL.out _ HB2.out).mono ?_
  rintro e w3 ⟨rfl, b3⟩
  have HF3 := Lib.hid (HF2.out.step b3)
  have HB3 := Lib.hid (HB2.out.trans (b3.mono HB2.out.size))
  clear b3 HF2 HB2 p0 p1 p2 p3
  by_cases hla : la < 0
  · go_wp2_with fail
    go_ret
    exact ⟨rfl, HB3.out⟩
  by_cases hs : 200 < s.size
  · go_wp2_with fail
    go_ret
    exact ⟨rfl, HB3.out⟩
  have hw := HW.out (by omega)
  have HTO1 := Lib.hid (HTO.out (by omega))
  have HPO1 := Lib.hid (HPO.out (by omega))
  have HPN1 := Lib.hid (HPN.out (by omega))
  have HCO1 := Lib.hid (HCO.out (by omega))
  have HCN1 := Lib.hid (HCN.out (by omega))
  have HSZ1 := Lib.hid (HSZ.out (by have := HSW.out; omega))
  have HRC1 := Lib.hid (HRC.out (by omega))
  have HRS1 := Lib.hid (HRS.out (by have := HSW.out; omega))
  have HRP1 := Lib.hid (HRP.out (by omega))
  have HIW1 := Lib.hid (HIW.out (by omega))
  have HRW1 := Lib.hid (HRW.out (by omega))
  clear HTO HPO HPN HCO HCN HSZ HRC HRS HRP HIW HRW HW HL hw
  generalize isWd s = iw at *
  generalize rxSize x = n at *
  obtain ⟨p0, p1, p2, p3⟩ := HF3.out.box
  go_wp2_with fail
  refine (HTO1.out _ HB3.out).mono ?_
  rintro e w4 ⟨za1, zl1, zc1, za2, zl2, zc2, rfl, hq, b4⟩
  have bn := sbelow_new w4 (.cells #[.int .i64 xk, .bool xt, .slice za1 zl1 zc1, .slice za2 zl2 zc2] 30)
  have hbq := b4.trans (bn.mono b4.size)
  have H5 : Hid (PrSt w (.int .i64 xk) (.bool xt) (.slice xa1 xl1 xc1) (.slice xa2 xl2 xc2) w4.heap.size (.int .i64 xk) (.bool xt) (.slice za1 zl1 zc1) (.slice za2 zl2 zc2) x (w4.alloc (.cells #[.int .i64 xk, .bool xt, .slice za1 zl1 zc1, .slice za2 zl2 zc2] 30))) := Lib.hid
    ⟨HF3.out.step hbq, four_new _ _ _ _ _ _, (hq.step bn).move (Nat.le_refl _) (fun b hb _ => ⟨by have := HB3.out.size; omega, rfl⟩), HB3.out.trans (hbq.mono HB3.out.size)⟩
  clear hq bn hbq b4 p0 p1 p2 p3 HTO1 HF3 HB3
  go_wp2_with fail
  generalize w4.alloc (.cells #[.int .i64 xk, .bool xt, .slice za1 zl1 zc1, .slice za2 zl2 zc2] 30) = w5 at *
  generalize w4.heap.size = qb at *
  refine (HRC1.out _ _ _ _ _ _ _ _ _ H5.out.ex).mono ?_
  rintro e w6 ⟨rfl, b6⟩
  have H6 := Lib.hid (H5.out.step b6)
  clear b6 H5 HRC1
  obtain ⟨p0, p1, p2, p3, q0, q1, q2, q3⟩ := H6.out.cells
  by_cases h0 : checkE x = 0
  · have HPO2 := Lib.hid (HPO1.out h0)
    have HCO2 := Lib.hid (HCO1.out h0)
    have HRP2 := Lib.hid (HRP1.out (HFE.out h0))
    rw [h0]
    generalize textE x = tx at *
    clear HPO1 HCO1 HPN1 HCN1 HRP1 HFE h0
    go_wp2_with fail
    refine (HPO2.out _ H6.out.below).mono ?_
    rintro e w7 ⟨rfl, b7⟩
    have H7 := Lib.hid (H6.out.step b7)
    clear b7 H6 p0 p1 p2 p3 q0 q1 q2 q3
    go_wp2_with fail
    have hI := H7.out.step (Below.refl w7.heap.size w7).drew
    have kk := hI.cells
    go_region_held3 (fun W => W.cell? ⟨w.heap.size, 0, none⟩ = some (.int .i64 xk) ∧ W.cell? ⟨w.heap.size, 1, none⟩ = some (.bool xt) ∧ W.cell? ⟨w.heap.size, 2, none⟩ = some (.slice xa1 xl1 xc1) ∧ W.cell? ⟨w.heap.size, 3, none⟩ = some (.slice xa2 xl2 xc2) ∧ W.cell? ⟨qb, 0, none⟩ = some (.int .i64 xk) ∧ W.cell? ⟨qb, 1, none⟩ = some (.bool xt) ∧ W.cell? ⟨qb, 2, none⟩ = some (.slice za1 zl1 zc1) ∧ W.cell? ⟨qb, 3, none⟩ = some (.slice za2 zl2 zc2))
      (first | exact kk | exact hI.cells)
      (first
      | (go_at_call 14; refine (lawIs_nil 0 _).mono ?_; rintro e w8 ⟨rfl, rfl⟩)
      | (go_at_call 15; (with_reducible refine (HCO2.out _ hI.below).mono ?_); rintro e w8 ⟨rfl, b8⟩; replace hI := hI.step b8; clear b8)
      | (go_at_call 16; (with_reducible refine (HSZ1.out _ hI.below).mono ?_); rintro e w8 ⟨rfl, b8⟩; replace hI := hI.step b8; clear b8)
      | (go_at_call 17; (with_reducible refine (HRS1.out _ _ _ _ _ _ _ _ _ hI.ex).mono ?_); rintro e w8 ⟨rfl, b8⟩; replace hI := hI.step b8; clear b8)
      | (go_at_call 18; (with_reducible refine (HIW1.out _).mono ?_); rintro e w8 ⟨rfl, b8⟩; replace hI := hI.step b8; clear b8)
      | (go_at_call 19; (with_reducible refine (HRW1.out _).mono ?_); rintro e w8 ⟨rfl, b8⟩; replace hI := hI.step b8; clear b8))
    all_goals
      have H9 := Lib.hid hI
      clear hI kk
      obtain ⟨p0, p1, p2, p3, q0, q1, q2, q3⟩ := H9.out.cells
      go_wp2_with fail
      refine (HRP2.out _ _ _ _ _ _ _ _ _ H9.out.ex).mono ?_
      rintro e w10 ⟨rfl, b10⟩
      go_wp2_with fail
      go_ret
      exact ⟨rfl, (H9.out.step b10).below⟩
  · have HPN2 := Lib.hid (HPN1.out h0)
    have HCN2 := Lib.hid (HCN1.out h0)
    have hbin := checkE_in x
    generalize checkE x = z at *
    clear HPO1 HCO1 HPN1 HCN1 HRP1 HFE
    go_wp2_with fail
    refine (HPN2.out _ H6.out.below).mono ?_
    rintro e w7 ⟨fb, rfl, hf7, b7⟩
    have H7 := Lib.hid (H6.out.step b7)
    clear b7 H6 p0 p1 p2 p3 q0 q1 q2 q3
    have hne : (z != 0) = true := bne_iff_ne.2 h0
    have HIS := Lib.hid (fun (W : World) (v : Value) (h : ErrIs W v z 0) (hb : Below w.heap.size w W) => lawIs_err v z 0 W h (HG.out.below hb))
    unfold pf
    go_wp2_with fail
    have hI := H7.out.step (Below.refl w7.heap.size w7).drew
    have hFa : FaultAt w7.drew fb z 0 := hf7.keep (Below.refl w7.heap.size w7).drew
    unfold FaultAt pf at hFa
    have kk := hI.cells
    clear hf7
    go_region_held3 (fun W => W.cell? ⟨w.heap.size, 0, none⟩ = some (.int .i64 xk) ∧ W.cell? ⟨w.heap.size, 1, none⟩ = some (.bool xt) ∧ W.cell? ⟨w.heap.size, 2, none⟩ = some (.slice xa1 xl1 xc1) ∧ W.cell? ⟨w.heap.size, 3, none⟩ = some (.slice xa2 xl2 xc2) ∧ W.cell? ⟨qb, 0, none⟩ = some (.int .i64 xk) ∧ W.cell? ⟨qb, 1, none⟩ = some (.bool xt) ∧ W.cell? ⟨qb, 2, none⟩ = some (.slice za1 zl1 zc1) ∧ W.cell? ⟨qb, 3, none⟩ = some (.slice za2 zl2 zc2))
      (first | exact kk | exact hI.cells)
      (first
      | (go_at_call 14; (with_reducible refine (HIS.out _ _ hFa hI.below).mono ?_); rintro e w8 ⟨rfl, b8⟩; replace hI := hI.step b8; replace hFa := ErrIs.keep hFa b8; (try replace hFb := ErrIs.keep hFb b8); clear b8)
      | (go_at_call 14; (with_reducible refine (HIS.out _ _ hFb hI.below).mono ?_); rintro e w8 ⟨rfl, b8⟩; replace hI := hI.step b8; replace hFa := ErrIs.keep hFa b8; replace hFb := ErrIs.keep hFb b8; clear b8)
      | (go_at_call 15; (with_reducible refine (HCN2.out _ hI.below).mono ?_); rintro e w8 ⟨fb2, rfl, hFb, b8⟩; unfold FaultAt at hFb; unfold pf at hFb ⊢; replace hI := hI.step b8; replace hFa := ErrIs.keep hFa b8; clear b8)
      | (go_at_call 16; (with_reducible refine (HSZ1.out _ hI.below).mono ?_); rintro e w8 ⟨rfl, b8⟩; replace hI := hI.step b8; replace hFa := ErrIs.keep hFa b8; (try replace hFb := ErrIs.keep hFb b8); clear b8)
      | (go_at_call 17; (with_reducible refine (HRS1.out _ _ _ _ _ _ _ _ _ hI.ex).mono ?_); rintro e w8 ⟨rfl, b8⟩; replace hI := hI.step b8; replace hFa := ErrIs.keep hFa b8; (try replace hFb := ErrIs.keep hFb b8); clear b8)
      | (go_at_call 18; (with_reducible refine (HIW1.out _).mono ?_); rintro e w8 ⟨rfl, b8⟩; replace hI := hI.step b8; replace hFa := ErrIs.keep hFa b8; (try replace hFb := ErrIs.keep hFb b8); clear b8)
      | (go_at_call 19; (with_reducible refine (HRW1.out _).mono ?_); rintro e w8 ⟨rfl, b8⟩; replace hI := hI.step b8; replace hFa := ErrIs.keep hFa b8; (try replace hFb := ErrIs.keep hFb b8); clear b8))
    all_goals
      go_wp2
      go_ret
      exact ⟨rfl, hI.below⟩
end Go.Proofs.YtocfcnhaecmgpaaGreatDoor
