/-
  A weight's text by contracts: the program's terms and Print.
-/
import Derived.Test.YtogbocgjijhmgaaGreatDoorWgB
import Derived.Test.YtogbocgjijhmgaaGreatDoorWgC
import Derived.Test.YtogbocgjijhmgaaGreatDoorScanD
import Derived.Test.YtogbocgjijhmgaaGreatDoorAppW
import Derived.Test.YtogbocgjijhmgaaGreatDoorJoinR
import Derived.Deep.LoopGhost
namespace Go.Proofs.YtogbocgjijhmgaaGreatDoor
open Go.RowKit Go.Extern.Stop Go.Stop Go.Extern

/-- The words, where they stand. -/
def Wds (w : World) : Prop := 0 < w.heap.size ∧ ∀ i, i < 3 → w.cell? ⟨0, i, none⟩ = some (.string (wordB i))
theorem Wds.below {w w' : World} (h : Wds w) (hb : Below w.heap.size w w') : Wds w' := ⟨Nat.lt_of_lt_of_le h.1 hb.size, fun i hi => (hb.cell (p := ⟨0, i, none⟩) h.1).trans (h.2 i hi)⟩

def tmB (i m : Nat) : ByteArray := ⟨(termT i m).toArray⟩
def txB (p : Nat → Nat) (i : Nat) : ByteArray := ⟨(textU p i).toArray⟩
theorem tmB_one (i : Nat) : tmB i 1 = wordB i := by unfold tmB termT; rw [if_pos rfl, word_back]
theorem tmB_more {i m : Nat} (h : m ≠ 1) : (⟨(Lib.decDigits m).toArray⟩ : ByteArray) ++ ⟨#[42]⟩ ++ wordB i = tmB i m := by
  unfold tmB termT
  rw [if_neg h]
  apply ByteArray.ext
  simp [ByteArray.data_append]
theorem dec_size {m : Nat} (hm : m ≤ 1000000) : (⟨(Lib.decDigits m).toArray⟩ : ByteArray).size ≤ 20 := by
  have h1 := Lib.nDigits_le20 m (by omega)
  rw [← Lib.decDigits_length] at h1
  simpa [ByteArray.size] using h1
theorem word_size (i : Nat) : (wordB i).size ≤ 6 := by have := word_len i; rwa [← Lib.size_eq] at this
theorem tmB_size {i m : Nat} (hm : m ≤ 1000000) : (tmB i m).size ≤ 30 := by have := termT_len (i := i) hm; simpa [tmB, ByteArray.size] using this
theorem adig (m : Nat) (hm : m ≤ 1000000) (w : World) (ht : Tab w) :
    Calls Tryz.prog 82 #[.int .u64 m] w fun e w' => e = .returned (.string ⟨(Lib.decDigits m).toArray⟩) ∧ Below w.heap.size w w' := by
  have h := adigits_any (m : Int) (by omega) w ht
  rw [capI_small (by omega), show ((m : Int)).toNat = m by omega] at h
  exact h
theorem rdig (m : Nat) (hm : m ≤ 1000000) (w : World) :
    Calls Tryz.prog 52 #[.int .u64 m] w fun e w' => e = .returned (.string ⟨(Lib.decDigits m).toArray⟩) ∧ Below w.heap.size w w' := by
  have h := rdigits_any (m : Int) (by omega) w
  rw [capI_small (by omega), show ((m : Int)).toNat = m by omega] at h
  exact h

set_option maxRecDepth 100000 in
set_option maxHeartbeats 2000000 in
theorem gterm_any (i m : Nat) (hm : m ≤ 1000000) (w : World) (ht : Tab w) :
    Calls Tryz.prog 50 #[.int .u64 m, .string (wordB i)] w fun e w' => e = .returned (.string (tmB i m)) ∧ Below w.heap.size w w' := by
  by_cases h1 : m = 1
  · subst h1
    rw [tmB_one]
    generalize wordB i = t at *
    clear hm ht
    go_enter Tryz.func50, Tryz.ntmps50
    go_wp2_with fail
    go_ret
    exact ⟨rfl, Below.refl _ _⟩
  · have HD := Lib.hid (adig m hm w ht)
    have HE := Lib.hid (tmB_more (i := i) h1)
    have hs1 := dec_size hm
    have hs2 := word_size i
    have hne : ((m : Int) == 1) = false := beq_eq_false_iff_ne.2 (by omega)
    generalize (⟨(Lib.decDigits m).toArray⟩ : ByteArray) = D at *
    generalize wordB i = t at *
    generalize tmB i m = r at *
    clear hm ht h1
    go_enter Tryz.func50, Tryz.ntmps50
    go_wp2_with fail
    refine HD.out.mono ?_
    rintro e w1 ⟨rfl, b1⟩
    go_wp2_with fail
    go_ret
    exact ⟨ret_v (congrArg Value.string HE.out), b1⟩

/-! ### Print -/
def tmsB (p : Nat → Nat) (i : Nat) : List ByteArray := (partsU p i).map fun x => tmB x.1 x.2
theorem tmsB_zero (p : Nat → Nat) : tmsB p 0 = [] := rfl
theorem tmsB_same {p : Nat → Nat} {i : Nat} (h : p i = 0) : tmsB p (i + 1) = tmsB p i := by unfold tmsB; rw [partsU, if_pos h]
theorem tmsB_more {p : Nat → Nat} {i : Nat} (h : p i ≠ 0) : tmsB p (i + 1) = tmsB p i ++ [tmB i (p i)] := by unfold tmsB; rw [partsU, if_neg h, List.map_append]; rfl
theorem tmsB_len (p : Nat → Nat) : ∀ i : Nat, (tmsB p i).length ≤ i
  | 0 => Nat.le_refl _
  | i + 1 => by
    have := tmsB_len p i
    by_cases h : p i = 0
    · rw [tmsB_same h]; omega
    · rw [tmsB_more h, List.length_append]; simp; omega
theorem tmsB_data (p : Nat → Nat) (i : Nat) : (tmsB p i).map (·.data.toList) = (partsU p i).map fun x => termT x.1 x.2 := by
  unfold tmsB
  rw [List.map_map]
  congr 1
/-- On the way through the three. -/
structure PrSt (w0 : World) (p : Nat → Nat) (i : Nat) (u : Value) (w : World) : Prop where
  own : w.ownsRow w0.heap.size 9 1 u (tmsB p i).length ((tmsB p i).map Value.string)
  below : Below w0.heap.size w0 w
section
variable {w0 w w' : World} {p : Nat → Nat} {i : Nat} {u u' : Value}
theorem PrSt.step (h : PrSt w0 p i u w) (hb : Below w.heap.size w w') : PrSt w0 p i u w' := ⟨ownX_up h.own hb, h.below.trans (hb.mono h.below.size)⟩
theorem PrSt.skip (h : PrSt w0 p i u w) (hz : p i = 0) : PrSt w0 p (i + 1) u w := ⟨by rw [tmsB_same hz]; exact h.own, h.below⟩
theorem PrSt.push (h : PrSt w0 p i u w) (hz : p i ≠ 0) (hg : w.grownBy w' u.ownBlock) (ho : w'.ownsRow w0.heap.size 9 1 u' ((tmsB p i).length + 1) ((tmsB p i).map Value.string ++ [Value.string (tmB i (p i))])) : PrSt w0 p (i + 1) u' w' :=
  ⟨by rw [tmsB_more hz, List.length_append, List.map_append]; exact ho, h.below.grown hg h.below.size (fun q e => (h.own.lt q e).1)⟩
end
theorem txB_len {p : Nat → Nat} (hp : ∀ i, p i ≤ 1000000) : (txB p 3).size ≤ 99 := by have := textU_len hp 3; simpa [txB, ByteArray.size] using this
theorem wC_zero {p : Nat → Nat} (hp : ∀ i, p i ≤ 1000000) : wC (p 0) (p 1) (p 2) = 0 := by
  have h0 := hp 0
  have h1 := hp 1
  have h2 := hp 2
  unfold wC
  rw [if_neg (by omega), if_neg (by omega), if_neg (by omega)]
theorem join_terms (p : Nat → Nat) (hp : ∀ i, p i ≤ 1000000) (w : World) (a : Option Addr) (c : Nat) (hr : RowX (fun _ => True) w (.slice a (tmsB p 3).length c) (tmsB p 3).length ((tmsB p 3).map Value.string)) (hc : (tmsB p 3).length ≤ c) :
    Calls Tryz.prog 51 #[.slice a (tmsB p 3).length c, .string ⟨#[32, 43, 32]⟩] w fun e w' => e = .returned (.string (txB p 3)) ∧ Below w.heap.size w w' := by
  have hl := tmsB_len p 3
  have h2 := textU_len hp 3
  have h := join_row (fun _ => True) (tmsB p 3) ⟨#[32, 43, 32]⟩ (by omega) (by rw [tmsB_data]; show (textU p 3).length ≤ _; omega) w a c hr hc
  rw [tmsB_data] at h
  exact h

set_option maxRecDepth 100000 in
set_option maxHeartbeats 8000000 in
theorem gprint_ok (p : Nat → Nat) (hp : ∀ i, p i ≤ 1000000) (w : World) (ht : Tab w) (hw : Wds w) :
    Calls Tryz.prog 23 #[.agg #[.int .u64 (p 0), .int .u64 (p 1), .int .u64 (p 2)]] w fun e w' => e = .returned (.tuple #[.string ⟨(textW p).toArray⟩, .nilIface]) ∧ Below w.heap.size w w' := by
  have HPP := Lib.hid hp
  have HT := Lib.hid ht
  have HW := Lib.hid hw
  have HC := Lib.hid (fun W => gcheck_any (p 0) (p 1) (p 2) W)
  rw [wC_zero hp] at HC
  have HG := Lib.hid (fun W => gparts_any (p 0) (p 1) (p 2) W)
  have i0 := idxU0 (p 0) (p 1) (p 2)
  have i1 := idxU1 (p 0) (p 1) (p 2)
  have i2 := idxU2 (p 0) (p 1) (p 2)
  have HB0 := Lib.hid (sbelow_new w (.cells #[.int .u64 (p 0), .int .u64 (p 1), .int .u64 (p 2)] 55))
  have k0 : (w.alloc (.cells #[.int .u64 (p 0), .int .u64 (p 1), .int .u64 (p 2)] 55)).cell? ⟨w.heap.size, 0, none⟩ = some (.int .u64 (p 0)) := by simp
  have k1 : (w.alloc (.cells #[.int .u64 (p 0), .int .u64 (p 1), .int .u64 (p 2)] 55)).cell? ⟨w.heap.size, 1, none⟩ = some (.int .u64 (p 1)) := by simp
  have k2 : (w.alloc (.cells #[.int .u64 (p 0), .int .u64 (p 1), .int .u64 (p 2)] 55)).cell? ⟨w.heap.size, 2, none⟩ = some (.int .u64 (p 2)) := by simp
  have hsz : w.heap.size < (w.alloc (.cells #[.int .u64 (p 0), .int .u64 (p 1), .int .u64 (p 2)] 55)).heap.size := by simp
  clear hp ht hw
  go_enter Tryz.func23, Tryz.ntmps23
  go_wp2_with fail
  generalize w.alloc (.cells #[.int .u64 (p 0), .int .u64 (p 1), .int .u64 (p 2)] 55) = w1 at *
  refine (HC.out _).mono ?_
  rintro e w2 ⟨v, rfl, hv, b2⟩
  obtain rfl := hv.nil_of
  have q0 := (b2.cell (p := ⟨w.heap.size, 0, none⟩) hsz).trans k0
  have q1 := (b2.cell (p := ⟨w.heap.size, 1, none⟩) hsz).trans k1
  have q2 := (b2.cell (p := ⟨w.heap.size, 2, none⟩) hsz).trans k2
  have HB2 := Lib.hid (HB0.out.trans (b2.mono HB0.out.size))
  clear hv b2 k0 k1 k2 HC HB0 hsz
  go_wp2_with fail
  refine (HG.out _).mono ?_
  rintro e w3 ⟨rfl, b3⟩
  have H0 : Hid (PrSt w p 0 (.slice none 0 0) w3) := Lib.hid ⟨World.ownsRow_nil _ _ _ _, HB2.out.trans (b3.mono HB2.out.size)⟩
  clear b3 q0 q1 q2 HB2 HG
  go_wp2_with fail
  go_loopg [5, 15] 3 (fun g u v wr => ∃ i : Nat, i ≤ 3 ∧ g = 3 - i ∧ v = .int .i64 i ∧ PrSt w p i u wr)
  case atStart => exact ⟨0, by decide, rfl, rfl, H0.out⟩
  case round =>
    clear H0
    obtain ⟨i, hi, hgk, rfl, hst⟩ := hrel
    have HST := Lib.hid hst
    obtain ⟨ua, uc, rfl, huc⟩ := CapV.of_own hst.own
    clear hst
    have hi4 : i = 0 ∨ i = 1 ∨ i = 2 ∨ i = 3 := by omega
    rcases hi4 with rfl | rfl | rfl | rfl
    · subst hgk
      by_cases hz : p 0 = 0
      · have hzi : ¬ (0 : Int) < (p 0 : Int) := by omega
        have HZ := Lib.hid hz
        clear hz
        go_wp2_with fail
        go_roundg (3 - 1)
        case measure => decide
        case rel => exact ⟨1, by decide, rfl, rfl, HST.out.skip HZ.out⟩
      · have hzi : (0 : Int) < (p 0 : Int) := by omega
        have HZ := Lib.hid hz
        have HWR := HW.out.below HST.out.below
        have cW := HWR.2 0 (by decide)
        have HTM := Lib.hid (gterm_any 0 (p 0) (HPP.out 0) wr (HT.out.below HST.out.below))
        clear hz HWR
        go_wp2_with fail
        refine HTM.out.mono ?_
        rintro e w6 ⟨rfl, b6⟩
        have H6 := Lib.hid (HST.out.step b6)
        have hrow : RowX (fun _ => True) (w6.alloc (.cells #[.string (tmB 0 (p 0))] 9)) (.slice (some ⟨w6.heap.size, 0, none⟩) 1 1) [(tmB 0 (p 0) : ByteArray)].length ([(tmB 0 (p 0) : ByteArray)].map Value.string) := .inr ⟨w6.heap.size, 0, 1, rfl, trivial, by simp, fun j u hu => by
          match j, hu with
          | 0, hu =>
            simp at hu
            subst hu
            rw [Lib.cell_of_heap (heap_alloc_new w6 _)]
            rfl⟩
        have HRW := Lib.hid hrow
        have HOWN := Lib.hid ((H6.out.step (sbelow_new w6 (.cells #[.string (tmB 0 (p 0))] 9))))
        clear hrow b6 cW
        go_wp2_with (at_builtin; refine wpList_append_words (P := fun _ => True) _ rfl _ _ rfl w.heap.size _ _ _ rfl HOWN.out.own _ [tmB 0 (p 0)] rfl HRW.out ?bound0 ?base0 ?main0)
        case bound0 => have := tmsB_len p 0; simp; omega
        case base0 => exact HOWN.out.below.size
        intro u8 w8 hown8 hgrow8
        have H8 := Lib.hid (HOWN.out.push HZ.out hgrow8 hown8)
        obtain ⟨ua8, uc8, rfl, -⟩ := CapV.of_own hown8
        clear hown8 hgrow8
        go_wp2_with fail
        go_roundg (3 - 1)
        case measure => decide
        case rel => exact ⟨1, by decide, rfl, rfl, H8.out⟩
    · subst hgk
      by_cases hz : p 1 = 0
      · have hzi : ¬ (0 : Int) < (p 1 : Int) := by omega
        have HZ := Lib.hid hz
        clear hz
        go_wp2_with fail
        go_roundg (3 - 2)
        case measure => decide
        case rel => exact ⟨2, by decide, rfl, rfl, HST.out.skip HZ.out⟩
      · have hzi : (0 : Int) < (p 1 : Int) := by omega
        have HZ := Lib.hid hz
        have HWR := HW.out.below HST.out.below
        have cW := HWR.2 1 (by decide)
        have HTM := Lib.hid (gterm_any 1 (p 1) (HPP.out 1) wr (HT.out.below HST.out.below))
        clear hz HWR
        go_wp2_with fail
        refine HTM.out.mono ?_
        rintro e w6 ⟨rfl, b6⟩
        have H6 := Lib.hid (HST.out.step b6)
        have hrow : RowX (fun _ => True) (w6.alloc (.cells #[.string (tmB 1 (p 1))] 9)) (.slice (some ⟨w6.heap.size, 0, none⟩) 1 1) [(tmB 1 (p 1) : ByteArray)].length ([(tmB 1 (p 1) : ByteArray)].map Value.string) := .inr ⟨w6.heap.size, 0, 1, rfl, trivial, by simp, fun j u hu => by
          match j, hu with
          | 0, hu =>
            simp at hu
            subst hu
            rw [Lib.cell_of_heap (heap_alloc_new w6 _)]
            rfl⟩
        have HRW := Lib.hid hrow
        have HOWN := Lib.hid ((H6.out.step (sbelow_new w6 (.cells #[.string (tmB 1 (p 1))] 9))))
        clear hrow b6 cW
        go_wp2_with (at_builtin; refine wpList_append_words (P := fun _ => True) _ rfl _ _ rfl w.heap.size _ _ _ rfl HOWN.out.own _ [tmB 1 (p 1)] rfl HRW.out ?bound1 ?base1 ?main1)
        case bound1 => have := tmsB_len p 1; simp; omega
        case base1 => exact HOWN.out.below.size
        intro u8 w8 hown8 hgrow8
        have H8 := Lib.hid (HOWN.out.push HZ.out hgrow8 hown8)
        obtain ⟨ua8, uc8, rfl, -⟩ := CapV.of_own hown8
        clear hown8 hgrow8
        go_wp2_with fail
        go_roundg (3 - 2)
        case measure => decide
        case rel => exact ⟨2, by decide, rfl, rfl, H8.out⟩
    · subst hgk
      by_cases hz : p 2 = 0
      · have hzi : ¬ (0 : Int) < (p 2 : Int) := by omega
        have HZ := Lib.hid hz
        clear hz
        go_wp2_with fail
        go_roundg (3 - 3)
        case measure => decide
        case rel => exact ⟨3, by decide, rfl, rfl, HST.out.skip HZ.out⟩
      · have hzi : (0 : Int) < (p 2 : Int) := by omega
        have HZ := Lib.hid hz
        have HWR := HW.out.below HST.out.below
        have cW := HWR.2 2 (by decide)
        have HTM := Lib.hid (gterm_any 2 (p 2) (HPP.out 2) wr (HT.out.below HST.out.below))
        clear hz HWR
        go_wp2_with fail
        refine HTM.out.mono ?_
        rintro e w6 ⟨rfl, b6⟩
        have H6 := Lib.hid (HST.out.step b6)
        have hrow : RowX (fun _ => True) (w6.alloc (.cells #[.string (tmB 2 (p 2))] 9)) (.slice (some ⟨w6.heap.size, 0, none⟩) 1 1) [(tmB 2 (p 2) : ByteArray)].length ([(tmB 2 (p 2) : ByteArray)].map Value.string) := .inr ⟨w6.heap.size, 0, 1, rfl, trivial, by simp, fun j u hu => by
          match j, hu with
          | 0, hu =>
            simp at hu
            subst hu
            rw [Lib.cell_of_heap (heap_alloc_new w6 _)]
            rfl⟩
        have HRW := Lib.hid hrow
        have HOWN := Lib.hid ((H6.out.step (sbelow_new w6 (.cells #[.string (tmB 2 (p 2))] 9))))
        clear hrow b6 cW
        go_wp2_with (at_builtin; refine wpList_append_words (P := fun _ => True) _ rfl _ _ rfl w.heap.size _ _ _ rfl HOWN.out.own _ [tmB 2 (p 2)] rfl HRW.out ?bound2 ?base2 ?main2)
        case bound2 => have := tmsB_len p 2; simp; omega
        case base2 => exact HOWN.out.below.size
        intro u8 w8 hown8 hgrow8
        have H8 := Lib.hid (HOWN.out.push HZ.out hgrow8 hown8)
        obtain ⟨ua8, uc8, rfl, -⟩ := CapV.of_own hown8
        clear hown8 hgrow8
        go_wp2_with fail
        go_roundg (3 - 3)
        case measure => decide
        case rel => exact ⟨3, by decide, rfl, rfl, H8.out⟩
    · have HUC := Lib.hid huc
      by_cases hz : textU p 3 = []
      · have hl : (tmsB p 3).length = 0 := by unfold tmsB; rw [textU_nil.1 hz]; rfl
        have HE : Hid ((⟨(textW p).toArray⟩ : ByteArray) = ⟨#[48]⟩) := Lib.hid (by rw [textW_eq, if_pos hz])
        rw [hl] at *
        clear hz hl huc
        go_wp2_with fail
        go_ret2
        exact ⟨congrArg (fun t => Ending.returned (.tuple #[.string t, .nilIface])) HE.out.symm, HST.out.below⟩
      · have hl : 0 < (tmsB p 3).length := by
          unfold tmsB
          rw [List.length_map]
          exact List.length_pos_iff.2 (fun e => hz (textU_nil.2 e))
        have hl2 : (((tmsB p 3).length : Int) == 0) = false := beq_eq_false_iff_ne.2 (by omega)
        have HE : Hid ((⟨(textW p).toArray⟩ : ByteArray) = txB p 3) := Lib.hid (by rw [textW_eq, if_neg hz]; rfl)
        have HJ := Lib.hid (join_terms p HPP.out wr ua uc (RowX.of_own HST.out.own (fun _ _ => trivial)) HUC.out)
        clear hz huc
        go_wp2_with fail
        refine HJ.out.mono ?_
        rintro e w9 ⟨rfl, b9⟩
        go_wp2_with fail
        go_ret2
        exact ⟨congrArg (fun t => Ending.returned (.tuple #[.string t, .nilIface])) HE.out.symm, HST.out.below.trans (b9.mono HST.out.below.size)⟩
set_option maxRecDepth 100000 in
set_option maxHeartbeats 2000000 in
theorem gprint_er (h d p : Int) (hc : wC h d p ≠ 0) (w : World) :
    Calls Tryz.prog 23 #[.agg #[.int .u64 h, .int .u64 d, .int .u64 p]] w fun e w' => ∃ v, e = .returned (.tuple #[.string ⟨#[]⟩, v]) ∧ ErrIs w' v (wC h d p) (wA h d p) ∧ Below w.heap.size w w' := by
  have HC := Lib.hid (fun W => gcheck_any h d p W)
  have HB0 := Lib.hid (sbelow_new w (.cells #[.int .u64 h, .int .u64 d, .int .u64 p] 55))
  have HN := Lib.hid hc
  generalize wC h d p = c at *
  generalize wA h d p = a at *
  clear hc
  go_enter Tryz.func23, Tryz.ntmps23
  go_wp2_with fail
  refine (HC.out _).mono ?_
  rintro e w2 ⟨v, rfl, hv, b2⟩
  obtain ⟨fb, rfl⟩ := hv.ptr HN.out
  have HV := Lib.hid hv
  have HB2 := Lib.hid (HB0.out.trans (b2.mono HB0.out.size))
  clear hv b2
  go_wp2_with fail
  go_ret2
  exact ⟨_, rfl, HV.out, HB2.out⟩
end Go.Proofs.YtogbocgjijhmgaaGreatDoor
