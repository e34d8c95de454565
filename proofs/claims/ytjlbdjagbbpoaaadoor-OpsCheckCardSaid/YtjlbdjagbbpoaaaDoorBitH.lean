/-
  Chapter 7's example holds, by contract.
-/
import Derived.Test.YtjlbdjagbbpoaaaDoorBitG
namespace Go.Proofs.YtjlbdjagbbpoaaaDoor
open Go.RowKit Go.Extern.Stop Go.Stop Go.Extern

theorem of535 : ofS [5, 3, 5] = (40, 0) := by decide
theorem list40 : setL 40 0 = [3, 5] := by decide
set_option maxRecDepth 100000 in
set_option maxHeartbeats 2000000 in
theorem awake7_any (w : World) (ht : TabB w) : Calls Tryd.prog 60 #[] w fun e w' => e = .returned (.bool true) ∧ Below w.heap.size w w' := by
  have hI : IntsAt (w.alloc (.cells #[.int .i64 5, .int .i64 3, .int .i64 5] 3)) (.slice (some ⟨w.heap.size, 0, none⟩) 3 3) [5, 3, 5] := by
    refine .inr ⟨w.heap.size, 0, 3, rfl, by simp, fun i c hi => ?_⟩
    rw [Lib.cell_of_heap (heap_alloc_new w _)]
    match i, hi with
    | 0, hi => simp at hi; subst hi; rfl
    | 1, hi => simp at hi; subst hi; rfl
    | 2, hi => simp at hi; subst hi; rfl
  have HO := Lib.hid (of_any _ _ _ hI (by decide))
  rw [of535] at HO
  have HT := Lib.hid ht
  have u0 : U64 40 := by unfold U64; decide
  have HL := Lib.hid (fun W => len_any 40 0 u0 zero_u64 W)
  rw [list40] at HL
  have HF := Lib.hid (fun W h => first_any 40 0 u0 zero_u64 W h)
  have hf : firstI 40 0 = 3 := by unfold firstI; rw [list40]; rfl
  rw [hf] at HF
  have H5 := Lib.hid (fun W => has_any 40 0 5 u0 zero_u64 W)
  have h5 : hasI 40 0 5 = true := by decide
  rw [h5] at H5
  have H4 := Lib.hid (fun W => has_any 40 0 4 u0 zero_u64 W)
  have h4 : hasI 40 0 4 = false := by decide
  rw [h4] at H4
  have HB := Lib.hid (below_new w (.cells #[.int .i64 5, .int .i64 3, .int .i64 5] 3))
  clear hI ht hf h5 h4 u0
  go_enter Tryd.func60, Tryd.ntmps60
  go_wp2_with fail
  refine HO.out.mono ?_
  rintro e w1 ⟨rfl, b1⟩
  have HB1 := Lib.hid (HB.out.trans (b1.mono HB.out.size))
  clear b1 HO
  go_wp2_with fail
  refine (HL.out _).mono ?_
  rintro e w2 ⟨rfl, b2⟩
  have hs : SetAt (w1.alloc (.cells #[.int .u64 ((40 : Nat) : Int), .int .u64 ((0 : Nat) : Int)] 34)) w1.heap.size 40 0 := boxed_set w1 40 0
  have hb := below_new w1 (.cells #[.int .u64 ((40 : Nat) : Int), .int .u64 ((0 : Nat) : Int)] 34)
  have hs2 := hs.step b2
  have HB2 := Lib.hid (HB1.out.trans ((hb.trans (b2.mono hb.size)).mono HB1.out.size))
  have k0 := hs2.cells.1
  have k1 := hs2.cells.2.1
  have HS2 := Lib.hid hs2
  clear hs hb b2 hs2
  go_wp2_with fail
  refine (HF.out _ (HT.out.below HT.out.lt HB2.out)).mono ?_
  rintro e w3 ⟨rfl, b3⟩
  have hs3 := HS2.out.step b3
  have HB3 := Lib.hid (HB2.out.trans (b3.mono HB2.out.size))
  have k0 := hs3.cells.1
  have k1 := hs3.cells.2.1
  have HS3 := Lib.hid hs3
  clear b3 hs3 HS2
  go_wp2_with fail
  refine (H5.out _).mono ?_
  rintro e w4 ⟨rfl, b4⟩
  have hs4 := HS3.out.step b4
  have HB4 := Lib.hid (HB3.out.trans (b4.mono HB3.out.size))
  have k0 := hs4.cells.1
  have k1 := hs4.cells.2.1
  clear b4 hs4 HS3
  go_wp2_with fail
  refine (H4.out _).mono ?_
  rintro e w5 ⟨rfl, b5⟩
  have HB5 := Lib.hid (HB4.out.trans (b5.mono HB4.out.size))
  clear b5
  go_wp2_with fail
  go_ret
  exact ⟨rfl, HB5.out⟩
end Go.Proofs.YtjlbdjagbbpoaaaDoor
