/-
  Package tree by contracts, nineteenth part: TreeDeep.
-/
import Derived.Test.YtbaglmjbncalpaaDoorTreeT
namespace Go.Proofs.YtbaglmjbncalpaaDoor
open Go.RowKit Go.Extern.Stop Go.Stop Go.Extern Go.WideMaps

theorem nest_text (L R : List UInt8) (n : Nat) : ((⟨(Lib.repeatL L n).toArray⟩ : ByteArray) ++ ⟨#[55]⟩) ++ ⟨(Lib.repeatL R n).toArray⟩ = ⟨(nestL L R n).toArray⟩ := by
  apply ByteArray.ext
  apply Array.ext'
  simp [nestL]

set_option maxRecDepth 100000 in
set_option maxHeartbeats 4000000 in
theorem treeDeep_any (n : Nat) (hn : n < 256) (o : Bool) (w : World) (hg : Handle w) : Calls Tryd.prog 3 #[.int .u8 n, .bool o] w fun e w' => e = .returned (.bool true) ∧ Below w.heap.size w w' := by
  have HN := Lib.hid hn
  have HR1 := Lib.hid (fun (s : ByteArray) (hs : s.size ≤ 10) w => Tryd.strings_Repeat s n w (by omega) (by have := Nat.mul_le_mul hs (Nat.le_of_lt hn); omega))
  have HG := Lib.hid hg
  clear hn hg
  cases o
  · have HT : Hid (((⟨(Lib.repeatL [91] n).toArray⟩ : ByteArray) ++ ⟨#[55]⟩) ++ ⟨(Lib.repeatL [93] n).toArray⟩ = ⟨(nestL [91] [93] n).toArray⟩) := Lib.hid (nest_text _ _ _)
    have hsA : (⟨(Lib.repeatL [91] n).toArray⟩ : ByteArray).size ≤ 2000 := by rw [size_mk, Lib.repeatL_length]; have := HN.out; simp; omega
    have hsB : (⟨(Lib.repeatL [93] n).toArray⟩ : ByteArray).size ≤ 2000 := by rw [size_mk, Lib.repeatL_length]; have := HN.out; simp; omega
    have HRA : Hid (∀ w, Calls Tryd.prog 8 #[.string ⟨#[91]⟩, .int .i64 n] w fun e w' => e = .returned (.string ⟨(Lib.repeatL [91] n).toArray⟩) ∧ Below w.heap.size w w') := Lib.hid (fun w => HR1.out ⟨#[91]⟩ (by decide) w)
    have HRB : Hid (∀ w, Calls Tryd.prog 8 #[.string ⟨#[93]⟩, .int .i64 n] w fun e w' => e = .returned (.string ⟨(Lib.repeatL [93] n).toArray⟩) ∧ Below w.heap.size w w') := Lib.hid (fun w => HR1.out ⟨#[93]⟩ (by decide) w)
    clear HR1
    generalize (⟨(Lib.repeatL [91] n).toArray⟩ : ByteArray) = A at *
    generalize (⟨(Lib.repeatL [93] n).toArray⟩ : ByteArray) = B at *
    have hz1 : ¬ 9223372036854775807 < A.size + 1 := by omega
    have hz2 : ¬ 9223372036854775807 < A.size + 1 + B.size := by omega
    have HSZ := Lib.hid (And.intro hsA hsB)
    have h0 := nest_arr n
    have HNE := Lib.hid h0
    have hsz : (⟨(nestL [91] [93] n).toArray⟩ : ByteArray).size ≤ 65536 := by rw [h0.size]; have := HN.out; omega
    have HPA : Hid (∀ w, Handle w → Calls Tryd.prog 7 #[.string ⟨(nestL [91] [93] n).toArray⟩] w (TParseOut w ⟨(nestL [91] [93] n).toArray⟩)) := Lib.hid (fun w hg => tparse_any _ (Nat.le_trans hsz (by decide)) w hg)
    have HW : Hid ((n ≤ 64 → ∃ x, vsize x = n + 1 ∧ vdeep x = n ∧ Whole ⟨(nestL [91] [93] n).toArray⟩ (.ok (⟨(nestL [91] [93] n).toArray⟩ : ByteArray).size x)) ∧ (64 < n → Whole ⟨(nestL [91] [93] n).toArray⟩ (.er 8 (1 * 64)))) := Lib.hid ⟨fun h => h0.whole h hsz, fun h => h0.deep h hsz⟩
    clear h0 hsz hsA hsB HNE
    generalize (⟨(nestL [91] [93] n).toArray⟩ : ByteArray) = T at *
    go_enter Tryd.func3, Tryd.ntmps3
    go_wp2_with fail
    refine (awake5_any _ HG.out).mono ?_
    rintro e w1 ⟨rfl, b1⟩
    have h255 := HN.out
    go_wp2_with fail
    refine (HRA.out _).mono ?_
    rintro e w2 ⟨rfl, b2⟩
    go_wp2_with fail
    refine (HRB.out _).mono ?_
    rintro e w3 ⟨rfl, b3⟩
    have b13 := b1.trans ((b2.trans (b3.mono b2.size)).mono b1.size)
    have HB3 := Lib.hid b13
    clear b1 b2 b3 b13
    go_wp2_with fail
    rw [HT.out]
    refine (HPA.out _ (HG.out.below HB3.out)).mono ?_
    rcases Nat.lt_or_ge 64 n with h64 | h64
    · have HO : Hid (∀ o, Whole T o → o = .er 8 (1 * 64)) := Lib.hid (fun o h => Whole.one (HW.out.2 h64) h)
      have h64' : (64 : Int) < n := by omega
      have HL := Lib.hid h64
      clear h64
      rintro e w4 (⟨x, k1, t1, n1, a1, l1, c1, a1', l1', c1', z1, hw, -⟩ | ⟨ec, ea, fb, hw, rfl, hf, b4⟩)
      case inl => cases HO.out _ hw
      have hxx := HO.out _ hw
      injection hxx with h1 h2
      subst h1; subst h2
      have HF := Lib.hid hf
      have HB4 := Lib.hid (HB3.out.trans (b4.mono HB3.out.size))
      clear hw hf b4
      have bn := below_new w4 (.cells #[.int .i64 0, .string ⟨#[]⟩, .int .u64 0, .slice none 0 0, .slice none 0 0, .int .i64 0] 27)
      have HB5 := Lib.hid (HB4.out.trans (bn.mono HB4.out.size))
      have HF5 := Lib.hid (HF.out.keep bn)
      clear bn
      unfold pf
      go_wp2_with fail
      refine (lawIs_err _ 8 64 _ HF5.out (HG.out.below HB5.out)).mono ?_
      rintro e w7 ⟨rfl, b7⟩
      go_wp2_with fail
      go_ret
      exact ⟨rfl, HB5.out.trans (b7.mono HB5.out.size)⟩
    · obtain ⟨x, hx1, hx2, hx3⟩ := HW.out.1 h64
      have HO : Hid (∀ o, Whole T o → o = .ok T.size x) := Lib.hid (fun o h => Whole.one hx3 h)
      have h64' : ¬ (64 : Int) < n := by omega
      have HX1 := Lib.hid hx1
      have HX2 := Lib.hid hx2
      have HL := Lib.hid h64
      clear h64 hx1 hx2 hx3
      rintro e w4 (⟨x', k, t, m, a, l, c, a', l', c', z, hw, rfl, hx, b4⟩ | ⟨ec, ea, fb, hw, -⟩)
      case inr => cases HO.out _ hw
      have hxx := HO.out _ hw
      injection hxx with _ hxx
      subst hxx
      have HX := Lib.hid hx
      have HB4 := Lib.hid (HB3.out.trans (b4.mono HB3.out.size))
      have bn := below_new w4 (.cells #[.int .i64 k, .string t, .int .u64 m, .slice a l c, .slice a' l' c', .int .i64 z] 27)
      have HX5 := Lib.hid (hx.step bn)
      have H65 : Hid (SixAt (w4.alloc (.cells #[.int .i64 k, .string t, .int .u64 m, .slice a l c, .slice a' l' c', .int .i64 z] 27)) w4.heap.size _ _ _ _ _ _) := Lib.hid (heap_alloc_new w4 _)
      have HB5 := Lib.hid (HB4.out.trans (bn.mono HB4.out.size))
      clear hw hx b4 bn
      go_wp2_with fail
      generalize w4.alloc (.cells #[.int .i64 k, .string t, .int .u64 m, .slice a l c, .slice a' l' c', .int .i64 z] 27) = w5 at *
      generalize w4.heap.size = q at *
      refine (deep_go _ _ _ (Nat.lt_succ_self _) (by rw [HX1.out]; omega) _ _ _ _ _ _ _ _ _ _ _ HX5.out).mono ?_
      rintro e w6 ⟨rfl, b6⟩
      rw [HX2.out]
      have HX6 := Lib.hid (HX5.out.step b6)
      have HB6 := Lib.hid (HB5.out.trans (b6.mono HB5.out.size))
      obtain ⟨s0, s1, s2, s3, s4, s5⟩ := (H65.out.step b6).cells
      clear b6
      go_wp2_with fail
      refine (size_go _ _ _ (Nat.lt_succ_self _) (by rw [HX1.out]; omega) _ _ _ _ _ _ _ _ _ _ _ HX6.out).mono ?_
      rintro e w7 ⟨rfl, b7⟩
      rw [HX1.out]
      clear s0 s1 s2 s3 s4 s5
      go_wp2_with fail
      go_ret
      refine ⟨?_, HB6.out.trans (b7.mono HB6.out.size)⟩
      first | rfl | (exact ret_b (by rw [Bool.eq_iff_iff]; simp))
  · have HT : Hid (((⟨(Lib.repeatL [123, 34, 97, 34, 58] n).toArray⟩ : ByteArray) ++ ⟨#[55]⟩) ++ ⟨(Lib.repeatL [125] n).toArray⟩ = ⟨(nestL [123, 34, 97, 34, 58] [125] n).toArray⟩) := Lib.hid (nest_text _ _ _)
    have hsA : (⟨(Lib.repeatL [123, 34, 97, 34, 58] n).toArray⟩ : ByteArray).size ≤ 2000 := by rw [size_mk, Lib.repeatL_length]; have := HN.out; simp; omega
    have hsB : (⟨(Lib.repeatL [125] n).toArray⟩ : ByteArray).size ≤ 2000 := by rw [size_mk, Lib.repeatL_length]; have := HN.out; simp; omega
    have HRA : Hid (∀ w, Calls Tryd.prog 8 #[.string ⟨#[123, 34, 97, 34, 58]⟩, .int .i64 n] w fun e w' => e = .returned (.string ⟨(Lib.repeatL [123, 34, 97, 34, 58] n).toArray⟩) ∧ Below w.heap.size w w') := Lib.hid (fun w => HR1.out ⟨#[123, 34, 97, 34, 58]⟩ (by decide) w)
    have HRB : Hid (∀ w, Calls Tryd.prog 8 #[.string ⟨#[125]⟩, .int .i64 n] w fun e w' => e = .returned (.string ⟨(Lib.repeatL [125] n).toArray⟩) ∧ Below w.heap.size w w') := Lib.hid (fun w => HR1.out ⟨#[125]⟩ (by decide) w)
    clear HR1
    generalize (⟨(Lib.repeatL [123, 34, 97, 34, 58] n).toArray⟩ : ByteArray) = A at *
    generalize (⟨(Lib.repeatL [125] n).toArray⟩ : ByteArray) = B at *
    have hz1 : ¬ 9223372036854775807 < A.size + 1 := by omega
    have hz2 : ¬ 9223372036854775807 < A.size + 1 + B.size := by omega
    have HSZ := Lib.hid (And.intro hsA hsB)
    have h0 := nest_obj n
    have HNE := Lib.hid h0
    have hsz : (⟨(nestL [123, 34, 97, 34, 58] [125] n).toArray⟩ : ByteArray).size ≤ 65536 := by rw [h0.size]; have := HN.out; omega
    have HPA : Hid (∀ w, Handle w → Calls Tryd.prog 7 #[.string ⟨(nestL [123, 34, 97, 34, 58] [125] n).toArray⟩] w (TParseOut w ⟨(nestL [123, 34, 97, 34, 58] [125] n).toArray⟩)) := Lib.hid (fun w hg => tparse_any _ (Nat.le_trans hsz (by decide)) w hg)
    have HW : Hid ((n ≤ 64 → ∃ x, vsize x = n + 1 ∧ vdeep x = n ∧ Whole ⟨(nestL [123, 34, 97, 34, 58] [125] n).toArray⟩ (.ok (⟨(nestL [123, 34, 97, 34, 58] [125] n).toArray⟩ : ByteArray).size x)) ∧ (64 < n → Whole ⟨(nestL [123, 34, 97, 34, 58] [125] n).toArray⟩ (.er 8 (5 * 64)))) := Lib.hid ⟨fun h => h0.whole h hsz, fun h => h0.deep h hsz⟩
    clear h0 hsz hsA hsB HNE
    generalize (⟨(nestL [123, 34, 97, 34, 58] [125] n).toArray⟩ : ByteArray) = T at *
    go_enter Tryd.func3, Tryd.ntmps3
    go_wp2_with fail
    refine (awake5_any _ HG.out).mono ?_
    rintro e w1 ⟨rfl, b1⟩
    have h255 := HN.out
    go_wp2_with fail
    refine (HRA.out _).mono ?_
    rintro e w2 ⟨rfl, b2⟩
    go_wp2_with fail
    refine (HRB.out _).mono ?_
    rintro e w3 ⟨rfl, b3⟩
    have b13 := b1.trans ((b2.trans (b3.mono b2.size)).mono b1.size)
    have HB3 := Lib.hid b13
    clear b1 b2 b3 b13
    go_wp2_with fail
    rw [HT.out]
    refine (HPA.out _ (HG.out.below HB3.out)).mono ?_
    rcases Nat.lt_or_ge 64 n with h64 | h64
    · have HO : Hid (∀ o, Whole T o → o = .er 8 (5 * 64)) := Lib.hid (fun o h => Whole.one (HW.out.2 h64) h)
      have h64' : (64 : Int) < n := by omega
      have HL := Lib.hid h64
      clear h64
      rintro e w4 (⟨x, k1, t1, n1, a1, l1, c1, a1', l1', c1', z1, hw, -⟩ | ⟨ec, ea, fb, hw, rfl, hf, b4⟩)
      case inl => cases HO.out _ hw
      have hxx := HO.out _ hw
      injection hxx with h1 h2
      subst h1; subst h2
      have HF := Lib.hid hf
      have HB4 := Lib.hid (HB3.out.trans (b4.mono HB3.out.size))
      clear hw hf b4
      have bn := below_new w4 (.cells #[.int .i64 0, .string ⟨#[]⟩, .int .u64 0, .slice none 0 0, .slice none 0 0, .int .i64 0] 27)
      have HB5 := Lib.hid (HB4.out.trans (bn.mono HB4.out.size))
      have HF5 := Lib.hid (HF.out.keep bn)
      clear bn
      unfold pf
      go_wp2_with fail
      refine (lawIs_err _ 8 320 _ HF5.out (HG.out.below HB5.out)).mono ?_
      rintro e w7 ⟨rfl, b7⟩
      go_wp2_with fail
      go_ret
      exact ⟨rfl, HB5.out.trans (b7.mono HB5.out.size)⟩
    · obtain ⟨x, hx1, hx2, hx3⟩ := HW.out.1 h64
      have HO : Hid (∀ o, Whole T o → o = .ok T.size x) := Lib.hid (fun o h => Whole.one hx3 h)
      have h64' : ¬ (64 : Int) < n := by omega
      have HX1 := Lib.hid hx1
      have HX2 := Lib.hid hx2
      have HL := Lib.hid h64
      clear h64 hx1 hx2 hx3
      rintro e w4 (⟨x', k, t, m, a, l, c, a', l', c', z, hw, rfl, hx, b4⟩ | ⟨ec, ea, fb, hw, -⟩)
      case inr => cases HO.out _ hw
      have hxx := HO.out _ hw
      injection hxx with _ hxx
      subst hxx
      have HX := Lib.hid hx
      have HB4 := Lib.hid (HB3.out.trans (b4.mono HB3.out.size))
      have bn := below_new w4 (.cells #[.int .i64 k, .string t, .int .u64 m, .slice a l c, .slice a' l' c', .int .i64 z] 27)
      have HX5 := Lib.hid (hx.step bn)
      have H65 : Hid (SixAt (w4.alloc (.cells #[.int .i64 k, .string t, .int .u64 m, .slice a l c, .slice a' l' c', .int .i64 z] 27)) w4.heap.size _ _ _ _ _ _) := Lib.hid (heap_alloc_new w4 _)
      have HB5 := Lib.hid (HB4.out.trans (bn.mono HB4.out.size))
      clear hw hx b4 bn
      go_wp2_with fail
      generalize w4.alloc (.cells #[.int .i64 k, .string t, .int .u64 m, .slice a l c, .slice a' l' c', .int .i64 z] 27) = w5 at *
      generalize w4.heap.size = q at *
      refine (deep_go _ _ _ (Nat.lt_succ_self _) (by rw [HX1.out]; omega) _ _ _ _ _ _ _ _ _ _ _ HX5.out).mono ?_
      rintro e w6 ⟨rfl, b6⟩
      rw [HX2.out]
      have HX6 := Lib.hid (HX5.out.step b6)
      have HB6 := Lib.hid (HB5.out.trans (b6.mono HB5.out.size))
      obtain ⟨s0, s1, s2, s3, s4, s5⟩ := (H65.out.step b6).cells
      clear b6
      go_wp2_with fail
      refine (size_go _ _ _ (Nat.lt_succ_self _) (by rw [HX1.out]; omega) _ _ _ _ _ _ _ _ _ _ _ HX6.out).mono ?_
      rintro e w7 ⟨rfl, b7⟩
      rw [HX1.out]
      clear s0 s1 s2 s3 s4 s5
      go_wp2_with fail
      go_ret
      refine ⟨?_, HB6.out.trans (b7.mono HB6.out.size)⟩
      first | rfl | (exact ret_b (by rw [Bool.eq_iff_iff]; simp))
end Go.Proofs.YtbaglmjbncalpaaDoor
