/-
  TreeBlanks' law, by contract.
-/
import Derived.Test.YtbaglmjbncalpaaDoorTreeU2
import Derived.Test.YtbaglmjbncalpaaDoorTreeY
import Derived.Deep.RegionHeld3
namespace Go.Proofs.YtbaglmjbncalpaaDoor
open Go.RowKit Go.Extern.Stop Go.Stop Go.Extern Go.WideMaps

def padL (s : ByteArray) (n m : Nat) : List UInt8 := Lib.repeatL [10] n ++ s.data.toList ++ Lib.repeatL [9] m
theorem pad_eq (s : ByteArray) (n m : Nat) : ((⟨(Lib.repeatL [10] n).toArray⟩ : ByteArray) ++ s) ++ ⟨(Lib.repeatL [9] m).toArray⟩ = ⟨(padL s n m).toArray⟩ := by
  apply ByteArray.ext
  apply Array.ext'
  simp [padL]
theorem pad_len (s : ByteArray) (n m : Nat) : (padL s n m).length = n + s.size + m := by
  unfold padL
  rw [List.length_append, List.length_append, Lib.repeatL_length, Lib.repeatL_length]
  simp
theorem pad_text (s : ByteArray) (n m : Nat) : Pad s ⟨(padL s n m).toArray⟩ n := by
  have hsz : (⟨(padL s n m).toArray⟩ : ByteArray).size = n + s.size + m := by rw [size_mk, pad_len]
  have hA : (Lib.repeatL [10] n).length = n := by rw [Lib.repeatL_length]; simp
  have hs : s.data.toList.length = s.size := by simp
  refine ⟨by omega, ?_, ?_, ?_⟩
  · intro i hi
    have hlt : i + n < (padL s n m).length := by rw [pad_len]; omega
    have h : (padL s n m)[i + n]? = some s[i] := by
      unfold padL
      rw [List.getElem?_append_left (by rw [List.length_append, hA, hs]; omega), List.getElem?_append_right (by rw [hA]; omega), hA, Nat.add_sub_cancel, List.getElem?_eq_getElem (by rw [hs]; exact hi)]
      rfl
    rw [List.getElem?_eq_getElem hlt] at h
    injection h
  · intro i hi
    have h : (padL s n m)[i]? = some 10 := by
      unfold padL
      rw [List.getElem?_append_left (by rw [List.length_append, hA]; omega), List.getElem?_append_left (by rw [hA]; exact hi)]
      have := rep_at [10] n i 0 hi (by simp)
      simpa using this
    rw [byteI_mk, h]
    rfl
  · intro i h1 h2
    have h : (padL s n m)[i]? = some 9 := by
      unfold padL
      rw [List.getElem?_append_right (by rw [List.length_append, hA, hs]; omega), List.length_append, hA, hs]
      have := rep_at [9] m (i - (n + s.size)) 0 (by omega) (by simp)
      simpa using this
    rw [byteI_mk, h]
    rfl
theorem farV_at (n : Nat) (x : Val) : (farV n x).at'' = x.at'' + n := by cases x with | mk k t u l ks z => rw [farV]; rfl

/-- On the way behind both parses: both boxes, and what they hold. -/
structure BlSt (w : World) (P1 P2 : Nat → Prop) (q1 q2 : Nat) (k1 : Int) (t1 : ByteArray) (n1 : Int) (v1 v1' : Value) (z1 : Int) (k2 : Int) (t2 : ByteArray) (n2 : Int) (v2 v2' : Value) (z2 : Int) (x y : Val) (W : World) : Prop where
  s1 : SixAt W q1 (.int .i64 k1) (.string t1) (.int .u64 n1) v1 v1' (.int .i64 z1)
  s2 : SixAt W q2 (.int .i64 k2) (.string t2) (.int .u64 n2) v2 v2' (.int .i64 z2)
  x1 : ValC P1 W [.int .i64 k1, .string t1, .int .u64 n1, v1, v1', .int .i64 z1] x
  x2 : ValC P2 W [.int .i64 k2, .string t2, .int .u64 n2, v2, v2', .int .i64 z2] y
  below : Below w.heap.size w W
theorem BlSt.step {w : World} {P1 P2 : Nat → Prop} {q1 q2 : Nat} {k1 : Int} {t1 : ByteArray} {n1 : Int} {v1 v1' : Value} {z1 : Int} {k2 : Int} {t2 : ByteArray} {n2 : Int} {v2 v2' : Value} {z2 : Int} {x y : Val} {W W' : World}
    (h : BlSt w P1 P2 q1 q2 k1 t1 n1 v1 v1' z1 k2 t2 n2 v2 v2' z2 x y W) (hb : Below W.heap.size W W') : BlSt w P1 P2 q1 q2 k1 t1 n1 v1 v1' z1 k2 t2 n2 v2 v2' z2 x y W' :=
  ⟨h.s1.step hb, h.s2.step hb, h.x1.step hb, h.x2.step hb, h.below.trans (hb.mono h.below.size)⟩
theorem BlSt.cells {w : World} {P1 P2 : Nat → Prop} {q1 q2 : Nat} {k1 : Int} {t1 : ByteArray} {n1 : Int} {v1 v1' : Value} {z1 : Int} {k2 : Int} {t2 : ByteArray} {n2 : Int} {v2 v2' : Value} {z2 : Int} {x y : Val} {W : World}
    (h : BlSt w P1 P2 q1 q2 k1 t1 n1 v1 v1' z1 k2 t2 n2 v2 v2' z2 x y W) :
    W.cell? ⟨q1, 0, none⟩ = some (.int .i64 k1) ∧ W.cell? ⟨q1, 1, none⟩ = some (.string t1) ∧ W.cell? ⟨q1, 2, none⟩ = some (.int .u64 n1) ∧ W.cell? ⟨q1, 3, none⟩ = some v1 ∧ W.cell? ⟨q1, 4, none⟩ = some v1' ∧ W.cell? ⟨q1, 5, none⟩ = some (.int .i64 z1) ∧
    W.cell? ⟨q2, 0, none⟩ = some (.int .i64 k2) ∧ W.cell? ⟨q2, 1, none⟩ = some (.string t2) ∧ W.cell? ⟨q2, 2, none⟩ = some (.int .u64 n2) ∧ W.cell? ⟨q2, 3, none⟩ = some v2 ∧ W.cell? ⟨q2, 4, none⟩ = some v2' ∧ W.cell? ⟨q2, 5, none⟩ = some (.int .i64 z2) := by
  obtain ⟨a0, a1, a2, a3, a4, a5⟩ := h.s1.cells
  obtain ⟨b0, b1, b2, b3, b4, b5⟩ := h.s2.cells
  exact ⟨a0, a1, a2, a3, a4, a5, b0, b1, b2, b3, b4, b5⟩

set_option maxRecDepth 100000 in
set_option maxHeartbeats 4000000 in
theorem treeBlanks_any (s : ByteArray) (a b : Nat) (ha : a ≤ 255) (hb : b ≤ 255) (w : World) (hg : Handle w) : Calls Tryd.prog 4 #[.string s, .int .u8 a, .int .u8 b] w fun e w' => e = .returned (.bool true) ∧ Below w.heap.size w w' := by
  have HG := Lib.hid hg
  obtain ⟨n, hn⟩ : ∃ n, a % 20 = n := ⟨_, rfl⟩
  obtain ⟨m, hm⟩ : ∃ m, b % 20 = m := ⟨_, rfl⟩
  have hn1 : ((a : Int).tmod 20) = (n : Int) := by rw [Int.tmod_eq_emod_of_nonneg (by omega)]; omega
  have hm1 : ((b : Int).tmod 20) = (m : Int) := by rw [Int.tmod_eq_emod_of_nonneg (by omega)]; omega
  have hn2 : n < 20 := by omega
  have hm2 : m < 20 := by omega
  have HRA : Hid (∀ w, Calls Tryd.prog 8 #[.string ⟨#[10]⟩, .int .i64 n] w fun e w' => e = .returned (.string ⟨(Lib.repeatL [10] n).toArray⟩) ∧ Below w.heap.size w w') := Lib.hid (fun w => Tryd.strings_Repeat ⟨#[10]⟩ n w (by omega) (by show 1 * n ≤ _; omega))
  have HRB : Hid (∀ w, Calls Tryd.prog 8 #[.string ⟨#[9]⟩, .int .i64 m] w fun e w' => e = .returned (.string ⟨(Lib.repeatL [9] m).toArray⟩) ∧ Below w.heap.size w w') := Lib.hid (fun w => Tryd.strings_Repeat ⟨#[9]⟩ m w (by omega) (by show 1 * m ≤ _; omega))
  have HPAD := Lib.hid (pad_text s n m)
  have HEQ := Lib.hid (pad_eq s n m)
  have hsA : (⟨(Lib.repeatL [10] n).toArray⟩ : ByteArray).size ≤ 20 := by rw [size_mk, Lib.repeatL_length]; simp; omega
  have hsB : (⟨(Lib.repeatL [9] m).toArray⟩ : ByteArray).size ≤ 20 := by rw [size_mk, Lib.repeatL_length]; simp; omega
  have hTs : (⟨(padL s n m).toArray⟩ : ByteArray).size ≤ s.size + 40 := by rw [size_mk, pad_len]; omega
  have HNM := Lib.hid (And.intro hn2 hm2)
  have hwn : wrap64 (n : Int) = (n : Int) := w64 _ (by omega)
  have hwm : wrap64 (m : Int) = (m : Int) := w64 _ (by omega)
  generalize (⟨(Lib.repeatL [10] n).toArray⟩ : ByteArray) = A at *
  generalize (⟨(Lib.repeatL [9] m).toArray⟩ : ByteArray) = B at *
  generalize (⟨(padL s n m).toArray⟩ : ByteArray) = T at *
  clear hg hn hm hn2 hm2
  go_enter Tryd.func4, Tryd.ntmps4
  go_wp2_with fail
  refine (awake5_any _ HG.out).mono ?_
  rintro e w1 ⟨rfl, b1⟩
  have HB1 := Lib.hid b1
  clear b1
  by_cases h400 : 3000 < s.size
  · have h : (3000 : Int) < (s.size : Int) := by omega
    go_wp2_with fail
    go_ret
    exact ⟨rfl, HB1.out⟩
  have h : ¬ (3000 : Int) < (s.size : Int) := by omega
  have HTS : Hid (T.size ≤ 65536) := Lib.hid (by omega)
  have hz1 : ¬ 9223372036854775807 < A.size + s.size := by omega
  have hz2 : ¬ 9223372036854775807 < A.size + s.size + B.size := by omega
  go_wp2_with fail
  refine (tparse_any s (by unfold maxLen; omega) _ (HG.out.below HB1.out)).mono ?_
  rintro e w2 (⟨x, k1, t1, n1, a1, l1, c1, a1', l1', c1', z1, hw, rfl, hx, b2⟩ | ⟨ec, ea, fb, hw, rfl, hf, b2⟩)
  case inr =>
    obtain ⟨c2, a2, hwT⟩ := whole_pad HPAD.out HTS.out hw
    have hB := HB1.out.trans (b2.mono HB1.out.size)
    have HB3 := Lib.hid (hB.trans ((below_new w2 (.cells #[.int .i64 0, .string ⟨#[]⟩, .int .u64 0, .slice none 0 0, .slice none 0 0, .int .i64 0] 27)).mono hB.size))
    have HO : Hid (∀ o, Whole T o → o = .er c2 a2) := Lib.hid (fun o h => Whole.one hwT h)
    clear hB b2 hf hw hwT
    unfold pf
    go_wp2_with fail
    refine (HRA.out _).mono ?_
    rintro e w3 ⟨rfl, b3⟩
    have HB4 := Lib.hid (HB3.out.trans (b3.mono HB3.out.size))
    clear b3
    go_wp2_with fail
    refine (HRB.out _).mono ?_
    rintro e w4 ⟨rfl, b4⟩
    have HB5 := Lib.hid (HB4.out.trans (b4.mono HB4.out.size))
    clear b4
    go_wp2_with fail
    rw [HEQ.out]
    refine (tparse_any T (by have := HTS.out; unfold maxLen; omega) _ (HG.out.below HB5.out)).mono ?_
    rintro e w5 (⟨x', k5, t5, n5, a5, l5, c5, a5', l5', c5', z5, hw, -⟩ | ⟨ec', ea', fb', hw, rfl, hf, b5⟩)
    case inl => cases HO.out _ hw
    have hB := HB5.out.trans (b5.mono HB5.out.size)
    have HB6 := Lib.hid (hB.trans ((below_new w5 (.cells #[.int .i64 0, .string ⟨#[]⟩, .int .u64 0, .slice none 0 0, .slice none 0 0, .int .i64 0] 27)).mono hB.size))
    clear hB b5 hf hw
    unfold pf
    go_wp2_with fail
    go_ret
    exact ⟨rfl, HB6.out⟩
  have hwT : Whole T (.ok T.size (farV n x)) := whole_pad HPAD.out HTS.out hw
  have HTS' := HTS.out
  obtain ⟨i1, i2, i3⟩ := whole_small (by omega) hw
  obtain ⟨j1, j2, -⟩ := whole_small (by omega) hwT
  have HC1 := Lib.hid (whole_clean hw)
  have HC2 := Lib.hid (whole_clean hwT)
  have HV1 : Hid (vsize x ≤ 1000000000) := Lib.hid (by omega)
  have HV2 : Hid (vsize (farV n x) ≤ 1000000000) := Lib.hid (by omega)
  have HK1 := Lib.hid i2
  have HK2 := Lib.hid j2
  have hz := (valC_kind hx).2
  rw [i3] at hz
  obtain ⟨p, hp⟩ : ∃ p, sk s 0 = p := ⟨_, rfl⟩
  have hp2 := (sk_le s 0 (Nat.zero_le _)).2
  rw [hp] at hz hp2 i3
  subst hz
  have HP := Lib.hid hp2
  have HAT := Lib.hid i3
  have HO : Hid (∀ o, Whole T o → o = .ok T.size (farV n x)) := Lib.hid (fun o h => Whole.one hwT h)
  have hB := HB1.out.trans (b2.mono HB1.out.size)
  have bn := below_new w2 (.cells #[.int .i64 k1, .string t1, .int .u64 n1, .slice a1 l1 c1, .slice a1' l1' c1', .int .i64 (p : Int)] 27)
  have HB3 := Lib.hid (hB.trans (bn.mono hB.size))
  have H63 : Hid (SixAt (w2.alloc (.cells #[.int .i64 k1, .string t1, .int .u64 n1, .slice a1 l1 c1, .slice a1' l1' c1', .int .i64 (p : Int)] 27)) w2.heap.size _ _ _ _ _ _) := Lib.hid (heap_alloc_new w2 _)
  have HX3 := Lib.hid (hx.step bn)
  clear hB b2 bn hx hw hwT i1 i2 i3 j1 j2 hp hp2 HTS'
  go_wp2_with fail
  generalize w2.alloc (.cells #[.int .i64 k1, .string t1, .int .u64 n1, .slice a1 l1 c1, .slice a1' l1' c1', .int .i64 (p : Int)] 27) = w2' at *
  generalize w2.heap.size = q1 at *
  refine (HRA.out _).mono ?_
  rintro e w3 ⟨rfl, b3⟩
  have HB4 := Lib.hid (HB3.out.trans (b3.mono HB3.out.size))
  have H64 := Lib.hid (H63.out.step b3)
  have HX4 := Lib.hid (HX3.out.step b3)
  clear b3
  go_wp2_with fail
  refine (HRB.out _).mono ?_
  rintro e w4 ⟨rfl, b4⟩
  have HB5 := Lib.hid (HB4.out.trans (b4.mono HB4.out.size))
  have H65 := Lib.hid (H64.out.step b4)
  have HX5 := Lib.hid (HX4.out.step b4)
  clear b4
  go_wp2_with fail
  rw [HEQ.out]
  refine (tparse_any T (by have := HTS.out; unfold maxLen; omega) _ (HG.out.below HB5.out)).mono ?_
  rintro e w5 (⟨x', k5, t5, n5, a5, l5, c5, a5', l5', c5', z5, hw, rfl, hx, b5⟩ | ⟨ec', ea', fb', hw, -⟩)
  case inr => cases HO.out _ hw
  have hxx := HO.out _ hw
  injection hxx with _ hxx
  subst hxx
  have hz := (valC_kind hx).2
  rw [farV_at, HAT.out] at hz
  subst hz
  have hB := HB5.out.trans (b5.mono HB5.out.size)
  have bn := below_new w5 (.cells #[.int .i64 k5, .string t5, .int .u64 n5, .slice a5 l5 c5, .slice a5' l5' c5', .int .i64 ((p : Int) + n)] 27)
  have hI := BlSt.mk (w := w) ((H65.out.step b5).step bn) (heap_alloc_new w5 (.cells #[.int .i64 k5, .string t5, .int .u64 n5, .slice a5 l5 c5, .slice a5' l5' c5', .int .i64 ((p : Int) + n)] 27)) ((HX5.out.step b5).step bn) (hx.step bn) (hB.trans (bn.mono hB.size))
  have hwz : wrap64 ((p : Int) + n) = (p : Int) + n := w64 _ (by have := HP.out; have := HNM.out.1; omega)
  have HT1 := Lib.hid (to_go (fun q => w1.heap.size ≤ q) _ x (Nat.lt_succ_self _) HV1.out HK1.out HC1.out)
  have HT2 := Lib.hid (to_go (fun q => w4.heap.size ≤ q) _ (farV n x) (Nat.lt_succ_self _) HV2.out HK2.out HC2.out)
  clear hB bn hx hw b5 H63 H64 H65 HX3 HX4 HX5 HB3 HB4 HB5
  go_wp2_with fail
  generalize w5.alloc (.cells #[.int .i64 k5, .string t5, .int .u64 n5, .slice a5 l5 c5, .slice a5' l5' c5', .int .i64 ((p : Int) + n)] 27) = w6 at *
  generalize w5.heap.size = q2 at *
  replace hI := hI.step (Below.refl _ _).drew
  have kk := hI.cells
  go_region_held3 (fun W => W.cell? ⟨q1, 0, none⟩ = some (.int .i64 k1) ∧ W.cell? ⟨q1, 1, none⟩ = some (.string t1) ∧ W.cell? ⟨q1, 2, none⟩ = some (.int .u64 n1) ∧ W.cell? ⟨q1, 3, none⟩ = some (.slice a1 l1 c1) ∧ W.cell? ⟨q1, 4, none⟩ = some (.slice a1' l1' c1') ∧ W.cell? ⟨q1, 5, none⟩ = some (.int .i64 (p : Int)) ∧
      W.cell? ⟨q2, 0, none⟩ = some (.int .i64 k5) ∧ W.cell? ⟨q2, 1, none⟩ = some (.string t5) ∧ W.cell? ⟨q2, 2, none⟩ = some (.int .u64 n5) ∧ W.cell? ⟨q2, 3, none⟩ = some (.slice a5 l5 c5) ∧ W.cell? ⟨q2, 4, none⟩ = some (.slice a5' l5' c5') ∧ W.cell? ⟨q2, 5, none⟩ = some (.int .i64 ((p : Int) + n)))
    (first | exact kk | exact hI.cells)
    (first
      | (go_at_call 13; refine (HT1.out _ _ _ _ _ _ _ _ _ _ _ hI.x1).mono ?_; clear HT1; rintro e w7 ⟨aa, la, ca, ab, lb, cb, rfl, hy1, b7⟩; replace hI := hI.step b7; clear b7)
      | (go_at_call 13; refine (HT2.out _ _ _ _ _ _ _ _ _ _ _ hI.x2).mono ?_; clear HT2; rintro e w8 ⟨ba, ma, da, bb, mb, db, rfl, hy2, b8⟩; replace hI := hI.step b8; replace hy1 := hy1.step b8; clear b8)
      | (go_at_call 12; refine (same5_go _ _ n _ x (Nat.lt_succ_self _) HV1.out HK1.out _ _ _ _ _ _ _ _ _ _ _ _ _ _ _ _ _ _ _ _ _ hy1 hy2).mono ?_; rintro e w9 ⟨rfl, b9⟩; replace hI := hI.step b9; clear b9))
  go_wp2_with fail
  go_ret
  refine ⟨?_, hI.below⟩
  have hwz' : IntKind.i64.wrap ((p : Int) + n) = (p : Int) + n := by
    have e1 := HP.out
    have e2 := HNM.out.1
    clear hwz hwn hwm hn1 hm1
    rw [IntKind.wrap_i64]
    omega
  simp [hwz']
end Go.Proofs.YtbaglmjbncalpaaDoor
