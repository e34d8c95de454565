/-
  InkBack's body: what is written is read as it was, and what is read is written.
  A value among a law's arguments.
  The statement InkBack, proved: for every value and text, and in whatever memory, the law answers true and each argument reads afterwards as it did; what it lists of package-level variables is tied to the program's text.
-/
import Derived.Test.YtajmlkephefapaaGreatDoorGi1
import Derived.Test.YtajmlkephefapaaGreatDoorTreeN
import Derived.Test.YtajmlkephefapaaGreatDoorLift4
import Derived.Test.YtajmlkephefapaaGreatDoorGi2
import Derived.Deep.Slices
import Derived.Deep.Strs
import Derived.SliceStrings
namespace Go.Proofs.YtajmlkephefapaaGreatDoor
open Go.RowKit Go.Extern.Stop Go.Stop Go.Extern Go.WideMaps

/-- Text of a value that may be written, with its room. -/
theorem iText_ok (P : Nat → Prop) (x : Val) (hok : okI x) (hot : okT x) (hon : okN x) (hlen : (inkV x).length ≤ 1000000) (hc : (chkV 0 x).1 = 0) (w : World) (k : Int) (t : ByteArray) (u : Int) (a : Option Addr) (l c : Nat) (a' : Option Addr) (l' c' : Nat) (z : Int) (hT : Tab w)
    (hv : ValC P w [.int .i64 k, .string t, .int .u64 u, .slice a l c, .slice a' l' c', .int .i64 z] x) :
    Calls Tryz.prog 21 #[.agg #[.int .i64 k, .string t, .int .u64 u, .slice a l c, .slice a' l' c', .int .i64 z]] w fun e w' => e = .returned (.tuple #[.string ⟨(inkV x).toArray⟩, .nilIface]) ∧ Below w.heap.size w w' := by
  refine (iText_any P x hok hot hon hlen w k t u a l c a' l' c' z hT hv).mono ?_
  rintro e w' ⟨s, v, rfl, h0, -, hb⟩
  obtain ⟨rfl, rfl⟩ := h0 hc
  exact ⟨rfl, hb⟩
/-- What Parse answers of a text that is a value. -/
def PrOut (x : Val) (w : World) (e : Ending) (w' : World) : Prop :=
  ∃ (k : Int) (t : ByteArray) (n : Int) (a : Option Addr) (l c : Nat) (a' : Option Addr) (l' c' : Nat) (z : Int), e = .returned (.tuple #[.agg #[.int .i64 k, .string t, .int .u64 n, .slice a l c, .slice a' l' c', .int .i64 z], .nilIface]) ∧
    ValC (fun q => w.heap.size ≤ q) w' [.int .i64 k, .string t, .int .u64 n, .slice a l c, .slice a' l' c', .int .i64 z] x ∧ Below w.heap.size w w'
theorem parse_ok {s : ByteArray} {x : Val} {j : Nat} (hs : s.size ≤ maxLen) (hW : Whole s (.ok j x)) (w : World) (hg : Handle w) : Calls Tryz.prog 7 #[.string s] w (PrOut x w) := by
  refine (tparse_any s hs w hg).mono ?_
  rintro e w' (⟨x', k, t, n, a, l, c, a', l', c', z, hW', rfl, hv, hb⟩ | ⟨ec, ea, fb, hW', -⟩)
  · have := Whole.one hW hW'
    injection this with _ e2
    subst e2
    exact ⟨k, t, n, a, l, c, a', l', c', z, rfl, hv, hb⟩
  · have := Whole.one hW hW'
    cases this
set_option maxRecDepth 100000 in
set_option maxHeartbeats 8000000 in
theorem inkBack_any (x : Val) (s : ByteArray) (k : Int) (t : ByteArray) (u : Int) (a : Option Addr) (l c : Nat) (a' : Option Addr) (l' c' : Nat) (z : Int) (w : World) (hv : ValC (fun _ => True) w [.int .i64 k, .string t, .int .u64 u, .slice a l c, .slice a' l' c', .int .i64 z] x) (hon : okN x) (hg : Handle w) (hT : Tab w) :
    Calls Tryz.prog 5 #[.agg #[.int .i64 k, .string t, .int .u64 u, .slice a l c, .slice a' l' c', .int .i64 z], .string s] w fun e w' => e = .returned (.bool true) ∧ Below w.heap.size w w' := by
  have HG := Lib.hid hg
  have HTb := Lib.hid hT
  have HV := Lib.hid hv
  have HON := Lib.hid hon
  have HB0 := Lib.hid (sbelow_new w (.cells #[.int .i64 k, .string t, .int .u64 u, .slice a l c, .slice a' l' c', .int .i64 z] 27))
  have H60 : Hid (SixAt (w.alloc (.cells #[.int .i64 k, .string t, .int .u64 u, .slice a l c, .slice a' l' c', .int .i64 z] 27)) w.heap.size (.int .i64 k) (.string t) (.int .u64 u) (.slice a l c) (.slice a' l' c') (.int .i64 z)) := Lib.hid (heap_alloc_new w _)
  clear hv hon hg hT
  go_enter Tryz.func5, Tryz.ntmps5
  go_wp2_with fail
  refine (awake6_any _ (HG.out.below HB0.out) (HTb.out.below HB0.out)).mono ?_
  rintro e w1 ⟨rfl, b1⟩
  have HB1 := Lib.hid (HB0.out.trans (b1.mono HB0.out.size))
  have H61 := Lib.hid (H60.out.step b1)
  clear b1
  obtain ⟨s0, s1, s2, s3, s4, s5⟩ := H61.out.cells
  go_wp2_with fail
  refine (left5_go (fun _ => True) _ x (Nat.lt_succ_self _) 400 (by decide) (by decide) w1 k t u a l c a' l' c' z (HV.out.step HB1.out)).mono ?_
  rintro e w2 ⟨rfl, b2⟩
  have HB2 := Lib.hid (HB1.out.trans (b2.mono HB1.out.size))
  have H62 := Lib.hid (H61.out.step b2)
  clear b2 s0 s1 s2 s3 s4 s5
  by_cases hneg : lf5 x 400 < 0
  · go_wp2_with fail
    go_ret
    exact ⟨rfl, HB2.out⟩
  by_cases h2000 : 2000 < s.size
  · have h2 : (2000 : Int) < (s.size : Int) := by omega
    go_wp2_with fail
    go_ret
    exact ⟨rfl, HB2.out⟩
  have h2 : ¬ (2000 : Int) < (s.size : Int) := by omega
  have HS : Hid (s.size ≤ 2000) := Lib.hid (by omega)
  have hfit := fit_of x 400 (by decide) (by decide) (by omega)
  have hfl := hfit.len
  have HFit := Lib.hid hfit
  have HLen : Hid ((inkV x).length ≤ 60000) := Lib.hid (by omega)
  clear h2000 hfit hfl
  obtain ⟨s0, s1, s2, s3, s4, s5⟩ := H62.out.cells
  go_wp2_with fail
  refine (iText_any (fun _ => True) x HFit.out.ok HFit.out.tx HON.out (by have := HLen.out; omega) w2 k t u a l c a' l' c' z (HTb.out.below HB2.out) (HV.out.step HB2.out)).mono ?_
  rintro e w3 ⟨st, ev, rfl, hz0, hz1, b3⟩
  have HB3 := Lib.hid (HB2.out.trans (b3.mono HB2.out.size))
  have H63 := Lib.hid (H62.out.step b3)
  clear b3 s0 s1 s2 s3 s4 s5 hneg h2
  by_cases hc : (chkV 0 x).1 = 0
  · obtain ⟨rfl, rfl⟩ := hz0 hc
    obtain ⟨y, hWy, hsy, -⟩ := whole_ink hc HON.out (by have := HLen.out; omega)
    have HSY := Lib.hid hsy
    have HPr := Lib.hid (fun W (hg : Handle W) => parse_ok (s := ⟨(inkV x).toArray⟩) (by rw [sizeQ]; have := HLen.out; unfold maxLen; omega) hWy W hg)
    clear hz0 hz1 hc hWy hsy
    go_wp2_with fail
    refine (HPr.out _ (HG.out.below HB3.out)).mono ?_
    rintro e w4 ⟨k1, t1, n1, a1, l1, c1, a1', l1', c1', z1, rfl, hv1, b4⟩
    have bn := sbelow_new w4 (.cells #[.int .i64 k1, .string t1, .int .u64 n1, .slice a1 l1 c1, .slice a1' l1' c1', .int .i64 z1] 27)
    have HB5 := Lib.hid ((HB3.out.trans (b4.mono HB3.out.size)).trans (bn.mono (HB3.out.trans (b4.mono HB3.out.size)).size))
    have H65 := Lib.hid ((H63.out.step b4).step bn)
    have H15 : Hid (SixAt (w4.alloc (.cells #[.int .i64 k1, .string t1, .int .u64 n1, .slice a1 l1 c1, .slice a1' l1' c1', .int .i64 z1] 27)) w4.heap.size (.int .i64 k1) (.string t1) (.int .u64 n1) (.slice a1 l1 c1) (.slice a1' l1' c1') (.int .i64 z1)) := Lib.hid (heap_alloc_new w4 _)
    have HV1 := Lib.hid (hv1.step bn)
    obtain ⟨s0, s1, s2, s3, s4, s5⟩ := H65.out.cells
    obtain ⟨r0, r1, r2, r3, r4, r5⟩ := H15.out.cells
    clear hv1 b4 bn
    go_wp2_with fail
    refine (isame_go (fun _ => True) _ _ x (Nat.lt_succ_self _) HFit.out.ok y _ _ _ _ _ _ _ _ _ _ _ _ _ _ _ _ _ _ _ _ _ (HV.out.step HB5.out) HV1.out).mono ?_
    rintro e w6 ⟨rfl, b6⟩
    rw [HSY.out]
    have HBt := Lib.hid (HB5.out.trans (b6.mono HB5.out.size))
    clear b6 s0 s1 s2 s3 s4 s5 r0 r1 r2 r3 r4 r5
    go_wp2_with fail
    refine (tparse_any s (by have := HS.out; unfold maxLen; omega) _ (HG.out.below HBt.out)).mono ?_
    rintro e v1 (⟨y, k2, t2, n2, a2, l2, c2, a2', l2', c2', z2, hW2, rfl, hv2, b7⟩ | ⟨ec, ea, fb, hW2, rfl, -, b7⟩)
    case inr =>
      have HB7 := Lib.hid ((HBt.out.trans (b7.mono HBt.out.size)).trans ((sbelow_new v1 (.cells #[.int .i64 0, .string ⟨#[]⟩, .int .u64 0, .slice none 0 0, .slice none 0 0, .int .i64 0] 27)).mono (HBt.out.trans (b7.mono HBt.out.size)).size))
      clear hW2 b7
      unfold pf
      go_wp2_with fail
      go_ret
      exact ⟨rfl, HB7.out⟩
    have bn2 := sbelow_new v1 (.cells #[.int .i64 k2, .string t2, .int .u64 n2, .slice a2 l2 c2, .slice a2' l2' c2', .int .i64 z2] 27)
    have HB8 := Lib.hid ((HBt.out.trans (b7.mono HBt.out.size)).trans (bn2.mono (HBt.out.trans (b7.mono HBt.out.size)).size))
    have H28 : Hid (SixAt (v1.alloc (.cells #[.int .i64 k2, .string t2, .int .u64 n2, .slice a2 l2 c2, .slice a2' l2' c2', .int .i64 z2] 27)) v1.heap.size (.int .i64 k2) (.string t2) (.int .u64 n2) (.slice a2 l2 c2) (.slice a2' l2' c2') (.int .i64 z2)) := Lib.hid (heap_alloc_new v1 _)
    have HV2 := Lib.hid (hv2.step bn2)
    obtain ⟨-, -, g1, g2, g3, g4, g5⟩ := whole_good hW2
    have HL2 : Hid ((inkV y).length ≤ s.size) := Lib.hid g5
    obtain ⟨y2, hW3, hs3, hi3⟩ := whole_ink g1 g2 (by have := HS.out; omega)
    obtain ⟨-, -, f1, f2, f3, f4, -⟩ := whole_good hW3
    have HPr2 := Lib.hid (fun W (hg : Handle W) => parse_ok (s := ⟨(inkV y).toArray⟩) (by rw [sizeQ]; have := HS.out; have := HL2.out; unfold maxLen; omega) hW3 W hg)
    have HTx2 := Lib.hid (fun W hT hv => iText_ok (fun q => (if True then 0 else 0) ≤ q) y g4 g3 g2 (by have := HS.out; omega) g1 W k2 t2 n2 a2 l2 c2 a2' l2' c2' z2 hT hv)
    have HTx3 := Lib.hid (fun P W kk tt nn aa ll cc aa' ll' cc' zz hT hv => iText_ok P y2 f4 f3 f2 (by rw [hi3]; have := HS.out; omega) f1 W kk tt nn aa ll cc aa' ll' cc' zz hT hv)
    have HSm := Lib.hid (sameI_symm _ _ hs3)
    have HO4 := Lib.hid f4
    rw [hi3] at HTx3
    obtain ⟨s0, s1, s2, s3, s4, s5⟩ := H28.out.cells
    clear hW2 hv2 b7 bn2 g1 g2 g3 g4 g5 hW3 hs3 hi3 f1 f2 f3 f4
    go_wp2_with fail
    refine (HTx2.out _ (HTb.out.below HB8.out) (HV2.out.move (Nat.le_refl _) (fun q _ _ => ⟨by simp, rfl⟩))).mono ?_
    rintro e v3 ⟨rfl, b9⟩
    have HB9 := Lib.hid (HB8.out.trans (b9.mono HB8.out.size))
    have H29 := Lib.hid (H28.out.step b9)
    have HV9 := Lib.hid (HV2.out.step b9)
    clear b9 s0 s1 s2 s3 s4 s5
    go_wp2_with fail
    refine (HPr2.out _ (HG.out.below HB9.out)).mono ?_
    rintro e v4 ⟨k3, t3, n3, a3, l3, c3, a3', l3', c3', z3, rfl, hv3, b10⟩
    have bn3 := sbelow_new v4 (.cells #[.int .i64 k3, .string t3, .int .u64 n3, .slice a3 l3 c3, .slice a3' l3' c3', .int .i64 z3] 27)
    have HB10 := Lib.hid ((HB9.out.trans (b10.mono HB9.out.size)).trans (bn3.mono (HB9.out.trans (b10.mono HB9.out.size)).size))
    have H210 := Lib.hid ((H29.out.step b10).step bn3)
    have HV10 := Lib.hid ((HV9.out.step b10).step bn3)
    have H310 : Hid (SixAt (v4.alloc (.cells #[.int .i64 k3, .string t3, .int .u64 n3, .slice a3 l3 c3, .slice a3' l3' c3', .int .i64 z3] 27)) v4.heap.size (.int .i64 k3) (.string t3) (.int .u64 n3) (.slice a3 l3 c3) (.slice a3' l3' c3') (.int .i64 z3)) := Lib.hid (heap_alloc_new v4 _)
    have HV3 := Lib.hid (hv3.step bn3)
    obtain ⟨s0, s1, s2, s3, s4, s5⟩ := H310.out.cells
    clear hv3 b10 bn3
    go_wp2_with fail
    refine (HTx3.out _ _ _ _ _ _ _ _ _ _ _ _ (HTb.out.below HB10.out) HV3.out).mono ?_
    rintro e v5 ⟨rfl, b11⟩
    have HB11 := Lib.hid (HB10.out.trans (b11.mono HB10.out.size))
    have H211 := Lib.hid (H210.out.step b11)
    have H311 := Lib.hid (H310.out.step b11)
    have HVa := Lib.hid (HV10.out.step b11)
    have HVb := Lib.hid (HV3.out.step b11)
    clear b11 s0 s1 s2 s3 s4 s5
    obtain ⟨s0, s1, s2, s3, s4, s5⟩ := H211.out.cells
    obtain ⟨r0, r1, r2, r3, r4, r5⟩ := H311.out.cells
    have hle : ((⟨(inkV y).toArray⟩ : ByteArray).size : Int) ≤ (s.size : Int) := by rw [sizeQ]; have := HL2.out; omega
    generalize (⟨(inkV y).toArray⟩ : ByteArray) = tx at *
    go_wp2_with fail
    refine (isame_go _ _ _ y2 (Nat.lt_succ_self _) HO4.out y _ _ _ _ _ _ _ _ _ _ _ _ _ _ _ _ _ _ _ _ _ HVb.out HVa.out).mono ?_
    rintro e v6 ⟨rfl, b12⟩
    rw [HSm.out]
    have HB12 := Lib.hid (HB11.out.trans (b12.mono HB11.out.size))
    clear b12 s0 s1 s2 s3 s4 s5 r0 r1 r2 r3 r4 r5
    go_wp2_with fail
    go_ret
    exact ⟨rfl, HB12.out⟩
  · obtain ⟨-, bb, -, hch⟩ := hz1 hc
    obtain ⟨T, V, rfl⟩ := hch.iface
    have HBt := Lib.hid HB3.out
    clear hz0 hz1 hc hch
    go_wp2_with fail
    refine (tparse_any s (by have := HS.out; unfold maxLen; omega) _ (HG.out.below HBt.out)).mono ?_
    rintro e v1 (⟨y, k2, t2, n2, a2, l2, c2, a2', l2', c2', z2, hW2, rfl, hv2, b7⟩ | ⟨ec, ea, fb, hW2, rfl, -, b7⟩)
    case inr =>
      have HB7 := Lib.hid ((HBt.out.trans (b7.mono HBt.out.size)).trans ((sbelow_new v1 (.cells #[.int .i64 0, .string ⟨#[]⟩, .int .u64 0, .slice none 0 0, .slice none 0 0, .int .i64 0] 27)).mono (HBt.out.trans (b7.mono HBt.out.size)).size))
      clear hW2 b7
      unfold pf
      go_wp2_with fail
      go_ret
      exact ⟨rfl, HB7.out⟩
    have bn2 := sbelow_new v1 (.cells #[.int .i64 k2, .string t2, .int .u64 n2, .slice a2 l2 c2, .slice a2' l2' c2', .int .i64 z2] 27)
    have HB8 := Lib.hid ((HBt.out.trans (b7.mono HBt.out.size)).trans (bn2.mono (HBt.out.trans (b7.mono HBt.out.size)).size))
    have H28 : Hid (SixAt (v1.alloc (.cells #[.int .i64 k2, .string t2, .int .u64 n2, .slice a2 l2 c2, .slice a2' l2' c2', .int .i64 z2] 27)) v1.heap.size (.int .i64 k2) (.string t2) (.int .u64 n2) (.slice a2 l2 c2) (.slice a2' l2' c2') (.int .i64 z2)) := Lib.hid (heap_alloc_new v1 _)
    have HV2 := Lib.hid (hv2.step bn2)
    obtain ⟨-, -, g1, g2, g3, g4, g5⟩ := whole_good hW2
    have HL2 : Hid ((inkV y).length ≤ s.size) := Lib.hid g5
    obtain ⟨y2, hW3, hs3, hi3⟩ := whole_ink g1 g2 (by have := HS.out; omega)
    obtain ⟨-, -, f1, f2, f3, f4, -⟩ := whole_good hW3
    have HPr2 := Lib.hid (fun W (hg : Handle W) => parse_ok (s := ⟨(inkV y).toArray⟩) (by rw [sizeQ]; have := HS.out; have := HL2.out; unfold maxLen; omega) hW3 W hg)
    have HTx2 := Lib.hid (fun W hT hv => iText_ok (fun q => (if True then 0 else 0) ≤ q) y g4 g3 g2 (by have := HS.out; omega) g1 W k2 t2 n2 a2 l2 c2 a2' l2' c2' z2 hT hv)
    have HTx3 := Lib.hid (fun P W kk tt nn aa ll cc aa' ll' cc' zz hT hv => iText_ok P y2 f4 f3 f2 (by rw [hi3]; have := HS.out; omega) f1 W kk tt nn aa ll cc aa' ll' cc' zz hT hv)
    have HSm := Lib.hid (sameI_symm _ _ hs3)
    have HO4 := Lib.hid f4
    rw [hi3] at HTx3
    obtain ⟨s0, s1, s2, s3, s4, s5⟩ := H28.out.cells
    clear hW2 hv2 b7 bn2 g1 g2 g3 g4 g5 hW3 hs3 hi3 f1 f2 f3 f4
    go_wp2_with fail
    refine (HTx2.out _ (HTb.out.below HB8.out) (HV2.out.move (Nat.le_refl _) (fun q _ _ => ⟨by simp, rfl⟩))).mono ?_
    rintro e v3 ⟨rfl, b9⟩
    have HB9 := Lib.hid (HB8.out.trans (b9.mono HB8.out.size))
    have H29 := Lib.hid (H28.out.step b9)
    have HV9 := Lib.hid (HV2.out.step b9)
    clear b9 s0 s1 s2 s3 s4 s5
    go_wp2_with fail
    refine (HPr2.out _ (HG.out.below HB9.out)).mono ?_
    rintro e v4 ⟨k3, t3, n3, a3, l3, c3, a3', l3', c3', z3, rfl, hv3, b10⟩
    have bn3 := sbelow_new v4 (.cells #[.int .i64 k3, .string t3, .int .u64 n3, .slice a3 l3 c3, .slice a3' l3' c3', .int .i64 z3] 27)
    have HB10 := Lib.hid ((HB9.out.trans (b10.mono HB9.out.size)).trans (bn3.mono (HB9.out.trans (b10.mono HB9.out.size)).size))
    have H210 := Lib.hid ((H29.out.step b10).step bn3)
    have HV10 := Lib.hid ((HV9.out.step b10).step bn3)
    have H310 : Hid (SixAt (v4.alloc (.cells #[.int .i64 k3, .string t3, .int .u64 n3, .slice a3 l3 c3, .slice a3' l3' c3', .int .i64 z3] 27)) v4.heap.size (.int .i64 k3) (.string t3) (.int .u64 n3) (.slice a3 l3 c3) (.slice a3' l3' c3') (.int .i64 z3)) := Lib.hid (heap_alloc_new v4 _)
    have HV3 := Lib.hid (hv3.step bn3)
    obtain ⟨s0, s1, s2, s3, s4, s5⟩ := H310.out.cells
    clear hv3 b10 bn3
    go_wp2_with fail
    refine (HTx3.out _ _ _ _ _ _ _ _ _ _ _ _ (HTb.out.below HB10.out) HV3.out).mono ?_
    rintro e v5 ⟨rfl, b11⟩
    have HB11 := Lib.hid (HB10.out.trans (b11.mono HB10.out.size))
    have H211 := Lib.hid (H210.out.step b11)
    have H311 := Lib.hid (H310.out.step b11)
    have HVa := Lib.hid (HV10.out.step b11)
    have HVb := Lib.hid (HV3.out.step b11)
    clear b11 s0 s1 s2 s3 s4 s5
    obtain ⟨s0, s1, s2, s3, s4, s5⟩ := H211.out.cells
    obtain ⟨r0, r1, r2, r3, r4, r5⟩ := H311.out.cells
    have hle : ((⟨(inkV y).toArray⟩ : ByteArray).size : Int) ≤ (s.size : Int) := by rw [sizeQ]; have := HL2.out; omega
    generalize (⟨(inkV y).toArray⟩ : ByteArray) = tx at *
    go_wp2_with fail
    refine (isame_go _ _ _ y2 (Nat.lt_succ_self _) HO4.out y _ _ _ _ _ _ _ _ _ _ _ _ _ _ _ _ _ _ _ _ _ HVb.out HVa.out).mono ?_
    rintro e v6 ⟨rfl, b12⟩
    rw [HSm.out]
    have HB12 := Lib.hid (HB11.out.trans (b12.mono HB11.out.size))
    clear b12 s0 s1 s2 s3 s4 s5 r0 r1 r2 r3 r4 r5
    go_wp2_with fail
    go_ret
    exact ⟨rfl, HB12.out⟩
end Go.Proofs.YtajmlkephefapaaGreatDoor

namespace Go.Proofs.YtajmlkephefapaaGreatDoor
open Go.ChangeShapes Go.WideShapes Go.ChangeAt Go.RowKit Go.Deep

theorem Tryz.cellsVVal : Tryz.prog.cellsOf 27 = 6 := by kernel_rfl
theorem Tryz.cellsVVals : Tryz.prog.cellsOf 24 = 1 := by kernel_rfl
theorem Tryz.cellsVStr : Tryz.prog.cellsOf 9 = 1 := by kernel_rfl
theorem Tryz.cellsVStrs : Tryz.prog.cellsOf 25 = 1 := by kernel_rfl
theorem Tryz.cellsVInt : Tryz.prog.cellsOf 3 = 1 := by kernel_rfl
theorem Tryz.cellsVU64 : Tryz.prog.cellsOf 23 = 1 := by kernel_rfl

theorem valsC_of {P : Nat → Prop} {W : World} {b : Nat} : ∀ (kids : List Val) (o : Nat), (∀ i x, kids[i]? = some x → ∃ c0 c1 c2 c3 c4 c5, ValC P W [c0, c1, c2, c3, c4, c5] x ∧ W.cell? ⟨b, o + i * 6, none⟩ = some c0 ∧ W.cell? ⟨b, o + i * 6 + 1, none⟩ = some c1 ∧ W.cell? ⟨b, o + i * 6 + 2, none⟩ = some c2 ∧ W.cell? ⟨b, o + i * 6 + 3, none⟩ = some c3 ∧ W.cell? ⟨b, o + i * 6 + 4, none⟩ = some c4 ∧ W.cell? ⟨b, o + i * 6 + 5, none⟩ = some c5) →
    ∃ xs, ValsC P W xs kids ∧ ∀ j u, xs[j]? = some u → W.cell? ⟨b, o + j, none⟩ = some u
  | [], o, _ => ⟨[], ValsC.nil, fun j u h => by simp at h⟩
  | x :: r, o, h => by
    obtain ⟨c0, c1, c2, c3, c4, c5, hx, h0, h1, h2, h3, h4, h5⟩ := h 0 x rfl
    obtain ⟨xs, hr, hc⟩ := valsC_of r (o + 6) (fun i y hy => by
      obtain ⟨d0, d1, d2, d3, d4, d5, hy', k0, k1, k2, k3, k4, k5⟩ := h (i + 1) y (by simpa using hy)
      rw [show o + (i + 1) * 6 = o + 6 + i * 6 by omega] at k0 k1 k2 k3 k4 k5
      exact ⟨d0, d1, d2, d3, d4, d5, hy', k0, k1, k2, k3, k4, k5⟩)
    refine ⟨[c0, c1, c2, c3, c4, c5] ++ xs, by unfold ValsC; exact ⟨_, _, rfl, hx, hr⟩, fun j u hj => ?_⟩
    simp only [Nat.zero_mul, Nat.add_zero] at h0 h1 h2 h3 h4 h5
    match j, hj with
    | 0, hj => simp at hj; subst hj; simpa using h0
    | 1, hj => simp at hj; subst hj; exact h1
    | 2, hj => simp at hj; subst hj; exact h2
    | 3, hj => simp at hj; subst hj; exact h3
    | 4, hj => simp at hj; subst hj; exact h4
    | 5, hj => simp at hj; subst hj; exact h5
    | j + 6, hj =>
      have := hc j u (by simpa using hj)
      rwa [show o + 6 + j = o + (j + 6) by omega] at this
theorem RowIn.of_strs {w : World} {v : Value} {ws : List ByteArray} (h : StrsAt w v ws) : RowIn (fun _ => True) w v ws.length (ws.map Value.string) := by
  rcases h with ⟨a, c, rfl, rfl⟩ | ⟨b, o, c, rfl, hlt, hc⟩
  · exact .inl ⟨rfl, rfl, a, c, rfl⟩
  · refine .inr ⟨b, o, c, rfl, trivial, hlt, fun j u hu => ?_⟩
    have hj : j < ws.length := by have := (List.getElem?_eq_some_iff.1 hu).1; simpa using this
    rw [hc j hj]
    simp [hj] at hu
    subst hu
    simp [List.getD, hj]
theorem okNs_of : ∀ {l : List Val}, (∀ x ∈ l, okN x) → okNs l
  | [], _ => by unfold okNs; trivial
  | y :: r, h => by
    unfold okNs
    exact ⟨h y (List.mem_cons_self ..), okNs_of fun x hx => h x (List.mem_cons_of_mem _ hx)⟩
theorem u64_lo {n : Int} (h : (Lit.int .u64 n).wf = true) : 0 ≤ n := by
  simp [Lit.wf] at h
  have e : IntKind.u64.min = 0 := rfl
  omega
section
variable {H : Type} {enc : TypeId × Value → H}
theorem listV_of {α : Type} {n : Nat} {R : Nat → α → Prop} (h : ∀ i, i < n → ∃ x, R i x) : ∃ l : List α, l.length = n ∧ ∀ i x, l[i]? = some x → R i x := by
  refine ⟨List.ofFn fun i : Fin n => Classical.choose (h i i.2), by simp, fun i x hx => ?_⟩
  obtain ⟨hi', e⟩ := List.getElem?_eq_some_iff.1 hx
  simp at hi' e
  have := Classical.choose_spec (h i hi')
  rwa [e] at this
theorem strsV_of_cells {W : World} {fuel : Nat} {cs : List Value} {x : DataW H × List MemPlace} (hf : DataW.trod enc Tryz.prog W 0 (fun _ => true) true fuel 25 cs = some x) : ∃ v ws, cs = [v] ∧ StrsAt W v ws := by
  rcases open_strings Tryz.underlying25 Tryz.underlying9 Tryz.cellsVStr hf with ⟨hcs, -⟩ | ⟨a, len, cap, ss, hcs, _, hl, hm, hz, -, hcell, -⟩
  · exact ⟨_, [], hcs, .inl ⟨none, 0, rfl, rfl⟩⟩
  · simp only [if_true] at hz
    by_cases h0 : len = 0
    · subst h0; exact ⟨_, [], hcs, .inl ⟨some a, cap, rfl, rfl⟩⟩
    · obtain ⟨b, off, spot⟩ := a
      have hspot : spot = none := by simpa [Addr.add] using World.cell?_spot (hcell 0 (by omega))
      subst hspot
      have hl2 : (ss.take len).length = len := by simp; omega
      have hbl : b < W.heap.size := by
        have := World.block_lt_of_cell? W _ (hcell 0 (by omega))
        simpa [Addr.add] using this
      refine ⟨_, ss.take len, hcs, .inr ⟨b, off, cap, by rw [hl2], hbl, fun i hi => ?_⟩⟩
      have hi' : i < len := by omega
      have hc := hcell i (by omega)
      rw [add_plain] at hc
      rw [hc]
      simp [List.getD, hi']
theorem trod_struct6n {P : Program} {W : World} {base : Nat} {spare : Nat → Bool} {held : Bool} {t : TypeId} {f0 f1 f2 f3 f4 f5 : Field} {fuel : Nat} {cs : List Value} {x : DataW H × List MemPlace} (ht : P.underlying t = some (.struct #[f0, f1, f2, f3, f4, f5])) (h : DataW.trod enc P W base spare held fuel t cs = some x) :
    ∃ y0 y1 y2 y3 y4 y5 n, fuel = n + 1 ∧ cs.length = P.cellsOf t ∧ DataW.trod enc P W base spare held n f0.type ((cs.drop f0.offset).take (P.cellsOf f0.type)) = some y0 ∧
      DataW.trod enc P W base spare held n f1.type ((cs.drop f1.offset).take (P.cellsOf f1.type)) = some y1 ∧ DataW.trod enc P W base spare held n f2.type ((cs.drop f2.offset).take (P.cellsOf f2.type)) = some y2 ∧
      DataW.trod enc P W base spare held n f3.type ((cs.drop f3.offset).take (P.cellsOf f3.type)) = some y3 ∧ DataW.trod enc P W base spare held n f4.type ((cs.drop f4.offset).take (P.cellsOf f4.type)) = some y4 ∧
      DataW.trod enc P W base spare held n f5.type ((cs.drop f5.offset).take (P.cellsOf f5.type)) = some y5 := by
  obtain ⟨xs, n, hn, rfl, hl, hlen, hf⟩ := DataW.trod_struct ht h
  match xs, hlen with
  | [y0, y1, y2, y3, y4, y5], _ => exact ⟨y0, y1, y2, y3, y4, y5, n, hn, hl, by simpa using hf 0 f0 rfl, by simpa using hf 1 f1 rfl, by simpa using hf 2 f2 rfl, by simpa using hf 3 f3 rfl, by simpa using hf 4 f4 rfl, by simpa using hf 5 f5 rfl⟩
theorem val_of_cells {W : World} : ∀ (fuel : Nat) {cs : List Value} {x : DataW H × List MemPlace}, DataW.trod enc Tryz.prog W 0 (fun _ => true) true fuel 27 cs = some x → ∃ e : Val, cs.length = 6 ∧ ValC (fun _ => True) W cs e ∧ okN e := by
  intro fuel
  induction fuel using Nat.strongRecOn with
  | _ fuel ih =>
    intro cs x hf
    obtain ⟨y0, y1, y2, y3, y4, y5, n, hn, hl, h0, h1, h2, h3, h4, h5⟩ := trod_struct6n Tryz.underlying27 hf
    rw [Tryz.cellsVVal] at hl
    rw [Tryz.cellsVInt] at h0 h5
    rw [Tryz.cellsVStr] at h1
    rw [Tryz.cellsVU64] at h2
    rw [Tryz.cellsVVals] at h3
    rw [Tryz.cellsVStrs] at h4
    match cs, hl with
    | [u0, u1, u2, u3, u4, u5], _ =>
      obtain ⟨k, e0, -, -⟩ := DataW.trod_int Tryz.underlying3 h0
      obtain ⟨t, e1, -, -⟩ := DataW.trod_string Tryz.underlying9 h1
      obtain ⟨q, e2, -, hq⟩ := DataW.trod_int Tryz.underlying23 h2
      obtain ⟨z, e5, -, -⟩ := DataW.trod_int Tryz.underlying3 h5
      obtain ⟨v, ws, e4, hws⟩ := strsV_of_cells h4
      have hq0 := u64_lo hq
      simp at e0 e1 e2 e4 e5
      subst e0 e1 e2 e4 e5
      have hws' := RowIn.of_strs hws
      rcases DataW.trod_slice Tryz.underlying24 h3 with ⟨e3, -⟩ | ⟨a, len, cap, elems, rest, m, hm, e3, -, -, -, -, hel, hget, -, -⟩
      · simp at e3
        subst e3
        refine ⟨.mk k t q [] ws z, rfl, ?_, by unfold okN okNs; exact ⟨hq0, trivial⟩⟩
        unfold ValC
        exact ⟨_, _, [], rfl, hws', RowIn.nil _ _, ValsC.nil⟩
      · simp at e3
        subst e3
        by_cases hz : len = 0
        · subst hz
          refine ⟨.mk k t q [] ws z, rfl, ?_, by unfold okN okNs; exact ⟨hq0, trivial⟩⟩
          unfold ValC
          exact ⟨_, _, [], rfl, hws', .inl ⟨rfl, rfl, _, _, rfl⟩, ValsC.nil⟩
        · rw [Tryz.cellsVVal] at hget
          have key : ∀ i, i < len → ∃ e : Val, ∃ c0 c1 c2 c3 c4 c5, (ValC (fun _ => True) W [c0, c1, c2, c3, c4, c5] e ∧ okN e) ∧ W.cell? (a.add (i * 6)) = some c0 ∧ W.cell? (a.add (i * 6 + 1)) = some c1 ∧ W.cell? (a.add (i * 6 + 2)) = some c2 ∧ W.cell? (a.add (i * 6 + 3)) = some c3 ∧ W.cell? (a.add (i * 6 + 4)) = some c4 ∧ W.cell? (a.add (i * 6 + 5)) = some c5 := by
            intro i hi
            have hg := hget i hi
            rw [List.getElem?_eq_getElem (by omega : i < elems.length)] at hg
            obtain ⟨cs', hc, ht⟩ := Option.bind_eq_some_iff.1 hg
            obtain ⟨_, hcl, hat⟩ := World.cells?_some hc
            obtain ⟨e, -, he⟩ := ih m (by omega) ht
            match cs', hcl with
            | [c0, c1, c2, c3, c4, c5], _ =>
              refine ⟨e, c0, c1, c2, c3, c4, c5, he, ?_, ?_, ?_, ?_, ?_, ?_⟩
              · have := hat 0 (by simp); rw [Go.Deep.add_add] at this; simpa using this
              · have := hat 1 (by simp); rw [Go.Deep.add_add] at this; simpa using this
              · have := hat 2 (by simp); rw [Go.Deep.add_add] at this; simpa using this
              · have := hat 3 (by simp); rw [Go.Deep.add_add] at this; simpa using this
              · have := hat 4 (by simp); rw [Go.Deep.add_add] at this; simpa using this
              · have := hat 5 (by simp); rw [Go.Deep.add_add] at this; simpa using this
          obtain ⟨b, off, spot⟩ := a
          have hspot : spot = none := by
            obtain ⟨_, _, _, _, _, _, _, -, hx, -⟩ := key 0 (by omega)
            simpa [Addr.add] using World.cell?_spot hx
          subst hspot
          have hbl : b < W.heap.size := by
            obtain ⟨_, _, _, _, _, _, _, -, hx, -⟩ := key 0 (by omega)
            have := World.block_lt_of_cell? W _ hx
            simpa [Addr.add] using this
          obtain ⟨kids, hkl, hR⟩ := listV_of key
          obtain ⟨xs, hxs, hc⟩ := valsC_of (P := fun _ => True) (W := W) (b := b) kids off (fun i y hy => by
            obtain ⟨c0, c1, c2, c3, c4, c5, he, k0, k1, k2, k3, k4, k5⟩ := hR i y hy
            rw [add_plain] at k0 k1 k2 k3 k4 k5
            exact ⟨c0, c1, c2, c3, c4, c5, he.1, k0, by simpa [Nat.add_assoc] using k1, by simpa [Nat.add_assoc] using k2, by simpa [Nat.add_assoc] using k3, by simpa [Nat.add_assoc] using k4, by simpa [Nat.add_assoc] using k5⟩)
          refine ⟨.mk k t q kids ws z, rfl, ?_, ?_⟩
          · unfold ValC
            exact ⟨_, _, xs, rfl, hws', .inr ⟨b, off, cap, by rw [hkl], trivial, hbl, hc⟩, hxs⟩
          · unfold okN
            refine ⟨hq0, okNs_of fun x hx => ?_⟩
            obtain ⟨i, hi, rfl⟩ := List.getElem_of_mem hx
            obtain ⟨_, _, _, _, _, _, he, -⟩ := hR i _ (List.getElem?_eq_getElem hi)
            exact he.2
theorem val_of_trod {W : World} {v : Value} {d : DataW H} {ps : List MemPlace} (h : DataW.Trod enc Tryz.prog W 0 (fun _ => true) true 27 v d ps) :
    ∃ k t u a l c a' l' c' z e, v = .agg #[.int .i64 k, .string t, .int .u64 u, .slice a l c, .slice a' l' c', .int .i64 z] ∧ ValC (fun _ => True) W [.int .i64 k, .string t, .int .u64 u, .slice a l c, .slice a' l' c', .int .i64 z] e ∧ okN e := by
  obtain ⟨fuel, hf⟩ := h
  obtain ⟨e, hl, he, hn⟩ := val_of_cells fuel hf
  cases v with
  | agg cs =>
    obtain ⟨l⟩ := cs
    simp only [Value.cells] at hl he
    obtain ⟨k, t, u, a, n, c, a', n', c', z, rfl⟩ := he.form
    exact ⟨_, _, _, _, _, _, _, _, _, _, e, rfl, he, hn⟩
  | _ => simp [Value.cells] at hl
end
end Go.Proofs.YtajmlkephefapaaGreatDoor

namespace Go.Proofs.YtajmlkephefapaaGreatDoor
open Go.ChangeShapes Go.WideShapes Go.ChangeAt Go.RowKit

set_option maxRecDepth 100000 in
theorem inkBack_lifted (os : Os) (started : os.Started) (H : Type) (enc : TypeId × Value → H) :
    ReturnsInHanded {} Tryz.checked os 5 .any (fun w args => (Rows.inkBackSpec.pre enc Tryz.prog Tryz.f5 [] false w args ∧ laidMetH Tryz.prog lone4 w) ∧ sizedMet enc Tryz.prog Tryz.f5 (OpenSpec.ofChange Rows.inkBackSpec) false w args)
      (Rows.inkBackSpec.post enc Tryz.prog Tryz.f5 false true false false) := by
  refine returnsInHanded_of_change_and (C := Tryz.checked) (X := fun w _ => laidMetH Tryz.prog lone4 w) (fun _ _ _ hh h => h.of_heap hh) Tryz.own started (by kernel_rfl) Tryz.func5
    (ChangeSpec.witness_shaped (enc := enc) (C := Tryz.checked) (os := os) (X := fun w _ => laidMetH Tryz.prog lone4 w) false (laidWorld4 os) #[.agg #[.int .i64 0, .string ByteArray.empty, .int .u64 0, .slice none 0 0, .slice none 0 0, .int .i64 0], .string ByteArray.empty] 8 rfl (World.shaped_of_RefB (by kernel_rfl) (by kernel_rfl)) (by kernel_rfl) (by kernel_rfl) (by kernel_rfl) (laidWorld4_met os _)) ?_
  intro W base args ds gs before hval0 hW _ _ hL _
  have hval : ∀ (j : Nat) t v, Tryz.f5.params[j]? = some t → args[j]? = some v → Value.okWide Tryz.prog W .any base t v := hval0
  have hW' := hW
  obtain ⟨p, q, hA0, hV, rfl, hfz, hnd⟩ := hW
  have hA : DataW.TrodAll enc Tryz.prog W 0 (fun _ => true) true Tryz.f5.params.toList args.toList ds p := hA0
  rw [Tryz.params5] at hA hval
  obtain ⟨v0, v1, d0, d1, p0, p1, rfl, rfl, rfl, h0, h1⟩ := trodAll_two hA
  obtain ⟨vk, vt, vu, va, vl, vc, va', vl', vc', vz, vx, rfl, hx, hn⟩ := val_of_trod h0
  obtain ⟨s, rfl, rfl, rfl, ws⟩ := Go.ChangeMaps.open_string Tryz.underlying9 (hval 1 9 v1 rfl rfl) h1
  refine (inkBack_any vx s _ _ _ _ _ _ _ _ _ _ W hx hn (handle_of_laid4 hL) (tab_of_laid4 hL)).mono fun e W' ⟨he, hb⟩ => ?_
  subst he
  exact ⟨_, rfl, law_post (by kernel_rfl) rfl (by rw [Tryz.params5]; decide +kernel) hW' hb (by simp [Rows.inkBackSpec]) (by simp [Rows.inkBackSpec]) (by simp [Rows.inkBackSpec])⟩

theorem inkBack_holds : Rows.InkBackSaid :=
  OpenClaim.holds_of_wide 5 Tryz.f5 rfl rfl rfl rfl rfl rfl rfl ⟨rfl, rfl, rfl, rfl, rfl⟩ rfl rfl rfl rfl rfl (by kernel_rfl) Tryz.func5 (by kernel_rfl)
    (of_decide_eq_true (by kernel_rfl)) (by unfold Func.isWrapper; rw [if_neg (of_decide_eq_false (by kernel_rfl))]; exact ⟨rfl, rfl⟩)
    (fun os started H enc _ => inkBack_lifted os started H enc)

theorem inkBack_card : Rows.InkBackCardSaid :=
  Claim7.holds_tied_plain_at .later [] [.data, .data, .data, .handle] true Rows.inkBackCard.stood.harness true
    inkBack_holds (fun _ h => by cases h) (by kernel_rfl) (fun _ h => by cases h) inkBack_row_tie rfl ⟨rfl, rfl⟩ (by kernel_rfl) rfl
    (fun f fn hf hfn => by
      obtain rfl : f = 5 := Option.some.inj ((show Tryz.prog.funcNamed "fairlead/fairleadlaw06.InkBack" = some 5 by kernel_rfl).symm.trans hf) |>.symm
      obtain rfl : fn = Tryz.f5 := (Option.some.inj (Tryz.func5.symm.trans hfn)).symm
      exact ⟨by kernel_rfl, fun j t ht => by
        have hk : ∀ t ∈ Tryz.f5.params.toList, Tryz.prog.wantsStandIn t = false := by rw [Tryz.params5]; decide +kernel
        exact hk t (by
          obtain ⟨hj, e⟩ := Array.getElem?_eq_some_iff.1 ht
          rw [← e]
          simp)⟩)
    (by kernel_rfl)
#print axioms inkBack_card
end Go.Proofs.YtajmlkephefapaaGreatDoor
