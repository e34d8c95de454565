/-
  Package tree by contracts, fifteenth part: chapter 5's example holds.
  Package tree by contracts, sixteenth part: chapter 5's awake.
-/
import Derived.Test.YtajmlkephefapaaGreatDoorTreeP
import Derived.Test.YtajmlkephefapaaGreatDoorAwk3
namespace Go.Proofs.YtajmlkephefapaaGreatDoor
open Go.RowKit Go.Extern.Stop Go.Stop Go.Extern Go.WideMaps

def t5a : ByteArray := ⟨#[91, 49, 44, 32, 123, 34, 97, 34, 58, 32, 34, 98, 34, 125, 93]⟩
def t5b : ByteArray := ⟨#[91, 49, 44, 93]⟩
theorem sk_here {s : ByteArray} {k : Nat} (h : k < s.size) (hb : isBl (s[k].toNat : Int) = false) : sk s k = k := runTo_stop h hb
theorem sk_on {s : ByteArray} {k : Nat} (h : k < s.size) (hb : isBl (s[k].toNat : Int) = true) : sk s k = sk s (k + 1) := runTo_go h hb
theorem num_of {s : ByteArray} {k j : Nat} {n : Int} (hr : runTo isDig s k = j) (hj : j ≠ k) (hd : parseR (s.extract k j).data.toList = (n, 0, 0)) : numC s k = 0 ∧ numK s k = j ∧ numN s k = n := by
  have e : digsR s k = (n, 0, 0) := by unfold digsR; rw [hr]; exact hd
  unfold numC numK numN
  rw [hr, if_neg hj, if_neg hj, if_neg hj, e]
  exact ⟨rfl, rfl, rfl⟩
theorem leaf_num {s : ByteArray} {k j : Nat} {n : Int} (h : byteI s k ≠ 110 ∧ byteI s k ≠ 102 ∧ byteI s k ≠ 116 ∧ byteI s k ≠ 34) (hc : numC s k = 0 ∧ numK s k = j ∧ numN s k = n) : leafR s k = .ok j (.mk 3 ⟨#[]⟩ n [] [] k) := by
  unfold leafR
  rw [if_neg h.1, if_neg h.2.1, if_neg h.2.2.1, if_neg h.2.2.2, if_pos hc.1, hc.2.1, hc.2.2]
theorem leaf_bad {s : ByteArray} {k : Nat} (h : byteI s k ≠ 110 ∧ byteI s k ≠ 102 ∧ byteI s k ≠ 116 ∧ byteI s k ≠ 34) (hc : numC s k ≠ 0) : leafR s k = .er (numC s k) k := by
  unfold leafR
  rw [if_neg h.1, if_neg h.2.1, if_neg h.2.2.1, if_neg h.2.2.2, if_neg hc]
theorem txt_one {s : ByteArray} {k : Nat} (h : byteI s k ≠ 34) (hs : (signR s k).c = 0 ∧ (signR s k).k = k + 1) (he : byteI s (k + 1) = 34) : txtR s k = ⟨0, 0, k + 2, [(signR s k).b]⟩ := by
  rw [txtR_go h hs.1, hs.2, txtR_end he]
theorem num5a : numC t5a 1 = 0 ∧ numK t5a 1 = 2 ∧ numN t5a 1 = 1 := num_of (by rw [runTo_go (by decide) (by decide), runTo_stop (by decide) (by decide)]) (by decide) (by decide)
theorem num5b : numC t5b 1 = 0 ∧ numK t5b 1 = 2 ∧ numN t5b 1 = 1 := num_of (by rw [runTo_go (by decide) (by decide), runTo_stop (by decide) (by decide)]) (by decide) (by decide)
theorem key5a : quoR t5a 5 = ⟨0, 0, 8, [97]⟩ := by
  unfold quoR
  rw [if_pos (by decide), txt_one (by decide) (by decide) (by decide)]
  rfl
theorem txt5a : quoR t5a 10 = ⟨0, 0, 13, [98]⟩ := by
  unfold quoR
  rw [if_pos (by decide), txt_one (by decide) (by decide) (by decide)]
  rfl
def v5a : Val := .mk 5 ⟨#[]⟩ 0 [.mk 3 ⟨#[]⟩ 1 [] [] 1, .mk 6 ⟨#[]⟩ 0 [.mk 4 ⟨#[98]⟩ 0 [] [] 10] [⟨#[97]⟩] 4] [] 0
theorem sk5a : sk t5a 0 = 0 ∧ sk t5a 1 = 1 ∧ sk t5a 2 = 2 ∧ sk t5a 3 = 4 ∧ sk t5a 5 = 5 ∧ sk t5a 8 = 8 ∧ sk t5a 9 = 10 ∧ sk t5a 13 = 13 ∧ sk t5a 14 = 14 ∧ sk t5a 15 = 15 :=
  ⟨sk_here (by decide) (by decide), sk_here (by decide) (by decide), sk_here (by decide) (by decide), (sk_on (by decide) (by decide)).trans (sk_here (by decide) (by decide)), sk_here (by decide) (by decide), sk_here (by decide) (by decide),
    (sk_on (by decide) (by decide)).trans (sk_here (by decide) (by decide)), sk_here (by decide) (by decide), sk_here (by decide) (by decide), runTo_end (by decide)⟩
theorem whole5a : Whole t5a (.ok 15 v5a) := by
  obtain ⟨s0, s1, s2, s3, s5, s8, s9, s13, s14, s15⟩ := sk5a
  have l1 : V t5a 1 1 (.ok 2 (.mk 3 ⟨#[]⟩ 1 [] [] 1)) := by
    have := W.leaf (s := t5a) 1 1 (by decide)
    rwa [leaf_num (by decide) num5a] at this
  have l10 : V t5a 2 10 (.ok 13 (.mk 4 ⟨#[98]⟩ 0 [] [] 10)) := by
    have := W.leaf (s := t5a) 2 10 (by decide)
    unfold leafR at this
    rw [if_neg (by decide), if_neg (by decide), if_neg (by decide), if_pos (by decide), txt5a] at this
    exact this
  have k5 : keyR t5a 123 5 [] = .ok 10 ⟨#[97]⟩ := by
    unfold keyR
    rw [if_neg (by decide), key5a, if_neg (by decide), if_neg (by decide), s8, if_pos (by decide), s9]
  have i5 : I t5a 2 123 5 [] (.ok 14 [.mk 4 ⟨#[98]⟩ 0 [] [] 10] [⟨#[97]⟩]) := by
    have := W.last (s := t5a) 2 123 5 [] 10 ⟨#[97]⟩ 13 _ k5 l10 (by rw [s13]; decide)
    rwa [s13] at this
  have o4 : V t5a 1 4 (.ok 14 (.mk 6 ⟨#[]⟩ 0 [.mk 4 ⟨#[98]⟩ 0 [] [] 10] [⟨#[97]⟩] 4)) := by
    have b4 : byteI t5a 4 = 123 := by decide
    have := W.some (s := t5a) 1 4 (.ok 14 [.mk 4 ⟨#[98]⟩ 0 [] [] 10] [⟨#[97]⟩]) (by decide) (by decide) (by rw [s5]; decide) (by rw [s5, b4]; exact i5)
    rw [b4] at this
    exact this
  have i4 : I t5a 1 91 4 [⟨#[]⟩] (.ok 15 [.mk 6 ⟨#[]⟩ 0 [.mk 4 ⟨#[98]⟩ 0 [] [] 10] [⟨#[97]⟩] 4] [⟨#[]⟩]) := by
    have := W.last (s := t5a) 1 91 4 [⟨#[]⟩] 4 ⟨#[]⟩ 14 _ (by unfold keyR; rw [if_pos rfl]) o4 (by rw [s14]; decide)
    rwa [s14] at this
  have i1 : I t5a 1 91 1 [] (.ok 15 [.mk 3 ⟨#[]⟩ 1 [] [] 1, .mk 6 ⟨#[]⟩ 0 [.mk 4 ⟨#[98]⟩ 0 [] [] 10] [⟨#[97]⟩] 4] [⟨#[]⟩, ⟨#[]⟩]) :=
    W.more (s := t5a) 1 91 1 [] 1 ⟨#[]⟩ 2 _ (.ok 15 [.mk 6 ⟨#[]⟩ 0 [.mk 4 ⟨#[98]⟩ 0 [] [] 10] [⟨#[97]⟩] 4] [⟨#[]⟩]) (by unfold keyR; rw [if_pos rfl]) l1 (by rw [s2]; decide) (by rw [s2, s3]; exact i4)
  have o0 : V t5a 0 0 (.ok 15 v5a) := by
    have b0 : byteI t5a 0 = 91 := by decide
    have := W.some (s := t5a) 0 0 (.ok 15 [.mk 3 ⟨#[]⟩ 1 [] [] 1, .mk 6 ⟨#[]⟩ 0 [.mk 4 ⟨#[98]⟩ 0 [] [] 10] [⟨#[97]⟩] 4] [⟨#[]⟩, ⟨#[]⟩]) (by decide) (by decide) (by rw [s1]; decide) (by rw [s1, b0]; exact i1)
    rw [b0] at this
    exact this
  exact .inr ⟨by decide, _, by rw [s0]; exact o0, .inr ⟨15, v5a, rfl, .inl ⟨s15, rfl⟩⟩⟩
theorem whole5b : Whole t5b (.er 4 3) := by
  have s0 : sk t5b 0 = 0 := sk_here (by decide) (by decide)
  have s1 : sk t5b 1 = 1 := sk_here (by decide) (by decide)
  have s2 : sk t5b 2 = 2 := sk_here (by decide) (by decide)
  have s3 : sk t5b 3 = 3 := sk_here (by decide) (by decide)
  have l1 : V t5b 1 1 (.ok 2 (.mk 3 ⟨#[]⟩ 1 [] [] 1)) := by
    have := W.leaf (s := t5b) 1 1 (by decide)
    rwa [leaf_num (by decide) num5b] at this
  have c3 : numC t5b 3 = 4 := by
    unfold numC
    rw [if_pos (runTo_stop (by decide) (by decide))]
    decide
  have l3 : V t5b 1 3 (.er 4 3) := by
    have := W.leaf (s := t5b) 1 3 (by decide)
    rwa [leaf_bad (by decide) (by rw [c3]; decide), c3] at this
  have i3 : I t5b 1 91 3 [⟨#[]⟩] (.er 4 3) := W.val (s := t5b) 1 91 3 [⟨#[]⟩] 3 ⟨#[]⟩ 4 3 (by unfold keyR; rw [if_pos rfl]) l3
  have i1 : I t5b 1 91 1 [] (.er 4 3) := W.more (s := t5b) 1 91 1 [] 1 ⟨#[]⟩ 2 _ (.er 4 3) (by unfold keyR; rw [if_pos rfl]) l1 (by rw [s2]; decide) (by rw [s2, s3]; exact i3)
  have o0 : V t5b 0 0 (.er 4 3) := by
    have b0 : byteI t5b 0 = 91 := by decide
    have := W.some (s := t5b) 0 0 (.er 4 3) (by decide) (by decide) (by rw [s1]; decide) (by rw [s1, b0]; exact i1)
    exact this
  exact .inr ⟨by decide, _, by rw [s0]; exact o0, .inl ⟨4, 3, rfl, rfl⟩⟩
theorem v5a_size : vsize v5a = 4 := by simp [v5a, vsize, lsize]
theorem v5a_deep : vdeep v5a = 2 := by simp [v5a, vdeep, ldeep]
end Go.Proofs.YtajmlkephefapaaGreatDoor

namespace Go.Proofs.YtajmlkephefapaaGreatDoor
open Go.RowKit Go.Extern.Stop Go.Stop Go.Extern Go.WideMaps

set_option maxRecDepth 100000 in
set_option maxHeartbeats 4000000 in
theorem awake5_any (w : World) (hg : Handle w) : Calls Tryz.prog 6 #[] w fun e w' => e = .returned (.bool true) ∧ Below w.heap.size w w' := by
  have HP1 := Lib.hid (fun w hg => tparse_any t5a (by decide) w hg)
  have HP2 := Lib.hid (fun w hg => tparse_any t5b (by decide) w hg)
  have HG := Lib.hid hg
  have HW1 : Hid (∀ o, Whole ⟨#[91, 49, 44, 32, 123, 34, 97, 34, 58, 32, 34, 98, 34, 125, 93]⟩ o → o = .ok 15 v5a) := Lib.hid (fun o h => Whole.one whole5a h)
  have HW2 : Hid (∀ o, Whole ⟨#[91, 49, 44, 93]⟩ o → o = .er 4 3) := Lib.hid (fun o h => Whole.one whole5b h)
  unfold t5a at HP1
  unfold t5b at HP2
  clear hg
  go_enter Tryz.func6, Tryz.ntmps6
  go_wp2_with fail
  refine (HP1.out _ HG.out).mono ?_
  rintro e w1 (⟨x, k, t, n, a, l, c, a', l', c', z, hw, rfl, hx, b1⟩ | ⟨ec, ea, fb, hw, -⟩)
  case inr => cases HW1.out _ hw
  have hxx := HW1.out _ hw
  injection hxx with _ hxx
  subst hxx
  have bn := sbelow_new w1 (.cells #[.int .i64 k, .string t, .int .u64 n, .slice a l c, .slice a' l' c', .int .i64 z] 27)
  have HX := Lib.hid (hx.step bn)
  have H6 : Hid (SixAt (w1.alloc (.cells #[.int .i64 k, .string t, .int .u64 n, .slice a l c, .slice a' l' c', .int .i64 z] 27)) w1.heap.size _ _ _ _ _ _) := Lib.hid (heap_alloc_new w1 _)
  have HB := Lib.hid (b1.trans (bn.mono b1.size))
  clear hx hw bn b1
  go_wp2_with fail
  generalize w1.alloc (.cells #[.int .i64 k, .string t, .int .u64 n, .slice a l c, .slice a' l' c', .int .i64 z] 27) = w2 at *
  generalize w1.heap.size = q at *
  refine (HP2.out _ (HG.out.below HB.out)).mono ?_
  rintro e w3 (⟨x, k1, t1, n1, a1, l1, c1, a1', l1', c1', z1, hw, -⟩ | ⟨ec, ea, fb, hw, rfl, hf, b3⟩)
  case inl => cases HW2.out _ hw
  have hxx := HW2.out _ hw
  injection hxx with h1 h2
  subst h1; subst h2
  clear hw
  have bn := sbelow_new w3 (.cells #[.int .i64 0, .string ⟨#[]⟩, .int .u64 0, .slice none 0 0, .slice none 0 0, .int .i64 0] 27)
  replace b3 := b3.trans (bn.mono b3.size)
  replace hf := hf.keep bn
  have HF := Lib.hid hf
  have HB3 := Lib.hid (HB.out.trans (b3.mono HB.out.size))
  clear bn
  unfold pf
  go_wp2_with fail
  generalize w3.alloc (.cells #[.int .i64 0, .string ⟨#[]⟩, .int .u64 0, .slice none 0 0, .slice none 0 0, .int .i64 0] 27) = w3 at *
  refine (Awake3_any _ (HG.out.below HB3.out)).mono ?_
  rintro e w4 ⟨rfl, b4⟩
  have b24 := b3.trans (b4.mono b3.size)
  have HX4 := Lib.hid (HX.out.step b24)
  have HB4 := Lib.hid (HB3.out.trans (b4.mono HB3.out.size))
  have HF4 := Lib.hid (HF.out.keep b4)
  obtain ⟨s0, s1, s2, s3, s4, s5⟩ := (H6.out.step b24).cells
  clear b3 b4 hf HF
  go_wp2_with fail
  refine (size_go _ _ _ (Nat.lt_succ_self _) (by rw [v5a_size]; decide) _ _ _ _ _ _ _ _ _ _ _ HX4.out).mono ?_
  rintro e w5 ⟨rfl, b5⟩
  rw [v5a_size]
  have HX5 := Lib.hid (HX4.out.step b5)
  have HB5 := Lib.hid (HB4.out.trans (b5.mono HB4.out.size))
  have HF5 := Lib.hid (HF4.out.keep b5)
  have H65 := Lib.hid (SixAt.step (H6.out.step b24) b5)
  clear s0 s1 s2 s3 s4 s5 b24 b5
  obtain ⟨s0, s1, s2, s3, s4, s5⟩ := H65.out.cells
  go_wp2_with fail
  refine (deep_go _ _ _ (Nat.lt_succ_self _) (by rw [v5a_size]; decide) _ _ _ _ _ _ _ _ _ _ _ HX5.out).mono ?_
  rintro e w6 ⟨rfl, b6⟩
  rw [v5a_deep]
  have HB6 := Lib.hid (HB5.out.trans (b6.mono HB5.out.size))
  have HF6 := Lib.hid (HF5.out.keep b6)
  clear s0 s1 s2 s3 s4 s5 b6
  go_wp2_with fail
  refine (lawIs_err _ 4 3 _ HF6.out (HG.out.below HB6.out)).mono ?_
  rintro e w7 ⟨rfl, b7⟩
  go_wp2_with fail
  go_ret
  exact ⟨rfl, HB6.out.trans (b7.mono HB6.out.size)⟩
end Go.Proofs.YtajmlkephefapaaGreatDoor
