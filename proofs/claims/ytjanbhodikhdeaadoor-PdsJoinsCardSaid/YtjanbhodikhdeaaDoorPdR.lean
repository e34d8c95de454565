/-
  Chapter 21's law: its awake; which systems it goes through.
-/
import Derived.Test.YtjanbhodikhdeaaDoorPdQ
import Derived.Test.YtjanbhodikhdeaaDoorPdP
import Derived.Test.YtjanbhodikhdeaaDoorPdD
import Derived.Test.YtjanbhodikhdeaaDoorPdE
import Derived.Test.YtjanbhodikhdeaaDoorAwk2
namespace Go.Proofs.YtjanbhodikhdeaaDoor
open Go.RowKit Go.Extern.Stop Go.Stop Go.Extern

theorem ints2 (w : World) (x y : Int) : IntsAt (w.alloc (.cells #[.int .i64 x, .int .i64 y] 3)) (.slice (some ⟨w.heap.size, 0, none⟩) 2 2) [x, y] := by
  refine .inr ⟨w.heap.size, 0, 2, rfl, by simp, fun i c hi => ?_⟩
  rw [Lib.cell_of_heap (heap_alloc_new w _)]
  rcases i with _ | _ | i
  · obtain rfl : x = c := by simpa using hi
    rfl
  · obtain rfl : y = c := by simpa using hi
    rfl
  · simp at hi
theorem ints3 (w : World) (x y z : Int) : IntsAt (w.alloc (.cells #[.int .i64 x, .int .i64 y, .int .i64 z] 3)) (.slice (some ⟨w.heap.size, 0, none⟩) 3 3) [x, y, z] := by
  refine .inr ⟨w.heap.size, 0, 3, rfl, by simp, fun i c hi => ?_⟩
  rw [Lib.cell_of_heap (heap_alloc_new w _)]
  rcases i with _ | _ | _ | i
  · obtain rfl : x = c := by simpa using hi
    rfl
  · obtain rfl : y = c := by simpa using hi
    rfl
  · obtain rfl : z = c := by simpa using hi
    rfl
  · simp at hi
def ru0 : Ru := ⟨0, 5, 1, [6, 5], 3⟩
theorem rus1 (w : World) (a : Nat) (hi : IntsAt w (.slice (some ⟨a, 0, none⟩) 2 2) [6, 5]) : RusAt (w.alloc (.cells #[.int .i64 0, .int .i64 5, .int .i64 1, .slice (some ⟨a, 0, none⟩) 2 2, .int .u64 3] 46)) (.slice (some ⟨w.heap.size, 0, none⟩) 1 1) [ru0] := by
  have hn := heap_alloc_new w (.cells #[.int .i64 0, .int .i64 5, .int .i64 1, .slice (some ⟨a, 0, none⟩) 2 2, .int .u64 3] 46)
  obtain ⟨n0, n1, n2, n3, n4⟩ := cells5 hn
  refine .inr ⟨w.heap.size, 0, 1, rfl, blt hn, fun i r hr => ?_⟩
  rcases i with _ | i
  · obtain rfl : ru0 = r := by simpa using hr
    exact ⟨some ⟨a, 0, none⟩, 2, n0, n1, n2, n3, n4, hi.step (sbelow_new _ _)⟩
  · simp at hr
theorem go_a : goC [ru0] [0] 0 (0, [5, 7]) 0 = ⟨(1, [6, 5, 7]), 3, 0, 0⟩ := by rfl
theorem go_b : goC [ru0] [0] 0 (1, [6, 5, 7]) 0 = ⟨(1, [6, 5, 7]), 0, 17, 0⟩ := by rfl
theorem pf_a : pdsF 2 8 [ru0] = (0, 0) := by decide +kernel
theorem short0 (n : Nat) (h : 2 ≤ n) : Short [ru0] n := by
  intro i r hr
  rcases i with _ | i
  · obtain rfl : ru0 = r := by simpa using hr
    exact h
  · simp at hr
theorem cost0 : ∀ (i : Nat) (r : Ru), ([ru0] : List Ru)[i]? = some r → 0 ≤ r.cost := by
  intro i r hr
  rcases i with _ | i
  · obtain rfl : ru0 = r := by simpa using hr
    decide
  · simp at hr
/-- What awake has at hand. -/
structure AwS (w : World) (Y : Nat) (R : Nat) (W : World) : Prop where
  sys : W.heap[Y]? = some (.cells #[.int .i64 2, .int .i64 8, .slice (some ⟨R, 0, none⟩) 1 1] 24 (0, 0))
  rs : RusAt W (.slice (some ⟨R, 0, none⟩) 1 1) [ru0]
  below : Below w.heap.size w W
theorem AwS.step {w : World} {Y R : Nat} {W W' : World} (h : AwS w Y R W) (hb : Below W.heap.size W W') : AwS w Y R W' := ⟨blk h.sys hb, h.rs.step hb, h.below.trans (hb.mono h.below.size)⟩
set_option maxRecDepth 100000 in
set_option maxHeartbeats 8000000 in
theorem awake21_any (w : World) (hg : Handle w) : Calls Tryd.prog 5 #[] w fun e w' => e = .returned (.bool true) ∧ Below w.heap.size w w' := by
  have HG := Lib.hid hg
  clear hg
  have b1 := sbelow_new w (.cells #[.int .i64 6, .int .i64 5] 3)
  have i1 := ints2 w 6 5
  have z1 : (w.alloc (.cells #[.int .i64 6, .int .i64 5] 3)).heap.size = w.heap.size + 1 := World.size_alloc _ _
  generalize hw1 : w.alloc (.cells #[.int .i64 6, .int .i64 5] 3) = w1 at *
  have b2 := sbelow_new w1 (.cells #[.int .i64 0, .int .i64 5, .int .i64 1, .slice (some ⟨w.heap.size, 0, none⟩) 2 2, .int .u64 3] 46)
  have i2 := rus1 w1 w.heap.size i1
  have z2 : (w1.alloc (.cells #[.int .i64 0, .int .i64 5, .int .i64 1, .slice (some ⟨w.heap.size, 0, none⟩) 2 2, .int .u64 3] 46)).heap.size = w.heap.size + 2 := by rw [World.size_alloc, z1]
  rw [z1] at i2
  generalize hw2 : w1.alloc (.cells #[.int .i64 0, .int .i64 5, .int .i64 1, .slice (some ⟨w.heap.size, 0, none⟩) 2 2, .int .u64 3] 46) = w2 at *
  have b3 := sbelow_new w2 (.cells #[.int .i64 2, .int .i64 8, .slice (some ⟨w.heap.size + 1, 0, none⟩) 1 1] 24)
  have n3 := heap_alloc_new w2 (.cells #[.int .i64 2, .int .i64 8, .slice (some ⟨w.heap.size + 1, 0, none⟩) 1 1] 24)
  rw [z2] at n3
  have HA : Hid (AwS w (w.heap.size + 2) (w.heap.size + 1) (w2.alloc (.cells #[.int .i64 2, .int .i64 8, .slice (some ⟨w.heap.size + 1, 0, none⟩) 1 1] 24))) := Lib.hid
    ⟨n3, i2.step b3, (b1.trans (b2.mono b1.size)).trans (b3.mono (by omega))⟩
  clear b1 b2 b3 i1 i2 n3
  go_enter Tryd.func5, Tryd.ntmps5
  go_upto_region 2 with (fail)
  clear hw1 hw2 z1
  generalize w2.alloc (.cells #[.int .i64 2, .int .i64 8, .slice (some ⟨w.heap.size + 1, 0, none⟩) 1 1] 24) = w3 at *
  clear z2
  obtain ⟨s0, s1, s2⟩ := cells3 HA.out.sys
  have b4 := sbelow_new w3 (.cells #[.int .i64 5, .int .i64 7] 3)
  have i4 := ints2 w3 5 7
  have z4 : (w3.alloc (.cells #[.int .i64 5, .int .i64 7] 3)).heap.size = w3.heap.size + 1 := World.size_alloc _ _
  generalize hw4 : w3.alloc (.cells #[.int .i64 5, .int .i64 7] 3) = w4 at *
  have b5 := sbelow_new w4 (.cells #[.int .i64 0] 3)
  have i5 := ints_new w4 0
  have hb45 := b4.trans (b5.mono b4.size)
  have hA5 := HA.out.step hb45
  rw [z4] at i5
  have HD := Lib.hid (pdsDo_any 2 8 _ [ru0] (0, [5, 7]) _ [0] _ _ hA5.rs (short0 100 (by decide)) cost0 (by decide) (i4.step b5) i5 (by decide))
  rw [go_a] at HD
  have HA5 := Lib.hid hA5
  clear b4 b5 i4 i5 hb45 hA5 HA
  go_upto_region 3 with (go_at_call 7; refine HD.out.mono ?_; rintro e w6 ⟨qa, qk, er, rfl, hown6, her6, b6⟩; obtain rfl := her6.nil_of)
  have hn6 := heap_alloc_new w6 (.cells #[.int .i64 1, .slice qa 3 qk] 27)
  have bn6 := sbelow_new w6 (.cells #[.int .i64 1, .slice qa 3 qk] 27)
  have hA7 := (HA5.out.step b6).step bn6
  have hi7 : IntsAt (w6.alloc (.cells #[.int .i64 1, .slice qa 3 qk] 27)) (.slice qa 3 qk) [6, 5, 7] := (IntsAt.own hown6 rfl).step bn6
  clear b6 bn6 hown6 her6 HD HA5 s0 s1 s2 z4 hw4
  generalize w6.alloc (.cells #[.int .i64 1, .slice qa 3 qk] 27) = w7 at *
  generalize w6.heap.size = Cb at *
  have b8 := sbelow_new w7 (.cells #[.int .i64 0] 3)
  have i8 := ints_new w7 0
  have hA8 := hA7.step b8
  have hn8 := blk hn6 b8
  have HI8 := Lib.hid (hi7.step b8)
  have HD := Lib.hid (pdsDo_any 2 8 _ [ru0] (1, [6, 5, 7]) _ [0] _ _ hA8.rs (short0 100 (by decide)) cost0 (by decide) (hi7.step b8) i8 (by decide))
  rw [go_b] at HD
  have HA8 := Lib.hid hA8
  have HN8 := Lib.hid hn8
  obtain ⟨s0, s1, s2⟩ := cells3 hA7.sys
  obtain ⟨t0, t1⟩ := cells2 hn6
  clear b8 i8 hA8 hn8 hA7 hi7 hn6
  go_upto_region 4 with (go_at_call 7; refine HD.out.mono ?_; rintro e w9 ⟨qb, ql, er, rfl, hown9, her9, b9⟩; obtain ⟨fb, rfl, hf9⟩ := her9.fb (by decide))
  have bn9 := sbelow_new w9 (.cells #[.int .i64 1, .slice qb 3 ql] 27)
  have hA10 := (HA8.out.step b9).step bn9
  have hn10 := blk (blk HN8.out b9) bn9
  have hi10 := (HI8.out.step b9).step bn9
  have hf10 : FaultAt (w9.alloc (.cells #[.int .i64 1, .slice qb 3 ql] 27)) fb 17 0 := FaultAt.keep hf9 bn9
  clear b9 bn9 hown9 hf9 her9 HD HA8 HN8 HI8 s0 s1 s2 t0 t1
  generalize w9.alloc (.cells #[.int .i64 1, .slice qb 3 ql] 27) = w10 at *
  unfold pf
  have HA10 := Lib.hid (And.intro hA10 (And.intro hn10 (And.intro hi10 hf10)))
  have HSt : Hid (∀ W W', (AwS w (w.heap.size + 2) (w.heap.size + 1) W ∧ W.heap[Cb]? = some (.cells #[.int .i64 1, .slice qa 3 qk] 27 (0, 0)) ∧ IntsAt W (.slice qa 3 qk) [6, 5, 7] ∧ FaultAt W fb 17 0) → Below W.heap.size W W' → (AwS w (w.heap.size + 2) (w.heap.size + 1) W' ∧ W'.heap[Cb]? = some (.cells #[.int .i64 1, .slice qa 3 qk] 27 (0, 0)) ∧ IntsAt W' (.slice qa 3 qk) [6, 5, 7] ∧ FaultAt W' fb 17 0)) := Lib.hid (fun W W' h hb => ⟨h.1.step hb, blk h.2.1 hb, h.2.2.1.step hb, h.2.2.2.keep hb⟩)
  have HCk : Hid (∀ W, AwS w (w.heap.size + 2) (w.heap.size + 1) W → Calls Tryd.prog 13 #[sysV 2 8 (.slice (some ⟨w.heap.size + 1, 0, none⟩) 1 1)] W (Faults W 0 0)) := Lib.hid (fun W h => by
    have := pdsCheck_any 2 8 _ [ru0] W h.rs (by decide) (short0 1000000 (by decide))
    rw [pf_a] at this
    exact this)
  have HSm : Hid (∀ W v v', IntsAt W v [6, 5, 7] → IntsAt W v' [6, 5, 7] → Calls Tryd.prog 9 #[cfV 1 v, cfV 1 v'] W fun e w' => e = .returned (.bool true) ∧ Below W.heap.size W w') := Lib.hid (fun W v v' h h' => same21_any 1 1 [6, 5, 7] [6, 5, 7] v v' W h h' (by decide))
  clear hA10 hn10 hi10 hf10
  go_wp2_with (first
    | (go_at_call 15; refine (Awake1_any _ (HG.out.below HA10.out.1.below)).mono ?_; rintro e w11 ⟨rfl, b11⟩; have HA11 := Lib.hid (HSt.out _ _ HA10.out b11); clear b11)
    | (go_at_call 16; refine (Awake2_any _ (HG.out.below HA11.out.1.below)).mono ?_; rintro e w12 ⟨rfl, b12⟩; have HA12 := Lib.hid (HSt.out _ _ HA11.out b12); have s0 := (cells3 HA12.out.1.sys).1; have s1 := (cells3 HA12.out.1.sys).2.1; have s2 := (cells3 HA12.out.1.sys).2.2; clear b12)
    | (go_at_call 13; refine (HCk.out _ HA12.out.1).mono ?_; rintro e w13 ⟨er, rfl, her, b13⟩; obtain rfl := her.nil_of; have HA13 := Lib.hid (HSt.out _ _ HA12.out b13); have t0 := (cells2 HA13.out.2.1).1; have t1 := (cells2 HA13.out.2.1).2; have b14 := sbelow_new w13 (.cells #[.int .i64 6, .int .i64 5, .int .i64 7] 3); have HA14 := Lib.hid (HSt.out _ _ HA13.out b14); have HI14 := Lib.hid (ints3 w13 6 5 7); clear b13 b14 her)
    | (go_at_call 9; refine (HSm.out _ _ _ HA14.out.2.2.1 HI14.out).mono ?_; rintro e w15 ⟨rfl, b15⟩; have HA15 := Lib.hid (HSt.out _ _ HA14.out b15); clear b15)
    | (go_at_call 17; refine (lawIs_err _ 17 0 _ HA15.out.2.2.2 (HG.out.below HA15.out.1.below)).mono ?_; rintro e w16 ⟨rfl, b16⟩; have HB16 := Lib.hid (HA15.out.1.below.trans (b16.mono HA15.out.1.below.size)); clear b16))
  go_ret
  exact ⟨rfl, HB16.out⟩
end Go.Proofs.YtjanbhodikhdeaaDoor
