/-
  Chapter 10's example, and what is gone through, by contract.
-/
import Derived.Test.YtjlbdjagbbpoaaaDoorOpI
namespace Go.Proofs.YtjlbdjagbbpoaaaDoor
open Go.RowKit Go.Extern.Stop Go.Stop Go.Extern

theorem Awake9_any (w : World) (ht : TabB w) : Calls Tryd.prog 47 #[] w fun e w' => e = .returned (.bool true) ∧ Below w.heap.size w w' := by
  have HA := Lib.hid (awake9_any w ht)
  clear ht
  go_enter Tryd.func47, Tryd.ntmps47
  go_wp2_with fail
  refine HA.out.mono ?_
  rintro e w' ⟨rfl, hb⟩
  go_wp2_with fail
  go_ret
  exact ⟨rfl, hb⟩
/-- What a body keeps: a list of kinds, the library's table, the handle, old memory. -/
structure KW (w : World) (ks : List Int) (vk : Value) (W : World) : Prop where
  ints : IntsAt W vk ks
  tab : TabB W
  han : Handle W
  below : Below w.heap.size w W
theorem KW.step {w : World} {ks : List Int} {vk : Value} {W W' : World} (h : KW w ks vk W) (hb : Below W.heap.size W W') : KW w ks vk W' :=
  ⟨h.ints.step hb, h.tab.below h.tab.lt hb, h.han.below hb, h.below.trans (hb.mono h.below.size)⟩
theorem ops_lit (w : World) (o l : Int) : OpsAt (w.alloc (.cells #[.int .i64 o, .int .i64 l] 60)) (.slice (some ⟨w.heap.size, 0, none⟩) 1 1) [(o, l)] := by
  refine .inr ⟨w.heap.size, 0, 1, rfl, by simp, fun i x hi => ?_⟩
  rw [Lib.cell_of_heap (heap_alloc_new w _), Lib.cell_of_heap (heap_alloc_new w _)]
  rcases i with _ | i
  · obtain rfl : (o, l) = x := by simpa using hi
    exact ⟨rfl, rfl⟩
  · simp at hi
theorem do_ex : doO [1, 2, 3] [0] [(3, 1)] = some [1, 0] := by decide
theorem chk_ex : chkE [1, 2, 3] 0 [(1, 0)] = (9, 0) := by decide
set_option maxRecDepth 100000 in
set_option maxHeartbeats 4000000 in
theorem awake10_any (w : World) (ht : TabB w) (hg : Handle w) : Calls Tryd.prog 25 #[] w fun e w' => e = .returned (.bool true) ∧ Below w.heap.size w w' := by
  have hb1 := below_new w (.cells #[.int .i64 1, .int .i64 2, .int .i64 3] 3)
  have hK1 : KW w [1, 2, 3] (.slice (some ⟨w.heap.size, 0, none⟩) 3 3) (w.alloc (.cells #[.int .i64 1, .int .i64 2, .int .i64 3] 3)) := ⟨ints3 w 1 2 3, ht.below ht.lt hb1, hg.below hb1, hb1⟩
  have hb2 := below_new (w.alloc (.cells #[.int .i64 1, .int .i64 2, .int .i64 3] 3)) (.cells #[.int .i64 0] 3)
  have hi2 := ints_new (w.alloc (.cells #[.int .i64 1, .int .i64 2, .int .i64 3] 3)) 0
  have hK2 := hK1.step hb2
  have hb3 := below_new ((w.alloc (.cells #[.int .i64 1, .int .i64 2, .int .i64 3] 3)).alloc (.cells #[.int .i64 0] 3)) (.cells #[.int .i64 3, .int .i64 1] 60)
  have ho3 := ops_lit ((w.alloc (.cells #[.int .i64 1, .int .i64 2, .int .i64 3] 3)).alloc (.cells #[.int .i64 0] 3)) 3 1
  have hK3 := hK2.step hb3
  have hD := opDo_any [1, 2, 3] [0] [(3, 1)] _ _ _ _ hK3.ints (hi2.step hb3) ho3 (by simp) (by simp)
  unfold DoPost at hD
  rw [do_ex] at hD
  simp only [World.size_alloc] at hD
  have HD := Lib.hid hD
  have HK := Lib.hid hK3
  clear hb1 hK1 hb2 hi2 hK2 hb3 ho3 hK3 hD ht hg
  go_enter Tryd.func25, Tryd.ntmps25
  go_wp2_with fail
  refine HD.out.mono ?_
  rintro e w4 ⟨u, rfl, hu, -, b4⟩
  have hI4 : IntsAt w4 u [1, 0] := IntsAt.own (hu _ rfl) rfl
  have HI4 := Lib.hid hI4
  have b4' : Below (((w.alloc (.cells #[.int .i64 1, .int .i64 2, .int .i64 3] 3)).alloc (.cells #[.int .i64 0] 3)).alloc (.cells #[.int .i64 3, .int .i64 1] 60)).heap.size (((w.alloc (.cells #[.int .i64 1, .int .i64 2, .int .i64 3] 3)).alloc (.cells #[.int .i64 0] 3)).alloc (.cells #[.int .i64 3, .int .i64 1] 60)) w4 := by simpa [World.size_alloc] using b4
  have HK4 := Lib.hid (HK.out.step b4')
  clear b4 b4' hu hI4 HD HK
  go_wp2_with fail
  refine (Awake1_any _ HK4.out.han).mono ?_
  rintro e w5 ⟨rfl, b5⟩
  have HI5 := Lib.hid (HI4.out.step b5)
  have HK5 := Lib.hid (HK4.out.step b5)
  clear b5
  go_wp2_with fail
  refine (Awake9_any _ HK5.out.tab).mono ?_
  rintro e w6 ⟨rfl, b6⟩
  have HI6 := Lib.hid (HI5.out.step b6)
  have HK6 := Lib.hid (HK5.out.step b6)
  clear b6
  have hb7 := below_new w6 (.cells #[.int .i64 1, .int .i64 0] 3)
  have HEq := Lib.hid (equalI_same [1, 0] u _ _ (HI6.out.step hb7) (ints2 w6 1 0) (by simp))
  have HK7 := Lib.hid (HK6.out.step hb7)
  clear hb7
  go_wp2_with fail
  refine HEq.out.mono ?_
  rintro e w8 ⟨rfl, b8⟩
  have hK8 := HK7.out.step b8
  have hb9 := below_new w8 (.cells #[.int .i64 1, .int .i64 0] 60)
  have hK9 := hK8.step hb9
  have hC := opCheck_any [1, 2, 3] 0 [(1, 0)] _ _ _ hK9.ints (ops_lit w8 1 0) hK9.tab
  unfold CheckPost at hC
  rw [chk_ex] at hC
  have HC := Lib.hid hC
  have HK9 := Lib.hid hK9
  clear b8 hK8 hb9 hK9 hC HEq
  go_wp2_with fail
  refine HC.out.mono ?_
  rintro e w10 ⟨v, rfl, -, hv, b10⟩
  obtain ⟨fb, hch⟩ := hv (by decide)
  have HK10 := Lib.hid (HK9.out.step b10)
  have HIs := Lib.hid (lawIs_fault fb 9 0 (by decide) v _ hch HK10.out.han)
  obtain ⟨T, V, rfl⟩ := ChainAt.iface hch
  clear b10 hv hch
  go_wp2_with fail
  refine HIs.out.mono ?_
  rintro e w11 ⟨rfl, b11⟩
  have HK11 := Lib.hid (HK10.out.step b11)
  clear b11
  go_wp2_with fail
  go_ret
  exact ⟨rfl, HK11.out.below⟩

def lightB (ks h : List Int) (c : List (Int × Int)) : Bool := decide (ks.length ≤ 100) && (decide (h.length ≤ 40) && decide (c.length ≤ 20))
set_option maxHeartbeats 1000000 in
theorem light_any (ks h : List Int) (c : List (Int × Int)) (vk v vc : Value) (w : World) (hk : ∃ a cap, vk = .slice a ks.length cap) (hv : ∃ a cap, v = .slice a h.length cap) (hc : ∃ a cap, vc = .slice a c.length cap) :
    Calls Tryd.prog 26 #[vk, v, vc] w fun e w' => e = .returned (.bool (lightB ks h c)) ∧ w = w' := by
  obtain ⟨a1, c1, rfl⟩ := hk
  obtain ⟨a2, c2, rfl⟩ := hv
  obtain ⟨a3, c3, rfl⟩ := hc
  unfold lightB
  by_cases h1 : ks.length ≤ 100
  · have q1 : (ks.length : Int) ≤ 100 := by omega
    by_cases h2 : h.length ≤ 40
    · have q2 : (h.length : Int) ≤ 40 := by omega
      by_cases h3 : c.length ≤ 20
      · have q3 : (c.length : Int) ≤ 20 := by omega
        go_enter Tryd.func26, Tryd.ntmps26
        go_wp2
        go_ret
        exact ⟨by simp [h1, h2, h3], rfl⟩
      · have q3 : ¬ (c.length : Int) ≤ 20 := by omega
        go_enter Tryd.func26, Tryd.ntmps26
        go_wp2
        go_ret
        exact ⟨by simp, rfl⟩
    · have q2 : ¬ (h.length : Int) ≤ 40 := by omega
      go_enter Tryd.func26, Tryd.ntmps26
      go_wp2
      go_ret
      exact ⟨by simp, rfl⟩
  · have q1 : ¬ (ks.length : Int) ≤ 100 := by omega
    go_enter Tryd.func26, Tryd.ntmps26
    go_wp2
    go_ret
    exact ⟨by simp, rfl⟩
end Go.Proofs.YtjlbdjagbbpoaaaDoor
