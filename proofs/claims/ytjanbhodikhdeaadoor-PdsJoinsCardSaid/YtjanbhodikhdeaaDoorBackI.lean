/-
  slices.Backward at numbers, by contract: what its function hands a loop, one by one, from the last one on.
-/
import Derived.Test.YtjanbhodikhdeaaDoorIntA
import Derived.RangeFuncNested
import Derived.RangeFuncBound
import Derived.RangeFuncCalls
import Derived.RangeFuncLeaves
import Derived.RangeFuncBox
import Derived.Shelf.Abstract
import Derived.Shelf.RegionOpen
import Derived.OwnWalkIn
import Derived.TacticsInMore
import Derived.LoopNIn
import Derived.LoopIn
namespace Go.Proofs.YtjanbhodikhdeaaDoor
open Go.RowKit Go.Extern.Stop Go.Stop Go.Extern Go.Shelf
attribute [local go_sem] Oper.semAt_some

/-- Some blocks lie as they lay. -/
structure Lies (D : Nat → Prop) (W W' : World) : Prop where
  size : W.heap.size ≤ W'.heap.size
  same : ∀ q, D q → q < W.heap.size → W'.heap[q]? = W.heap[q]?
theorem Lies.refl (D : Nat → Prop) (W : World) : Lies D W W := ⟨Nat.le_refl _, fun _ _ _ => rfl⟩
theorem Lies.trans {D : Nat → Prop} {A B C : World} (h : Lies D A B) (k : Lies D B C) : Lies D A C := ⟨Nat.le_trans h.size k.size, fun q hq hlt => (k.same q hq (Nat.lt_of_lt_of_le hlt h.size)).trans (h.same q hq hlt)⟩
/-- What has come behind k rounds: places and numbers, from the last one on. -/
def backL (l : List Int) (k : Nat) : List (Int × Int) := (List.range k).map fun j => (((l.length - 1 - j : Nat) : Int), l.getD (l.length - 1 - j) 0)
theorem backL_succ (l : List Int) (k : Nat) : backL l (k + 1) = backL l k ++ [(((l.length - 1 - k : Nat) : Int), l.getD (l.length - 1 - k) 0)] := by unfold backL; rw [List.range_succ, List.map_append]; rfl
theorem backL_len (l : List Int) (k : Nat) : (backL l k).length = k := by simp [backL]
theorem backL_vals (l : List Int) : (backL l l.length).map (·.2) = l.reverse := by
  apply List.ext_getElem
  · simp [backL]
  · intro i h1 h2
    have hi : i < l.length := by simpa [backL] using h1
    simp only [backL, List.map_map, List.getElem_map, List.getElem_range, Function.comp, List.getElem_reverse]
    rw [List.getD_eq_getElem?_getD, List.getElem?_eq_getElem (by omega)]
    rfl
set_option maxHeartbeats 400000 in
theorem backI_any (a : Option Addr) (n c : Nat) (w : World) : Calls Tryd.prog 37 #[.slice a n c] w fun e w' => e = .returned (.func (.func 44) #[] #[.pointer (some ⟨w.heap.size, 0, none⟩)]) ∧ w' = w.alloc (.cells #[.slice a n c] 25) := by
  go_enter Tryd.func37, Tryd.ntmps37
  go_wp2
  go_ret
  exact ⟨rfl, rfl⟩
set_option maxRecDepth 100000 in
set_option maxHeartbeats 4000000 in
theorem back1_core (n : Nat) (hn : 1 ≤ n) (l : Nat) (D : Nat → Prop) (Bs : Nat) (a : Option Addr) (cap : Nat) (zs : List Int) (hz : zs.length ≤ 1000000) (hD : D Bs) (hDa : ∀ ad, a = some ad → 0 < zs.length → D ad.block) (J Jx : List (Int × Int) → World → Prop)
    (hY : ∀ pre x W, J pre W → pre.length < zs.length → YieldAt Fence.wide (n - 1) Tryd.prog l #[.int .i64 x.1, .int .i64 x.2] W fun e W' =>
      (e = .returned (.bool true) ∧ J (pre ++ [x]) W' ∧ Lies D W W') ∨ (e = .returned (.bool false) ∧ Jx (pre ++ [x]) W'))
    (W : World) (hBs : W.cell? ⟨Bs, 0, none⟩ = some (.slice a zs.length cap)) (hc : IntsAt W (.slice a zs.length cap) zs) (h0 : J [] W) :
    CallsIn Fence.wide n Tryd.prog 44 #[.func (.yield l) #[] #[], .pointer (some ⟨Bs, 0, none⟩)] W fun e W' => (∃ v, e = .returned v) ∧
      ((∃ ys, ys = backL zs zs.length ∧ J ys W') ∨ (∃ pre, (∃ k, k ≤ zs.length ∧ pre = backL zs k) ∧ Jx pre W')) := by
  have HC := Lib.hid hc
  have HY := Lib.hid hY
  have HBl : Hid (Bs < W.heap.size) := Lib.hid (World.block_lt_of_cell? W _ hBs)
  have HBS := Lib.hid hBs
  clear hc hY
  have hlm : (zs.length : Int) ≤ 1000000 := by omega
  refine callsIn_of_wp Tryd.func44 rfl trivial ?_ rfl
  simp only [Tryd.ntmps44, List.size_toArray, List.length_cons, List.length_nil, Nat.reduceAdd, Nat.reduceSub, Array.replicate_succ, Array.replicate_zero, List.push_toArray, List.append_toArray, List.nil_append, List.cons_append]
  gi_wp2
  clear hBs
  gi_loopw [3] (fun i wr => ∃ k : Nat, k ≤ zs.length ∧ i = .int .i64 ((zs.length : Int) - 1 - k) ∧ J (backL zs k) wr ∧ Lies D W wr)
    (fun i _ => (intOf i + 1).toNat)
  case atStart => exact ⟨0, Nat.zero_le _, by first | rfl | (simp), h0, Lies.refl _ _⟩
  case round =>
    obtain ⟨k, hk, rfl, hJs, hnx⟩ := hrel
    by_cases hlt : k < zs.length
    · obtain ⟨x, hx⟩ : ∃ x, zs[zs.length - 1 - k]? = some x := ⟨_, List.getElem?_eq_getElem (by omega)⟩
      obtain ⟨b, off, rfl, hcw⟩ := HC.out.at hx (Below.refl _ _)
      have hbl := World.block_lt_of_cell? W _ hcw
      have hcx : wr.cell? ⟨b, off + (zs.length - 1 - k), none⟩ = some (.int .i64 x) := (World.cell?_of_block (hnx.same b (hDa _ rfl (by omega)) hbl)).trans hcw
      have hbx : wr.cell? ⟨Bs, 0, none⟩ = some (.slice (some ⟨b, off, none⟩) zs.length cap) := (World.cell?_of_block (hnx.same Bs hD HBl.out)).trans HBS.out
      obtain ⟨j, hj⟩ : ∃ j, j = zs.length - 1 - k := ⟨_, rfl⟩
      have hji : (zs.length : Int) - 1 - k = (j : Int) := by omega
      have hjl : (j : Int) < (zs.length : Int) := by omega
      have hY1 := HY.out (backL zs k) ((j : Int), x) wr hJs (by rw [backL_len]; exact hlt)
      have HSu : Hid (backL zs (k + 1) = backL zs k ++ [((j : Int), x)]) := Lib.hid (by rw [backL_succ, ← hj, List.getD_eq_getElem?_getD, hj, hx]; rfl)
      rw [← hj] at hcx
      rw [hji]
      dsimp only at hY1
      rw [← HSu.out] at hY1
      obtain ⟨fn, tmps, assign, body, hy, hR⟩ := hY1
      have HR := Lib.hid hR
      have HNX := Lib.hid hnx
      have HJ := Lib.hid (And.intro hj hji)
      clear hR hnx hx hcw hbl hJs hj
      gi_wp2
      refine HR.out.mono ?_
      rintro e W3 (⟨rfl, hJ3, hk3⟩ | ⟨rfl, hJx3⟩)
      · have HK := Lib.hid (And.intro hJ3 hk3)
        clear hJ3 hk3
        gi_wp2
        go_roundw
        case rel => exact ⟨k + 1, by omega, by have := HJ.out.2; first | (congr 1; omega) | (simp; omega), HK.out.1, HNX.out.trans HK.out.2⟩
        case measure => have := HJ.out.2; simp [intOf] <;> omega
      · have HK := Lib.hid hJx3
        clear hJx3
        gi_wp2
        refine bodyPost_ret (results_none rfl _ _ _) rfl ?_
        exact ⟨⟨_, rfl⟩, .inr ⟨_, ⟨k + 1, by omega, rfl⟩, HK.out⟩⟩
    · obtain rfl : k = zs.length := by omega
      have hji : (zs.length : Int) - 1 - zs.length = -1 := by omega
      rw [hji]
      have HK := Lib.hid hJs
      clear hJs hnx hji
      gi_wp2
      go_end0
      exact ⟨⟨_, rfl⟩, .inl ⟨_, rfl, HK.out⟩⟩
theorem backL_pre (zs : List Int) {k : Nat} (hk : k ≤ zs.length) : backL zs k <+: backL zs zs.length := by
  have e : backL zs k = (backL zs zs.length).take k := by unfold backL; rw [← List.map_take, List.take_range, Nat.min_eq_left hk]
  rw [e]
  exact List.take_prefix _ _
theorem back1_stops (n : Nat) (hn : 1 ≤ n) (D : Nat → Prop) (Bs : Nat) (a : Option Addr) (cap : Nat) (zs : List Int) (hz : zs.length ≤ 1000000) (hD : D Bs) (hDa : ∀ ad, a = some ad → 0 < zs.length → D ad.block) (w : World)
    (hBs : w.cell? ⟨Bs, 0, none⟩ = some (.slice a zs.length cap)) (hc : IntsAt w (.slice a zs.length cap) zs) :
    SeqStopsK Fence.wide n Tryd.prog 44 #[.pointer (some ⟨Bs, 0, none⟩)] (fun x : Int × Int => #[.int .i64 x.1, .int .i64 x.2]) (Lies D) (fun xs => xs = backL zs zs.length) (fun pre => pre <+: backL zs zs.length) zs.length w := by
  intro l J Jx W hW _ _ hY hJ0
  refine (back1_core n hn l D Bs a cap zs hz hD hDa J Jx hY W ((hW.cell (p := ⟨Bs, 0, none⟩) (World.block_lt_of_cell? w _ hBs)).trans hBs) (hc.step hW) hJ0).mono ?_
  rintro e W' ⟨he, ⟨ys, rfl, hj⟩ | ⟨pre, ⟨k, hk, rfl⟩, hj⟩⟩
  · exact ⟨he, .inl ⟨_, rfl, hj⟩⟩
  · exact ⟨he, .inr ⟨_, backL_pre zs hk, hj⟩⟩
end Go.Proofs.YtjanbhodikhdeaaDoor
