/-
  slices.Reverse of a row of the call's own, by a contract, as far as a sum asks: the row holds as many numbers, of one sum; nothing else turns.
-/
import Derived.Test.YtcjmmiimkedeoaaDoorSumB
namespace Go.Proofs.YtcjmmiimkedeoaaDoor
open Go.RowKit

/-- What the row holds while its ends are exchanged. -/
structure RevInv (W : World) (base n : Nat) (zs : List Int) (sl : Value) (w : World) : Prop where
  ex : ∃ xs : List Int, xs.length = n ∧ (∀ z ∈ xs, 0 ≤ z) ∧ plainSum xs = plainSum zs ∧ w.ownsRow base 57 1 sl n (xs.map (Value.int .u64))
  below : Below base W w

theorem RevInv.drew {W : World} {base n : Nat} {zs : List Int} {sl : Value} {w : World} (h : RevInv W base n zs sl w) : RevInv W base n zs sl w.drew := by
  obtain ⟨⟨xs, h1, h2, h3, h4⟩, hb⟩ := h
  exact ⟨⟨xs, h1, h2, h3, h4⟩, hb.drew⟩

structure RevRel (W : World) (base n : Nat) (zs : List Int) (sl : Value) (k : Nat) (i j : Value) (w : World) : Prop where
  ex : ∃ m : Nat, k = n - m ∧ m ≤ n ∧ i = .int .i64 m ∧ j = .int .i64 ((n : Int) - 1 - m)
  inv : RevInv W base n zs sl w

theorem reverse_nil (w : World) : Calls Tryd.prog 45 #[.slice none 0 0] w fun e w' => e = .returned (.tuple #[]) ∧ w' = w := by
  go_enter Tryd.func45, Tryd.ntmps45
  go_wp2
  refine wp_loop_rounds 1 ?_
  rw [rounds_succ]
  go_wp2
  go_end0
  exact ⟨rfl, rfl⟩

theorem row_get {w : World} {base g n cap : Nat} {xs : List Int} (hown : w.ownsRow base 57 1 (.slice (some ⟨g, 0, none⟩) n cap) n (xs.map (Value.int .u64))) (hx : xs.length = n) (m : Nat) (hm : m < n) :
    w.cell? ⟨g, m, none⟩ = some (.int .u64 (xs.getD m 0)) := by
  rw [hown.cellAt m (by omega), List.getElem?_map, List.getElem?_eq_getElem (show m < xs.length by omega), List.getD_eq_getElem?_getD, List.getElem?_eq_getElem (show m < xs.length by omega)]
  rfl

set_option maxRecDepth 100000 in
set_option maxHeartbeats 3200000 in
theorem reverse_some (base g n cap : Nat) (zs : List Int) (w : World) (hn : n ≤ 1000) (hz : ∀ z ∈ zs, 0 ≤ z) (hl : zs.length = n) (hbg : base ≤ g)
    (hown : w.ownsRow base 57 1 (.slice (some ⟨g, 0, none⟩) n cap) n (zs.map (Value.int .u64))) :
    Calls Tryd.prog 45 #[.slice (some ⟨g, 0, none⟩) n cap] w fun e w' => e = .returned (.tuple #[]) ∧ RevInv w base n zs (.slice (some ⟨g, 0, none⟩) n cap) w' := by
  have H0 : Hid (RevRel w base n zs (.slice (some ⟨g, 0, none⟩) n cap) n (.int .i64 0) (.int .i64 ((n : Int) - 1)) w) :=
    ⟨⟨0, by omega, Nat.zero_le _, rfl, by simp⟩, ⟨zs, hl, hz, rfl, hown⟩, Below.refl _ _⟩
  clear hown hz hl
  go_enter Tryd.func45, Tryd.ntmps45
  go_wp2
  go_loopg [2, 3] n (fun k i j wr => RevRel w base n zs (.slice (some ⟨g, 0, none⟩) n cap) k i j wr)
  case atStart => exact H0.out
  case round =>
    obtain ⟨⟨m, hk, hm, rfl, rfl⟩, ⟨⟨xs, hx1, hx2, hx3, hown⟩, hbel⟩⟩ := hrel
    have HK := Lib.hid hk
    clear hk
    by_cases hlt : (m : Int) < (n : Int) - 1 - m
    · obtain ⟨j, hj⟩ : ∃ j : Nat, (n : Int) - 1 - m = j := ⟨n - 1 - m, by omega⟩
      have hmj : m < j := by omega
      have hjn : j < n := by omega
      rw [hj]
      have hcm := row_get hown hx1 m (by omega)
      have hcj := row_get hown hx1 j hjn
      have hfm := hown.frozenAt m
      have hfj := hown.frozenAt j
      obtain ⟨a, ha⟩ : ∃ a, xs.getD m 0 = a := ⟨_, rfl⟩
      obtain ⟨b, hb⟩ : ∃ b, xs.getD j 0 = b := ⟨_, rfl⟩
      have hS : RevInv w base n zs (.slice (some ⟨g, 0, none⟩) n cap) ((wr.setCell ⟨g, m, none⟩ (.int .u64 b)).setCell ⟨g, j, none⟩ (.int .u64 a)) := by
        have o1 := (hown.stored m (.int .u64 b)).1
        have o2 := (o1.stored j (.int .u64 a)).1
        have hjx : j < xs.length := by omega
        refine ⟨⟨(xs.set m b).set j a, by simp [hx1], fun z hzz => ?_, ?_, ?_⟩, (hbel.setCell hbg _).setCell hbg _⟩
        · rcases List.mem_or_eq_of_mem_set hzz with h | h
          · rcases List.mem_or_eq_of_mem_set h with h | h
            · exact hx2 z h
            · rw [h, ← hb, List.getD_eq_getElem?_getD, List.getElem?_eq_getElem hjx]; exact hx2 _ (List.getElem_mem hjx)
          · rw [h, ← ha, List.getD_eq_getElem?_getD, List.getElem?_eq_getElem (show m < xs.length by omega)]; exact hx2 _ (List.getElem_mem _)
        · rw [← hx3, ← ha, ← hb]; exact plainSum_swap xs m j hmj hjx
        · rw [List.map_set, List.map_set]; exact o2
      rw [ha] at hcm
      rw [hb] at hcj
      have HS := Lib.hid hS
      have HJ := Lib.hid hj
      clear hown hj hx1 hx2 hx3 hlt hS ha hb
      go_wp2_with fail
      go_region
      go_wp2
      go_roundg (n - (m + 1))
      case measure => have := HK.out; omega
      case rel => exact ⟨⟨m + 1, rfl, by omega, by go_num, by have := HJ.out; congr 1; omega⟩, HS.out.drew⟩
    · have hR : Hid (RevInv w base n zs (.slice (some ⟨g, 0, none⟩) n cap) wr) := ⟨⟨xs, hx1, hx2, hx3, hown⟩, hbel⟩
      clear hown hx1 hx2 hx3
      go_wp2
      go_end0
      exact ⟨rfl, hR.out⟩
end Go.Proofs.YtcjmmiimkedeoaaDoor
