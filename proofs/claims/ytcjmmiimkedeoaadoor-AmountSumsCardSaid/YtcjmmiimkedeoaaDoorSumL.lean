/-
  The statement AmountSums as a walk: whatever the numbers and the place of the cut, the law answers true, and all of old memory stays as it was.
-/
import Derived.Test.YtcjmmiimkedeoaaDoorSumC
import Derived.Deep.QuietTactic
import Derived.BigQuiet
namespace Go.Proofs.YtcjmmiimkedeoaaDoor
open Go.RowKit

/-- A slice whose sum is S. -/
def SumIs (w : World) (v : Value) (S : Int) : Prop := ∃ zs, NumsAt w v zs ∧ (∀ z ∈ zs, 0 ≤ z) ∧ zs.length ≤ 1000 ∧ sumI zs = S
theorem below_drewN2 (w : World) (n : Nat) : Below w.heap.size w (w.drewN n) := by
  induction n with
  | zero => exact Below.refl _ _
  | succ n ih => exact ⟨ih.os, ih.tape, ih.output, ih.size, ih.block⟩
theorem below_drew3 {W w : World} (h : Below W.heap.size W w) (n : Nat) : Below W.heap.size W (w.drewN n) := h.trans ((below_drewN2 w n).mono h.size)
theorem SumIs.keep {w w' : World} {v : Value} {S : Int} (h : SumIs w v S) (hb : Below w.heap.size w w') : SumIs w' v S := by
  obtain ⟨zs, h1, h2, h3, h4⟩ := h
  exact ⟨zs, h1.keep hb, h2, h3, h4⟩
theorem sum_is {w : World} {v : Value} {S : Int} (h : SumIs w v S) : Calls Tryd.prog 37 #[v] w fun e w' => e = .returned (.int .u64 S) ∧ w' = w := by
  obtain ⟨zs, h1, h2, h3, rfl⟩ := h
  exact sum_any zs v h2 h3 w h1
theorem sum_drew {w : World} {v : Value} {S : Int} {n : Nat} (h : SumIs w v S) : Calls Tryd.prog 37 #[v] (w.drewN n) fun e w' => e = .returned (.int .u64 S) ∧ w' = w.drewN n :=
  sum_is (h.keep (below_drewN2 w n))
theorem sum_nil (w : World) : SumIs w (.slice none 0 0) 0 := ⟨[], .inl ⟨none, 0, rfl, rfl⟩, by simp, by simp, rfl⟩

theorem nums_own {w : World} {base : Nat} {v : Value} {zs : List Int} (h : w.ownsRow base 57 1 v zs.length (zs.map (Value.int .u64))) : NumsAt w v zs := by
  obtain ⟨h1, h2⟩ := h
  rcases h2 with ⟨rfl, h0⟩ | ⟨g, cap, cur, rfl, hg, hh, h3, h4, h5, h6⟩
  · exact .inl ⟨none, 0, rfl, List.eq_nil_of_length_eq_zero h0⟩
  · refine .inr ⟨g, 0, cap, rfl, fun i hi => ?_⟩
    have e := congrArg (fun l => l[i]?) h6
    simp [hi] at e
    simp [World.cell?, hh, e, List.getD, List.getElem?_eq_getElem hi]

/-! ### Cuts of a row -/
theorem add_pl (b off j : Nat) : (⟨b, off, none⟩ : Addr).add j = ⟨b, off + j, none⟩ := by
  unfold Addr.add
  split
  · rename_i h; subst h; rfl
  · rfl
theorem cells_take {w : World} {b off k : Nat} {zs : List Int} (h : CellsAt w ⟨b, off, none⟩ zs) : CellsAt w ⟨b, off, none⟩ (zs.take k) := fun j u hj => by
  refine h j u ?_
  rw [List.map_take, List.getElem?_take] at hj
  split at hj
  · exact hj
  · cases hj
theorem cells_drop {w : World} {b off k : Nat} {zs : List Int} (h : CellsAt w ⟨b, off, none⟩ zs) : CellsAt w ⟨b, off + k, none⟩ (zs.drop k) := fun j u hj => by
  rw [List.map_drop, List.getElem?_drop] at hj
  have := h (k + j) u hj
  rw [add_pl] at this ⊢
  rw [Nat.add_assoc]
  exact this
theorem nums_cells {w : World} {b off cap : Nat} {zs : List Int} {n : Nat} (h : CellsAt w ⟨b, off, none⟩ zs) (hn : n = zs.length) : NumsAt w (.slice (some ⟨b, off, none⟩) n cap) zs := by
  subst hn
  refine .inr ⟨b, off, cap, rfl, fun i hi => ?_⟩
  rw [← add_pl]
  refine h i _ ?_
  rw [List.getElem?_map, List.getElem?_eq_getElem hi, List.getD_eq_getElem?_getD, List.getElem?_eq_getElem hi]
  rfl

theorem reverse_any (base : Nat) (zs : List Int) (sl : Value) (w : World) (hn : zs.length ≤ 1000) (hz : ∀ z ∈ zs, 0 ≤ z) (hown : w.ownsRow base 57 1 sl zs.length (zs.map (Value.int .u64))) :
    Calls Tryd.prog 45 #[sl] w fun e w' => e = .returned (.tuple #[]) ∧ SumIs w' sl (sumI zs) ∧ Below base w w' := by
  have key : ∀ w', RevInv w base zs.length zs sl w' → SumIs w' sl (sumI zs) ∧ Below base w w' := by
    rintro w' ⟨⟨xs, h1, h2, h3, h4⟩, hb⟩
    refine ⟨⟨xs, nums_own (by rw [h1]; exact h4), h2, by omega, ?_⟩, hb⟩
    rw [sumI_plain xs h2, sumI_plain zs hz, h3]
  have hown' := hown
  obtain ⟨h1, h2⟩ := hown
  rcases h2 with ⟨rfl, h0⟩ | ⟨g, cap, cur, rfl, hg, -⟩
  · refine (reverse_nil w).mono ?_
    rintro e w' ⟨rfl, rfl⟩
    exact ⟨rfl, key _ ⟨⟨zs, rfl, hz, rfl, hown'⟩, Below.refl _ _⟩⟩
  · refine (reverse_some base g zs.length cap zs w hn hz rfl hg hown').mono ?_
    rintro e w' ⟨rfl, hR⟩
    exact ⟨rfl, key _ hR⟩

theorem sum_turned (zs : List Int) (k : Nat) (hz : ∀ z ∈ zs, 0 ≤ z) : sumI (zs.drop k ++ zs.take k) = sumI zs ∧ addI (sumI (zs.take k)) (sumI (zs.drop k)) = sumI zs := by
  have h1 : ∀ z ∈ zs.take k, 0 ≤ z := fun z h => hz z (List.mem_of_mem_take h)
  have h2 : ∀ z ∈ zs.drop k, 0 ≤ z := fun z h => hz z (List.mem_of_mem_drop h)
  have e := sumI_append (zs.take k) (zs.drop k) h1 h2
  rw [List.take_append_drop] at e
  exact ⟨by rw [sumI_append _ _ h2 h1, addI_comm, e], e.symm⟩
theorem sumI_pos (zs : List Int) (hz : ∀ z ∈ zs, 0 ≤ z) : 0 ≤ sumI zs := by rw [sumI_plain zs hz]; exact capI_nonneg (plainSum_nonneg zs hz)

set_option maxHeartbeats 1000000 in
theorem sums_far (n : Nat) (x : Option Addr) (cp : Nat) (p : Int) (w : World) (hg : Handle w) (h : 100 < n) :
    Calls Tryd.prog 12 #[.slice x n cp, .int .u8 p] w fun e w' => e = .returned (.bool true) ∧ Below w.heap.size w w' := by
  have hb : (100 : Int) < n := by omega
  go_enter Tryd.func12, Tryd.ntmps12
  go_wp2_with fail
  refine (awake2_any _ hg).mono ?_
  rintro e w1 ⟨rfl, b1⟩
  go_wp2_with fail
  go_ret
  exact ⟨rfl, b1⟩

set_option maxRecDepth 100000 in
set_option maxHeartbeats 3200000 in
theorem sums_some (b off n cap k : Nat) (zs : List Int) (p : Int) (hp0 : 0 ≤ p) (hp1 : p ≤ 255) (w : World) (hg : Handle w) (hn : n ≤ 100) (hn0 : 0 < n) (hcap : n ≤ cap) (hzl : zs.length = n) (hz : ∀ z ∈ zs, 0 ≤ z)
    (hk : p % ((n : Int) + 1) = k) (hkn : k ≤ n) (hkc : cap ≠ k) (hc : CellsAt w ⟨b, off, none⟩ zs) :
    Calls Tryd.prog 12 #[.slice (some ⟨b, off, none⟩) n cap, .int .u8 p] w fun e w' => e = .returned (.bool true) ∧ Below w.heap.size w w' := by
  have hb : ¬ (100 : Int) < n := by omega
  have hk0 : (0 : Int) ≤ (k : Int) := by omega
  have hkn' : (k : Int) ≤ (n : Int) := by omega
  have hcap' : (n : Int) ≤ (cap : Int) := by omega
  have HC := Lib.hid hc
  have HL := Lib.hid hzl
  have HZ := Lib.hid hz
  clear hc hzl hz
  go_enter Tryd.func12, Tryd.ntmps12
  go_wp2_with fail
  refine (awake2_any _ hg).mono ?_
  rintro e w1 ⟨rfl, b1⟩
  have C1 := Lib.hid (HC.out.keep b1)
  have hzd : ∀ z ∈ zs.drop k, 0 ≤ z := fun z h => HZ.out z (List.mem_of_mem_drop h)
  have hzt : ∀ z ∈ zs.take k, 0 ≤ z := fun z h => HZ.out z (List.mem_of_mem_take h)
  have hld : (zs.drop k).length = n - k := by rw [List.length_drop, HL.out]
  have hlt : (zs.take k).length = k := by rw [List.length_take, HL.out]; omega
  obtain ⟨W3, hW3⟩ : ∃ W3, W3 = (w1.alloc (.cells #[.slice (some ⟨b, off + k, none⟩) (n - k) (cap - k), .slice (some ⟨b, off, none⟩) k cap] 58)).drew := ⟨_, rfl⟩
  have b3 : Below w1.heap.size w1 W3 := by rw [hW3]; exact ((Below.refl _ _).alloc (Nat.le_refl _) _).drew
  have HCon : Hid (Calls Tryd.prog 44 #[.slice (some ⟨w1.heap.size, 0, none⟩) 2 2] W3 fun e w' => ∃ sl, e = .returned sl ∧ w'.ownsRow W3.heap.size 57 1 sl ((zs.drop k).length + (zs.take k).length) ((zs.drop k ++ zs.take k).map (Value.int .u64)) ∧ Below W3.heap.size W3 w') := by
    refine concat_some w1.heap.size ⟨b, off + k, none⟩ ⟨b, off, none⟩ (cap - k) cap (zs.drop k) (zs.take k) W3 ?_ ?_ ?_ (cells_drop (C1.out.keep b3)) (cells_take (C1.out.keep b3)) (by omega) (by omega)
    · rw [hW3]; simp
    · rw [hW3, hld]; simp
    · rw [hW3, hlt]; simp
  have sN := (sum_turned zs k HZ.out).1
  have sA := (sum_turned zs k HZ.out).2
  have s0 := sumI_pos zs HZ.out
  have s1 := sumI_pos _ hzd
  have s2 := sumI_pos _ hzt
  have SL : SumIs w1 (.slice (some ⟨b, off, none⟩) n cap) (sumI zs) := ⟨zs, nums_cells C1.out HL.out.symm, HZ.out, by have := HL.out; omega, rfl⟩
  have ST : SumIs w1 (.slice (some ⟨b, off, none⟩) k cap) (sumI (zs.take k)) := ⟨zs.take k, nums_cells (cells_take C1.out) hlt.symm, hzt, by omega, rfl⟩
  have SD : SumIs w1 (.slice (some ⟨b, off + k, none⟩) (n - k) (cap - k)) (sumI (zs.drop k)) := ⟨zs.drop k, nums_cells (cells_drop C1.out) hld.symm, hzd, by omega, rfl⟩
  have HR := Lib.hid (fun sl w' h => reverse_any W3.heap.size (zs.drop k ++ zs.take k) sl w' (by simp; have := HL.out; omega) (fun z hz => by rcases List.mem_append.1 hz with h | h; exact hzd z h; exact hzt z h) h)
  have hlen : (zs.drop k ++ zs.take k).length = (zs.drop k).length + (zs.take k).length := by simp
  rw [hlen, sN] at HR
  have HA := Lib.hid (fun w => show Calls Tryd.prog 33 #[.int .u64 (sumI (zs.take k)), .int .u64 (sumI (zs.drop k))] w fun e w' => e = .returned (.int .u64 (sumI zs)) ∧ w' = w by rw [← sA]; exact add_any _ _ s2 s1 w)
  have HW3 := Lib.hid hW3
  clear hzd hzt hld hlt sN sA s0 s1 s2 hlen hW3
  generalize sumI zs = S at *
  generalize sumI (zs.take k) = S1 at *
  generalize sumI (zs.drop k) = S2 at *
  go_wp2_with fail
  go_region_with (go_at_call 44; rw [← HW3.out]; refine HCon.out.mono ?_; rintro e w4 ⟨sl, rfl, hown, b4⟩)
  go_wp2_with fail
  refine (HR.out _ _ hown).mono ?_
  rintro e w5 ⟨rfl, hS5, b5⟩
  have B15 : Below w1.heap.size w1 w5 := b3.trans ((b4.trans b5).mono b3.size)
  have B05 := b1.trans (B15.mono b1.size)
  have L5 := SL.keep B15
  have T5 := ST.keep B15
  have D5 := SD.keep B15
  have N5 := sum_nil w5
  clear hown
  go_wp2_with fail
  refine (sum_is L5).mono ?_
  rintro e w' ⟨rfl, rfl⟩
  go_wp2_with fail
  go_quiet (first
    | (go_at_call 37; exact Calls.quiet_of_same (sum_drew (by assumption)))
    | (go_at_call 33; exact Calls.quiet_of_same (HA.out _)))
  go_wp2
  go_ret
  exact ⟨rfl, below_drew3 B05 _⟩

set_option maxRecDepth 100000 in
set_option maxHeartbeats 3200000 in
theorem sums_edge (b off n : Nat) (zs : List Int) (p : Int) (hp0 : 0 ≤ p) (hp1 : p ≤ 255) (w : World) (hg : Handle w) (hn : n ≤ 100) (hn0 : 0 < n) (hzl : zs.length = n) (hz : ∀ z ∈ zs, 0 ≤ z)
    (hk : p % ((n : Int) + 1) = n) (hc : CellsAt w ⟨b, off, none⟩ zs) :
    Calls Tryd.prog 12 #[.slice (some ⟨b, off, none⟩) n n, .int .u8 p] w fun e w' => e = .returned (.bool true) ∧ Below w.heap.size w w' := by
  have hb : ¬ (100 : Int) < n := by omega
  have hk0 : (0 : Int) ≤ (n : Int) := by omega
  have HC := Lib.hid hc
  have HL := Lib.hid hzl
  have HZ := Lib.hid hz
  clear hc hzl hz
  go_enter Tryd.func12, Tryd.ntmps12
  go_wp2_with fail
  refine (awake2_any _ hg).mono ?_
  rintro e w1 ⟨rfl, b1⟩
  have C1 := Lib.hid (HC.out.keep b1)
  obtain ⟨W3, hW3⟩ : ∃ W3, W3 = (w1.alloc (.cells #[.slice (some ⟨b, off, none⟩) 0 0, .slice (some ⟨b, off, none⟩) n n] 58)).drew := ⟨_, rfl⟩
  have b3 : Below w1.heap.size w1 W3 := by rw [hW3]; exact ((Below.refl _ _).alloc (Nat.le_refl _) _).drew
  have HCon : Hid (Calls Tryd.prog 44 #[.slice (some ⟨w1.heap.size, 0, none⟩) 2 2] W3 fun e w' => ∃ sl, e = .returned sl ∧ w'.ownsRow W3.heap.size 57 1 sl (([] : List Int).length + zs.length) ((([] : List Int) ++ zs).map (Value.int .u64)) ∧ Below W3.heap.size W3 w') := by
    refine concat_some w1.heap.size ⟨b, off, none⟩ ⟨b, off, none⟩ 0 n [] zs W3 ?_ ?_ ?_ (fun j u h => by simp at h) (C1.out.keep b3) (by simp) (by rw [HL.out]; exact hn)
    · rw [hW3]; simp
    · rw [hW3]; simp
    · rw [hW3, HL.out]; simp
  have s0 := sumI_pos zs HZ.out
  have SL : SumIs w1 (.slice (some ⟨b, off, none⟩) n n) (sumI zs) := ⟨zs, nums_cells C1.out HL.out.symm, HZ.out, by have := HL.out; omega, rfl⟩
  have ST := SL
  have SD : SumIs w1 (.slice (some ⟨b, off, none⟩) 0 0) 0 := ⟨[], .inl ⟨_, 0, rfl, rfl⟩, by simp, by simp, rfl⟩
  have HR := Lib.hid (fun sl w' h => reverse_any W3.heap.size (([] : List Int) ++ zs) sl w' (by simp; have := HL.out; omega) (fun z hz => HZ.out z (by simpa using hz)) h)
  have hlen : (([] : List Int) ++ zs).length = ([] : List Int).length + zs.length := by simp
  rw [hlen, List.nil_append] at HR
  rw [List.nil_append] at HCon
  have HA := Lib.hid (fun w => show Calls Tryd.prog 33 #[.int .u64 (sumI zs), .int .u64 0] w fun e w' => e = .returned (.int .u64 (sumI zs)) ∧ w' = w by
    have h := add_any (sumI zs) 0 s0 (Int.le_refl 0) w
    rw [addI_zero, sumI_plain zs HZ.out, capI_capI] at h
    rw [sumI_plain zs HZ.out]
    exact h)
  have HW3 := Lib.hid hW3
  clear s0 hlen hW3
  generalize sumI zs = S at *
  go_wp2_with fail
  go_region_with (go_at_call 44; rw [← HW3.out]; refine HCon.out.mono ?_; rintro e w4 ⟨sl, rfl, hown, b4⟩)
  go_wp2_with fail
  refine (HR.out _ _ hown).mono ?_
  rintro e w5 ⟨rfl, hS5, b5⟩
  have B15 : Below w1.heap.size w1 w5 := b3.trans ((b4.trans b5).mono b3.size)
  have B05 := b1.trans (B15.mono b1.size)
  have L5 := SL.keep B15
  have T5 := ST.keep B15
  have D5 := SD.keep B15
  have N5 := sum_nil w5
  clear hown
  go_wp2_with fail
  refine (sum_is L5).mono ?_
  rintro e w' ⟨rfl, rfl⟩
  go_wp2_with fail
  go_quiet (first
    | (go_at_call 37; exact Calls.quiet_of_same (sum_drew (by assumption)))
    | (go_at_call 33; exact Calls.quiet_of_same (HA.out _)))
  go_wp2
  go_ret
  exact ⟨rfl, below_drew3 B05 _⟩

set_option maxRecDepth 100000 in
set_option maxHeartbeats 3200000 in
theorem sums_zero (a : Addr) (cap : Nat) (p : Int) (hp0 : 0 ≤ p) (hp1 : p ≤ 255) (w : World) (hg : Handle w) :
    Calls Tryd.prog 12 #[.slice (some a) 0 cap, .int .u8 p] w fun e w' => e = .returned (.bool true) ∧ Below w.heap.size w w' := by
  go_enter Tryd.func12, Tryd.ntmps12
  go_wp2_with fail
  refine (awake2_any _ hg).mono ?_
  rintro e w1 ⟨rfl, b1⟩
  obtain ⟨W3, hW3⟩ : ∃ W3, W3 = (w1.alloc (.cells #[.slice (some a) 0 cap, .slice (some a) 0 cap] 58)).drew := ⟨_, rfl⟩
  have b3 : Below w1.heap.size w1 W3 := by rw [hW3]; exact ((Below.refl _ _).alloc (Nat.le_refl _) _).drew
  have HCon : Hid (Calls Tryd.prog 44 #[.slice (some ⟨w1.heap.size, 0, none⟩) 2 2] W3 fun e w' => ∃ sl, e = .returned sl ∧ w'.ownsRow W3.heap.size 57 1 sl 0 [] ∧ Below W3.heap.size W3 w') := by
    refine concat_some w1.heap.size a a cap cap [] [] W3 ?_ ?_ ?_ (fun j u h => by simp at h) (fun j u h => by simp at h) (by simp) (by simp)
    · rw [hW3]; simp
    · rw [hW3]; simp
    · rw [hW3]; simp
  have SL : SumIs w1 (.slice (some a) 0 cap) 0 := ⟨[], .inl ⟨_, _, rfl, rfl⟩, by simp, by simp, rfl⟩
  have ST := SL
  have SD := SL
  have HR := Lib.hid (fun sl w' h => reverse_any W3.heap.size [] sl w' (by simp) (by simp) h)
  have hs : sumI [] = 0 := rfl
  rw [hs] at HR
  have HA := Lib.hid (fun w => show Calls Tryd.prog 33 #[.int .u64 0, .int .u64 0] w fun e w' => e = .returned (.int .u64 0) ∧ w' = w by
    have h := add_any 0 0 (Int.le_refl 0) (Int.le_refl 0) w
    have e0 : addI 0 0 = 0 := by decide
    rw [e0] at h
    exact h)
  have HW3 := Lib.hid hW3
  clear hW3 hs
  go_wp2_with fail
  go_region_with (go_at_call 44; rw [← HW3.out]; refine HCon.out.mono ?_; rintro e w4 ⟨sl, rfl, hown, b4⟩)
  go_wp2_with fail
  refine (HR.out _ _ hown).mono ?_
  rintro e w5 ⟨rfl, hS5, b5⟩
  have B15 : Below w1.heap.size w1 w5 := b3.trans ((b4.trans b5).mono b3.size)
  have B05 := b1.trans (B15.mono b1.size)
  have L5 := SL.keep B15
  have T5 := ST.keep B15
  have D5 := SD.keep B15
  have N5 := sum_nil w5
  clear hown
  go_wp2_with fail
  refine (sum_is L5).mono ?_
  rintro e w' ⟨rfl, rfl⟩
  go_wp2_with fail
  go_quiet (first
    | (go_at_call 37; exact Calls.quiet_of_same (sum_drew (by assumption)))
    | (go_at_call 33; exact Calls.quiet_of_same (HA.out _)))
  go_wp2
  go_ret
  exact ⟨rfl, below_drew3 B05 _⟩

set_option maxRecDepth 100000 in
set_option maxHeartbeats 3200000 in
theorem sums_nil (p : Int) (hp0 : 0 ≤ p) (hp1 : p ≤ 255) (w : World) (hg : Handle w) :
    Calls Tryd.prog 12 #[.slice none 0 0, .int .u8 p] w fun e w' => e = .returned (.bool true) ∧ Below w.heap.size w w' := by
  go_enter Tryd.func12, Tryd.ntmps12
  go_wp2_with fail
  refine (awake2_any _ hg).mono ?_
  rintro e w1 ⟨rfl, b1⟩
  obtain ⟨W3, hW3⟩ : ∃ W3, W3 = (w1.alloc (.cells #[.slice none 0 0, .slice none 0 0] 58)).drew := ⟨_, rfl⟩
  have b3 : Below w1.heap.size w1 W3 := by rw [hW3]; exact ((Below.refl _ _).alloc (Nat.le_refl _) _).drew
  have HCon : Hid (Calls Tryd.prog 44 #[.slice (some ⟨w1.heap.size, 0, none⟩) 2 2] W3 fun e w' => ∃ sl, e = .returned sl ∧ w'.ownsRow W3.heap.size 57 1 sl 0 [] ∧ Below W3.heap.size W3 w') := by
    refine concat_nil w1.heap.size W3 ?_ ?_ ?_
    · rw [hW3]; simp
    · rw [hW3]; simp
    · rw [hW3]; simp
  have SL : SumIs w1 (.slice none 0 0) 0 := ⟨[], .inl ⟨_, _, rfl, rfl⟩, by simp, by simp, rfl⟩
  have ST := SL
  have SD := SL
  have HR := Lib.hid (fun sl w' h => reverse_any W3.heap.size [] sl w' (by simp) (by simp) h)
  have hs : sumI [] = 0 := rfl
  rw [hs] at HR
  have HA := Lib.hid (fun w => show Calls Tryd.prog 33 #[.int .u64 0, .int .u64 0] w fun e w' => e = .returned (.int .u64 0) ∧ w' = w by
    have h := add_any 0 0 (Int.le_refl 0) (Int.le_refl 0) w
    have e0 : addI 0 0 = 0 := by decide
    rw [e0] at h
    exact h)
  have HW3 := Lib.hid hW3
  clear hW3 hs
  go_wp2_with fail
  go_region_with (go_at_call 44; rw [← HW3.out]; refine HCon.out.mono ?_; rintro e w4 ⟨sl, rfl, hown, b4⟩)
  go_wp2_with fail
  refine (HR.out _ _ hown).mono ?_
  rintro e w5 ⟨rfl, hS5, b5⟩
  have B15 : Below w1.heap.size w1 w5 := b3.trans ((b4.trans b5).mono b3.size)
  have B05 := b1.trans (B15.mono b1.size)
  have L5 := SL.keep B15
  have T5 := ST.keep B15
  have D5 := SD.keep B15
  have N5 := sum_nil w5
  clear hown
  go_wp2_with fail
  refine (sum_is L5).mono ?_
  rintro e w' ⟨rfl, rfl⟩
  go_wp2_with fail
  go_quiet (first
    | (go_at_call 37; exact Calls.quiet_of_same (sum_drew (by assumption)))
    | (go_at_call 33; exact Calls.quiet_of_same (HA.out _)))
  go_wp2
  go_ret
  exact ⟨rfl, below_drew3 B05 _⟩

/-- A slice among the arguments. -/
def NumArg (w : World) (v : Value) (zs : List Int) : Prop :=
  (v = .slice none 0 0 ∧ zs = []) ∨ (∃ a cap, v = .slice (some a) 0 cap ∧ zs = []) ∨ ∃ b off cap, v = .slice (some ⟨b, off, none⟩) zs.length cap ∧ 0 < zs.length ∧ zs.length ≤ cap ∧ CellsAt w ⟨b, off, none⟩ zs

theorem sums_any (zs : List Int) (v : Value) (hz : ∀ z ∈ zs, 0 ≤ z) (p : Int) (hp0 : 0 ≤ p) (hp1 : p ≤ 255) (w : World) (hv : NumArg w v zs) (hg : Handle w) :
    Calls Tryd.prog 12 #[v, .int .u8 p] w fun e w' => e = .returned (.bool true) ∧ Below w.heap.size w w' := by
  rcases hv with ⟨rfl, rfl⟩ | ⟨a, cap, rfl, rfl⟩ | ⟨b, off, cap, rfl, h0, hcap, hc⟩
  · exact sums_nil p hp0 hp1 w hg
  · exact sums_zero a cap p hp0 hp1 w hg
  · by_cases hl : 100 < zs.length
    · exact sums_far _ _ cap p w hg hl
    · have m1 := Int.emod_nonneg p (show ((zs.length : Int) + 1) ≠ 0 by omega)
      have m2 := Int.emod_lt_of_pos p (show 0 < (zs.length : Int) + 1 by omega)
      obtain ⟨k, hk⟩ : ∃ k : Nat, p % ((zs.length : Int) + 1) = k := ⟨(p % ((zs.length : Int) + 1)).toNat, by omega⟩
      have hkn : k ≤ zs.length := by omega
      by_cases he : cap = k
      · have e1 : cap = zs.length := by omega
        have e2 : k = zs.length := by omega
        rw [e1]
        rw [e2] at hk
        exact sums_edge b off zs.length zs p hp0 hp1 w hg (by omega) h0 rfl hz hk hc
      · exact sums_some b off zs.length cap k zs p hp0 hp1 w hg (by omega) h0 hcap rfl hz hk hkn he hc
end Go.Proofs.YtcjmmiimkedeoaaDoor
