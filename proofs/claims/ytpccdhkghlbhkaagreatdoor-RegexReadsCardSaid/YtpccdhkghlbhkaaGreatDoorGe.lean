/-
  The document's own reader of expressions by contracts: is, fail, skip, take, count, name.
  The document's own reader of expressions by contracts: take, count, name.
  The document's own reader of expressions by contracts: word.
  The document's own reader of expressions by contracts: word, against the plain reading.
-/
import Derived.Test.YtpccdhkghlbhkaaGreatDoorRxC
import Derived.Test.YtpccdhkghlbhkaaGreatDoorGn
import Derived.Deep.RegionHeld3
import Derived.Test.YtpccdhkghlbhkaaGreatDoorRxP
namespace Go.Proofs.YtpccdhkghlbhkaaGreatDoor
open Go.RowKit Go.Extern.Stop Go.Stop Go.Extern

/-- The document's reader in memory: a text, a place, how many, an error. -/
def Qn (w : World) (b : Nat) (s : ByteArray) (a n : Nat) (c : Int) : Prop := QuadAt 69 w b (.string s) (.int .i64 a) (.int .i64 n) (.int .i64 c)
section
variable {w w' : World} {b a n : Nat} {c : Int} {s : ByteArray}
theorem Qn.step (h : Qn w b s a n c) (hb : Below w.heap.size w w') : Qn w' b s a n c := QuadAt.step h hb
theorem Qn.lt (h : Qn w b s a n c) : b < w.heap.size := QuadAt.lt h
theorem Qn.cells (h : Qn w b s a n c) : w.cell? ⟨b, 0, none⟩ = some (.string s) ∧ w.cell? ⟨b, 1, none⟩ = some (.int .i64 a) ∧ w.cell? ⟨b, 2, none⟩ = some (.int .i64 n) ∧ w.cell? ⟨b, 3, none⟩ = some (.int .i64 c) := QuadAt.cells h
theorem Qn.fz (h : Qn w b s a n c) (i : Nat) : w.frozen? ⟨b, i, none⟩ = false := QuadAt.fz h i
theorem Qn.far (h : Qn w b s a n c) {q : Addr} (hq : b ≠ q.block) (u : Value) : Qn (w.setCell q u) b s a n c := QuadAt.far h hq u
theorem Qn.keeps {D : Nat → Prop} (h : Qn w b s a n c) (hk : Keeps D w w') (hD : ¬ D b) : Qn w' b s a n c := QuadAt.keeps h hk hD
theorem Qn.at1 (h : Qn w b s a n c) (a' : Nat) : Qn (w.setCell ⟨b, 1, none⟩ (.int .i64 a')) b s a' n c := QuadAt.put1 h _
theorem Qn.at2 (h : Qn w b s a n c) (n' : Nat) : Qn (w.setCell ⟨b, 2, none⟩ (.int .i64 n')) b s a n' c := QuadAt.put2 h _
theorem Qn.at3 (h : Qn w b s a n c) (c' : Int) : Qn (w.setCell ⟨b, 3, none⟩ (.int .i64 c')) b s a n c' := QuadAt.put3 h _
end
theorem keepsQ (w : World) (b i : Nat) (u : Value) : Keeps (· = b) w (w.setCell ⟨b, i, none⟩ u) := (Keeps.refl (· = b) w).setCell (q := ⟨b, i, none⟩) (.inr rfl) u
theorem byteQ_eq {s : ByteArray} {k : Nat} (h : k < s.size) {c : Int} (hc : byteI s k = c) : ((s[k].toNat : Int) == c) = true := by rw [byteI_lt h] at hc; simpa using hc
theorem byteQ_ne {s : ByteArray} {k : Nat} (h : k < s.size) {c : Int} (hc : ¬ byteI s k = c) : ((s[k].toNat : Int) == c) = false := by rw [byteI_lt h] at hc; simpa using hc

/-! ### fail, is -/
set_option maxRecDepth 100000 in
set_option maxHeartbeats 1000000 in
theorem qfail_yes (s : ByteArray) (a n b : Nat) (d : Int) (w : World) (h : Qn w b s a n 0) :
    Calls Tryz.prog 66 #[.pointer (some ⟨b, 0, none⟩), .int .i64 d] w fun e w' => e = .returned (.tuple #[]) ∧ Qn w' b s a n d ∧ Keeps (· = b) w w' := by
  obtain ⟨c0, c1, c2, c3⟩ := h.cells
  have f3 := h.fz 3
  have HP := Lib.hid (h.at3 d)
  clear h
  go_enter Tryz.func66, Tryz.ntmps66
  go_wp2_with fail
  go_end0
  exact ⟨rfl, HP.out, keepsQ w b 3 _⟩
set_option maxRecDepth 100000 in
set_option maxHeartbeats 1000000 in
theorem qfail_no (s : ByteArray) (a n b : Nat) (c d : Int) (hc : c ≠ 0) (w : World) (h : Qn w b s a n c) :
    Calls Tryz.prog 66 #[.pointer (some ⟨b, 0, none⟩), .int .i64 d] w fun e w' => e = .returned (.tuple #[]) ∧ w' = w := by
  obtain ⟨c0, c1, c2, c3⟩ := h.cells
  have hne : (c == 0) = false := beq_eq_false_iff_ne.2 hc
  clear h hc
  go_enter Tryz.func66, Tryz.ntmps66
  go_wp2_with fail
  go_end0
  exact ⟨rfl, rfl⟩
set_option maxRecDepth 100000 in
set_option maxHeartbeats 4000000 in
theorem qis_any (s : ByteArray) (a n b : Nat) (c d : Int) (hd : d ≠ 0) (ha : a ≤ s.size) (w : World) (h : Qn w b s a n c) :
    Calls Tryz.prog 47 #[.pointer (some ⟨b, 0, none⟩), .int .u8 d] w fun e w' => e = .returned (.bool (decide (c = 0) && decide (byteI s a = d))) ∧ Below w.heap.size w w' := by
  have hI := h.step (Below.refl _ _).drew
  have kk := hI.cells
  by_cases hc : c = 0
  · subst hc
    by_cases hlt : a < s.size
    · have hlti : (a : Int) < (s.size : Int) := by omega
      have ha0 : (0 : Int) ≤ (a : Int) := by omega
      by_cases he : byteI s a = d
      · have hb := byteQ_eq hlt he
        have hr : (decide ((0 : Int) = 0) && decide (byteI s a = d)) = true := by rw [decide_eq_true he]; rfl
        rw [hr]
        clear he hr h
        go_enter Tryz.func47, Tryz.ntmps47
        go_wp2_with fail
        go_region_held3 (fun W => W.cell? ⟨b, 0, none⟩ = some (.string s) ∧ W.cell? ⟨b, 1, none⟩ = some (.int .i64 a) ∧ W.cell? ⟨b, 2, none⟩ = some (.int .i64 n) ∧ W.cell? ⟨b, 3, none⟩ = some (.int .i64 0))
          (first | exact kk | exact hI.cells)
          (fail)
        all_goals
          go_wp2
          go_ret
          exact ⟨rfl, (Below.refl _ _).drew⟩
      · have hb := byteQ_ne hlt he
        have hr : (decide ((0 : Int) = 0) && decide (byteI s a = d)) = false := by rw [decide_eq_false he]; rfl
        rw [hr]
        clear he hr h
        go_enter Tryz.func47, Tryz.ntmps47
        go_wp2_with fail
        go_region_held3 (fun W => W.cell? ⟨b, 0, none⟩ = some (.string s) ∧ W.cell? ⟨b, 1, none⟩ = some (.int .i64 a) ∧ W.cell? ⟨b, 2, none⟩ = some (.int .i64 n) ∧ W.cell? ⟨b, 3, none⟩ = some (.int .i64 0))
          (first | exact kk | exact hI.cells)
          (fail)
        all_goals
          go_wp2
          go_ret
          exact ⟨rfl, (Below.refl _ _).drew⟩
    · have he : ¬ byteI s a = d := fun e => hd (by rw [← e, byteI_ge hlt])
      have hr : (decide ((0 : Int) = 0) && decide (byteI s a = d)) = false := by rw [decide_eq_false he]; rfl
      have hl2 : ¬ (a : Int) < (s.size : Int) := by omega
      have hl1 : decide ((a : Int) < (s.size : Int)) = false := decide_eq_false hl2
      have hl3 : decide (a < s.size) = false := decide_eq_false hlt
      rw [hr]
      clear he hr h
      go_enter Tryz.func47, Tryz.ntmps47
      go_wp2_with fail
      refine wp_region_held_drew (S := fun W => W.cell? ⟨b, 0, none⟩ = some (.string s) ∧ W.cell? ⟨b, 1, none⟩ = some (.int .i64 a) ∧ W.cell? ⟨b, 2, none⟩ = some (.int .i64 n) ∧ W.cell? ⟨b, 3, none⟩ = some (.int .i64 0)) (by kernel_rfl) ?_ (fun hHeld => ?_)
      · exact kk
      refine wpAnyH_take (i := 0) (v := ?_) (by simp only [List.getElem?_toArray, List.getElem?_cons_succ, List.getElem?_cons_zero]; rfl) (by kernel_rfl) (by kernel_rfl) (by kernel_rfl) (by exact fun _ _ _ h => h) (Or.inl ⟨by rfl, ?_⟩) (by assumption) ?_
      rotate_left
      · (intro w' hSw; (try dsimp only at hSw); go_simp; try with_reducible rfl)
      try simp only [Act.put, List.setIfInBounds_toArray, List.set_cons_zero, List.set_cons_succ]
      refine wpAnyH_take (i := 1) (v := ?_) (by simp only [List.getElem?_toArray, List.getElem?_cons_succ, List.getElem?_cons_zero]; rfl) (by kernel_rfl) (by kernel_rfl) (by kernel_rfl) (by exact fun _ _ _ h => h) (Or.inl ⟨by rfl, ?_⟩) (by assumption) ?_
      rotate_left
      · (intro w' hSw; (try dsimp only at hSw); go_simp; try with_reducible rfl)
      try simp only [Act.put, List.setIfInBounds_toArray, List.set_cons_zero, List.set_cons_succ]
      refine wpAnyH_take (i := 2) (v := ?_) (by simp only [List.getElem?_toArray, List.getElem?_cons_succ, List.getElem?_cons_zero]; rfl) (by kernel_rfl) (by kernel_rfl) (by kernel_rfl) (by exact fun _ _ _ h => h) (Or.inl ⟨by rfl, ?_⟩) (by assumption) ?_
      rotate_left
      · (intro w' hSw; (try dsimp only at hSw); go_simp; try with_reducible rfl)
      try simp only [Act.put, List.setIfInBounds_toArray, List.set_cons_zero, List.set_cons_succ]
      refine wpAnyH_take (i := 3) (v := ?_) (by simp only [List.getElem?_toArray, List.getElem?_cons_succ, List.getElem?_cons_zero]; rfl) (by kernel_rfl) (by kernel_rfl) (by kernel_rfl) (by exact fun _ _ _ h => h) (Or.inl ⟨by rfl, ?_⟩) (by assumption) ?_
      rotate_left
      · (intro w' hSw; (try dsimp only at hSw); go_simp; try with_reducible rfl)
      try simp only [Act.put, List.setIfInBounds_toArray, List.set_cons_zero, List.set_cons_succ]
      refine wpAnyH_take (i := 4) (v := ?_) (by simp only [List.getElem?_toArray, List.getElem?_cons_succ, List.getElem?_cons_zero]; rfl) (by kernel_rfl) (by kernel_rfl) (by kernel_rfl) (by exact fun _ _ _ h => h) (Or.inl ⟨by rfl, ?_⟩) (by assumption) ?_
      rotate_left
      · (intro w' hSw; (try dsimp only at hSw); go_simp; try with_reducible rfl)
      try simp only [Act.put, List.setIfInBounds_toArray, List.set_cons_zero, List.set_cons_succ]
      refine wpAnyH_take (i := 5) (v := ?_) (by simp only [List.getElem?_toArray, List.getElem?_cons_succ, List.getElem?_cons_zero]; rfl) (by kernel_rfl) (by kernel_rfl) (by kernel_rfl) (by exact fun _ _ _ h => h) (Or.inl ⟨by rfl, ?_⟩) (by assumption) ?_
      rotate_left
      · (intro w' hSw; (try dsimp only at hSw); go_simp; try with_reducible rfl)
      try simp only [Act.put, List.setIfInBounds_toArray, List.set_cons_zero, List.set_cons_succ]
      refine wpAnyH_take (i := 6) (v := ?_) (by simp only [List.getElem?_toArray, List.getElem?_cons_succ, List.getElem?_cons_zero]; rfl) (by kernel_rfl) (by kernel_rfl) (by kernel_rfl) (by exact fun _ _ _ h => h) (Or.inl ⟨by rfl, ?_⟩) (by assumption) ?_
      rotate_left
      · (intro w' hSw; (try dsimp only at hSw); go_simp; try with_reducible rfl)
      try simp only [Act.put, List.setIfInBounds_toArray, List.set_cons_zero, List.set_cons_succ]
      refine wpAnyH_take (i := 7) (v := ?_) (by simp only [List.getElem?_toArray, List.getElem?_cons_succ, List.getElem?_cons_zero]; rfl) (by kernel_rfl) (by kernel_rfl) (by kernel_rfl) (by exact fun _ _ _ h => h) (Or.inl ⟨by rfl, ?_⟩) (by assumption) ?_
      rotate_left
      · (intro w' hSw; (try dsimp only at hSw); go_simp; try with_reducible rfl)
      try simp only [Act.put, List.setIfInBounds_toArray, List.set_cons_zero, List.set_cons_succ]
      refine wpAnyH_take (i := 8) (v := ?_) (by simp only [List.getElem?_toArray, List.getElem?_cons_succ, List.getElem?_cons_zero]; rfl) (by kernel_rfl) (by kernel_rfl) (by kernel_rfl) (by exact fun _ _ _ h => h) (Or.inl ⟨by rfl, ?_⟩) (by assumption) ?_
      rotate_left
      · (intro w' hSw; (try dsimp only at hSw); go_simp; try with_reducible rfl)
      try simp only [Act.put, List.setIfInBounds_toArray, List.set_cons_zero, List.set_cons_succ]
      refine wpAnyH_take (i := 9) (v := ?_) (by simp only [List.getElem?_toArray, List.getElem?_cons_succ, List.getElem?_cons_zero]; rfl) (by kernel_rfl) (by kernel_rfl) (by kernel_rfl) (by exact fun _ _ _ h => h) (Or.inl ⟨by rfl, ?_⟩) (by assumption) ?_
      rotate_left
      · (intro w' hSw; (try dsimp only at hSw); go_simp; try with_reducible rfl)
      try simp only [Act.put, List.setIfInBounds_toArray, List.set_cons_zero, List.set_cons_succ]
      refine wpAnyH_take (i := 10) (v := ?_) (by simp only [List.getElem?_toArray, List.getElem?_cons_succ, List.getElem?_cons_zero]; rfl) (by kernel_rfl) (by kernel_rfl) (by kernel_rfl) (by exact fun _ _ _ h => h) (Or.inl ⟨by rfl, ?_⟩) (by assumption) ?_
      rotate_left
      · (intro w' hSw; (try dsimp only at hSw); go_simp; try with_reducible rfl)
      try simp only [Act.put, List.setIfInBounds_toArray, List.set_cons_zero, List.set_cons_succ]
      refine wpAnyH_take (i := 11) (v := ?_) (by simp only [List.getElem?_toArray, List.getElem?_cons_succ, List.getElem?_cons_zero]; rfl) (by kernel_rfl) (by kernel_rfl) (by kernel_rfl) (by exact fun _ _ _ h => h) (Or.inl ⟨by rfl, ?_⟩) (by assumption) ?_
      rotate_left
      · (intro w' hSw; (try dsimp only at hSw); go_simp; try with_reducible rfl)
      try simp only [Act.put, List.setIfInBounds_toArray, List.set_cons_zero, List.set_cons_succ]
      refine wpAnyH_take (i := 12) (v := ?_) (by simp only [List.getElem?_toArray, List.getElem?_cons_succ, List.getElem?_cons_zero]; rfl) (by kernel_rfl) (by kernel_rfl) (by kernel_rfl) (by exact fun _ _ _ h => h) (Or.inl ⟨by rfl, ?_⟩) (by assumption) ?_
      rotate_left
      · (intro w' hSw; (try dsimp only at hSw); go_simp; try with_reducible rfl)
      try simp only [Act.put, List.setIfInBounds_toArray, List.set_cons_zero, List.set_cons_succ]
      refine wpAnyH_take (i := 13) (v := ?_) (by simp only [List.getElem?_toArray, List.getElem?_cons_succ, List.getElem?_cons_zero]; rfl) (by kernel_rfl) (by kernel_rfl) (by kernel_rfl) (by exact fun _ _ _ h => h) (Or.inl ⟨by rfl, ?_⟩) (by assumption) ?_
      rotate_left
      · (intro w' hSw; (try dsimp only at hSw); go_simp; try with_reducible rfl)
      try simp only [Act.put, List.setIfInBounds_toArray, List.set_cons_zero, List.set_cons_succ]
      refine wpAnyH_take (i := 14) (v := ?_) (by simp only [List.getElem?_toArray, List.getElem?_cons_succ, List.getElem?_cons_zero]; rfl) (by kernel_rfl) (by kernel_rfl) (by kernel_rfl) (by exact fun _ _ _ h => h) (Or.inl ⟨by rfl, ?_⟩) (by assumption) ?_
      rotate_left
      · (intro w' hSw; (try dsimp only at hSw); go_simp; try with_reducible rfl)
      try simp only [Act.put, List.setIfInBounds_toArray, List.set_cons_zero, List.set_cons_succ]
      refine wpAnyH_take (i := 15) (v := ?_) (by simp only [List.getElem?_toArray, List.getElem?_cons_succ, List.getElem?_cons_zero]; rfl) (by kernel_rfl) (by kernel_rfl) (by kernel_rfl) (by exact fun _ _ _ h => h) (Or.inl ⟨by rfl, ?_⟩) (by assumption) ?_
      rotate_left
      · (intro w' hSw; (try dsimp only at hSw); go_simp; try with_reducible rfl)
      try simp only [Act.put, List.setIfInBounds_toArray, List.set_cons_zero, List.set_cons_succ]
      refine wpAnyH_take (i := 16) (v := ?_) (by simp only [List.getElem?_toArray, List.getElem?_cons_succ, List.getElem?_cons_zero]; rfl) (by kernel_rfl) (by kernel_rfl) (by kernel_rfl) (by exact fun _ _ _ h => h) (Or.inl ⟨by rfl, ?_⟩) (by assumption) ?_
      rotate_left
      · (intro w' hSw; (try dsimp only at hSw); go_simp; try with_reducible rfl)
      try simp only [Act.put, List.setIfInBounds_toArray, List.set_cons_zero, List.set_cons_succ]
      refine wpAnyH_take (i := 17) (v := ?_) (by simp only [List.getElem?_toArray, List.getElem?_cons_succ, List.getElem?_cons_zero]; rfl) (by kernel_rfl) (by kernel_rfl) (by kernel_rfl) (by exact fun _ _ _ h => h) (Or.inl ⟨by rfl, ?_⟩) (by assumption) ?_
      rotate_left
      · (intro w' hSw; (try dsimp only at hSw); go_simp; try with_reducible rfl)
      try simp only [Act.put, List.setIfInBounds_toArray, List.set_cons_zero, List.set_cons_succ]
      refine wpAnyH_take (i := 18) (v := undef) (by simp only [List.getElem?_toArray, List.getElem?_cons_succ, List.getElem?_cons_zero]; rfl) (by kernel_rfl) (by kernel_rfl) (by kernel_rfl) (by exact fun _ _ _ h => h) (Or.inr ⟨by rfl, rfl⟩) (by assumption) ?_
      try simp only [Act.put, List.setIfInBounds_toArray, List.set_cons_zero, List.set_cons_succ]
      refine wpAnyH_take (i := 19) (v := undef) (by simp only [List.getElem?_toArray, List.getElem?_cons_succ, List.getElem?_cons_zero]; rfl) (by kernel_rfl) (by kernel_rfl) (by kernel_rfl) (by exact fun _ _ _ h => h) (Or.inr ⟨by rfl, rfl⟩) (by assumption) ?_
      try simp only [Act.put, List.setIfInBounds_toArray, List.set_cons_zero, List.set_cons_succ]
      refine wpAnyH_take (i := 20) (v := undef) (by simp only [List.getElem?_toArray, List.getElem?_cons_succ, List.getElem?_cons_zero]; rfl) (by kernel_rfl) (by kernel_rfl) (by kernel_rfl) (by exact fun _ _ _ h => h) (Or.inr ⟨by rfl, rfl⟩) (by assumption) ?_
      try simp only [Act.put, List.setIfInBounds_toArray, List.set_cons_zero, List.set_cons_succ]
      refine wpAnyH_take (i := 21) (v := undef) (by simp only [List.getElem?_toArray, List.getElem?_cons_succ, List.getElem?_cons_zero]; rfl) (by kernel_rfl) (by kernel_rfl) (by kernel_rfl) (by exact fun _ _ _ h => h) (Or.inr ⟨by rfl, rfl⟩) (by assumption) ?_
      try simp only [Act.put, List.setIfInBounds_toArray, List.set_cons_zero, List.set_cons_succ]
      refine wpAnyH_take (i := 22) (v := undef) (by simp only [List.getElem?_toArray, List.getElem?_cons_succ, List.getElem?_cons_zero]; rfl) (by kernel_rfl) (by kernel_rfl) (by kernel_rfl) (by exact fun _ _ _ h => h) (Or.inr ⟨by rfl, rfl⟩) (by assumption) ?_
      try simp only [Act.put, List.setIfInBounds_toArray, List.set_cons_zero, List.set_cons_succ]
      refine wpAnyH_take (i := 23) (v := undef) (by simp only [List.getElem?_toArray, List.getElem?_cons_succ, List.getElem?_cons_zero]; rfl) (by kernel_rfl) (by kernel_rfl) (by kernel_rfl) (by exact fun _ _ _ h => h) (Or.inr ⟨by rfl, rfl⟩) (by assumption) ?_
      try simp only [Act.put, List.setIfInBounds_toArray, List.set_cons_zero, List.set_cons_succ]
      refine wpAnyH_take (i := 24) (v := undef) (by simp only [List.getElem?_toArray, List.getElem?_cons_succ, List.getElem?_cons_zero]; rfl) (by kernel_rfl) (by kernel_rfl) (by kernel_rfl) (by exact fun _ _ _ h => h) (Or.inr ⟨by rfl, rfl⟩) (by assumption) ?_
      try simp only [Act.put, List.setIfInBounds_toArray, List.set_cons_zero, List.set_cons_succ]
      refine wpAnyH_take (i := 25) (v := undef) (by simp only [List.getElem?_toArray, List.getElem?_cons_succ, List.getElem?_cons_zero]; rfl) (by kernel_rfl) (by kernel_rfl) (by kernel_rfl) (by exact fun _ _ _ h => h) (Or.inr ⟨by rfl, rfl⟩) (by assumption) ?_
      try simp only [Act.put, List.setIfInBounds_toArray, List.set_cons_zero, List.set_cons_succ]
      refine wpAnyH_take (i := 26) (v := undef) (by simp only [List.getElem?_toArray, List.getElem?_cons_succ, List.getElem?_cons_zero]; rfl) (by kernel_rfl) (by kernel_rfl) (by kernel_rfl) (by exact fun _ _ _ h => h) (Or.inr ⟨by rfl, rfl⟩) (by assumption) ?_
      try simp only [Act.put, List.setIfInBounds_toArray, List.set_cons_zero, List.set_cons_succ]
      refine wpAnyH_take (i := 27) (v := undef) (by simp only [List.getElem?_toArray, List.getElem?_cons_succ, List.getElem?_cons_zero]; rfl) (by kernel_rfl) (by kernel_rfl) (by kernel_rfl) (by exact fun _ _ _ h => h) (Or.inr ⟨by rfl, rfl⟩) (by assumption) ?_
      try simp only [Act.put, List.setIfInBounds_toArray, List.set_cons_zero, List.set_cons_succ]
      refine wpAnyH_take (i := 28) (v := undef) (by simp only [List.getElem?_toArray, List.getElem?_cons_succ, List.getElem?_cons_zero]; rfl) (by kernel_rfl) (by kernel_rfl) (by kernel_rfl) (by exact fun _ _ _ h => h) (Or.inr ⟨by rfl, rfl⟩) (by assumption) ?_
      try simp only [Act.put, List.setIfInBounds_toArray, List.set_cons_zero, List.set_cons_succ]
      refine wpAnyH_take (i := 29) (v := ?_) (by simp only [List.getElem?_toArray, List.getElem?_cons_succ, List.getElem?_cons_zero]; rfl) (by kernel_rfl) (by kernel_rfl) (by kernel_rfl) (by exact fun _ _ _ h => h) (Or.inl ⟨by rfl, ?_⟩) (by assumption) ?_
      rotate_left
      · (intro w' hSw; (try dsimp only at hSw); go_simp; try with_reducible rfl)
      try simp only [Act.put, List.setIfInBounds_toArray, List.set_cons_zero, List.set_cons_succ]
      refine wpAnyH_take (i := 30) (v := ?_) (by simp only [List.getElem?_toArray, List.getElem?_cons_succ, List.getElem?_cons_zero]; rfl) (by kernel_rfl) (by kernel_rfl) (by kernel_rfl) (by exact fun _ _ _ h => h) (Or.inl ⟨by rfl, ?_⟩) (by assumption) ?_
      rotate_left
      · (intro w' hSw; (try dsimp only at hSw); go_simp; try with_reducible rfl)
      try simp only [Act.put, List.setIfInBounds_toArray, List.set_cons_zero, List.set_cons_succ]
      refine wpAnyH_done (by kernel_rfl) ?_ _
      all_goals
        go_wp2
        go_ret
        exact ⟨rfl, (Below.refl _ _).drew⟩
  · have hne : (c == 0) = false := beq_eq_false_iff_ne.2 hc
    have hr : (decide (c = 0) && decide (byteI s a = d)) = false := by rw [decide_eq_false hc]; rfl
    have hne2 : decide (c = 0) = false := decide_eq_false hc
    rw [hr]
    clear hr h
    go_enter Tryz.func47, Tryz.ntmps47
    go_wp2_with fail
    refine wp_region_held_drew (S := fun W => W.cell? ⟨b, 0, none⟩ = some (.string s) ∧ W.cell? ⟨b, 1, none⟩ = some (.int .i64 a) ∧ W.cell? ⟨b, 2, none⟩ = some (.int .i64 n) ∧ W.cell? ⟨b, 3, none⟩ = some (.int .i64 c)) (by kernel_rfl) ?_ (fun hHeld => ?_)
    · exact kk
    refine wpAnyH_take (i := 0) (v := ?_) (by simp only [List.getElem?_toArray, List.getElem?_cons_succ, List.getElem?_cons_zero]; rfl) (by kernel_rfl) (by kernel_rfl) (by kernel_rfl) (by exact fun _ _ _ h => h) (Or.inl ⟨by rfl, ?_⟩) (by assumption) ?_
    rotate_left
    · (intro w' hSw; (try dsimp only at hSw); go_simp; try with_reducible rfl)
    try simp only [Act.put, List.setIfInBounds_toArray, List.set_cons_zero, List.set_cons_succ]
    refine wpAnyH_take (i := 1) (v := ?_) (by simp only [List.getElem?_toArray, List.getElem?_cons_succ, List.getElem?_cons_zero]; rfl) (by kernel_rfl) (by kernel_rfl) (by kernel_rfl) (by exact fun _ _ _ h => h) (Or.inl ⟨by rfl, ?_⟩) (by assumption) ?_
    rotate_left
    · (intro w' hSw; (try dsimp only at hSw); go_simp; try with_reducible rfl)
    try simp only [Act.put, List.setIfInBounds_toArray, List.set_cons_zero, List.set_cons_succ]
    refine wpAnyH_take (i := 2) (v := ?_) (by simp only [List.getElem?_toArray, List.getElem?_cons_succ, List.getElem?_cons_zero]; rfl) (by kernel_rfl) (by kernel_rfl) (by kernel_rfl) (by exact fun _ _ _ h => h) (Or.inl ⟨by rfl, ?_⟩) (by assumption) ?_
    rotate_left
    · (intro w' hSw; (try dsimp only at hSw); go_simp; try with_reducible rfl)
    try simp only [Act.put, List.setIfInBounds_toArray, List.set_cons_zero, List.set_cons_succ]
    refine wpAnyH_take (i := 3) (v := ?_) (by simp only [List.getElem?_toArray, List.getElem?_cons_succ, List.getElem?_cons_zero]; rfl) (by kernel_rfl) (by kernel_rfl) (by kernel_rfl) (by exact fun _ _ _ h => h) (Or.inl ⟨by rfl, ?_⟩) (by assumption) ?_
    rotate_left
    · (intro w' hSw; (try dsimp only at hSw); go_simp; try with_reducible rfl)
    try simp only [Act.put, List.setIfInBounds_toArray, List.set_cons_zero, List.set_cons_succ]
    refine wpAnyH_take (i := 4) (v := ?_) (by simp only [List.getElem?_toArray, List.getElem?_cons_succ, List.getElem?_cons_zero]; rfl) (by kernel_rfl) (by kernel_rfl) (by kernel_rfl) (by exact fun _ _ _ h => h) (Or.inl ⟨by rfl, ?_⟩) (by assumption) ?_
    rotate_left
    · (intro w' hSw; (try dsimp only at hSw); go_simp; try with_reducible rfl)
    try simp only [Act.put, List.setIfInBounds_toArray, List.set_cons_zero, List.set_cons_succ]
    refine wpAnyH_take (i := 5) (v := ?_) (by simp only [List.getElem?_toArray, List.getElem?_cons_succ, List.getElem?_cons_zero]; rfl) (by kernel_rfl) (by kernel_rfl) (by kernel_rfl) (by exact fun _ _ _ h => h) (Or.inl ⟨by rfl, ?_⟩) (by assumption) ?_
    rotate_left
    · (intro w' hSw; (try dsimp only at hSw); go_simp; try with_reducible rfl)
    try simp only [Act.put, List.setIfInBounds_toArray, List.set_cons_zero, List.set_cons_succ]
    refine wpAnyH_take (i := 6) (v := undef) (by simp only [List.getElem?_toArray, List.getElem?_cons_succ, List.getElem?_cons_zero]; rfl) (by kernel_rfl) (by kernel_rfl) (by kernel_rfl) (by exact fun _ _ _ h => h) (Or.inr ⟨by rfl, rfl⟩) (by assumption) ?_
    try simp only [Act.put, List.setIfInBounds_toArray, List.set_cons_zero, List.set_cons_succ]
    refine wpAnyH_take (i := 7) (v := undef) (by simp only [List.getElem?_toArray, List.getElem?_cons_succ, List.getElem?_cons_zero]; rfl) (by kernel_rfl) (by kernel_rfl) (by kernel_rfl) (by exact fun _ _ _ h => h) (Or.inr ⟨by rfl, rfl⟩) (by assumption) ?_
    try simp only [Act.put, List.setIfInBounds_toArray, List.set_cons_zero, List.set_cons_succ]
    refine wpAnyH_take (i := 8) (v := undef) (by simp only [List.getElem?_toArray, List.getElem?_cons_succ, List.getElem?_cons_zero]; rfl) (by kernel_rfl) (by kernel_rfl) (by kernel_rfl) (by exact fun _ _ _ h => h) (Or.inr ⟨by rfl, rfl⟩) (by assumption) ?_
    try simp only [Act.put, List.setIfInBounds_toArray, List.set_cons_zero, List.set_cons_succ]
    refine wpAnyH_take (i := 9) (v := undef) (by simp only [List.getElem?_toArray, List.getElem?_cons_succ, List.getElem?_cons_zero]; rfl) (by kernel_rfl) (by kernel_rfl) (by kernel_rfl) (by exact fun _ _ _ h => h) (Or.inr ⟨by rfl, rfl⟩) (by assumption) ?_
    try simp only [Act.put, List.setIfInBounds_toArray, List.set_cons_zero, List.set_cons_succ]
    refine wpAnyH_take (i := 10) (v := undef) (by simp only [List.getElem?_toArray, List.getElem?_cons_succ, List.getElem?_cons_zero]; rfl) (by kernel_rfl) (by kernel_rfl) (by kernel_rfl) (by exact fun _ _ _ h => h) (Or.inr ⟨by rfl, rfl⟩) (by assumption) ?_
    try simp only [Act.put, List.setIfInBounds_toArray, List.set_cons_zero, List.set_cons_succ]
    refine wpAnyH_take (i := 11) (v := undef) (by simp only [List.getElem?_toArray, List.getElem?_cons_succ, List.getElem?_cons_zero]; rfl) (by kernel_rfl) (by kernel_rfl) (by kernel_rfl) (by exact fun _ _ _ h => h) (Or.inr ⟨by rfl, rfl⟩) (by assumption) ?_
    try simp only [Act.put, List.setIfInBounds_toArray, List.set_cons_zero, List.set_cons_succ]
    refine wpAnyH_take (i := 12) (v := undef) (by simp only [List.getElem?_toArray, List.getElem?_cons_succ, List.getElem?_cons_zero]; rfl) (by kernel_rfl) (by kernel_rfl) (by kernel_rfl) (by exact fun _ _ _ h => h) (Or.inr ⟨by rfl, rfl⟩) (by assumption) ?_
    try simp only [Act.put, List.setIfInBounds_toArray, List.set_cons_zero, List.set_cons_succ]
    refine wpAnyH_take (i := 13) (v := undef) (by simp only [List.getElem?_toArray, List.getElem?_cons_succ, List.getElem?_cons_zero]; rfl) (by kernel_rfl) (by kernel_rfl) (by kernel_rfl) (by exact fun _ _ _ h => h) (Or.inr ⟨by rfl, rfl⟩) (by assumption) ?_
    try simp only [Act.put, List.setIfInBounds_toArray, List.set_cons_zero, List.set_cons_succ]
    refine wpAnyH_take (i := 14) (v := undef) (by simp only [List.getElem?_toArray, List.getElem?_cons_succ, List.getElem?_cons_zero]; rfl) (by kernel_rfl) (by kernel_rfl) (by kernel_rfl) (by exact fun _ _ _ h => h) (Or.inr ⟨by rfl, rfl⟩) (by assumption) ?_
    try simp only [Act.put, List.setIfInBounds_toArray, List.set_cons_zero, List.set_cons_succ]
    refine wpAnyH_take (i := 15) (v := undef) (by simp only [List.getElem?_toArray, List.getElem?_cons_succ, List.getElem?_cons_zero]; rfl) (by kernel_rfl) (by kernel_rfl) (by kernel_rfl) (by exact fun _ _ _ h => h) (Or.inr ⟨by rfl, rfl⟩) (by assumption) ?_
    try simp only [Act.put, List.setIfInBounds_toArray, List.set_cons_zero, List.set_cons_succ]
    refine wpAnyH_take (i := 16) (v := ?_) (by simp only [List.getElem?_toArray, List.getElem?_cons_succ, List.getElem?_cons_zero]; rfl) (by kernel_rfl) (by kernel_rfl) (by kernel_rfl) (by exact fun _ _ _ h => h) (Or.inl ⟨by rfl, ?_⟩) (by assumption) ?_
    rotate_left
    · (intro w' hSw; (try dsimp only at hSw); go_simp; try with_reducible rfl)
    try simp only [Act.put, List.setIfInBounds_toArray, List.set_cons_zero, List.set_cons_succ]
    refine wpAnyH_take (i := 17) (v := ?_) (by simp only [List.getElem?_toArray, List.getElem?_cons_succ, List.getElem?_cons_zero]; rfl) (by kernel_rfl) (by kernel_rfl) (by kernel_rfl) (by exact fun _ _ _ h => h) (Or.inl ⟨by rfl, ?_⟩) (by assumption) ?_
    rotate_left
    · (intro w' hSw; (try dsimp only at hSw); go_simp; try with_reducible rfl)
    try simp only [Act.put, List.setIfInBounds_toArray, List.set_cons_zero, List.set_cons_succ]
    refine wpAnyH_take (i := 18) (v := undef) (by simp only [List.getElem?_toArray, List.getElem?_cons_succ, List.getElem?_cons_zero]; rfl) (by kernel_rfl) (by kernel_rfl) (by kernel_rfl) (by exact fun _ _ _ h => h) (Or.inr ⟨by rfl, rfl⟩) (by assumption) ?_
    try simp only [Act.put, List.setIfInBounds_toArray, List.set_cons_zero, List.set_cons_succ]
    refine wpAnyH_take (i := 19) (v := undef) (by simp only [List.getElem?_toArray, List.getElem?_cons_succ, List.getElem?_cons_zero]; rfl) (by kernel_rfl) (by kernel_rfl) (by kernel_rfl) (by exact fun _ _ _ h => h) (Or.inr ⟨by rfl, rfl⟩) (by assumption) ?_
    try simp only [Act.put, List.setIfInBounds_toArray, List.set_cons_zero, List.set_cons_succ]
    refine wpAnyH_take (i := 20) (v := undef) (by simp only [List.getElem?_toArray, List.getElem?_cons_succ, List.getElem?_cons_zero]; rfl) (by kernel_rfl) (by kernel_rfl) (by kernel_rfl) (by exact fun _ _ _ h => h) (Or.inr ⟨by rfl, rfl⟩) (by assumption) ?_
    try simp only [Act.put, List.setIfInBounds_toArray, List.set_cons_zero, List.set_cons_succ]
    refine wpAnyH_take (i := 21) (v := undef) (by simp only [List.getElem?_toArray, List.getElem?_cons_succ, List.getElem?_cons_zero]; rfl) (by kernel_rfl) (by kernel_rfl) (by kernel_rfl) (by exact fun _ _ _ h => h) (Or.inr ⟨by rfl, rfl⟩) (by assumption) ?_
    try simp only [Act.put, List.setIfInBounds_toArray, List.set_cons_zero, List.set_cons_succ]
    refine wpAnyH_take (i := 22) (v := undef) (by simp only [List.getElem?_toArray, List.getElem?_cons_succ, List.getElem?_cons_zero]; rfl) (by kernel_rfl) (by kernel_rfl) (by kernel_rfl) (by exact fun _ _ _ h => h) (Or.inr ⟨by rfl, rfl⟩) (by assumption) ?_
    try simp only [Act.put, List.setIfInBounds_toArray, List.set_cons_zero, List.set_cons_succ]
    refine wpAnyH_take (i := 23) (v := undef) (by simp only [List.getElem?_toArray, List.getElem?_cons_succ, List.getElem?_cons_zero]; rfl) (by kernel_rfl) (by kernel_rfl) (by kernel_rfl) (by exact fun _ _ _ h => h) (Or.inr ⟨by rfl, rfl⟩) (by assumption) ?_
    try simp only [Act.put, List.setIfInBounds_toArray, List.set_cons_zero, List.set_cons_succ]
    refine wpAnyH_take (i := 24) (v := undef) (by simp only [List.getElem?_toArray, List.getElem?_cons_succ, List.getElem?_cons_zero]; rfl) (by kernel_rfl) (by kernel_rfl) (by kernel_rfl) (by exact fun _ _ _ h => h) (Or.inr ⟨by rfl, rfl⟩) (by assumption) ?_
    try simp only [Act.put, List.setIfInBounds_toArray, List.set_cons_zero, List.set_cons_succ]
    refine wpAnyH_take (i := 25) (v := undef) (by simp only [List.getElem?_toArray, List.getElem?_cons_succ, List.getElem?_cons_zero]; rfl) (by kernel_rfl) (by kernel_rfl) (by kernel_rfl) (by exact fun _ _ _ h => h) (Or.inr ⟨by rfl, rfl⟩) (by assumption) ?_
    try simp only [Act.put, List.setIfInBounds_toArray, List.set_cons_zero, List.set_cons_succ]
    refine wpAnyH_take (i := 26) (v := undef) (by simp only [List.getElem?_toArray, List.getElem?_cons_succ, List.getElem?_cons_zero]; rfl) (by kernel_rfl) (by kernel_rfl) (by kernel_rfl) (by exact fun _ _ _ h => h) (Or.inr ⟨by rfl, rfl⟩) (by assumption) ?_
    try simp only [Act.put, List.setIfInBounds_toArray, List.set_cons_zero, List.set_cons_succ]
    refine wpAnyH_take (i := 27) (v := undef) (by simp only [List.getElem?_toArray, List.getElem?_cons_succ, List.getElem?_cons_zero]; rfl) (by kernel_rfl) (by kernel_rfl) (by kernel_rfl) (by exact fun _ _ _ h => h) (Or.inr ⟨by rfl, rfl⟩) (by assumption) ?_
    try simp only [Act.put, List.setIfInBounds_toArray, List.set_cons_zero, List.set_cons_succ]
    refine wpAnyH_take (i := 28) (v := undef) (by simp only [List.getElem?_toArray, List.getElem?_cons_succ, List.getElem?_cons_zero]; rfl) (by kernel_rfl) (by kernel_rfl) (by kernel_rfl) (by exact fun _ _ _ h => h) (Or.inr ⟨by rfl, rfl⟩) (by assumption) ?_
    try simp only [Act.put, List.setIfInBounds_toArray, List.set_cons_zero, List.set_cons_succ]
    refine wpAnyH_take (i := 29) (v := ?_) (by simp only [List.getElem?_toArray, List.getElem?_cons_succ, List.getElem?_cons_zero]; rfl) (by kernel_rfl) (by kernel_rfl) (by kernel_rfl) (by exact fun _ _ _ h => h) (Or.inl ⟨by rfl, ?_⟩) (by assumption) ?_
    rotate_left
    · (intro w' hSw; (try dsimp only at hSw); go_simp; try with_reducible rfl)
    try simp only [Act.put, List.setIfInBounds_toArray, List.set_cons_zero, List.set_cons_succ]
    refine wpAnyH_take (i := 30) (v := ?_) (by simp only [List.getElem?_toArray, List.getElem?_cons_succ, List.getElem?_cons_zero]; rfl) (by kernel_rfl) (by kernel_rfl) (by kernel_rfl) (by exact fun _ _ _ h => h) (Or.inl ⟨by rfl, ?_⟩) (by assumption) ?_
    rotate_left
    · (intro w' hSw; (try dsimp only at hSw); go_simp; try with_reducible rfl)
    try simp only [Act.put, List.setIfInBounds_toArray, List.set_cons_zero, List.set_cons_succ]
    refine wpAnyH_done (by kernel_rfl) ?_ _
    all_goals
      go_wp2
      go_ret
      exact ⟨rfl, (Below.refl _ _).drew⟩

/-! ### skip -/
set_option maxRecDepth 100000 in
set_option maxHeartbeats 4000000 in
theorem qskip_yes (s : ByteArray) (a n b : Nat) (hs : s.size ≤ 100000) (ha : a ≤ s.size) (w : World) (h : Qn w b s a n 0) :
    Calls Tryz.prog 46 #[.pointer (some ⟨b, 0, none⟩)] w fun e w' => e = .returned (.tuple #[]) ∧ Qn w' b s (skp s a) n 0 ∧ Keeps (· = b) w w' := by
  have HS : Hid (∀ W, Calls Tryz.prog 23 #[.string s, .int .i64 a] W fun e w' => e = .returned (.int .i64 (skp s a)) ∧ W = w') := Lib.hid (fun W => rskip_any s a hs ha W)
  have hI := h.step (Below.refl _ _).drew
  have kk := hI.cells
  obtain ⟨c0, c1, c2, c3⟩ := h.cells
  have f1 := hI.fz 1
  have HP := Lib.hid (hI.at1 (skp s a))
  generalize skp s a = k at *
  clear h
  go_enter Tryz.func46, Tryz.ntmps46
  go_wp2_with fail
  go_region_with (first | (go_at_call 23; refine (HS.out _).mono ?_; rintro e w5 ⟨rfl, rfl⟩))
  all_goals
    go_wp2
    go_end0
    exact ⟨rfl, HP.out, (Keeps.refl (· = b) w).drew.trans (keepsQ _ b 1 _)⟩
set_option maxRecDepth 100000 in
set_option maxHeartbeats 1000000 in
theorem qskip_no (s : ByteArray) (a n b : Nat) (c : Int) (hc : c ≠ 0) (w : World) (h : Qn w b s a n c) :
    Calls Tryz.prog 46 #[.pointer (some ⟨b, 0, none⟩)] w fun e w' => e = .returned (.tuple #[]) ∧ w' = w := by
  obtain ⟨c0, c1, c2, c3⟩ := h.cells
  have hne : (c == 0) = false := beq_eq_false_iff_ne.2 hc
  clear h hc
  go_enter Tryz.func46, Tryz.ntmps46
  go_wp2_with fail
  go_end0
  exact ⟨rfl, rfl⟩
end Go.Proofs.YtpccdhkghlbhkaaGreatDoor

namespace Go.Proofs.YtpccdhkghlbhkaaGreatDoor
open Go.RowKit Go.Extern.Stop Go.Stop Go.Extern

/-! ### take -/
set_option maxRecDepth 100000 in
set_option maxHeartbeats 1000000 in
theorem qtake_yes (s : ByteArray) (a n b : Nat) (d : Int) (hs : s.size ≤ 100000) (hd : d ≠ 0) (ha : a ≤ s.size) (he : byteI s a = d) (w : World) (h : Qn w b s a n 0) :
    Calls Tryz.prog 95 #[.pointer (some ⟨b, 0, none⟩), .int .u8 d] w fun e w' => e = .returned (.tuple #[]) ∧ Qn w' b s (a + 1) n 0 ∧ Keeps (· = b) w w' := by
  have HI := Lib.hid (qis_any s a n b 0 d hd ha w h)
  rw [show (decide ((0 : Int) = 0) && decide (byteI s a = d)) = true by rw [decide_eq_true he]; rfl] at HI
  have HH := Lib.hid h
  have hab : (a : Int) ≤ 100000 := by omega
  clear h he
  go_enter Tryz.func95, Tryz.ntmps95
  go_wp2_with fail
  refine HI.out.mono ?_
  rintro e w1 ⟨rfl, b1⟩
  have h1 := HH.out.step b1
  have HK := Lib.hid (Keeps.of_below (D := (· = b)) b1)
  have HP : Hid (Qn (w1.setCell ⟨b, 1, none⟩ (.int .i64 ((a : Int) + 1))) b s (a + 1) n 0) := Lib.hid (h1.at1 (a + 1))
  have f1 := h1.fz 1
  obtain ⟨c0, c1, c2, c3⟩ := h1.cells
  clear b1 h1 HH HI
  go_wp2_with fail
  refine bodyPost_ret (results_none rfl _ _ _) rfl ?_
  exact ⟨rfl, HP.out, HK.out.trans (keepsQ w1 b 1 _)⟩
set_option maxRecDepth 100000 in
set_option maxHeartbeats 2000000 in
theorem qtake_no (s : ByteArray) (a n b : Nat) (d : Int) (hd : d ≠ 0) (ha : a ≤ s.size) (he : byteI s a ≠ d) (w : World) (h : Qn w b s a n 0) :
    Calls Tryz.prog 95 #[.pointer (some ⟨b, 0, none⟩), .int .u8 d] w fun e w' => e = .returned (.tuple #[]) ∧ Qn w' b s a n (missC s a) ∧ Keeps (· = b) w w' := by
  have HI := Lib.hid (qis_any s a n b 0 d hd ha w h)
  rw [show (decide ((0 : Int) = 0) && decide (byteI s a = d)) = false by rw [decide_eq_false he]; rfl] at HI
  have HF := Lib.hid (fun W => rfails_any s a W)
  have HL := Lib.hid (fun W => qfail_yes s a n b (missC s a) W)
  have HH := Lib.hid h
  generalize missC s a = m at *
  clear h he
  go_enter Tryz.func95, Tryz.ntmps95
  go_wp2_with fail
  refine HI.out.mono ?_
  rintro e w1 ⟨rfl, b1⟩
  have h1 := HH.out.step b1
  have HK := Lib.hid (Keeps.of_below (D := (· = b)) b1)
  have hI := h1.step (Below.refl _ _).drew
  have HKd := Lib.hid (HK.out.trans (Keeps.of_below (D := (· = b)) ((Below.refl w1.heap.size w1).drew)))
  obtain ⟨c0, c1, c2, c3⟩ := h1.cells
  clear b1 h1 HH HI
  go_wp2_with fail
  go_region_with (first
    | (go_at_call 104; refine (HF.out _).mono ?_; rintro e w5 ⟨rfl, rfl⟩)
    | (go_at_call 66; refine (HL.out _ hI).mono ?_; rintro e w6 ⟨rfl, hq, hkp⟩))
  all_goals
    go_wp2
    go_end0
    exact ⟨rfl, hq, HKd.out.trans hkp⟩

/-! ### count -/
set_option maxRecDepth 100000 in
set_option maxHeartbeats 1000000 in
theorem qcount_over (s : ByteArray) (a n b p : Nat) (hn : n ≤ 200) (hb : 100 < n + 1) (w : World) (h : Qn w b s a n 0) :
    Calls Tryz.prog 48 #[.pointer (some ⟨b, 0, none⟩), .int .i64 p] w fun e w' => e = .returned (.tuple #[]) ∧ Qn w' b s p (n + 1) 6 ∧ Keeps (· = b) w w' := by
  have f2 := h.fz 2
  obtain ⟨c0, c1, c2, c3⟩ := h.cells
  have HP : Hid (Qn (w.setCell ⟨b, 2, none⟩ (.int .i64 ((n : Int) + 1))) b s a (n + 1) 0) := Lib.hid (h.at2 (n + 1))
  have HK := Lib.hid (keepsQ w b 2 (.int .i64 ((n : Int) + 1)))
  have hnb : (n : Int) ≤ 200 := by omega
  clear h
  go_enter Tryz.func48, Tryz.ntmps48
  go_upto_region 2 with (fail)
  generalize w.setCell ⟨b, 2, none⟩ (.int .i64 ((n : Int) + 1)) = w1 at *
  clear c0 c1 c2 c3 f2
  have f1 := HP.out.fz 1
  obtain ⟨c0, c1, c2, c3⟩ := HP.out.cells
  have hbi : (100 : Int) < (n : Int) + 1 := by omega
  have HQ := Lib.hid (HP.out.at1 p)
  have HKQ := Lib.hid (HK.out.trans (keepsQ w1 b 1 (.int .i64 p)))
  have HL := Lib.hid (fun W => qfail_yes s p (n + 1) b 6 W)
  clear hb
  go_wp2_with fail
  refine (HL.out _ HQ.out).mono ?_
  rintro e w2 ⟨rfl, hq, hk⟩
  go_wp2_with fail
  go_end0
  exact ⟨rfl, hq, HKQ.out.trans hk⟩
set_option maxRecDepth 100000 in
set_option maxHeartbeats 1000000 in
theorem qcount_in (s : ByteArray) (a n b : Nat) (p : Int) (hb : ¬ 100 < n + 1) (w : World) (h : Qn w b s a n 0) :
    Calls Tryz.prog 48 #[.pointer (some ⟨b, 0, none⟩), .int .i64 p] w fun e w' => e = .returned (.tuple #[]) ∧ Qn w' b s a (n + 1) 0 ∧ Keeps (· = b) w w' := by
  have f2 := h.fz 2
  obtain ⟨c0, c1, c2, c3⟩ := h.cells
  have HP : Hid (Qn (w.setCell ⟨b, 2, none⟩ (.int .i64 ((n : Int) + 1))) b s a (n + 1) 0) := Lib.hid (h.at2 (n + 1))
  have HK := Lib.hid (keepsQ w b 2 (.int .i64 ((n : Int) + 1)))
  have hnb : (n : Int) ≤ 200 := by omega
  clear h
  go_enter Tryz.func48, Tryz.ntmps48
  go_upto_region 2 with (fail)
  generalize w.setCell ⟨b, 2, none⟩ (.int .i64 ((n : Int) + 1)) = w1 at *
  clear c0 c1 c2 c3 f2
  have f1 := HP.out.fz 1
  obtain ⟨c0, c1, c2, c3⟩ := HP.out.cells
  have hbi : ¬ (100 : Int) < (n : Int) + 1 := by omega
  clear hb
  go_wp2_with fail
  go_end0
  exact ⟨rfl, HP.out, HK.out⟩
set_option maxRecDepth 100000 in
set_option maxHeartbeats 1000000 in
theorem qcount_no (s : ByteArray) (a n b : Nat) (c p : Int) (hc : c ≠ 0) (w : World) (h : Qn w b s a n c) :
    Calls Tryz.prog 48 #[.pointer (some ⟨b, 0, none⟩), .int .i64 p] w fun e w' => e = .returned (.tuple #[]) ∧ w' = w := by
  obtain ⟨c0, c1, c2, c3⟩ := h.cells
  have hne : (c == 0) = false := beq_eq_false_iff_ne.2 hc
  clear h hc
  go_enter Tryz.func48, Tryz.ntmps48
  go_wp2_with fail
  refine bodyPost_ret (results_none rfl _ _ _) rfl ?_
  exact ⟨rfl, rfl⟩

/-! ### name -/
set_option maxRecDepth 100000 in
set_option maxHeartbeats 1000000 in
theorem qname_yes (s : ByteArray) (a n b : Nat) (hs : s.size ≤ 100000) (ha : a ≤ s.size) (w : World) (h : Qn w b s a n 0) :
    Calls Tryz.prog 106 #[.pointer (some ⟨b, 0, none⟩)] w fun e w' => e = .returned (.string (nameT s a)) ∧ Qn w' b s (nameK s a) n (nameC s a) ∧ Keeps (· = b) w w' := by
  have HN := Lib.hid (fun W => rname_any s a hs ha W)
  unfold RefName at HN
  have HL := Lib.hid (fun W => qfail_yes s a n b (nameC s a) W)
  have HH := Lib.hid h
  have hI := h.step (Below.refl _ _).drew
  generalize nameC s a = m at *
  generalize nameT s a = t at *
  generalize nameK s a = k at *
  have kk := hI.cells
  obtain ⟨c0, c1, c2, c3⟩ := h.cells
  clear h
  go_enter Tryz.func106, Tryz.ntmps106
  go_wp2_with fail
  clear c0 c1 c2 c3
  have HK0 := Lib.hid (Keeps.of_below (D := (· = b)) ((Below.refl w.heap.size w).drew))
  go_region_held3 (fun W => W.cell? ⟨b, 0, none⟩ = some (.string s) ∧ W.cell? ⟨b, 1, none⟩ = some (.int .i64 a) ∧ W.cell? ⟨b, 2, none⟩ = some (.int .i64 n) ∧ W.cell? ⟨b, 3, none⟩ = some (.int .i64 0))
    (first | exact kk | exact hI.cells)
    ((go_at_call 111; refine (HN.out _).mono ?_; rintro e w5 ⟨rfl, b5⟩; replace hI := hI.step b5; have HK1 := Lib.hid (HK0.out.trans (Keeps.of_below (D := (· = b)) b5))))
  all_goals
    clear kk
    go_wp2_with fail
    refine (HL.out _ hI).mono ?_
    rintro e w6 ⟨rfl, hq, hk⟩
    have HK2 := Lib.hid (HK1.out.trans hk)
    have HP := Lib.hid (hq.at1 k)
    have f1 := hq.fz 1
    obtain ⟨c0, c1, c2, c3⟩ := hq.cells
    clear hI hq hk HK1
    go_wp2_with fail
    go_ret
    exact ⟨rfl, HP.out, HK2.out.trans (keepsQ w6 b 1 _)⟩
set_option maxRecDepth 100000 in
set_option maxHeartbeats 1000000 in
theorem qname_no (s : ByteArray) (a n b : Nat) (c : Int) (hc : c ≠ 0) (w : World) (h : Qn w b s a n c) :
    Calls Tryz.prog 106 #[.pointer (some ⟨b, 0, none⟩)] w fun e w' => e = .returned (.string ByteArray.empty) ∧ w' = w := by
  obtain ⟨c0, c1, c2, c3⟩ := h.cells
  have hne : (c == 0) = false := beq_eq_false_iff_ne.2 hc
  clear h hc
  go_enter Tryz.func106, Tryz.ntmps106
  go_wp2_with fail
  go_ret
  exact ⟨rfl, rfl⟩
end Go.Proofs.YtpccdhkghlbhkaaGreatDoor

namespace Go.Proofs.YtpccdhkghlbhkaaGreatDoor
open Go.RowKit Go.Extern.Stop Go.Stop Go.Extern

theorem nameT_len (s : ByteArray) (k : Nat) : (nameT s k).size ≤ 32 := by
  unfold nameT
  split
  · rw [ByteArray.size_extract]; omega
  · exact Nat.zero_le _
theorem nameK_bad {s : ByteArray} {k : Nat} (h : nameC s k ≠ 0) : nameK s k = k := by
  unfold nameC at h
  unfold nameK
  by_cases h1 : isLet (byteI s k) = true
  · rw [if_pos h1] at h
    by_cases h2 : runTo isIn s k - k ≤ 32
    · rw [if_pos h2] at h; exact absurd rfl h
    · rw [if_neg (fun e => h2 e.2)]
  · rw [if_neg (fun e => h1 e.1)]
theorem nameT_good {s : ByteArray} {k : Nat} (h : nameC s k = 0) : nameT s k = s.extract k (nameK s k) := by
  have h1 : isLet (byteI s k) = true := by
    by_cases h1 : isLet (byteI s k) = true
    · exact h1
    · unfold nameC missC at h; rw [if_neg h1] at h; split at h <;> exact absurd h (by decide)
  have h2 : runTo isIn s k - k ≤ 32 := by
    by_cases h2 : runTo isIn s k - k ≤ 32
    · exact h2
    · unfold nameC at h; rw [if_pos h1, if_neg h2] at h; exact absurd h (by decide)
  unfold nameT nameK
  rw [if_pos ⟨h1, h2⟩, if_pos ⟨h1, h2⟩]

/-- What word answers, when a name stands behind a $. -/
def QwOut (b n : Nat) (s : ByteArray) (t : ByteArray) (k : Nat) (c : Int) (w : World) (e : Ending) (w' : World) : Prop := e = .returned (.string t) ∧ Qn w' b s k n c ∧ Keeps (· = b) w w'

set_option maxRecDepth 100000 in
set_option maxHeartbeats 2000000 in
theorem qword_ref (s : ByteArray) (a n b : Nat) (hs : s.size ≤ 100000) (ha : a ≤ s.size) (he : byteI s a = 36) (w : World) (h : Qn w b s a n 0) :
    Calls Tryz.prog 97 #[.pointer (some ⟨b, 0, none⟩)] w (QwOut b n s (⟨#[36]⟩ ++ nameT s (a + 1)) (nameK s (a + 1)) (nameC s (a + 1)) w) := by
  have HI := Lib.hid (qis_any s a n b 0 36 (by decide) ha w h)
  rw [show (decide ((0 : Int) = 0) && decide (byteI s a = 36)) = true by rw [decide_eq_true he]; rfl] at HI
  have hin := byteI_in he (by decide)
  have HN := Lib.hid (fun W => qname_yes s (a + 1) n b hs hin W)
  have HH := Lib.hid h
  have hab : (a : Int) ≤ 100000 := by omega
  have ht := nameT_len s (a + 1)
  unfold QwOut
  generalize nameT s (a + 1) = t at *
  generalize nameK s (a + 1) = k at *
  generalize nameC s (a + 1) = c at *
  clear h he hin
  go_enter Tryz.func97, Tryz.ntmps97
  go_wp2_with fail
  refine HI.out.mono ?_
  rintro e w1 ⟨rfl, b1⟩
  have h1 := HH.out.step b1
  have HK := Lib.hid (Keeps.of_below (D := (· = b)) b1)
  have HP : Hid (Qn (w1.setCell ⟨b, 1, none⟩ (.int .i64 ((a : Int) + 1))) b s (a + 1) n 0) := Lib.hid (h1.at1 (a + 1))
  have HK1 := Lib.hid (HK.out.trans (keepsQ w1 b 1 (.int .i64 ((a : Int) + 1))))
  have f1 := h1.fz 1
  obtain ⟨c0, c1, c2, c3⟩ := h1.cells
  clear b1 h1 HH HI HK
  go_upto_region 3 with (fail)
  generalize w1.setCell ⟨b, 1, none⟩ (.int .i64 ((a : Int) + 1)) = w2 at *
  clear c0 c1 c2 c3 f1
  go_wp2_with fail
  refine (HN.out _ HP.out).mono ?_
  rintro e w3 ⟨rfl, hq, hk⟩
  go_wp2_with fail
  go_ret
  exact ⟨rfl, hq, HK1.out.trans hk⟩
set_option maxRecDepth 100000 in
set_option maxHeartbeats 2000000 in
theorem qword_one (s : ByteArray) (a n b : Nat) (hs : s.size ≤ 100000) (ha : a ≤ s.size) (he : byteI s a ≠ 36) (h2 : nameC s a ≠ 0 ∨ byteI s (nameK s a) ≠ 35) (w : World) (h : Qn w b s a n 0) :
    Calls Tryz.prog 97 #[.pointer (some ⟨b, 0, none⟩)] w (QwOut b n s (nameT s a) (nameK s a) (nameC s a) w) := by
  have HI := Lib.hid (qis_any s a n b 0 36 (by decide) ha w h)
  rw [show (decide ((0 : Int) = 0) && decide (byteI s a = 36)) = false by rw [decide_eq_false he]; rfl] at HI
  have HN := Lib.hid (fun W => qname_yes s a n b hs ha W)
  have HJ := Lib.hid (fun W => qis_any s (nameK s a) n b (nameC s a) 35 (by decide) (nameK_le s a ha) W)
  rw [show (decide (nameC s a = 0) && decide (byteI s (nameK s a) = 35)) = false by
    rcases h2 with h2 | h2
    · rw [decide_eq_false h2]; rfl
    · rw [decide_eq_false h2, Bool.and_false]] at HJ
  have HH := Lib.hid h
  unfold QwOut
  clear h2
  generalize nameT s a = t at *
  generalize nameK s a = k at *
  generalize nameC s a = c at *
  clear h he
  go_enter Tryz.func97, Tryz.ntmps97
  go_wp2_with fail
  refine HI.out.mono ?_
  rintro e w1 ⟨rfl, b1⟩
  have H1 := Lib.hid (HH.out.step b1)
  have HK := Lib.hid (Keeps.of_below (D := (· = b)) b1)
  clear b1 HH HI
  go_wp2_with fail
  refine (HN.out _ H1.out).mono ?_
  rintro e w2 ⟨rfl, hq, hk⟩
  have H2 := Lib.hid hq
  have HK2 := Lib.hid (HK.out.trans hk)
  clear hq hk H1 HK
  go_wp2_with fail
  refine (HJ.out _ H2.out).mono ?_
  rintro e w3 ⟨rfl, b3⟩
  have H3 := Lib.hid (H2.out.step b3)
  have HK3 := Lib.hid (HK2.out.trans (Keeps.of_below (D := (· = b)) b3))
  clear b3 H2 HK2
  go_wp2_with fail
  go_ret
  exact ⟨rfl, H3.out, HK3.out⟩
set_option maxRecDepth 100000 in
set_option maxHeartbeats 2000000 in
theorem qword_two (s : ByteArray) (a n b : Nat) (hs : s.size ≤ 100000) (ha : a ≤ s.size) (he : byteI s a ≠ 36) (h1 : nameC s a = 0) (h2 : byteI s (nameK s a) = 35) (w : World) (h : Qn w b s a n 0) :
    Calls Tryz.prog 97 #[.pointer (some ⟨b, 0, none⟩)] w (QwOut b n s (nameT s a ++ ⟨#[35]⟩ ++ nameT s (nameK s a + 1)) (nameK s (nameK s a + 1)) (nameC s (nameK s a + 1)) w) := by
  have HI := Lib.hid (qis_any s a n b 0 36 (by decide) ha w h)
  rw [show (decide ((0 : Int) = 0) && decide (byteI s a = 36)) = false by rw [decide_eq_false he]; rfl] at HI
  have HN := Lib.hid (fun W => qname_yes s a n b hs ha W)
  rw [h1] at HN
  have HJ := Lib.hid (fun W => qis_any s (nameK s a) n b 0 35 (by decide) (nameK_le s a ha) W)
  rw [show (decide ((0 : Int) = 0) && decide (byteI s (nameK s a) = 35)) = true by rw [decide_eq_true h2]; rfl] at HJ
  have hin := byteI_in h2 (by decide)
  have HM := Lib.hid (fun W => qname_yes s (nameK s a + 1) n b hs hin W)
  have HH := Lib.hid h
  have hkb : ((nameK s a : Nat) : Int) ≤ 100000 := by omega
  have ht1 := nameT_len s a
  have ht2 := nameT_len s (nameK s a + 1)
  unfold QwOut
  clear h1 h2 hin
  generalize nameT s (nameK s a + 1) = t2 at *
  generalize nameK s (nameK s a + 1) = k2 at *
  generalize nameC s (nameK s a + 1) = c2 at *
  generalize nameT s a = t at *
  generalize nameK s a = k at *
  clear h he
  go_enter Tryz.func97, Tryz.ntmps97
  go_wp2_with fail
  refine HI.out.mono ?_
  rintro e w1 ⟨rfl, b1⟩
  have H1 := Lib.hid (HH.out.step b1)
  have HK := Lib.hid (Keeps.of_below (D := (· = b)) b1)
  clear b1 HH HI
  go_wp2_with fail
  refine (HN.out _ H1.out).mono ?_
  rintro e w2 ⟨rfl, hq, hk⟩
  have H2 := Lib.hid hq
  have HK2 := Lib.hid (HK.out.trans hk)
  clear hq hk H1 HK
  go_wp2_with fail
  refine (HJ.out _ H2.out).mono ?_
  rintro e w3 ⟨rfl, b3⟩
  have h3 := H2.out.step b3
  have HK3 := Lib.hid (HK2.out.trans (Keeps.of_below (D := (· = b)) b3))
  have HP : Hid (Qn (w3.setCell ⟨b, 1, none⟩ (.int .i64 ((k : Int) + 1))) b s (k + 1) n 0) := Lib.hid (h3.at1 (k + 1))
  have HK4 := Lib.hid (HK3.out.trans (keepsQ w3 b 1 (.int .i64 ((k : Int) + 1))))
  have f1 := h3.fz 1
  obtain ⟨c0, c1, c2', c3⟩ := h3.cells
  clear b3 H2 HK2 h3 HK3
  go_upto_region 7 with (fail)
  generalize w3.setCell ⟨b, 1, none⟩ (.int .i64 ((k : Int) + 1)) = w4 at *
  clear c0 c1 c2' c3 f1
  go_wp2_with fail
  refine (HM.out _ HP.out).mono ?_
  rintro e w5 ⟨rfl, hq, hk⟩
  go_wp2_with fail
  go_ret
  exact ⟨rfl, hq, HK4.out.trans hk⟩
end Go.Proofs.YtpccdhkghlbhkaaGreatDoor

namespace Go.Proofs.YtpccdhkghlbhkaaGreatDoor
open Go.RowKit Go.Extern.Stop Go.Stop Go.Extern

theorem extB_one {s : ByteArray} {k : Nat} (c : UInt8) (h : byteI s k = (c.toNat : Int)) (hk : k < s.size) : s.extract k (k + 1) = ⟨#[c]⟩ := by
  rw [byteI_lt hk] at h
  have hc : s[k] = c := UInt8.toNat_inj.1 (by omega)
  rw [ByteArray.extract_add_one (by omega), hc]
  rfl
theorem extB_join {s : ByteArray} {i j k : Nat} (h1 : i ≤ j) (h2 : j ≤ k) : s.extract i j ++ s.extract j k = s.extract i k := by
  rw [ByteArray.extract_append_extract, Nat.min_eq_left h1, Nat.max_eq_right h2]
/-- word, where a word stands. -/
theorem qword_ok (s : ByteArray) (a n b : Nat) (hs : s.size ≤ 100000) (ha : a ≤ s.size) (hc : wdC s a = 0) (w : World) (h : Qn w b s a n 0) :
    Calls Tryz.prog 97 #[.pointer (some ⟨b, 0, none⟩)] w (QwOut b n s (s.extract a (wdK s a)) (wdK s a) 0 w) := by
  unfold wdC at hc
  by_cases he : byteI s a = 36
  · have e1 : wd1 s a = a + 1 := by unfold wd1; rw [if_pos he]
    have e2 : wd2 s a = false := by unfold wd2; rw [decide_eq_false (fun e => e he)]; rfl
    have hin := byteI_in he (by decide)
    rw [e1, e2] at hc
    have hn : nameC s (a + 1) = 0 := by
      by_cases hn : nameC s (a + 1) = 0
      · exact hn
      · rw [if_pos hn] at hc; exact hc
    have := qword_ref s a n b hs ha he w h
    rw [hn, nameT_good hn] at this
    have ek : wdK s a = nameK s (a + 1) := by unfold wdK; rw [e1, e2]; rfl
    rw [ek, ← extB_join (Nat.le_succ a) (nameK_ge s (a + 1) hin), extB_one 36 he hin]
    exact this
  · have e1 : wd1 s a = a := by unfold wd1; rw [if_neg he]
    rw [e1] at hc
    have hn : nameC s a = 0 := by
      by_cases hn : nameC s a = 0
      · exact hn
      · rw [if_pos hn] at hc; exact hc
    rw [if_neg (fun e => e hn)] at hc
    by_cases h2 : byteI s (nameK s a) = 35
    · have e2 : wd2 s a = true := by unfold wd2; rw [e1, decide_eq_true he, decide_eq_true h2]; rfl
      have hin := byteI_in h2 (by decide)
      rw [e2, if_pos rfl] at hc
      have := qword_two s a n b hs ha he hn h2 w h
      rw [hc, nameT_good hn, nameT_good hc] at this
      have ek : wdK s a = nameK s (nameK s a + 1) := by unfold wdK; rw [e1, e2]; rfl
      have hg := nameK_ge s a ha
      rw [ek, ← extB_join (Nat.le_succ_of_le hg) (nameK_ge s (nameK s a + 1) hin), ← extB_join hg (Nat.le_succ _), extB_one 35 h2 hin]
      exact this
    · have e2 : wd2 s a = false := by unfold wd2; rw [e1, decide_eq_false h2, Bool.and_false]
      have := qword_one s a n b hs ha he (.inr h2) w h
      rw [hn, nameT_good hn] at this
      have ek : wdK s a = nameK s a := by unfold wdK; rw [e1, e2]; rfl
      rw [ek]
      exact this
/-- word, where none stands. -/
theorem qword_er (s : ByteArray) (a n b : Nat) (hs : s.size ≤ 100000) (ha : a ≤ s.size) (hc : wdC s a ≠ 0) (w : World) (h : Qn w b s a n 0) :
    ∃ t, Calls Tryz.prog 97 #[.pointer (some ⟨b, 0, none⟩)] w (QwOut b n s t (wdA s a) (wdC s a) w) := by
  by_cases he : byteI s a = 36
  · have e1 : wd1 s a = a + 1 := by unfold wd1; rw [if_pos he]
    have e2 : wd2 s a = false := by unfold wd2; rw [decide_eq_false (fun e => e he)]; rfl
    have hn : nameC s (a + 1) ≠ 0 := by
      intro hn; apply hc; unfold wdC; rw [e1, e2, hn]; rfl
    have := qword_ref s a n b hs ha he w h
    rw [nameK_bad hn] at this
    refine ⟨⟨#[36]⟩ ++ nameT s (a + 1), ?_⟩
    rw [show wdA s a = a + 1 by unfold wdA; rw [e1, if_pos hn], show wdC s a = nameC s (a + 1) by unfold wdC; rw [e1, if_pos hn]]
    exact this
  · have e1 : wd1 s a = a := by unfold wd1; rw [if_neg he]
    by_cases hn : nameC s a = 0
    · have h2 : byteI s (nameK s a) = 35 := by
        by_cases h2 : byteI s (nameK s a) = 35
        · exact h2
        · exact absurd (by unfold wdC wd2; rw [e1, hn, decide_eq_false h2, Bool.and_false]; rfl) hc
      have e2 : wd2 s a = true := by unfold wd2; rw [e1, decide_eq_true he, decide_eq_true h2]; rfl
      have eC : wdC s a = nameC s (nameK s a + 1) := by unfold wdC; rw [e1, e2, hn]; rfl
      rw [eC] at hc
      have := qword_two s a n b hs ha he hn h2 w h
      rw [nameK_bad hc] at this
      refine ⟨nameT s a ++ ⟨#[35]⟩ ++ nameT s (nameK s a + 1), ?_⟩
      rw [eC, show wdA s a = nameK s a + 1 by unfold wdA; rw [e1, hn]; rfl]
      exact this
    · have := qword_one s a n b hs ha he (.inl hn) w h
      rw [nameK_bad hn] at this
      refine ⟨nameT s a, ?_⟩
      rw [show wdA s a = a by unfold wdA; rw [e1, if_pos hn], show wdC s a = nameC s a by unfold wdC; rw [e1, if_pos hn]]
      exact this
end Go.Proofs.YtpccdhkghlbhkaaGreatDoor
