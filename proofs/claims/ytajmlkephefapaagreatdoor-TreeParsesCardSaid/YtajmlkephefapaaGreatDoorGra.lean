/-
  The document's own reader of values by contracts: fail, skip, is, take.
  The document's own reader of values by contracts: a text between quotes.
  The document's own reader of values by contracts: a word.
-/
import Derived.Test.YtajmlkephefapaaGreatDoorScanE
import Derived.Test.YtajmlkephefapaaGreatDoorScanF
import Derived.Test.YtajmlkephefapaaGreatDoorTreeA
import Derived.Deep.RegionHeld3
import Derived.Test.YtajmlkephefapaaGreatDoorInkB
namespace Go.Proofs.YtajmlkephefapaaGreatDoor
open Go.RowKit Go.Extern.Stop Go.Stop Go.Extern

/-- The document's reader in memory: a text, a place, an error. -/
def Tn (w : World) (b : Nat) (s : ByteArray) (a : Nat) (c : Int) : Prop := w.heap[b]? = some (.cells #[.string s, .int .i64 a, .int .i64 c] 67 (0, 0))
section
variable {w w' : World} {b a : Nat} {c : Int} {s : ByteArray}
theorem Tn.lt (h : Tn w b s a c) : b < w.heap.size := (Array.getElem?_eq_some_iff.1 h).1
theorem Tn.step (h : Tn w b s a c) (hb : Below w.heap.size w w') : Tn w' b s a c := (hb.block b h.lt).trans h
theorem Tn.keeps {D : Nat → Prop} (h : Tn w b s a c) (hk : Keeps D w w') (hD : ¬ D b) : Tn w' b s a c := (hk.block b h.lt hD).trans h
theorem Tn.cells (h : Tn w b s a c) : w.cell? ⟨b, 0, none⟩ = some (.string s) ∧ w.cell? ⟨b, 1, none⟩ = some (.int .i64 a) ∧ w.cell? ⟨b, 2, none⟩ = some (.int .i64 c) :=
  ⟨by rw [Lib.cell_of_heap h]; rfl, by rw [Lib.cell_of_heap h]; rfl, by rw [Lib.cell_of_heap h]; rfl⟩
theorem Tn.fz (h : Tn w b s a c) (i : Nat) : w.frozen? ⟨b, i, none⟩ = false := by
  unfold World.frozen?
  rw [h]
  simp
theorem Tn.far (h : Tn w b s a c) {q : Addr} (hq : b ≠ q.block) (u : Value) : Tn (w.setCell q u) b s a c := (heap_setCell_other _ _ _ _ hq).trans h
theorem Tn.at1 (h : Tn w b s a c) (a' : Nat) : Tn (w.setCell ⟨b, 1, none⟩ (.int .i64 a')) b s a' c := heap_setCell_same w b 1 _ _ _ h
theorem Tn.at2 (h : Tn w b s a c) (c' : Int) : Tn (w.setCell ⟨b, 2, none⟩ (.int .i64 c')) b s a c' := heap_setCell_same w b 2 _ _ _ h
end
theorem keepsT (w : World) (b i : Nat) (u : Value) : Keeps (· = b) w (w.setCell ⟨b, i, none⟩ u) := (Keeps.refl (· = b) w).setCell (q := ⟨b, i, none⟩) (.inr rfl) u
theorem byteT_eq {s : ByteArray} {k : Nat} (h : k < s.size) {c : Int} (hc : byteI s k = c) : ((s[k].toNat : Int) == c) = true := by rw [byteI_lt h] at hc; simpa using hc
theorem byteT_ne {s : ByteArray} {k : Nat} (h : k < s.size) {c : Int} (hc : ¬ byteI s k = c) : ((s[k].toNat : Int) == c) = false := by rw [byteI_lt h] at hc; simpa using hc
theorem byteT_in {s : ByteArray} {a : Nat} {d : Int} (h : byteI s a = d) (hd : d ≠ 0) : a + 1 ≤ s.size := byteI_pos (by rw [h]; exact hd)

/-! ### fail, skip -/
set_option maxRecDepth 100000 in
set_option maxHeartbeats 1000000 in
theorem t5fail_yes (s : ByteArray) (a b : Nat) (d : Int) (w : World) (h : Tn w b s a 0) :
    Calls Tryz.prog 34 #[.pointer (some ⟨b, 0, none⟩), .int .i64 d] w fun e w' => e = .returned (.tuple #[]) ∧ Tn w' b s a d ∧ Keeps (· = b) w w' := by
  obtain ⟨c0, c1, c2⟩ := h.cells
  have f2 := h.fz 2
  have HP := Lib.hid (h.at2 d)
  clear h
  go_enter Tryz.func34, Tryz.ntmps34
  go_wp2_with fail
  go_end0
  exact ⟨rfl, HP.out, keepsT w b 2 _⟩
set_option maxRecDepth 100000 in
set_option maxHeartbeats 1000000 in
theorem t5fail_no (s : ByteArray) (a b : Nat) (c d : Int) (hc : c ≠ 0) (w : World) (h : Tn w b s a c) :
    Calls Tryz.prog 34 #[.pointer (some ⟨b, 0, none⟩), .int .i64 d] w fun e w' => e = .returned (.tuple #[]) ∧ w' = w := by
  obtain ⟨c0, c1, c2⟩ := h.cells
  have hne : (c == 0) = false := beq_eq_false_iff_ne.2 hc
  clear h hc
  go_enter Tryz.func34, Tryz.ntmps34
  go_wp2_with fail
  go_end0
  exact ⟨rfl, rfl⟩
set_option maxRecDepth 100000 in
set_option maxHeartbeats 4000000 in
theorem t5skip_any (s : ByteArray) (a b : Nat) (c : Int) (hs : s.size ≤ 100000) (ha : a ≤ s.size) (w : World) (h : Tn w b s a c) :
    Calls Tryz.prog 32 #[.pointer (some ⟨b, 0, none⟩)] w fun e w' => e = .returned (.tuple #[]) ∧ Tn w' b s (sk s a) c ∧ Keeps (· = b) w w' := by
  have HS : Hid (∀ W, Calls Tryz.prog 61 #[.string s, .int .i64 a] W fun e w' => e = .returned (.int .i64 (sk s a)) ∧ W = w') := Lib.hid (fun W => rskip_any s a hs ha W)
  have hI := h.step (Below.refl _ _).drew
  have kk := hI.cells
  obtain ⟨c0, c1, c2⟩ := h.cells
  have f1 := hI.fz 1
  have HP := Lib.hid (hI.at1 (sk s a))
  generalize sk s a = k at *
  clear h
  go_enter Tryz.func32, Tryz.ntmps32
  go_wp2_with fail
  go_region_with (first | (go_at_call 61; refine (HS.out _).mono ?_; rintro e w5 ⟨rfl, rfl⟩))
  all_goals
    go_wp2
    go_end0
    exact ⟨rfl, HP.out, (Keeps.refl (· = b) w).drew.trans (keepsT _ b 1 _)⟩

/-! ### is -/
set_option maxRecDepth 100000 in
set_option maxHeartbeats 4000000 in
theorem t5is_any (s : ByteArray) (a b : Nat) (c d : Int) (hd : d ≠ 0) (ha : a ≤ s.size) (w : World) (h : Tn w b s a c) :
    Calls Tryz.prog 62 #[.pointer (some ⟨b, 0, none⟩), .int .u8 d] w fun e w' => e = .returned (.bool (decide (byteI s a = d))) ∧ Below w.heap.size w w' := by
  have hI := h.step (Below.refl _ _).drew
  have kk := hI.cells
  by_cases hlt : a < s.size
  · have hlti : (a : Int) < (s.size : Int) := by omega
    have ha0 : (0 : Int) ≤ (a : Int) := by omega
    by_cases he : byteI s a = d
    · have hb := byteT_eq hlt he
      rw [decide_eq_true he]
      clear he h
      go_enter Tryz.func62, Tryz.ntmps62
      go_wp2_with fail
      go_region_held3 (fun W => W.cell? ⟨b, 0, none⟩ = some (.string s) ∧ W.cell? ⟨b, 1, none⟩ = some (.int .i64 a) ∧ W.cell? ⟨b, 2, none⟩ = some (.int .i64 c))
        (first | exact kk | exact hI.cells)
        (fail)
      all_goals
        go_wp2
        go_ret
        exact ⟨rfl, (Below.refl _ _).drew⟩
    · have hb := byteT_ne hlt he
      rw [decide_eq_false he]
      clear he h
      go_enter Tryz.func62, Tryz.ntmps62
      go_wp2_with fail
      go_region_held3 (fun W => W.cell? ⟨b, 0, none⟩ = some (.string s) ∧ W.cell? ⟨b, 1, none⟩ = some (.int .i64 a) ∧ W.cell? ⟨b, 2, none⟩ = some (.int .i64 c))
        (first | exact kk | exact hI.cells)
        (fail)
      all_goals
        go_wp2
        go_ret
        exact ⟨rfl, (Below.refl _ _).drew⟩
  · have he : ¬ byteI s a = d := fun e => hd (by rw [← e, byteI_ge hlt])
    have hl2 : ¬ (a : Int) < (s.size : Int) := by omega
    have hl1 : decide ((a : Int) < (s.size : Int)) = false := decide_eq_false hl2
    have hl3 : decide (a < s.size) = false := decide_eq_false hlt
    rw [decide_eq_false he]
    clear he h
    go_enter Tryz.func62, Tryz.ntmps62
    go_wp2_with fail
    refine wp_region_held_drew (S := fun W => W.cell? ⟨b, 0, none⟩ = some (.string s) ∧ W.cell? ⟨b, 1, none⟩ = some (.int .i64 a) ∧ W.cell? ⟨b, 2, none⟩ = some (.int .i64 c)) (by kernel_rfl) ?_ (fun hHeld => ?_)
    · exact kk
    refine wpAnyH_take (i := 0) (v := ?_) (by simp only [List.getElem?_toArray, List.getElem?_cons_zero]; rfl) (by kernel_rfl) (by kernel_rfl) (by kernel_rfl) (by exact fun _ _ _ h => h) (Or.inl ⟨by rfl, ?_⟩) (by assumption) ?_
    rotate_left
    · (intro w' hSw; (try dsimp only at hSw); go_simp; try with_reducible rfl)
    try simp only [Act.put, List.setIfInBounds_toArray, List.set_cons_zero, List.set_cons_succ]
    refine wpAnyH_take (i := 1) (v := ?_) (by simp only [List.getElem?_toArray, List.getElem?_cons_succ, List.getElem?_cons_zero]; rfl) (by kernel_rfl) (by kernel_rfl) (by kernel_rfl) (by exact fun _ _ _ h => h) (Or.inl ⟨by rfl, ?_⟩) (by assumption) ?_
    rotate_left
    · (intro w' hSw; (try dsimp only at hSw); go_simp; try with_reducible rfl)
    try simp only [Act.put, List.setIfInBounds_toArray, List.set_cons_zero, List.set_cons_succ]
    refine wpAnyH_take (i := 2) (v := ?_) (by simp only [List.getElem?_toArray, List.getElem?_cons_succ, List.getElem?_cons_zero]; rfl) (by kernel_rfl) (by kernel_rfl) (by kernel_rfl) (by exact fun _ _ _ h => h) (Or.inl ⟨by rfl, ?_⟩) (by assumption) ?_
    rotate_left
    · (intro w' hSw; (try dsimp only at hSw); go_simp; try with_reducible rfl)
    try simp only [Act.put, List.setIfInBounds_toArray, List.set_cons_zero, List.set_cons_succ]
    refine wpAnyH_take (i := 3) (v := ?_) (by simp only [List.getElem?_toArray, List.getElem?_cons_succ, List.getElem?_cons_zero]; rfl) (by kernel_rfl) (by kernel_rfl) (by kernel_rfl) (by exact fun _ _ _ h => h) (Or.inl ⟨by rfl, ?_⟩) (by assumption) ?_
    rotate_left
    · (intro w' hSw; (try dsimp only at hSw); go_simp; try with_reducible rfl)
    try simp only [Act.put, List.setIfInBounds_toArray, List.set_cons_zero, List.set_cons_succ]
    refine wpAnyH_take (i := 4) (v := ?_) (by simp only [List.getElem?_toArray, List.getElem?_cons_succ, List.getElem?_cons_zero]; rfl) (by kernel_rfl) (by kernel_rfl) (by kernel_rfl) (by exact fun _ _ _ h => h) (Or.inl ⟨by rfl, ?_⟩) (by assumption) ?_
    rotate_left
    · (intro w' hSw; (try dsimp only at hSw); go_simp; try with_reducible rfl)
    try simp only [Act.put, List.setIfInBounds_toArray, List.set_cons_zero, List.set_cons_succ]
    refine wpAnyH_take (i := 5) (v := ?_) (by simp only [List.getElem?_toArray, List.getElem?_cons_succ, List.getElem?_cons_zero]; rfl) (by kernel_rfl) (by kernel_rfl) (by kernel_rfl) (by exact fun _ _ _ h => h) (Or.inl ⟨by rfl, ?_⟩) (by assumption) ?_
    rotate_left
    · (intro w' hSw; (try dsimp only at hSw); go_simp; try with_reducible rfl)
    try simp only [Act.put, List.setIfInBounds_toArray, List.set_cons_zero, List.set_cons_succ]
    refine wpAnyH_take (i := 6) (v := ?_) (by simp only [List.getElem?_toArray, List.getElem?_cons_succ, List.getElem?_cons_zero]; rfl) (by kernel_rfl) (by kernel_rfl) (by kernel_rfl) (by exact fun _ _ _ h => h) (Or.inl ⟨by rfl, ?_⟩) (by assumption) ?_
    rotate_left
    · (intro w' hSw; (try dsimp only at hSw); go_simp; try with_reducible rfl)
    try simp only [Act.put, List.setIfInBounds_toArray, List.set_cons_zero, List.set_cons_succ]
    refine wpAnyH_take (i := 7) (v := ?_) (by simp only [List.getElem?_toArray, List.getElem?_cons_succ, List.getElem?_cons_zero]; rfl) (by kernel_rfl) (by kernel_rfl) (by kernel_rfl) (by exact fun _ _ _ h => h) (Or.inl ⟨by rfl, ?_⟩) (by assumption) ?_
    rotate_left
    · (intro w' hSw; (try dsimp only at hSw); go_simp; try with_reducible rfl)
    try simp only [Act.put, List.setIfInBounds_toArray, List.set_cons_zero, List.set_cons_succ]
    refine wpAnyH_take (i := 8) (v := ?_) (by simp only [List.getElem?_toArray, List.getElem?_cons_succ, List.getElem?_cons_zero]; rfl) (by kernel_rfl) (by kernel_rfl) (by kernel_rfl) (by exact fun _ _ _ h => h) (Or.inl ⟨by rfl, ?_⟩) (by assumption) ?_
    rotate_left
    · (intro w' hSw; (try dsimp only at hSw); go_simp; try with_reducible rfl)
    try simp only [Act.put, List.setIfInBounds_toArray, List.set_cons_zero, List.set_cons_succ]
    refine wpAnyH_take (i := 9) (v := ?_) (by simp only [List.getElem?_toArray, List.getElem?_cons_succ, List.getElem?_cons_zero]; rfl) (by kernel_rfl) (by kernel_rfl) (by kernel_rfl) (by exact fun _ _ _ h => h) (Or.inl ⟨by rfl, ?_⟩) (by assumption) ?_
    rotate_left
    · (intro w' hSw; (try dsimp only at hSw); go_simp; try with_reducible rfl)
    try simp only [Act.put, List.setIfInBounds_toArray, List.set_cons_zero, List.set_cons_succ]
    refine wpAnyH_take (i := 10) (v := ?_) (by simp only [List.getElem?_toArray, List.getElem?_cons_succ, List.getElem?_cons_zero]; rfl) (by kernel_rfl) (by kernel_rfl) (by kernel_rfl) (by exact fun _ _ _ h => h) (Or.inl ⟨by rfl, ?_⟩) (by assumption) ?_
    rotate_left
    · (intro w' hSw; (try dsimp only at hSw); go_simp; try with_reducible rfl)
    try simp only [Act.put, List.setIfInBounds_toArray, List.set_cons_zero, List.set_cons_succ]
    refine wpAnyH_take (i := 11) (v := undef) (by simp only [List.getElem?_toArray, List.getElem?_cons_succ, List.getElem?_cons_zero]; rfl) (by kernel_rfl) (by kernel_rfl) (by kernel_rfl) (by exact fun _ _ _ h => h) (Or.inr ⟨by rfl, rfl⟩) (by assumption) ?_
    try simp only [Act.put, List.setIfInBounds_toArray, List.set_cons_zero, List.set_cons_succ]
    refine wpAnyH_take (i := 12) (v := undef) (by simp only [List.getElem?_toArray, List.getElem?_cons_succ, List.getElem?_cons_zero]; rfl) (by kernel_rfl) (by kernel_rfl) (by kernel_rfl) (by exact fun _ _ _ h => h) (Or.inr ⟨by rfl, rfl⟩) (by assumption) ?_
    try simp only [Act.put, List.setIfInBounds_toArray, List.set_cons_zero, List.set_cons_succ]
    refine wpAnyH_take (i := 13) (v := undef) (by simp only [List.getElem?_toArray, List.getElem?_cons_succ, List.getElem?_cons_zero]; rfl) (by kernel_rfl) (by kernel_rfl) (by kernel_rfl) (by exact fun _ _ _ h => h) (Or.inr ⟨by rfl, rfl⟩) (by assumption) ?_
    try simp only [Act.put, List.setIfInBounds_toArray, List.set_cons_zero, List.set_cons_succ]
    refine wpAnyH_take (i := 14) (v := undef) (by simp only [List.getElem?_toArray, List.getElem?_cons_succ, List.getElem?_cons_zero]; rfl) (by kernel_rfl) (by kernel_rfl) (by kernel_rfl) (by exact fun _ _ _ h => h) (Or.inr ⟨by rfl, rfl⟩) (by assumption) ?_
    try simp only [Act.put, List.setIfInBounds_toArray, List.set_cons_zero, List.set_cons_succ]
    refine wpAnyH_take (i := 15) (v := undef) (by simp only [List.getElem?_toArray, List.getElem?_cons_succ, List.getElem?_cons_zero]; rfl) (by kernel_rfl) (by kernel_rfl) (by kernel_rfl) (by exact fun _ _ _ h => h) (Or.inr ⟨by rfl, rfl⟩) (by assumption) ?_
    try simp only [Act.put, List.setIfInBounds_toArray, List.set_cons_zero, List.set_cons_succ]
    refine wpAnyH_take (i := 16) (v := undef) (by simp only [List.getElem?_toArray, List.getElem?_cons_succ, List.getElem?_cons_zero]; rfl) (by kernel_rfl) (by kernel_rfl) (by kernel_rfl) (by exact fun _ _ _ h => h) (Or.inr ⟨by rfl, rfl⟩) (by assumption) ?_
    try simp only [Act.put, List.setIfInBounds_toArray, List.set_cons_zero, List.set_cons_succ]
    refine wpAnyH_take (i := 17) (v := undef) (by simp only [List.getElem?_toArray, List.getElem?_cons_succ, List.getElem?_cons_zero]; rfl) (by kernel_rfl) (by kernel_rfl) (by kernel_rfl) (by exact fun _ _ _ h => h) (Or.inr ⟨by rfl, rfl⟩) (by assumption) ?_
    try simp only [Act.put, List.setIfInBounds_toArray, List.set_cons_zero, List.set_cons_succ]
    refine wpAnyH_take (i := 18) (v := undef) (by simp only [List.getElem?_toArray, List.getElem?_cons_succ, List.getElem?_cons_zero]; rfl) (by kernel_rfl) (by kernel_rfl) (by kernel_rfl) (by exact fun _ _ _ h => h) (Or.inr ⟨by rfl, rfl⟩) (by assumption) ?_
    try simp only [Act.put, List.setIfInBounds_toArray, List.set_cons_zero, List.set_cons_succ]
    refine wpAnyH_take (i := 19) (v := undef) (by simp only [List.getElem?_toArray, List.getElem?_cons_succ, List.getElem?_cons_zero]; rfl) (by kernel_rfl) (by kernel_rfl) (by kernel_rfl) (by exact fun _ _ _ h => h) (Or.inr ⟨by rfl, rfl⟩) (by assumption) ?_
    try simp only [Act.put, List.setIfInBounds_toArray, List.set_cons_zero, List.set_cons_succ]
    refine wpAnyH_take (i := 20) (v := undef) (by simp only [List.getElem?_toArray, List.getElem?_cons_succ, List.getElem?_cons_zero]; rfl) (by kernel_rfl) (by kernel_rfl) (by kernel_rfl) (by exact fun _ _ _ h => h) (Or.inr ⟨by rfl, rfl⟩) (by assumption) ?_
    try simp only [Act.put, List.setIfInBounds_toArray, List.set_cons_zero, List.set_cons_succ]
    refine wpAnyH_take (i := 21) (v := undef) (by simp only [List.getElem?_toArray, List.getElem?_cons_succ, List.getElem?_cons_zero]; rfl) (by kernel_rfl) (by kernel_rfl) (by kernel_rfl) (by exact fun _ _ _ h => h) (Or.inr ⟨by rfl, rfl⟩) (by assumption) ?_
    try simp only [Act.put, List.setIfInBounds_toArray, List.set_cons_zero, List.set_cons_succ]
    refine wpAnyH_take (i := 22) (v := ?_) (by simp only [List.getElem?_toArray, List.getElem?_cons_succ, List.getElem?_cons_zero]; rfl) (by kernel_rfl) (by kernel_rfl) (by kernel_rfl) (by exact fun _ _ _ h => h) (Or.inl ⟨by rfl, ?_⟩) (by assumption) ?_
    rotate_left
    · (intro w' hSw; (try dsimp only at hSw); go_simp; try with_reducible rfl)
    try simp only [Act.put, List.setIfInBounds_toArray, List.set_cons_zero, List.set_cons_succ]
    refine wpAnyH_take (i := 23) (v := ?_) (by simp only [List.getElem?_toArray, List.getElem?_cons_succ, List.getElem?_cons_zero]; rfl) (by kernel_rfl) (by kernel_rfl) (by kernel_rfl) (by exact fun _ _ _ h => h) (Or.inl ⟨by rfl, ?_⟩) (by assumption) ?_
    rotate_left
    · (intro w' hSw; (try dsimp only at hSw); go_simp; try with_reducible rfl)
    try simp only [Act.put, List.setIfInBounds_toArray, List.set_cons_zero, List.set_cons_succ]
    refine wpAnyH_done (by kernel_rfl) ?_ _
    all_goals
      go_wp2
      go_ret
      exact ⟨rfl, (Below.refl _ _).drew⟩

/-! ### take -/
set_option maxRecDepth 100000 in
set_option maxHeartbeats 1000000 in
theorem t5take_idle (s : ByteArray) (a b : Nat) (c d : Int) (hc : c ≠ 0) (w : World) (h : Tn w b s a c) :
    Calls Tryz.prog 97 #[.pointer (some ⟨b, 0, none⟩), .int .u8 d] w fun e w' => e = .returned (.tuple #[]) ∧ w' = w := by
  obtain ⟨c0, c1, c2⟩ := h.cells
  have hne : (c == 0) = false := beq_eq_false_iff_ne.2 hc
  have hne2 : (c != 0) = true := bne_iff_ne.2 hc
  clear h hc
  go_enter Tryz.func97, Tryz.ntmps97
  go_wp2_with fail
  refine bodyPost_ret (results_none rfl _ _ _) rfl ?_
  exact ⟨rfl, rfl⟩
set_option maxRecDepth 100000 in
set_option maxHeartbeats 1000000 in
theorem t5take_yes (s : ByteArray) (a b : Nat) (d : Int) (hs : s.size ≤ 100000) (hd : d ≠ 0) (ha : a ≤ s.size) (he : byteI s a = d) (w : World) (h : Tn w b s a 0) :
    Calls Tryz.prog 97 #[.pointer (some ⟨b, 0, none⟩), .int .u8 d] w fun e w' => e = .returned (.tuple #[]) ∧ Tn w' b s (a + 1) 0 ∧ Keeps (· = b) w w' := by
  have HI := Lib.hid (t5is_any s a b 0 d hd ha w h)
  rw [decide_eq_true he] at HI
  have HH := Lib.hid h
  obtain ⟨c0, c1, c2⟩ := h.cells
  have hab : (a : Int) ≤ 100000 := by omega
  clear h he
  go_enter Tryz.func97, Tryz.ntmps97
  go_wp2_with fail
  refine HI.out.mono ?_
  rintro e w1 ⟨rfl, b1⟩
  have h1 := HH.out.step b1
  have HK := Lib.hid (Keeps.of_below (D := (· = b)) b1)
  have HP : Hid (Tn (w1.setCell ⟨b, 1, none⟩ (.int .i64 ((a : Int) + 1))) b s (a + 1) 0) := Lib.hid (h1.at1 (a + 1))
  have f1 := h1.fz 1
  clear c0 c1 c2
  obtain ⟨c0, c1, c2⟩ := h1.cells
  clear b1 h1 HH HI
  go_wp2_with fail
  go_end0
  exact ⟨rfl, HP.out, HK.out.trans (keepsT w1 b 1 _)⟩
set_option maxRecDepth 100000 in
set_option maxHeartbeats 2000000 in
theorem t5take_no (s : ByteArray) (a b : Nat) (d : Int) (hd : d ≠ 0) (ha : a ≤ s.size) (he : byteI s a ≠ d) (w : World) (h : Tn w b s a 0) :
    Calls Tryz.prog 97 #[.pointer (some ⟨b, 0, none⟩), .int .u8 d] w fun e w' => e = .returned (.tuple #[]) ∧ Tn w' b s a (missC s a) ∧ Keeps (· = b) w w' := by
  have HI := Lib.hid (t5is_any s a b 0 d hd ha w h)
  rw [decide_eq_false he] at HI
  have HF := Lib.hid (fun W => rfails_any s a W)
  have HL := Lib.hid (fun W => t5fail_yes s a b (missC s a) W)
  have HH := Lib.hid h
  obtain ⟨c0, c1, c2⟩ := h.cells
  generalize missC s a = m at *
  clear h he
  go_enter Tryz.func97, Tryz.ntmps97
  go_wp2_with fail
  refine HI.out.mono ?_
  rintro e w1 ⟨rfl, b1⟩
  have h1 := HH.out.step b1
  have HK := Lib.hid (Keeps.of_below (D := (· = b)) b1)
  have hI := h1.step (Below.refl _ _).drew
  have HKd := Lib.hid (HK.out.trans (Keeps.of_below (D := (· = b)) ((Below.refl w1.heap.size w1).drew)))
  clear c0 c1 c2
  obtain ⟨c0, c1, c2⟩ := h1.cells
  clear b1 h1 HH HI
  go_wp2_with fail
  go_region_with (first
    | (go_at_call 68; refine (HF.out _).mono ?_; rintro e w5 ⟨rfl, rfl⟩)
    | (go_at_call 34; refine (HL.out _ hI).mono ?_; rintro e w6 ⟨rfl, hq, hkp⟩))
  all_goals
    go_wp2
    refine bodyPost_ret (results_none rfl _ _ _) rfl ?_
    exact ⟨rfl, hq, HKd.out.trans hkp⟩
end Go.Proofs.YtajmlkephefapaaGreatDoor

namespace Go.Proofs.YtajmlkephefapaaGreatDoor
open Go.RowKit Go.Extern.Stop Go.Stop Go.Extern

/-- What a text's call answers. -/
def T5txOut (b : Nat) (s : ByteArray) (w : World) (X : Tx) (e : Ending) (w' : World) : Prop :=
  (X.c = 0 ∧ e = .returned (.string ⟨X.t.toArray⟩) ∧ Tn w' b s X.k 0 ∧ Keeps (· = b) w w') ∨ (X.c ≠ 0 ∧ e = .returned (.string ⟨#[]⟩) ∧ Tn w' b s X.a X.c ∧ Keeps (· = b) w w')
/-- On the way through a text. -/
structure TxRow (b : Nat) (s : ByteArray) (w0 : World) (X : Tx) (k : Nat) (l : List UInt8) (w : World) : Prop where
  eq : X = { txtR s k with t := l ++ (txtR s k).t }
  le : k ≤ s.size
  len : l.length ≤ k
  rd : Tn w b s k 0
  kp : Keeps (· = b) w0 w
theorem TxRow.go {b : Nat} {s : ByteArray} {w0 : World} {X : Tx} {k : Nat} {l : List UInt8} {w w' : World} (h : TxRow b s w0 X k l w) (hc : (signR s k).c = 0) (h34 : byteI s k ≠ 34) (hr : Tn w' b s (signR s k).k 0) (hk : Keeps (· = b) w w') :
    TxRow b s w0 X (signR s k).k (l ++ [(signR s k).b]) w' := by
  have h1 := signR_ok hc
  refine ⟨?_, h1.2, ?_, hr, h.kp.trans hk⟩
  · rw [h.eq, txtR_go h34 hc]
    simp
  · have := h.len
    simp
    omega
theorem TxRow.fin {b : Nat} {s : ByteArray} {w0 : World} {X : Tx} {k : Nat} {l : List UInt8} {w w' : World} (h : TxRow b s w0 X k l w) (h34 : byteI s k = 34) (hr : Tn w' b s (k + 1) 0) (hk : Keeps (· = b) w w') :
    T5txOut b s w0 X (.returned (.string ⟨l.toArray⟩)) w' := by
  have e := h.eq
  rw [txtR_end h34] at e
  subst e
  exact .inl ⟨rfl, by simp, hr, h.kp.trans hk⟩
theorem TxRow.er {b : Nat} {s : ByteArray} {w0 : World} {X : Tx} {k : Nat} {l : List UInt8} {w w' : World} (h : TxRow b s w0 X k l w) (h34 : byteI s k ≠ 34) {c : Int} {a : Nat} (hc : (signR s k).c = c) (ha : (signR s k).a = a) (h0 : c ≠ 0) (hr : Tn w' b s a c) (hk : Keeps (· = b) w w') :
    T5txOut b s w0 X (.returned (.string ⟨#[]⟩)) w' := by
  have e := h.eq
  rw [txtR_er h34 (by rw [hc]; exact h0)] at e
  subst e
  exact .inr ⟨by show (signR s k).c ≠ 0; rw [hc]; exact h0, rfl, by show Tn w' b s (signR s k).a (signR s k).c; rw [hc, ha]; exact hr, h.kp.trans hk⟩
theorem TxRow.drew {b : Nat} {s : ByteArray} {w0 : World} {X : Tx} {k : Nat} {l : List UInt8} {w : World} (h : TxRow b s w0 X k l w) : TxRow b s w0 X k l w.drew :=
  ⟨h.eq, h.le, h.len, h.rd.step (Below.refl _ _).drew, h.kp.drew⟩
theorem TxRow.step {b : Nat} {s : ByteArray} {w0 : World} {X : Tx} {k : Nat} {l : List UInt8} {w w' : World} (h : TxRow b s w0 X k l w) (hb : Below w.heap.size w w') : TxRow b s w0 X k l w' :=
  ⟨h.eq, h.le, h.len, h.rd.step hb, h.kp.trans (Keeps.of_below hb)⟩

/-! ### Signs, case by case -/
section
variable {s : ByteArray} {k : Nat}
theorem sg_form (h : byteI s k ≠ 92) (hr : 32 ≤ byteI s k ∧ byteI s k ≤ 126) : signR s k = ⟨k + 1, byteU s k, 0, 0⟩ := by unfold signR; rw [if_neg h, if_pos hr]
theorem sg_bad (h : byteI s k ≠ 92) (hr : ¬ (32 ≤ byteI s k ∧ byteI s k ≤ 126)) : signR s k = ⟨k, 0, missC s k, k⟩ := by unfold signR; rw [if_neg h, if_neg hr]
theorem sg_q (h : byteI s k = 92) (hr : byteI s (k + 1) = 34 ∨ byteI s (k + 1) = 92) : signR s k = ⟨k + 2, byteU s (k + 1), 0, 0⟩ := by unfold signR; rw [if_pos h, if_pos hr]
theorem sg_n (h : byteI s k = 92) (hr : byteI s (k + 1) = 110) : signR s k = ⟨k + 2, 10, 0, 0⟩ := by unfold signR; rw [if_pos h, if_neg (by omega), if_pos hr]
theorem sg_no (h : byteI s k = 92) (h1 : ¬ (byteI s (k + 1) = 34 ∨ byteI s (k + 1) = 92)) (h2 : byteI s (k + 1) ≠ 110) (hl : k + 1 < s.size) : signR s k = ⟨k, 0, 4, k⟩ := by unfold signR; rw [if_pos h, if_neg h1, if_neg h2, if_pos hl]
theorem sg_end (h : byteI s k = 92) (hl : ¬ k + 1 < s.size) : signR s k = ⟨k, 0, 3, k + 1⟩ := by
  have h0 := byteI_ge (s := s) (k := k + 1) hl
  unfold signR
  rw [if_pos h, if_neg (by omega), if_neg (by omega), if_neg hl]
theorem byteU_lt (h : k < s.size) : byteU s k = s[k] := by unfold byteU; rw [dif_pos h]
theorem cat_one (l : List UInt8) (h : k < s.size) : (⟨l.toArray⟩ : ByteArray) ++ s.extract k (k + 1) = ⟨(l ++ [byteU s k]).toArray⟩ := by
  rw [one_extract h, byteU_lt h]
  apply ByteArray.ext
  apply Array.ext'
  simp
theorem cat_n (l : List UInt8) : (⟨l.toArray⟩ : ByteArray) ++ ⟨#[10]⟩ = ⟨(l ++ [10]).toArray⟩ := by
  apply ByteArray.ext
  apply Array.ext'
  simp
end

set_option maxRecDepth 100000 in
set_option maxHeartbeats 8000000 in
theorem t5text_go (s : ByteArray) (b k : Nat) (hs : s.size ≤ 100000) (hq : byteI s k = 34) (w : World) (h : Tn w b s k 0) :
    Calls Tryz.prog 66 #[.pointer (some ⟨b, 0, none⟩)] w (T5txOut b s w (txtR s (k + 1))) := by
  have hk := byteT_in hq (by decide)
  have HTK := Lib.hid (fun W (h : Tn W b s k 0) => t5take_yes s k b 34 hs (by decide) (by omega) hq W h)
  have HFA := Lib.hid (fun d W k (h : Tn W b s k 0) => t5fail_yes s k b d W h)
  have H0 := Lib.hid h
  obtain ⟨X, hX⟩ : ∃ X, txtR s (k + 1) = X := ⟨_, rfl⟩
  rw [hX]
  have HX := Lib.hid hX
  have HKL := Lib.hid hk
  clear h hq hX hk
  go_enter Tryz.func66, Tryz.ntmps66
  go_wp2_with fail
  refine (HTK.out _ H0.out).mono ?_
  rintro e w1 ⟨rfl, hr1, hk1⟩
  have H1 : Hid (TxRow b s w X (k + 1) [] w1) := Lib.hid ⟨by rw [← HX.out]; rfl, HKL.out, Nat.zero_le _, hr1, hk1⟩
  clear hr1 hk1 H0 HTK HX HKL
  go_wp2_with fail
  go_loopg [3] (s.size - (k + 1)) (fun g v wr => ∃ (k : Nat) (l : List UInt8), v = .string ⟨l.toArray⟩ ∧ g = s.size - k ∧ TxRow b s w X k l wr)
  case atStart => exact ⟨k + 1, [], rfl, rfl, H1.out⟩
  case round =>
    clear H1
    obtain ⟨k, l, rfl, hg, hst⟩ := hrel
    have H := Lib.hid hst
    have HG := Lib.hid hg
    have hk := hst.le
    have hl := hst.len
    obtain ⟨O, hO⟩ : ∃ O, O = (⟨l.toArray⟩ : ByteArray) := ⟨_, rfl⟩
    have hls : O.size = l.length := by rw [hO]; show l.toArray.size = _; simp
    rw [← hO]
    have HO := Lib.hid hO
    have hz0 : O.size ≤ 100000 := by omega
    have hz1 : ¬ 9223372036854775807 < O.size + 1 := by omega
    obtain ⟨c0, c1, c2⟩ := hst.rd.cells
    clear hst hg hls hO hl
    have ha0 : (0 : Int) ≤ (k : Int) := by omega
    have hkb : (k : Int) ≤ 100000 := by omega
    by_cases hlt : k < s.size
    · have hlti : (k : Int) < (s.size : Int) := by omega
      have hnge : ¬ (s.size : Int) ≤ (k : Int) := by omega
      have hw3 := H.out.drew
      obtain ⟨d0, d1, d2⟩ := hw3.rd.cells
      have kk : (wr).drew.cell? ⟨b, 0, none⟩ = some (.string s) ∧ (wr).drew.cell? ⟨b, 1, none⟩ = some (.int .i64 k) ∧ (wr).drew.cell? ⟨b, 2, none⟩ = some (.int .i64 0) := ⟨d0, d1, d2⟩
      have HN := Lib.hid hw3
      clear hw3 d0 d1 d2
      go_wp2_with fail
      go_region_held3 (fun W => W.cell? ⟨b, 0, none⟩ = some (.string s) ∧ W.cell? ⟨b, 1, none⟩ = some (.int .i64 k) ∧ W.cell? ⟨b, 2, none⟩ = some (.int .i64 0))
        (exact kk)
        (fail)
      have HDw3 := Lib.hid ((Keeps.refl (· = b) (wr)).drew)
      generalize (wr).drew = w3 at *
      clear kk c0 c1 c2 H
      have H := HN
      clear HN
      obtain ⟨c0, c1, c2⟩ := H.out.rd.cells
      have hbI := byteI_lt hlt
      have hw4 := H.out.drew
      obtain ⟨d0, d1, d2⟩ := hw4.rd.cells
      have kk : (w3).drew.cell? ⟨b, 0, none⟩ = some (.string s) ∧ (w3).drew.cell? ⟨b, 1, none⟩ = some (.int .i64 k) ∧ (w3).drew.cell? ⟨b, 2, none⟩ = some (.int .i64 0) := ⟨d0, d1, d2⟩
      have HN := Lib.hid hw4
      clear hw4 d0 d1 d2
      go_wp2_with fail
      go_region_held3 (fun W => W.cell? ⟨b, 0, none⟩ = some (.string s) ∧ W.cell? ⟨b, 1, none⟩ = some (.int .i64 k) ∧ W.cell? ⟨b, 2, none⟩ = some (.int .i64 0))
        (exact kk)
        (fail)
      have HDw4 := Lib.hid ((Keeps.refl (· = b) (w3)).drew)
      generalize (w3).drew = w4 at *
      clear kk c0 c1 c2 H
      have H := HN
      clear HN
      obtain ⟨c0, c1, c2⟩ := H.out.rd.cells
      by_cases h34 : byteI s k = 34
      · have q34 := byteT_eq hlt h34
        have HP : Hid (Tn (w4.setCell ⟨b, 1, none⟩ (.int .i64 ((k : Int) + 1))) b s (k + 1) 0) := Lib.hid (H.out.rd.at1 (k + 1))
        have HE := Lib.hid (H.out.fin h34 HP.out (keepsT w4 b 1 _))
        have f1 := H.out.rd.fz 1
        clear HFA hbI
        go_wp2_with fail
        go_ret
        rw [HO.out]
        exact HE.out
      have q34 := byteT_ne hlt h34
      by_cases hrg : 32 ≤ byteI s k ∧ byteI s k ≤ 126
      · have m1 : ¬ (s[k].toNat : Int) < 32 := by omega
        have m2 : (32 : Int) ≤ (s[k].toNat : Int) := by omega
        have m3 : ¬ (126 : Int) < (s[k].toNat : Int) := by omega
        have m4 : (s[k].toNat : Int) ≤ 126 := by omega
        obtain ⟨j, hj⟩ : ∃ j, k + 1 = j := ⟨_, rfl⟩
        have hkj : (k : Int) + 1 = (j : Int) := by omega
        have hwj : IntKind.i64.wrap (j : Int) = (j : Int) := by rw [IntKind.wrap_i64]; omega
        have hjb : (j : Int) ≤ 100001 := by omega
        have hj0 : (0 : Int) ≤ (j : Int) := by omega
        by_cases h92 : byteI s k = 92
        · have q92 := byteT_eq hlt h92
          have q92' : ((s[k].toNat : Int) != 92) = false := by rw [bne, q92]; rfl
          by_cases hlt2 : j < s.size
          · have hlti2 : (j : Int) < (s.size : Int) := by omega
            have hnge2 : ¬ (s.size : Int) ≤ (j : Int) := by omega
            have hbJ := byteI_lt hlt2
            have HSN := Lib.hid (And.intro h92 h34)
            clear hbI h34 h92 hrg
            have hw5 := H.out.drew
            obtain ⟨d0, d1, d2⟩ := hw5.rd.cells
            have kk : (w4).drew.cell? ⟨b, 0, none⟩ = some (.string s) ∧ (w4).drew.cell? ⟨b, 1, none⟩ = some (.int .i64 k) ∧ (w4).drew.cell? ⟨b, 2, none⟩ = some (.int .i64 0) := ⟨d0, d1, d2⟩
            have HN := Lib.hid hw5
            clear hw5 d0 d1 d2
            go_wp2_with fail
            go_region_held3 (fun W => W.cell? ⟨b, 0, none⟩ = some (.string s) ∧ W.cell? ⟨b, 1, none⟩ = some (.int .i64 k) ∧ W.cell? ⟨b, 2, none⟩ = some (.int .i64 0))
              (exact kk)
              (fail)
            have HDw5 := Lib.hid ((Keeps.refl (· = b) (w4)).drew)
            generalize (w4).drew = w5 at *
            clear kk c0 c1 c2 H
            have H := HN
            clear HN
            obtain ⟨c0, c1, c2⟩ := H.out.rd.cells
            have hw6 := H.out.drew
            obtain ⟨d0, d1, d2⟩ := hw6.rd.cells
            have kk : (w5).drew.cell? ⟨b, 0, none⟩ = some (.string s) ∧ (w5).drew.cell? ⟨b, 1, none⟩ = some (.int .i64 k) ∧ (w5).drew.cell? ⟨b, 2, none⟩ = some (.int .i64 0) := ⟨d0, d1, d2⟩
            have HN := Lib.hid hw6
            clear hw6 d0 d1 d2
            go_wp2_with fail
            go_region_held3 (fun W => W.cell? ⟨b, 0, none⟩ = some (.string s) ∧ W.cell? ⟨b, 1, none⟩ = some (.int .i64 k) ∧ W.cell? ⟨b, 2, none⟩ = some (.int .i64 0))
              (exact kk)
              (fail)
            have HDw6 := Lib.hid ((Keeps.refl (· = b) (w5)).drew)
            generalize (w5).drew = w6 at *
            clear kk c0 c1 c2 H
            have H := HN
            clear HN
            obtain ⟨c0, c1, c2⟩ := H.out.rd.cells
            by_cases h110 : byteI s j = 110
            · have q110 := byteT_eq hlt2 h110
              have hsg := sg_n HSN.out.1 (by rw [hj]; exact h110)
              have HGO : Hid (∀ W', Tn W' b s (k + 2) 0 → Keeps (· = b) w6 W' → TxRow b s w X (k + 2) (l ++ [10]) W') := Lib.hid (fun W' hr hk => by
                have := H.out.go (by rw [hsg]) HSN.out.2 (by rw [hsg]; exact hr) hk
                rwa [hsg] at this)
              have HC := Lib.hid (cat_n l)
              rw [← HO.out] at HC
              have HP : Hid (Tn (w6.setCell ⟨b, 1, none⟩ (.int .i64 ((k : Int) + 2))) b s (k + 2) 0) := Lib.hid (H.out.rd.at1 (k + 2))
              have f1 := H.out.rd.fz 1
              clear hsg h110 hbJ HFA
              go_wp2_with fail
              go_roundg (s.size - (k + 2))
              case measure => have := HG.out; omega
              case rel => exact ⟨k + 2, l ++ [10], by rw [← HC.out], rfl, HGO.out _ HP.out (keepsT w6 b 1 _)⟩
            have q110 := byteT_ne hlt2 h110
            by_cases hqq : byteI s j = 34 ∨ byteI s j = 92
            · have hsg := sg_q HSN.out.1 (by rw [hj]; exact hqq)
              obtain ⟨i, hi⟩ : ∃ i, j + 1 = i := ⟨_, rfl⟩
              have hji : (k : Int) + 2 = (i : Int) := by omega
              have hji1 : (j : Int) + 1 = (i : Int) := by omega
              have hi1 : j ≤ i := by omega
              have hi2 : i ≤ s.size := by omega
              have e2 : min i s.size = i := by omega
              have e3 : i - j = 1 := by omega
              have e1 : (s.extract j i).size = 1 := by rw [ByteArray.size_extract, e2, e3]
              have HC := Lib.hid (cat_one l hlt2)
              rw [← HO.out] at HC
              rw [hi] at HC
              have HGO : Hid (∀ W', Tn W' b s i 0 → Keeps (· = b) w6 W' → TxRow b s w X i (l ++ [byteU s j]) W') := Lib.hid (fun W' hr hk => by
                have := H.out.go (by rw [hsg]) HSN.out.2 (by rw [hsg]; show Tn _ _ _ (k + 2) _; rw [show k + 2 = i by omega]; exact hr) hk
                rw [hsg] at this
                rw [show k + 2 = i by omega, hj] at this
                exact this)
              clear hsg hbJ HFA h110
              have hiw : IntKind.i64.wrap (i : Int) = (i : Int) := by rw [IntKind.wrap_i64]; omega
              rcases hqq with h1 | h1
              · have r34 := byteT_eq hlt2 h1
                clear h1
                have hw7 := H.out.drew
                obtain ⟨d0, d1, d2⟩ := hw7.rd.cells
                have kk : (w6).drew.cell? ⟨b, 0, none⟩ = some (.string s) ∧ (w6).drew.cell? ⟨b, 1, none⟩ = some (.int .i64 k) ∧ (w6).drew.cell? ⟨b, 2, none⟩ = some (.int .i64 0) := ⟨d0, d1, d2⟩
                have HN := Lib.hid hw7
                clear hw7 d0 d1 d2
                go_wp2_with fail
                go_region_held3 (fun W => W.cell? ⟨b, 0, none⟩ = some (.string s) ∧ W.cell? ⟨b, 1, none⟩ = some (.int .i64 k) ∧ W.cell? ⟨b, 2, none⟩ = some (.int .i64 0))
                  (exact kk)
                  (fail)
                have HDw7 := Lib.hid ((Keeps.refl (· = b) (w6)).drew)
                generalize (w6).drew = w7 at *
                clear kk c0 c1 c2 H
                have H := HN
                clear HN
                obtain ⟨c0, c1, c2⟩ := H.out.rd.cells
                have HP : Hid (Tn (w7.setCell ⟨b, 1, none⟩ (.int .i64 (i : Int))) b s i 0) := Lib.hid (H.out.rd.at1 i)
                have f1 := H.out.rd.fz 1
                go_wp2_with fail
                go_roundg (s.size - i)
                case measure => have := HG.out; omega
                case rel => exact ⟨i, l ++ [byteU s j], by rw [← HC.out], rfl, HGO.out _ HP.out (HDw7.out.trans (keepsT w7 b 1 _))⟩
              · have r34 : ((s[j].toNat : Int) == 34) = false := by rw [beq_eq_false_iff_ne, ← byteI_lt hlt2]; omega
                have r92 := byteT_eq hlt2 h1
                clear h1
                have hw7 := H.out.drew
                obtain ⟨d0, d1, d2⟩ := hw7.rd.cells
                have kk : (w6).drew.cell? ⟨b, 0, none⟩ = some (.string s) ∧ (w6).drew.cell? ⟨b, 1, none⟩ = some (.int .i64 k) ∧ (w6).drew.cell? ⟨b, 2, none⟩ = some (.int .i64 0) := ⟨d0, d1, d2⟩
                have HN := Lib.hid hw7
                clear hw7 d0 d1 d2
                go_wp2_with fail
                go_region_held3 (fun W => W.cell? ⟨b, 0, none⟩ = some (.string s) ∧ W.cell? ⟨b, 1, none⟩ = some (.int .i64 k) ∧ W.cell? ⟨b, 2, none⟩ = some (.int .i64 0))
                  (exact kk)
                  (fail)
                have HDw7 := Lib.hid ((Keeps.refl (· = b) (w6)).drew)
                generalize (w6).drew = w7 at *
                clear kk c0 c1 c2 H
                have H := HN
                clear HN
                obtain ⟨c0, c1, c2⟩ := H.out.rd.cells
                have HP : Hid (Tn (w7.setCell ⟨b, 1, none⟩ (.int .i64 (i : Int))) b s i 0) := Lib.hid (H.out.rd.at1 i)
                have f1 := H.out.rd.fz 1
                go_wp2_with fail
                go_roundg (s.size - i)
                case measure => have := HG.out; omega
                case rel => exact ⟨i, l ++ [byteU s j], by rw [← HC.out], rfl, HGO.out _ HP.out (HDw7.out.trans (keepsT w7 b 1 _))⟩
            · have r34 := byteT_ne hlt2 (fun h => hqq (.inl h))
              have r92 := byteT_ne hlt2 (fun h => hqq (.inr h))
              have hsg := sg_no HSN.out.1 (by rw [hj]; exact hqq) (by rw [hj]; exact h110) (by omega)
              have HE : Hid (∀ W', Tn W' b s k 4 → Keeps (· = b) w6 W' → T5txOut b s w X (.returned (.string ⟨#[]⟩)) W') := Lib.hid (fun W' hr hk => H.out.er HSN.out.2 (c := 4) (a := k) (by rw [hsg]) (by rw [hsg]) (by decide) hr hk)
              clear hsg hqq h110 hbJ
              clear c0 c1 c2
              go_wp2_with fail
              refine (HFA.out 4 _ k H.out.rd).mono ?_
              rintro e wf ⟨rfl, hrf, hkf⟩
              go_wp2_with fail
              go_ret
              exact HE.out _ hrf hkf
          · have hnlt2 : ¬ (j : Int) < (s.size : Int) := by omega
            have hge2 : (s.size : Int) ≤ (j : Int) := by omega
            have hsg := sg_end h92 (by rw [hj]; exact hlt2)
            have HE : Hid (∀ W', Tn W' b s j 3 → Keeps (· = b) w4 W' → T5txOut b s w X (.returned (.string ⟨#[]⟩)) W') := Lib.hid (fun W' hr hk => H.out.er h34 (c := 3) (a := j) (by rw [hsg]) (by rw [hsg]; exact hj) (by decide) hr hk)
            clear hsg hbI h34 h92 hrg
            have hw5 := H.out.drew
            obtain ⟨d0, d1, d2⟩ := hw5.rd.cells
            have kk : (w4).drew.cell? ⟨b, 0, none⟩ = some (.string s) ∧ (w4).drew.cell? ⟨b, 1, none⟩ = some (.int .i64 k) ∧ (w4).drew.cell? ⟨b, 2, none⟩ = some (.int .i64 0) := ⟨d0, d1, d2⟩
            have HN := Lib.hid hw5
            clear hw5 d0 d1 d2
            go_wp2_with fail
            go_region_held3 (fun W => W.cell? ⟨b, 0, none⟩ = some (.string s) ∧ W.cell? ⟨b, 1, none⟩ = some (.int .i64 k) ∧ W.cell? ⟨b, 2, none⟩ = some (.int .i64 0))
              (exact kk)
              (fail)
            have HDw5 := Lib.hid ((Keeps.refl (· = b) (w4)).drew)
            generalize (w4).drew = w5 at *
            clear kk c0 c1 c2 H
            have H := HN
            clear HN
            obtain ⟨c0, c1, c2⟩ := H.out.rd.cells
            have HP : Hid (Tn (w5.setCell ⟨b, 1, none⟩ (.int .i64 (j : Int))) b s j 0) := Lib.hid (H.out.rd.at1 j)
            have HKP := Lib.hid (HDw5.out.trans (keepsT w5 b 1 (.int .i64 (j : Int))))
            have f1 := H.out.rd.fz 1
            go_upto_region 19 with (fail)
            generalize w5.setCell ⟨b, 1, none⟩ (.int .i64 (j : Int)) = w6 at *
            clear c0 c1 c2
            go_wp2_with fail
            refine (HFA.out 3 _ j HP.out).mono ?_
            rintro e wf ⟨rfl, hrf, hkf⟩
            go_wp2_with fail
            go_ret
            exact HE.out _ hrf (HKP.out.trans hkf)
        · have q92 := byteT_ne hlt h92
          have q92' : ((s[k].toNat : Int) != 92) = true := by rw [bne, q92]; rfl
          have hsg := sg_form h92 hrg
          have HC := Lib.hid (cat_one l hlt)
          rw [← HO.out] at HC
          have HGO : Hid (∀ W', Tn W' b s j 0 → Keeps (· = b) w4 W' → TxRow b s w X j (l ++ [byteU s k]) W') := Lib.hid (fun W' hr hk => by
            have := H.out.go (by rw [hsg]) h34 (by rw [hsg]; show Tn _ _ _ (k + 1) _; rw [hj]; exact hr) hk
            rw [hsg] at this
            rw [hj] at this
            exact this)
          rw [hj] at HC
          have hj1 : k ≤ j := by omega
          have hj2 : j ≤ s.size := by omega
          have e2 : min j s.size = j := by omega
          have e3 : j - k = 1 := by omega
          have e1 : (s.extract k j).size = 1 := by rw [ByteArray.size_extract, e2, e3]
          clear hsg hrg h34 h92 hbI HFA
          have hw5 := H.out.drew
          obtain ⟨d0, d1, d2⟩ := hw5.rd.cells
          have kk : (w4).drew.cell? ⟨b, 0, none⟩ = some (.string s) ∧ (w4).drew.cell? ⟨b, 1, none⟩ = some (.int .i64 k) ∧ (w4).drew.cell? ⟨b, 2, none⟩ = some (.int .i64 0) := ⟨d0, d1, d2⟩
          have HN := Lib.hid hw5
          clear hw5 d0 d1 d2
          go_wp2_with fail
          go_region_held3 (fun W => W.cell? ⟨b, 0, none⟩ = some (.string s) ∧ W.cell? ⟨b, 1, none⟩ = some (.int .i64 k) ∧ W.cell? ⟨b, 2, none⟩ = some (.int .i64 0))
            (exact kk)
            (fail)
          have HDw5 := Lib.hid ((Keeps.refl (· = b) (w4)).drew)
          generalize (w4).drew = w5 at *
          clear kk c0 c1 c2 H
          have H := HN
          clear HN
          obtain ⟨c0, c1, c2⟩ := H.out.rd.cells
          have HP : Hid (Tn (w5.setCell ⟨b, 1, none⟩ (.int .i64 (j : Int))) b s j 0) := Lib.hid (H.out.rd.at1 j)
          have f1 := H.out.rd.fz 1
          go_wp2_with fail
          go_roundg (s.size - j)
          case measure => have := HG.out; omega
          case rel => exact ⟨j, l ++ [byteU s k], by rw [← HC.out], rfl, HGO.out _ HP.out (HDw5.out.trans (keepsT w5 b 1 _))⟩
      · have h92 : byteI s k ≠ 92 := by omega
        have hsg := sg_bad h92 hrg
        have HE : Hid (∀ W', Tn W' b s k 4 → Keeps (· = b) w4 W' → T5txOut b s w X (.returned (.string ⟨#[]⟩)) W') := Lib.hid (fun W' hr hk => H.out.er h34 (c := 4) (a := k) (by rw [hsg]; show missC s k = 4; unfold missC; rw [if_pos hlt]) (by rw [hsg]) (by decide) hr hk)
        by_cases hm : (s[k].toNat : Int) < 32
        · clear hsg hrg h34 h92 hbI
          clear c0 c1 c2
          go_wp2_with fail
          refine (HFA.out 4 _ k H.out.rd).mono ?_
          rintro e wf ⟨rfl, hrf, hkf⟩
          go_wp2_with fail
          go_ret
          exact HE.out _ hrf hkf
        · have m1 : ¬ (s[k].toNat : Int) < 32 := hm
          have m2 : (32 : Int) ≤ (s[k].toNat : Int) := by omega
          have m3 : (126 : Int) < (s[k].toNat : Int) := by omega
          clear hsg hrg h34 h92 hbI hm
          clear c0 c1 c2
          go_wp2_with fail
          refine (HFA.out 4 _ k H.out.rd).mono ?_
          rintro e wf ⟨rfl, hrf, hkf⟩
          go_wp2_with fail
          go_ret
          exact HE.out _ hrf hkf
    · have hnlt : ¬ (k : Int) < (s.size : Int) := by omega
      have hge : (s.size : Int) ≤ (k : Int) := by omega
      have h0 := byteI_ge (s := s) (k := k) hlt
      have hsg := sg_bad (s := s) (k := k) (by rw [h0]; decide) (by rw [h0]; decide)
      have HE : Hid (∀ W', Tn W' b s k 3 → Keeps (· = b) wr W' → T5txOut b s w X (.returned (.string ⟨#[]⟩)) W') := Lib.hid (fun W' hr hk => H.out.er (by rw [h0]; decide) (c := 3) (a := k) (by rw [hsg]; show missC s k = 3; unfold missC; rw [if_neg hlt]) (by rw [hsg]) (by decide) hr hk)
      clear hsg h0
      have hw3 := H.out.drew
      obtain ⟨d0, d1, d2⟩ := hw3.rd.cells
      have kk : (wr).drew.cell? ⟨b, 0, none⟩ = some (.string s) ∧ (wr).drew.cell? ⟨b, 1, none⟩ = some (.int .i64 k) ∧ (wr).drew.cell? ⟨b, 2, none⟩ = some (.int .i64 0) := ⟨d0, d1, d2⟩
      have HN := Lib.hid hw3
      clear hw3 d0 d1 d2
      go_wp2_with fail
      go_region_held3 (fun W => W.cell? ⟨b, 0, none⟩ = some (.string s) ∧ W.cell? ⟨b, 1, none⟩ = some (.int .i64 k) ∧ W.cell? ⟨b, 2, none⟩ = some (.int .i64 0))
        (exact kk)
        (fail)
      have HDw3 := Lib.hid ((Keeps.refl (· = b) (wr)).drew)
      generalize (wr).drew = w3 at *
      clear kk c0 c1 c2 H
      have H := HN
      clear HN
      obtain ⟨c0, c1, c2⟩ := H.out.rd.cells
      clear c0 c1 c2
      go_wp2_with fail
      refine (HFA.out 3 _ k H.out.rd).mono ?_
      rintro e wf ⟨rfl, hrf, hkf⟩
      go_wp2_with fail
      go_ret
      exact HE.out _ hrf (HDw3.out.trans hkf)
set_option maxRecDepth 100000 in
set_option maxHeartbeats 2000000 in
theorem t5text_any (s : ByteArray) (b k : Nat) (hs : s.size ≤ 100000) (hk : k ≤ s.size) (w : World) (h : Tn w b s k 0) :
    Calls Tryz.prog 66 #[.pointer (some ⟨b, 0, none⟩)] w (T5txOut b s w (quoR s k)) := by
  unfold quoR
  by_cases hq : byteI s k = 34
  · rw [if_pos hq]
    exact t5text_go s b k hs hq w h
  · rw [if_neg hq]
    have HTK := Lib.hid (t5take_no s k b 34 (by decide) hk hq w h)
    have hm : (missC s k == 0) = false := beq_eq_false_iff_ne.2 (missC_ne s k)
    have HM := Lib.hid (missC_ne s k)
    generalize missC s k = m at *
    have h0 := h.cells
    clear h hq
    go_enter Tryz.func66, Tryz.ntmps66
    clear h0
    go_wp2_with fail
    refine HTK.out.mono ?_
    rintro e w1 ⟨rfl, hr1, hk1⟩
    obtain ⟨c0, c1, c2⟩ := hr1.cells
    go_wp2_with fail
    go_loopg [3] 0 (fun g v wr => v = .string ⟨#[]⟩ ∧ wr = w1)
    case atStart => exact ⟨rfl, rfl⟩
    case round =>
      obtain ⟨rfl, rfl⟩ := hrel
      go_wp2_with fail
      go_ret
      exact .inr ⟨HM.out, rfl, hr1, hk1⟩
end Go.Proofs.YtajmlkephefapaaGreatDoor

namespace Go.Proofs.YtajmlkephefapaaGreatDoor
open Go.RowKit Go.Extern.Stop Go.Stop Go.Extern

/-- On the way through a word. -/
def WdRow (s : ByteArray) (k0 : Nat) (l : List UInt8) (i k : Nat) (c : Int) : Prop := k ≤ s.size ∧ i ≤ l.length ∧ ((c = 0 ∧ wordR s k0 l = wordR s k (l.drop i)) ∨ (c ≠ 0 ∧ wordR s k0 l = (k, c)))
theorem wordR_cons {s : ByteArray} {k : Nat} {d : UInt8} {r : List UInt8} : wordR s k (d :: r) = if byteI s k = (d.toNat : Int) ∧ k < s.size then wordR s (k + 1) r else (k, missC s k) := by rw [wordR]
set_option maxRecDepth 100000 in
set_option maxHeartbeats 4000000 in
theorem t5word_any (s : ByteArray) (b k : Nat) (l : List UInt8) (hl : ∀ d ∈ l, d ≠ 0) (hl9 : l.length ≤ 9) (hs : s.size ≤ 100000) (hk : k ≤ s.size) (w : World) (h : Tn w b s k 0) :
    Calls Tryz.prog 63 #[.pointer (some ⟨b, 0, none⟩), .string ⟨l.toArray⟩] w fun e w' => e = .returned (.tuple #[]) ∧ Tn w' b s (wordR s k l).1 (wordR s k l).2 ∧ Keeps (· = b) w w' := by
  obtain ⟨O, hO⟩ : ∃ O, O = (⟨l.toArray⟩ : ByteArray) := ⟨_, rfl⟩
  have hls : O.size = l.length := by rw [hO]; show l.toArray.size = _; simp
  have hat : ∀ i (h : i < O.size), ∃ d, l[i]? = some d ∧ O[i] = d := fun i h => by
    subst hO
    have h' : i < l.length := by omega
    exact ⟨l[i], List.getElem?_eq_getElem h', rfl⟩
  rw [← hO]
  have HL := Lib.hid hl
  have HAT := Lib.hid hat
  have HLS := Lib.hid hls
  have hOb : (O.size : Int) ≤ 9 := by omega
  have H0 := Lib.hid h
  have HTI := Lib.hid (fun c d hc k W (h : Tn W b s k c) => t5take_idle s k b c d hc W h)
  have HTY := Lib.hid (fun d hd k hk he W (h : Tn W b s k 0) => t5take_yes s k b d hs hd hk he W h)
  have HTN := Lib.hid (fun d hd k hk he W (h : Tn W b s k 0) => t5take_no s k b d hd hk he W h)
  have HK := Lib.hid hk
  clear hl hl9 hat hls hO h hk
  go_enter Tryz.func63, Tryz.ntmps63
  go_wp2_with fail
  go_loopg [4] O.size (fun g v wr => ∃ (i p : Nat) (c : Int), v = .int .i64 i ∧ g = O.size - i ∧ WdRow s k l i p c ∧ Tn wr b s p c ∧ Keeps (· = b) w wr)
  case atStart => exact ⟨0, k, 0, rfl, rfl, ⟨HK.out, Nat.zero_le _, .inl ⟨rfl, rfl⟩⟩, H0.out, Keeps.refl _ _⟩
  case round =>
    clear H0
    obtain ⟨i, p, c, rfl, hg, hrow, hr, hkp⟩ := hrel
    have HG := Lib.hid hg
    have HR := Lib.hid hrow
    have HT := Lib.hid hr
    have HKP := Lib.hid hkp
    have hi : i ≤ O.size := by have := hrow.2.1; have := HLS.out; omega
    clear hg hrow hr hkp
    have hi0 : (0 : Int) ≤ (i : Int) := by omega
    by_cases hlt : i < O.size
    · have hlti : (i : Int) < (O.size : Int) := by omega
      obtain ⟨d, hd, hOd⟩ := HAT.out i hlt
      have HD := Lib.hid hd
      have hd0 := HL.out d (List.mem_of_getElem? hd)
      have hdI : (d.toNat : Int) ≠ 0 := by
        intro e
        apply hd0
        apply UInt8.toNat_inj.1
        show d.toNat = 0
        omega
      have HDI := Lib.hid hdI
      have hw1 : IntKind.i64.wrap ((i : Int) + 1) = ((i + 1 : Nat) : Int) := by rw [IntKind.wrap_i64]; omega
      have hdr : l.drop i = d :: l.drop (i + 1) := by
        rw [List.drop_eq_getElem_cons (by have := HLS.out; omega)]
        congr 1
        have := HD.out
        rw [List.getElem?_eq_getElem (by have := HLS.out; omega)] at this
        injection this
      have HDR := Lib.hid hdr
      clear hd hd0 hdI hdr
      have hil : i + 1 ≤ l.length := by have := HLS.out; omega
      by_cases hc : c = 0
      · subst hc
        have hwr : wordR s k l = wordR s p (d :: l.drop (i + 1)) := by
          rcases HR.out.2.2 with ⟨-, e⟩ | ⟨e, -⟩
          · rw [← HDR.out]; exact e
          · exact absurd rfl e
        rw [wordR_cons] at hwr
        by_cases he : byteI s p = (d.toNat : Int)
        · have hin : p < s.size := byteI_pos (by rw [he]; exact HDI.out)
          rw [if_pos ⟨he, hin⟩] at hwr
          have HY := Lib.hid (HTY.out (d.toNat : Int) HDI.out p (by omega) he _ HT.out)
          have HR2 : Hid (WdRow s k l (i + 1) (p + 1) 0) := Lib.hid ⟨hin, hil, .inl ⟨rfl, hwr⟩⟩
          clear he hwr hin
          go_wp2_with fail
          refine HY.out.mono ?_
          rintro e w2 ⟨rfl, hr2, hk2⟩
          go_wp2_with fail
          go_roundg (O.size - (i + 1))
          case measure => have := HG.out; omega
          case rel => exact ⟨i + 1, p + 1, 0, rfl, rfl, HR2.out, hr2, HKP.out.trans hk2⟩
        · rw [if_neg (fun h => he h.1)] at hwr
          have HN := Lib.hid (HTN.out (d.toNat : Int) HDI.out p HR.out.1 he _ HT.out)
          have HR2 : Hid (WdRow s k l (i + 1) p (missC s p)) := Lib.hid ⟨HR.out.1, hil, .inr ⟨missC_ne s p, hwr⟩⟩
          generalize missC s p = m at *
          clear he hwr
          go_wp2_with fail
          refine HN.out.mono ?_
          rintro e w2 ⟨rfl, hr2, hk2⟩
          go_wp2_with fail
          go_roundg (O.size - (i + 1))
          case measure => have := HG.out; omega
          case rel => exact ⟨i + 1, p, m, rfl, rfl, HR2.out, hr2, HKP.out.trans hk2⟩
      · have hwr : wordR s k l = (p, c) := by
          rcases HR.out.2.2 with ⟨e, -⟩ | ⟨-, e⟩
          · exact absurd e hc
          · exact e
        have HI := Lib.hid (HTI.out c (d.toNat : Int) hc p _ HT.out)
        have HR2 : Hid (WdRow s k l (i + 1) p c) := Lib.hid ⟨HR.out.1, hil, .inr ⟨hc, hwr⟩⟩
        clear hc hwr
        go_wp2_with fail
        refine HI.out.mono ?_
        rintro e w2 ⟨rfl, rfl⟩
        go_wp2_with fail
        go_roundg (O.size - (i + 1))
        case measure => have := HG.out; omega
        case rel => exact ⟨i + 1, p, c, rfl, rfl, HR2.out, HT.out, HKP.out⟩
    · have hnlt : ¬ (i : Int) < (O.size : Int) := by omega
      have hE : Tn wr b s (wordR s k l).1 (wordR s k l).2 := by
        have hil : l.drop i = [] := List.drop_of_length_le (by have := HLS.out; omega)
        rcases HR.out.2.2 with ⟨rfl, e⟩ | ⟨-, e⟩
        · rw [e, hil]; exact HT.out
        · rw [e]; exact HT.out
      have HE := Lib.hid hE
      clear hE
      go_wp2_with fail
      go_end0
      exact ⟨rfl, HE.out, HKP.out⟩
end Go.Proofs.YtajmlkephefapaaGreatDoor
