/-
  Package header by contracts, first part: Word, Kind, Below, Onto; the document's own Kind.
-/
import Derived.Test.YtjlbdjagbbpoaaaDoorOpsA
namespace Go.Proofs.YtjlbdjagbbpoaaaDoor
open Go.RowKit Go.Extern.Stop Go.Stop Go.Extern

def wordB (k : Int) : ByteArray := if k = 1 then ⟨#[105, 112]⟩ else if k = 2 then ⟨#[115, 109, 112, 108, 115]⟩ else if k = 3 then ⟨#[109, 112, 108, 115]⟩ else ⟨#[]⟩
theorem wordB_none {k : Int} (h1 : k ≠ 1) (h2 : k ≠ 2) (h3 : k ≠ 3) : wordB k = ⟨#[]⟩ := by unfold wordB; rw [if_neg h1, if_neg h2, if_neg h3]
theorem word_any (k : Int) (w : World) : Calls Tryd.prog 18 #[.int .i64 k] w fun e w' => e = .returned (.string (wordB k)) ∧ w' = w := by
  by_cases h1 : k = 1
  · subst h1
    go_enter Tryd.func18, Tryd.ntmps18
    go_wp2
    go_ret
    exact ⟨rfl, rfl⟩
  by_cases h2 : k = 2
  · subst h2
    go_enter Tryd.func18, Tryd.ntmps18
    go_wp2
    go_ret
    exact ⟨rfl, rfl⟩
  by_cases h3 : k = 3
  · subst h3
    go_enter Tryd.func18, Tryd.ntmps18
    go_wp2
    go_ret
    exact ⟨rfl, rfl⟩
  rw [wordB_none h1 h2 h3]
  have e1 : (k == 1) = false := by simpa using h1
  have e2 : (k == 2) = false := by simpa using h2
  have e3 : (k == 3) = false := by simpa using h3
  clear h1 h2 h3
  go_enter Tryd.func18, Tryd.ntmps18
  go_wp2
  go_ret
  exact ⟨rfl, rfl⟩

theorem kindI_at {ks : List Int} {j : Nat} {x : Int} (hx : ks[j]? = some x) : kindI ks (j : Int) = if 1 ≤ x ∧ x ≤ 3 then x else 0 := by
  have hj := (List.getElem?_eq_some_iff.1 hx).1
  unfold kindI
  rw [if_pos (by omega), Int.toNat_natCast, List.getD_eq_getElem?_getD, hx, Option.getD_some]
set_option maxHeartbeats 1000000 in
theorem kind_any (ks : List Int) (v : Value) (i : Int) (w : World) (hv : IntsAt w v ks) :
    Calls Tryd.prog 12 #[v, .int .i64 i] w fun e w' => e = .returned (.int .i64 (kindI ks i)) ∧ w' = w := by
  obtain ⟨a, cap, rfl⟩ := hv.form
  by_cases h0 : i < 0
  · have e : kindI ks i = 0 := by unfold kindI; rw [if_neg (by omega)]
    rw [e]
    clear hv e
    go_enter Tryd.func12, Tryd.ntmps12
    go_wp2
    go_ret
    exact ⟨rfl, rfl⟩
  obtain ⟨j, rfl⟩ : ∃ j : Nat, i = j := ⟨i.toNat, by omega⟩
  by_cases h1 : ks.length ≤ j
  · have e : kindI ks (j : Int) = 0 := by unfold kindI; rw [if_neg (by omega)]
    rw [e]
    have hc : (ks.length : Int) ≤ j := by omega
    clear hv e
    go_enter Tryd.func12, Tryd.ntmps12
    go_wp2
    go_ret
    exact ⟨rfl, rfl⟩
  obtain ⟨x, hx⟩ : ∃ x, ks[j]? = some x := ⟨_, List.getElem?_eq_getElem (by omega)⟩
  obtain ⟨b, off, rfl, hcell⟩ := hv.at hx (Below.refl w.heap.size w)
  rw [kindI_at hx]
  have hj : (j : Int) < ks.length := by omega
  have HW := Lib.hid (word_any x w)
  clear hv hx
  by_cases g1 : x = 1
  · subst g1
    rw [show wordB 1 = ⟨#[105, 112]⟩ from rfl] at HW
    go_enter Tryd.func12, Tryd.ntmps12
    go_wp2_with (go_at_call 18; refine HW.out.mono ?_; rintro e w' ⟨rfl, rfl⟩)
    go_ret
    exact ⟨rfl, rfl⟩
  by_cases g2 : x = 2
  · subst g2
    rw [show wordB 2 = ⟨#[115, 109, 112, 108, 115]⟩ from rfl] at HW
    go_enter Tryd.func12, Tryd.ntmps12
    go_wp2_with (go_at_call 18; refine HW.out.mono ?_; rintro e w' ⟨rfl, rfl⟩)
    go_ret
    exact ⟨rfl, rfl⟩
  by_cases g3 : x = 3
  · subst g3
    rw [show wordB 3 = ⟨#[109, 112, 108, 115]⟩ from rfl] at HW
    go_enter Tryd.func12, Tryd.ntmps12
    go_wp2_with (go_at_call 18; refine HW.out.mono ?_; rintro e w' ⟨rfl, rfl⟩)
    go_ret
    exact ⟨rfl, rfl⟩
  rw [wordB_none g1 g2 g3] at HW
  rw [if_neg (by omega)]
  clear g1 g2 g3
  go_enter Tryd.func12, Tryd.ntmps12
  go_wp2_with (go_at_call 18; refine HW.out.mono ?_; rintro e w' ⟨rfl, rfl⟩)
  go_ret
  exact ⟨rfl, rfl⟩

/-- The result's block, and old memory. -/
structure RW (w0 : World) (b : Nat) (w : World) : Prop where
  res : SetAt w b 0 0
  below : Below w0.heap.size w0 w
theorem RW.step {w0 : World} {b : Nat} {w w' : World} (h : RW w0 b w) (hb : Below w.heap.size w w') : RW w0 b w' := ⟨h.res.step hb, h.below.trans (hb.mono h.below.size)⟩
theorem RW.start (w : World) : RW w w.heap.size (w.alloc (.cells #[.int .u64 0, .int .u64 0] 34)) := ⟨boxed_set w 0 0, below_new w _⟩
theorem ints_lit (w : World) (l : List Int) : IntsAt (w.alloc (.cells (encI l).toArray 3)) (.slice (some ⟨w.heap.size, 0, none⟩) l.length l.length) l := by
  refine .inr ⟨w.heap.size, 0, l.length, rfl, by simp, fun i c hi => ?_⟩
  rw [Lib.cell_of_heap (heap_alloc_new w _)]
  obtain ⟨hl, rfl⟩ := List.getElem?_eq_some_iff.1 hi
  simp [encI, hl]
theorem ofS1 : ofS [1] = (2, 0) := by decide
theorem ofS23 : ofS [2, 3] = (12, 0) := by decide
theorem belowW_u64 (k : Int) : U64 (belowW k) := by unfold belowW U64; split <;> (try split) <;> omega
set_option maxRecDepth 100000 in
set_option maxHeartbeats 2000000 in
theorem below_any (k : Int) (w : World) : Calls Tryd.prog 20 #[.int .i64 k] w fun e w' => e = .returned (setV (belowW k) 0) ∧ Below w.heap.size w w' := by
  have HI := Lib.hid (RW.start w)
  by_cases h2 : k = 2
  · subst h2
    have h1 := ints_lit (w.alloc (.cells #[.int .u64 0, .int .u64 0] 34)) [1]
    have HO := of_any [1] _ _ h1 (by simp)
    rw [ofS1, World.size_alloc] at HO
    have HB := Lib.hid (below_new (w.alloc (.cells #[.int .u64 0, .int .u64 0] 34)) (.cells (encI [1]).toArray 3))
    have HO := Lib.hid HO
    clear h1
    go_enter Tryd.func20, Tryd.ntmps20
    go_wp2_with fail
    refine HO.out.mono ?_
    rintro e w3 ⟨rfl, b3⟩
    have hI := (HI.out.step HB.out).step b3
    have r0 := hI.res.cells.1
    have r1 := hI.res.cells.2.1
    have r2 := hI.res.cells.2.2 0
    have r3 := hI.res.cells.2.2 1
    go_wp2_with fail
    refine bodyPost_ret (v := setV 2 0) (by simp [results, Tryd.f20, go_sem, r0, r1]) rfl ⟨rfl, ?_⟩
    exact (hI.below.setCell (p := ⟨w.heap.size, 0, none⟩) (Nat.le_refl _) _).setCell (p := ⟨w.heap.size, 1, none⟩) (Nat.le_refl _) _
  by_cases h3 : k = 3
  · subst h3
    have h1 := ints_lit (w.alloc (.cells #[.int .u64 0, .int .u64 0] 34)) [2, 3]
    have HO := of_any [2, 3] _ _ h1 (by simp)
    rw [ofS23, World.size_alloc] at HO
    have HB := Lib.hid (below_new (w.alloc (.cells #[.int .u64 0, .int .u64 0] 34)) (.cells (encI [2, 3]).toArray 3))
    have HO := Lib.hid HO
    clear h1
    go_enter Tryd.func20, Tryd.ntmps20
    go_wp2_with fail
    refine HO.out.mono ?_
    rintro e w3 ⟨rfl, b3⟩
    have hI := (HI.out.step HB.out).step b3
    have r0 := hI.res.cells.1
    have r1 := hI.res.cells.2.1
    have r2 := hI.res.cells.2.2 0
    have r3 := hI.res.cells.2.2 1
    go_wp2_with fail
    refine bodyPost_ret (v := setV 12 0) (by simp [results, Tryd.f20, go_sem, r0, r1]) rfl ⟨rfl, ?_⟩
    exact (hI.below.setCell (p := ⟨w.heap.size, 0, none⟩) (Nat.le_refl _) _).setCell (p := ⟨w.heap.size, 1, none⟩) (Nat.le_refl _) _
  have e : belowW k = 0 := by unfold belowW; rw [if_neg h2, if_neg h3]
  rw [e]
  have e2 : (k == 2) = false := by simpa using h2
  have e3 : (k == 3) = false := by simpa using h3
  have hI := HI.out
  have r0 := hI.res.cells.1
  have r1 := hI.res.cells.2.1
  have r2 := hI.res.cells.2.2 0
  have r3 := hI.res.cells.2.2 1
  clear h2 h3 e
  go_enter Tryd.func20, Tryd.ntmps20
  go_wp2_with fail
  refine bodyPost_ret (v := setV 0 0) (by simp [results, Tryd.f20, go_sem, r0, r1]) rfl ⟨rfl, ?_⟩
  exact hI.below
set_option maxRecDepth 100000 in
set_option maxHeartbeats 1000000 in
theorem onto_any (k : Int) (w : World) : Calls Tryd.prog 22 #[.int .i64 k] w fun e w' => e = .returned (setV (belowW k) 0) ∧ Below w.heap.size w w' := by
  have HI := Lib.hid (RW.start w)
  have HO := Lib.hid (below_any k (w.alloc (.cells #[.int .u64 0, .int .u64 0] 34)))
  generalize belowW k = b at *
  go_enter Tryd.func22, Tryd.ntmps22
  go_wp2_with fail
  refine HO.out.mono ?_
  rintro e w3 ⟨rfl, b3⟩
  have hI := HI.out.step b3
  have r0 := hI.res.cells.1
  have r1 := hI.res.cells.2.1
  have r2 := hI.res.cells.2.2 0
  have r3 := hI.res.cells.2.2 1
  go_wp2_with fail
  refine bodyPost_ret (v := setV b 0) (by simp [results, Tryd.f22, go_sem, r0, r1]) rfl ⟨rfl, ?_⟩
  exact (hI.below.setCell (p := ⟨w.heap.size, 0, none⟩) (Nat.le_refl _) _).setCell (p := ⟨w.heap.size, 1, none⟩) (Nat.le_refl _) _
/-- Who is among those below one. -/
theorem has_below (a b : Int) : hasI (belowW a) 0 b = mayB a b := by
  have h2 : ∀ j, hasB 2 0 j = decide (j = 1) := fun j => by
    have e : (2 : Nat) = 2 ^ 1 := rfl
    unfold hasB
    rw [e, Nat.testBit_two_pow]
    split
    · exact Bool.eq_iff_iff.2 (by simp; omega)
    · simp; omega
  have h12 : ∀ j, hasB 12 0 j = (decide (j = 2) || decide (j = 3)) := fun j => by
    have e : (12 : Nat) = 2 ^ 2 ||| 2 ^ 3 := rfl
    unfold hasB
    rw [e, Nat.testBit_or, Nat.testBit_two_pow, Nat.testBit_two_pow]
    split
    · exact Bool.eq_iff_iff.2 (by simp; omega)
    · simp; omega
  have h0 : ∀ j, hasB 0 0 j = false := fun j => by unfold hasB; simp
  unfold hasI belowW mayB
  by_cases a2 : a = 2
  · rw [if_pos a2, h2]
    exact Bool.eq_iff_iff.2 (by simp; omega)
  · rw [if_neg a2]
    by_cases a3 : a = 3
    · rw [if_pos a3, h12]
      exact Bool.eq_iff_iff.2 (by simp; omega)
    · rw [if_neg a3, h0]
      simp [a2, a3]
end Go.Proofs.YtjlbdjagbbpoaaaDoor
