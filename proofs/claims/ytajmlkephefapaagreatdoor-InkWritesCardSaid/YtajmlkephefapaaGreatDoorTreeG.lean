/-
  Package tree by contracts, fifth part: one item of an array.
-/
import Derived.Test.YtajmlkephefapaaGreatDoorTreeF
import Derived.Deep.RegionLaw
namespace Go.Proofs.YtajmlkephefapaaGreatDoor
open Go.RowKit Go.Extern.Stop Go.Stop Go.Extern Go.WideMaps

/-- .. whatever is stored there. -/
theorem ListSt.pushK {B L n : Nat} {E : Nat → Prop} {vs : List Val} {v : Value} {xs : List Value} {wa w1 : World} {g cap : Nat} {z0 z1 z2 z3 z4 z5 : Value} (h : ListSt B L E vs v xs wa) (hn : n = vs.length)
    (hown : w1.ownsRow B 27 6 (.slice (some ⟨g, 0, none⟩) (n + 1) cap) (n + 1) (xs ++ [z0, z1, z2, z3, z4, z5])) (hgrow : wa.grownBy w1 v.ownBlock) (hat : v.ownBlock = some g ∨ g = wa.heap.size) (c0 c1 c2 c3 c4 c5 : Value) :
    ((set6 w1 g (n * 6) c0 c1 c2 c3 c4 c5).setCell ⟨L, 0, none⟩ (.slice (some ⟨g, 0, none⟩) (n + 1) cap)).cell? ⟨L, 0, none⟩ = some (.slice (some ⟨g, 0, none⟩) (n + 1) cap) ∧
      Keeps (Dirty L v) wa ((set6 w1 g (n * 6) c0 c1 c2 c3 c4 c5).setCell ⟨L, 0, none⟩ (.slice (some ⟨g, 0, none⟩) (n + 1) cap)) := by
  subst hn
  have hgL : g ≠ L := by
    rcases hat with e | rfl
    · rintro rfl
      obtain ⟨a, c, rfl⟩ := h.slice
      exact h.row_ne h.cell (fun k e => by cases e) e
    · have := h.lt; omega
  have hxl : vs.length * 6 = xs.length := h.own.1.symm
  obtain ⟨o6, k6⟩ := own_set6 hown (vs.length * 6) hxl c0 c1 c2 c3 c4 c5
  have hk1 : Keeps (fun k => v.ownBlock = some k) wa w1 := .of_grown hgrow (fun k e => e)
  have hL1 : w1.cell? ⟨L, 0, none⟩ = some v := by
    rw [hgrow.cell_far ⟨L, 0, none⟩ h.lt (fun e => by
      obtain ⟨a, c, rfl⟩ := h.slice
      exact h.row_ne h.cell (fun k e => by cases e) e.symm)]
    exact h.cell
  have hL1lt : L < w1.heap.size := Nat.lt_of_lt_of_le h.lt hgrow.size
  have hL6 : (set6 w1 g (vs.length * 6) c0 c1 c2 c3 c4 c5).heap[L]? = w1.heap[L]? := k6.block L hL1lt (fun e => hgL e.symm)
  have kall : Keeps (fun k => k = g ∨ k = L) w1 ((set6 w1 g (vs.length * 6) c0 c1 c2 c3 c4 c5).setCell ⟨L, 0, none⟩ (.slice (some ⟨g, 0, none⟩) (vs.length + 1) cap)) :=
    (k6.mono (fun k e => .inl e)).setCell (q := ⟨L, 0, none⟩) (.inr (.inr rfl)) _
  refine ⟨World.cell?_setCell_same _ _ _ ((World.cell?_of_block (a := ⟨L, 0, none⟩) hL6).trans hL1), ?_⟩
  refine ⟨kall.os.trans hk1.os, kall.tape.trans hk1.tape, kall.output.trans hk1.output, Nat.le_trans hk1.size kall.size, fun k hk hD => ?_⟩
  have h1 : k ≠ L := fun e => hD (.inl e)
  have h2 : v.ownBlock ≠ some k := fun e => hD (.inr e)
  have h3 : k ≠ g := by
    rcases hat with e | rfl
    · rintro rfl; exact h2 e
    · omega
  rw [kall.block k (Nat.lt_of_lt_of_le hk hk1.size) (fun e => e.elim h3 h1), hk1.block k hk h2]
theorem FaultAt.dirty {B L : Nat} {E : Nat → Prop} {vs : List Val} {v : Value} {xs : List Value} {w w' : World} {fb : Nat} {c a : Int} (hf : FaultAt w fb c a) (h : ListSt B L E vs v xs w) (hk : Keeps (Dirty L v) w w') : FaultAt w' fb c a := by
  obtain ⟨h0, hlt, hc0, hc1⟩ := hf.parts
  refine hf.block hk.size (hk.block fb hlt ?_)
  rintro (rfl | e)
  · obtain ⟨a, c, rfl⟩ := h.slice
    rw [h.cell] at hc0
    cases hc0
  · exact h.row_ne' hc1 (fun k e => by cases e) e
/-- One value more at a list's end. -/
theorem ListSt.push {B L n : Nat} {E : Nat → Prop} {vs : List Val} {v : Value} {xs : List Value} {wa w1 : World} {g cap : Nat} {z0 z1 z2 z3 z4 z5 c0 c1 c2 c3 c4 c5 : Value} {x : Val} {P : Nat → Prop} (h : ListSt B L E vs v xs wa) (hn : n = vs.length)
    (hown : w1.ownsRow B 27 6 (.slice (some ⟨g, 0, none⟩) (n + 1) cap) (n + 1) (xs ++ [z0, z1, z2, z3, z4, z5])) (hgrow : wa.grownBy w1 v.ownBlock) (hat : v.ownBlock = some g ∨ g = wa.heap.size) (hB : B ≤ L)
    (hx : ValC P wa [c0, c1, c2, c3, c4, c5] x) (hP : ∀ k, P k → k < wa.heap.size → B ≤ k ∧ k ≠ L ∧ v.ownBlock ≠ some k ∧ E k) :
    ListSt B L E (vs ++ [x]) (.slice (some ⟨g, 0, none⟩) (n + 1) cap) (xs ++ [c0, c1, c2, c3, c4, c5]) ((set6 w1 g (n * 6) c0 c1 c2 c3 c4 c5).setCell ⟨L, 0, none⟩ (.slice (some ⟨g, 0, none⟩) (n + 1) cap)) ∧
      Keeps (Dirty L v) wa ((set6 w1 g (n * 6) c0 c1 c2 c3 c4 c5).setCell ⟨L, 0, none⟩ (.slice (some ⟨g, 0, none⟩) (n + 1) cap)) := by
  subst hn
  have hgL : g ≠ L := by
    rcases hat with e | rfl
    · rintro rfl
      obtain ⟨a, c, rfl⟩ := h.slice
      exact h.row_ne h.cell (fun k e => by cases e) e
    · have := h.lt; omega
  have hxl : vs.length * 6 = xs.length := h.own.1.symm
  obtain ⟨o6, k6⟩ := own_set6 hown (vs.length * 6) hxl c0 c1 c2 c3 c4 c5
  have hk1 : Keeps (fun k => v.ownBlock = some k) wa w1 := .of_grown hgrow (fun k e => e)
  have hL1 : w1.cell? ⟨L, 0, none⟩ = some v := by
    rw [hgrow.cell_far ⟨L, 0, none⟩ h.lt (fun e => by
      obtain ⟨a, c, rfl⟩ := h.slice
      exact h.row_ne h.cell (fun k e => by cases e) e.symm)]
    exact h.cell
  have hL1lt : L < w1.heap.size := Nat.lt_of_lt_of_le h.lt hgrow.size
  have hf1 : w1.frozen? ⟨L, 0, none⟩ = false := by
    rw [hgrow.frozen_far ⟨L, 0, none⟩ h.lt (fun e => by
      obtain ⟨a, c, rfl⟩ := h.slice
      exact h.row_ne h.cell (fun k e => by cases e) e.symm)]
    exact h.fz
  have hL6 : (set6 w1 g (vs.length * 6) c0 c1 c2 c3 c4 c5).heap[L]? = w1.heap[L]? := k6.block L hL1lt (fun e => hgL e.symm)
  have kall : Keeps (fun k => k = g ∨ k = L) w1 ((set6 w1 g (vs.length * 6) c0 c1 c2 c3 c4 c5).setCell ⟨L, 0, none⟩ (.slice (some ⟨g, 0, none⟩) (vs.length + 1) cap)) :=
    (k6.mono (fun k e => .inl e)).setCell (q := ⟨L, 0, none⟩) (.inr (.inr rfl)) _
  have kD : Keeps (Dirty L v) wa ((set6 w1 g (vs.length * 6) c0 c1 c2 c3 c4 c5).setCell ⟨L, 0, none⟩ (.slice (some ⟨g, 0, none⟩) (vs.length + 1) cap)) := by
    refine ⟨kall.os.trans hk1.os, kall.tape.trans hk1.tape, kall.output.trans hk1.output, Nat.le_trans hk1.size kall.size, fun k hk hD => ?_⟩
    have h1 : k ≠ L := fun e => hD (.inl e)
    have h2 : v.ownBlock ≠ some k := fun e => hD (.inr e)
    have h3 : k ≠ g := by
      rcases hat with e | rfl
      · rintro rfl; exact h2 e
      · omega
    rw [kall.block k (Nat.lt_of_lt_of_le hk hk1.size) (fun e => e.elim h3 h1), hk1.block k hk h2]
  have hmv : ∀ k, B ≤ k ∧ k ≠ L ∧ v.ownBlock ≠ some k ∧ E k → k < wa.heap.size → (B ≤ k ∧ k ≠ L ∧ some k ≠ Value.ownBlock (.slice (some ⟨g, 0, none⟩) (vs.length + 1) cap) ∧ E k) ∧
      ((set6 w1 g (vs.length * 6) c0 c1 c2 c3 c4 c5).setCell ⟨L, 0, none⟩ (.slice (some ⟨g, 0, none⟩) (vs.length + 1) cap)).heap[k]? = wa.heap[k]? := by
    rintro k ⟨h1, h2, h3, h4⟩ hk
    refine ⟨⟨h1, h2, fun e => ?_, h4⟩, kD.block k hk (fun e => e.elim h2 h3)⟩
    have e' : k = g := by injection e
    subst e'
    rcases hat with e | e
    · exact h3 e
    · omega
  refine ⟨⟨?_, ?_, ?_, ?_, ?_, fun e => absurd e (by simp)⟩, kD⟩
  · exact World.cell?_setCell_same _ _ _ ((World.cell?_of_block (a := ⟨L, 0, none⟩) hL6).trans hL1)
  · rw [World.frozen?_setCell]; exact (World.frozen?_of_block (a := ⟨L, 0, none⟩) hL6).trans hf1
  · rw [World.size_setCell]; exact Nat.lt_of_lt_of_le hL1lt k6.size
  · rw [List.length_append, List.length_singleton]
    exact ownsRow_keeps o6 (D := (· = L)) (Keeps.setCell (D := (· = L)) (Keeps.refl _ _) (q := ⟨L, 0, none⟩) (.inr rfl) _) (fun k e => by
      have : g = k := by injection e
      rw [← this]; exact hgL)
  · exact ValsC.snoc (hx.move kD.size fun k hP' hk => hmv k (hP k hP' hk) hk) (h.vals.move kD.size fun k hP' hk => hmv k ⟨hP'.1, hP'.2.1, fun e => hP'.2.2.1 e.symm, hP'.2.2.2⟩ hk)

/-! ### What a value's call answers -/
def ValueOut (w : World) (s : ByteArray) (d p0 : Nat) (e : Ending) (w' : World) : Prop :=
  (∃ (j : Nat) (x : Val) (k : Int) (t : ByteArray) (n : Int) (a : Option Addr) (l c : Nat) (a' : Option Addr) (l' c' : Nat) (z : Int), V s d (sk s p0) (.ok j x) ∧
    e = .returned (.tuple #[.agg #[.string s, .int .i64 (sk s j)], .agg #[.int .i64 k, .string t, .int .u64 n, .slice a l c, .slice a' l' c', .int .i64 z], .nilIface]) ∧
    ValC (fun q => w.heap.size ≤ q) w' [.int .i64 k, .string t, .int .u64 n, .slice a l c, .slice a' l' c', .int .i64 z] x ∧ Below w.heap.size w w') ∨
  (∃ (ec : Int) (ea fb j : Nat) (k : Int) (t : ByteArray) (n : Int) (a : Option Addr) (l c : Nat) (a' : Option Addr) (l' c' : Nat) (z : Int), V s d (sk s p0) (.er ec ea) ∧ j ≤ s.size ∧
    e = .returned (.tuple #[.agg #[.string s, .int .i64 j], .agg #[.int .i64 k, .string t, .int .u64 n, .slice a l c, .slice a' l' c', .int .i64 z], pf fb]) ∧
    FaultAt w' fb ec ea ∧ Below w.heap.size w w')
def ValueSpec (s : ByteArray) (d : Nat) : Prop := ∀ (p0 : Nat), p0 ≤ s.size → ∀ w, Handle w → Calls Tryz.prog 28 #[.agg #[.string s, .int .i64 p0], .int .i64 d] w (ValueOut w s d p0)

/-- A number in a variable of its own. -/
def NumAt (w : World) (b : Nat) (z : Int) : Prop := w.heap[b]? = some (.cells #[.int .i64 z] 3 (0, 0))
theorem NumAt.cell {w : World} {b : Nat} {z : Int} (h : NumAt w b z) : w.cell? ⟨b, 0, none⟩ = some (.int .i64 z) := by rw [Lib.cell_of_heap h]; rfl
theorem NumAt.lt {w : World} {b : Nat} {z : Int} (h : NumAt w b z) : b < w.heap.size := (Array.getElem?_eq_some_iff.1 h).1
theorem NumAt.row_ne {B L b : Nat} {E : Nat → Prop} {z : Int} {vs : List Val} {v : Value} {xs : List Value} {w : World} (h : NumAt w b z) (hl : ListSt B L E vs v xs w) : v.ownBlock ≠ some b := by
  intro e
  rcases hl.own.2 with ⟨rfl, -⟩ | ⟨g, cap, cur, rfl, -, hg, -⟩
  · cases e
  · have e' : g = b := by injection e
    subst e'
    rw [h] at hg
    injection hg with hg
    injection hg with _ hg
    exact absurd hg (by decide)
theorem NumAt.keeps {D : Nat → Prop} {w w' : World} {b : Nat} {z : Int} (h : NumAt w b z) (hk : Keeps D w w') (hD : ¬ D b) : NumAt w' b z := by
  unfold NumAt
  rw [hk.block b h.lt hD]
  exact h

/-- What an array's item answers. -/
def ItemOut (E : Nat → Prop) (w : World) (s : ByteArray) (d B L : Nat) (vs : List Val) (v : Value) (p0 : Nat) (e : Ending) (w' : World) : Prop :=
  (∃ (j : Nat) (x : Val) (v' : Value) (xs' : List Value), V s d (sk s p0) (.ok j x) ∧ e = .returned (.tuple #[.agg #[.string s, .int .i64 (sk s j)], .nilIface]) ∧ ListSt B L E (vs ++ [x]) v' xs' w' ∧ Keeps (Dirty L v) w w' ∧ ∀ g, v'.ownBlock = some g → v.ownBlock = some g ∨ w.heap.size ≤ g) ∨
  (∃ (ec : Int) (ea fb j : Nat) (a : Option Addr) (l c : Nat), V s d (sk s p0) (.er ec ea) ∧ j ≤ s.size ∧ e = .returned (.tuple #[.agg #[.string s, .int .i64 j], pf fb]) ∧ FaultAt w' fb ec ea ∧ w'.cell? ⟨L, 0, none⟩ = some (.slice a l c) ∧ Keeps (Dirty L v) w w')

theorem infoVal : (Tryz.prog.info? 27).map (fun i => (i.zero, i.size, i.bytes)) = some (some (.agg #[.int .i64 0, .string ⟨#[]⟩, .int .u64 0, .slice none 0 0, .slice none 0 0, .int .i64 0]), 6, 88) := by kernel_rfl

theorem InScan.put {w0 w : World} {s : ByteArray} {k : Nat} (h : InScan w0 s k w) (j : Nat) :
    InScan w0 s j ((w.setCell ⟨w0.heap.size, 0, none⟩ (.string s)).setCell ⟨w0.heap.size, 1, none⟩ (.int .i64 j)) :=
  ⟨h.own.set s j, h.res.farPut (by omega) s j, (h.below.setCell (p := ⟨w0.heap.size, 0, none⟩) (Nat.le_refl _) _).setCell (p := ⟨w0.heap.size, 1, none⟩) (Nat.le_refl _) _⟩
/-- Six cells in a block of their own. -/
def SixAt (w : World) (b : Nat) (c0 c1 c2 c3 c4 c5 : Value) : Prop := w.heap[b]? = some (.cells #[c0, c1, c2, c3, c4, c5] 27 (0, 0))
theorem SixAt.cells {w : World} {b : Nat} {c0 c1 c2 c3 c4 c5 : Value} (h : SixAt w b c0 c1 c2 c3 c4 c5) :
    w.cell? ⟨b, 0, none⟩ = some c0 ∧ w.cell? ⟨b, 1, none⟩ = some c1 ∧ w.cell? ⟨b, 2, none⟩ = some c2 ∧ w.cell? ⟨b, 3, none⟩ = some c3 ∧ w.cell? ⟨b, 4, none⟩ = some c4 ∧ w.cell? ⟨b, 5, none⟩ = some c5 :=
  ⟨by rw [Lib.cell_of_heap h]; rfl, by rw [Lib.cell_of_heap h]; rfl, by rw [Lib.cell_of_heap h]; rfl, by rw [Lib.cell_of_heap h]; rfl, by rw [Lib.cell_of_heap h]; rfl, by rw [Lib.cell_of_heap h]; rfl⟩
def zeros6 : List Value := [.int .i64 0, .string ⟨#[]⟩, .int .u64 0, .slice none 0 0, .slice none 0 0, .int .i64 0]
theorem zeros6_one : ∀ u ∈ zeros6, u.oneCell' = true := by
  intro u hu
  simp only [zeros6, List.mem_cons, List.not_mem_nil, or_false] at hu
  rcases hu with rfl | rfl | rfl | rfl | rfl | rfl <;> rfl

/-- What stands at the end of a row that has just grown. -/
theorem own_tail {w : World} {B g n cap : Nat} {e : TypeId} {xs : List Value} {z0 z1 z2 z3 z4 z5 : Value} (h : w.ownsRow B e 6 (.slice (some ⟨g, 0, none⟩) (n + 1) cap) (n + 1) (xs ++ [z0, z1, z2, z3, z4, z5])) (hx : xs.length = n * 6) :
    w.cell? ⟨g, n * 6, none⟩ = some z0 ∧ w.cell? ⟨g, n * 6 + 1, none⟩ = some z1 ∧ w.cell? ⟨g, n * 6 + 2, none⟩ = some z2 ∧ w.cell? ⟨g, n * 6 + 3, none⟩ = some z3 ∧ w.cell? ⟨g, n * 6 + 4, none⟩ = some z4 ∧ w.cell? ⟨g, n * 6 + 5, none⟩ = some z5 ∧ ∀ j, w.frozen? ⟨g, j, none⟩ = false := by
  have key : ∀ f, f < 6 → w.cell? ⟨g, n * 6 + f, none⟩ = [z0, z1, z2, z3, z4, z5][f]? := fun f hf => by
    rw [h.cellAt (n * 6 + f) (by omega), ← hx, List.getElem?_append_right (by omega)]
    congr 1
    omega
  exact ⟨key 0 (by omega), key 1 (by omega), key 2 (by omega), key 3 (by omega), key 4 (by omega), key 5 (by omega), h.frozenAt⟩
theorem SixAt.lt {w : World} {b : Nat} {c0 c1 c2 c3 c4 c5 : Value} (h : SixAt w b c0 c1 c2 c3 c4 c5) : b < w.heap.size := (Array.getElem?_eq_some_iff.1 h).1
theorem SixAt.grown {w w' : World} {row : Option Nat} {b : Nat} {c0 c1 c2 c3 c4 c5 : Value} (h : SixAt w b c0 c1 c2 c3 c4 c5) (hg : w.grownBy w' row) (hne : row ≠ some b) : SixAt w' b c0 c1 c2 c3 c4 c5 := by
  unfold SixAt
  rw [hg.block b h.lt (fun e => hne e.symm)]
  exact h
theorem SixAt.alloc {w : World} {b : Nat} {c0 c1 c2 c3 c4 c5 : Value} (h : SixAt w b c0 c1 c2 c3 c4 c5) (o : Obj) : SixAt (w.alloc o) b c0 c1 c2 c3 c4 c5 := by
  have := h.lt
  unfold SixAt
  rw [heap_alloc_old w o this]
  exact h

theorem setCell_comm (w : World) (a b : Addr) (u v : Value) (h : a.block ≠ b.block) : (w.setCell a u).setCell b v = (w.setCell b v).setCell a u := by
  unfold World.setCell
  congr 1
  apply Array.ext
  · simp
  · intro i h1 h2
    simp only [Array.getElem_modify]
    by_cases ha : a.block = i
    · have hb : ¬ b.block = i := fun e => h (ha.trans e.symm)
      simp [ha, hb]
    · by_cases hb : b.block = i <;> simp [ha, hb]
theorem set6_far (w : World) (g o L : Nat) (c0 c1 c2 c3 c4 c5 v : Value) (h : g ≠ L) : set6 (w.setCell ⟨L, 0, none⟩ v) g o c0 c1 c2 c3 c4 c5 = (set6 w g o c0 c1 c2 c3 c4 c5).setCell ⟨L, 0, none⟩ v := by
  unfold set6
  rw [setCell_comm w ⟨L, 0, none⟩ ⟨g, o, none⟩ _ _ (Ne.symm h), setCell_comm _ ⟨L, 0, none⟩ ⟨g, o + 1, none⟩ _ _ (Ne.symm h), setCell_comm _ ⟨L, 0, none⟩ ⟨g, o + 2, none⟩ _ _ (Ne.symm h),
    setCell_comm _ ⟨L, 0, none⟩ ⟨g, o + 3, none⟩ _ _ (Ne.symm h), setCell_comm _ ⟨L, 0, none⟩ ⟨g, o + 4, none⟩ _ _ (Ne.symm h), setCell_comm _ ⟨L, 0, none⟩ ⟨g, o + 5, none⟩ _ _ (Ne.symm h)]

set_option maxRecDepth 100000 in
set_option maxHeartbeats 4000000 in
theorem array1_any (E : Nat → Prop) (s : ByteArray) (d B L Db p0 : Nat) (vs : List Val) (v : Value) (xs : List Value) (hs : s.size ≤ 100000) (hp0 : p0 ≤ s.size) (hV : ValueSpec s d) (w : World) (hg : Handle w) (hB : B ≤ L) (hB0 : 0 < B) (hE : ∀ k, w.heap.size + 2 ≤ k → E k) (hl : ListSt B L E vs v xs w) (hd : NumAt w Db d) (hn : vs.length ≤ 200000) (hDL : Db ≠ L) :
    Calls Tryz.prog 94 #[.agg #[.string s, .int .i64 p0], .pointer (some ⟨Db, 0, none⟩), .pointer (some ⟨L, 0, none⟩)] w (ItemOut E w s d B L vs v p0) := by
  obtain ⟨i0, hi, hz0, hz1, hz2⟩ := info_parts infoVal
  have H0 := Lib.hid (InScan.new w s p0 58)
  have hd0 := hd.keeps (D := fun _ => False) (.of_below H0.out.below) (fun e => e)
  have cd := hd0.cell
  have HG0 := Lib.hid (hg.below H0.out.below)
  have hvlt : ∀ k, v.ownBlock = some k → k < w.heap.size := fun k e => (hl.own.lt k e).2
  have HVLT := Lib.hid hvlt
  have hLlt := hl.lt
  have HL : Hid (ListSt B L (fun k => (k < w.heap.size ∨ w.heap.size + 2 ≤ k) ∧ E k) vs v xs w) := Lib.hid (hl.weaken fun k hk h => ⟨.inl hk, h⟩)
  have HE := Lib.hid hE
  clear hE
  obtain ⟨va, vc, rfl⟩ := hl.slice
  clear hl hd hvlt
  go_enter Tryz.func94, Tryz.ntmps94
  go_wp2_with fail
  refine (hV p0 hp0 _ HG0.out).mono ?_
  rintro e w1 (⟨j, x, k, t, n, a, l, c, a', l', c', z, hv, rfl, hval, b1⟩ | ⟨ec, ea, fb, j, k, t, n, a, l, c, a', l', c', z, hv, hj, rfl, hf, b1⟩)
  · have HV := Lib.hid hv
    have H1 := Lib.hid (H0.out.step b1)
    have hq1 : w.heap.size + 1 < w1.heap.size := H1.out.res.1
    have hX1 : ValC (fun q => w.heap.size + 2 ≤ q) w1 [.int .i64 k, .string t, .int .u64 n, .slice a l c, .slice a' l' c', .int .i64 z] x := hval.move (Nat.le_refl _) fun q hq _ => ⟨by simp at hq; omega, rfl⟩
    have hk2 : Keeps (· = w.heap.size) w1 ((w1.setCell ⟨w.heap.size, 0, none⟩ (.string s)).setCell ⟨w.heap.size, 1, none⟩ (.int .i64 (sk s j))) :=
      Keeps.setCell (D := (· = w.heap.size)) (Keeps.setCell (D := (· = w.heap.size)) (Keeps.refl _ _) (q := ⟨w.heap.size, 0, none⟩) (.inr rfl) _) (q := ⟨w.heap.size, 1, none⟩) (.inr rfl) _
    have hX2 := hX1.keeps hk2 (fun q hq e => by omega)
    have H2 := Lib.hid (H1.out.put (sk s j))
    have hbn := sbelow_new ((w1.setCell ⟨w.heap.size, 0, none⟩ (.string s)).setCell ⟨w.heap.size, 1, none⟩ (.int .i64 (sk s j))) (.cells #[.int .i64 k, .string t, .int .u64 n, .slice a l c, .slice a' l' c', .int .i64 z] 27)
    have HX3 := Lib.hid (hX2.step hbn)
    have H3 := Lib.hid (H2.out.step hbn)
    have H6 : Hid (SixAt (((w1.setCell ⟨w.heap.size, 0, none⟩ (.string s)).setCell ⟨w.heap.size, 1, none⟩ (.int .i64 (sk s j))).alloc (.cells #[.int .i64 k, .string t, .int .u64 n, .slice a l c, .slice a' l' c', .int .i64 z] 27)) w1.heap.size (.int .i64 k) (.string t) (.int .u64 n) (.slice a l c) (.slice a' l' c') (.int .i64 z)) := Lib.hid (by
      have := heap_alloc_new ((w1.setCell ⟨w.heap.size, 0, none⟩ (.string s)).setCell ⟨w.heap.size, 1, none⟩ (.int .i64 (sk s j))) (.cells #[.int .i64 k, .string t, .int .u64 n, .slice a l c, .slice a' l' c', .int .i64 z] 27)
      rwa [World.size_setCell, World.size_setCell] at this)
    obtain ⟨l1, c0, c1, cf⟩ := H1.out.own
    obtain ⟨m1, r0, r1, rf⟩ := H1.out.res
    clear hv hval cd hd0 hX1 hX2 hk2 hbn
    go_wp2_with fail
    generalize ((w1.setCell ⟨w.heap.size, 0, none⟩ (.string s)).setCell ⟨w.heap.size, 1, none⟩ (.int .i64 (sk s j))).alloc (.cells #[.int .i64 k, .string t, .int .u64 n, .slice a l c, .slice a' l' c', .int .i64 z] 27) = w3 at *
    have hL4 : ListSt B L (fun k => (k < w.heap.size ∨ w.heap.size + 2 ≤ k) ∧ E k) vs (.slice va vs.length vc) xs w3.drew := HL.out.step H3.out.below.drew
    have h64 : SixAt w3.drew w1.heap.size (.int .i64 k) (.string t) (.int .u64 n) (.slice a l c) (.slice a' l' c') (.int .i64 z) := H6.out
    have hX4 : ValC (fun q => w.heap.size + 2 ≤ q) w3.drew [.int .i64 k, .string t, .int .u64 n, .slice a l c, .slice a' l' c', .int .i64 z] x := HX3.out.step (Below.drew (Below.refl _ _))
    obtain ⟨s0, s1, s2, s3, s4, s5⟩ := h64.cells
    have lc := hL4.cell
    have lf := hL4.fz
    have lc' : w3.cell? ⟨L, 0, none⟩ = some (.slice va vs.length vc) := hL4.cell
    have hq3 : w1.heap.size < w3.heap.size := H6.out.lt
    obtain ⟨p0', p1, p2, p3, p4, p5⟩ := H6.out.cells
    have hL3 : L < w3.heap.size := hL4.lt
    have hix : (vs.length : Int) < (vs.length : Int) + 1 := by omega
    have hB3 : B ≤ w3.heap.size := by have : L < w3.heap.size := hL4.lt; omega
    have hL5 := hL4.step (sbelow_new w3.drew (.cells #[.int .i64 0, .string ⟨#[]⟩, .int .u64 0, .slice none 0 0, .slice none 0 0, .int .i64 0] 27))
    have h65 := h64.alloc (.cells #[.int .i64 0, .string ⟨#[]⟩, .int .u64 0, .slice none 0 0, .slice none 0 0, .int .i64 0] 27)
    have hX5 := hX4.step (sbelow_new w3.drew (.cells #[.int .i64 0, .string ⟨#[]⟩, .int .u64 0, .slice none 0 0, .slice none 0 0, .int .i64 0] 27))
    have HL5 := Lib.hid hL5
    have HX5 := Lib.hid hX5
    have H65 := Lib.hid h65
    clear hX4 hL5 hX5 h65 h64
    clear c0 c1 cf r0 r1 rf
    go_region_law (first
      | (refine step_append_lies _ rfl _ _ 24 rfl B 27 i0 (.agg #[.int .i64 0, .string ⟨#[]⟩, .int .u64 0, .slice none 0 0, .slice none 0 0, .int .i64 0]) 6 88 Tryz.underlying24 hi hz0 hz1 hz2 rfl (by decide) _ _ _ rfl (hL4.own.alloc _) ⟨w3.heap.size, 0, none⟩ 1 1 zeros6 rfl rfl (World.news_of_block (heap_alloc_new _ _)) zeros6_one (by decide) (by unfold maxLen; omega) (by omega) (Nat.le_trans hB3 (by simp)) _ rfl ?_; intro g cap w5 hown5 hgrow5 hat5 hlt5; obtain ⟨t0, t1, t2, t3, t4, t5, tf⟩ := own_tail hown5 HL5.out.own.1; have h66 := H65.out.grown hgrow5 (fun e => by have := HVLT.out _ e; omega); obtain ⟨s0, s1, s2, s3, s4, s5⟩ := h66.cells; have lc5 := (hgrow5.cell_far ⟨L, 0, none⟩ HL5.out.lt (fun e => HL5.out.row_ne HL5.out.cell (fun k e => by cases e) e.symm)).trans HL5.out.cell; have hgL : g ≠ L := (hat5.elim (fun e e' => HL5.out.row_ne HL5.out.cell (fun k e => by cases e) (by rw [← e']; exact e)) (fun e e' => absurd (show L < L from Nat.lt_of_lt_of_eq HL5.out.lt (e.symm.trans e')) (Nat.lt_irrefl L))); have hLg := hgL.symm; have lf5 := (hgrow5.frozen_far ⟨L, 0, none⟩ HL5.out.lt (fun e => HL5.out.row_ne HL5.out.cell (fun k e => by cases e) e.symm)).trans HL5.out.fz))
    all_goals
      have hpush := ListSt.push (n := vs.length) HL5.out rfl hown5 hgrow5 hat5 hB HX5.out (fun k hk _ => ⟨by omega, by omega, fun e => by have := HVLT.out _ e; omega, .inr hk, HE.out _ hk⟩)
      obtain ⟨wF, hwF⟩ : ∃ wF, wF = (set6 w5 g (vs.length * 6) (.int .i64 k) (.string t) (.int .u64 n) (.slice a l c) (.slice a' l' c') (.int .i64 z)).setCell ⟨L, 0, none⟩ (.slice (some ⟨g, 0, none⟩) (vs.length + 1) cap) := ⟨_, rfl⟩
      rw [← hwF] at hpush
      have hwF' := hwF.trans (set6_far w5 g (vs.length * 6) L (.int .i64 k) (.string t) (.int .u64 n) (.slice a l c) (.slice a' l' c') (.int .i64 z) (.slice (some ⟨g, 0, none⟩) (vs.length + 1) cap) hgL).symm
      unfold set6 at hwF hwF'
      first | rw [← hwF] | rw [← hwF']
      have hin := ((InK.of (D := Dirty L (.slice va vs.length vc)) H3.out.drew).step (sbelow_new w3.drew (.cells #[.int .i64 0, .string ⟨#[]⟩, .int .u64 0, .slice none 0 0, .slice none 0 0, .int .i64 0] 27))).turn hpush.2 (fun k hk => hk.elim (fun e => by omega) (fun e => HVLT.out _ e))
      have HNEW : Hid (∀ g', Value.ownBlock (.slice (some ⟨g, 0, none⟩) (vs.length + 1) cap) = some g' → Value.ownBlock (.slice va vs.length vc) = some g' ∨ w.heap.size ≤ g') := Lib.hid (fun g' e => by
        have e' : g = g' := by injection e
        subst e'
        exact hat5.imp id (fun e => by
          have h1 : w.heap.size ≤ (w3.drew.alloc (.cells #[.int .i64 0, .string ⟨#[]⟩, .int .u64 0, .slice none 0 0, .slice none 0 0, .int .i64 0] 27)).heap.size := by
            have := H3.out.below.size
            simp
            omega
          exact e ▸ h1))
      have HIN := Lib.hid hin
      have HPU := Lib.hid hpush
      obtain ⟨-, c0, c1, -⟩ := hin.own
      obtain ⟨-, r0, r1, rf⟩ := hin.res
      clear hin hpush hwF hwF' t0 t1 t2 t3 t4 t5 tf s0 s1 s2 s3 s4 s5 lc5 lf5 hown5 hgrow5 hat5 h66
      go_wp2
      obtain ⟨q0, q1, hkp⟩ := HIN.out.out (sk s j)
      unfold resSet at q0 q1 hkp
      have hk7 : Keeps (· = w.heap.size + 1) wF ((wF.setCell ⟨w.heap.size + 1, 0, none⟩ (.string s)).setCell ⟨w.heap.size + 1, 1, none⟩ (.int .i64 (sk s j))) :=
        Keeps.setCell (D := (· = w.heap.size + 1)) (Keeps.setCell (D := (· = w.heap.size + 1)) (Keeps.refl _ _) (q := ⟨w.heap.size + 1, 0, none⟩) (.inr rfl) _) (q := ⟨w.heap.size + 1, 1, none⟩) (.inr rfl) _
      have hgne := HPU.out.1.row_ne r0 (fun k e => by cases e)
      have hL7 := (HPU.out.1.keeps hk7 (by omega) (fun q e h => by rw [h] at e; exact hgne e) (fun q _ _ _ _ hE h => by rcases hE.1 with hE | hE <;> omega)).weaken (E' := E) (fun _ _ h => h.2)
      exact bodyPost_ret (v := .tuple #[.agg #[.string s, .int .i64 (sk s j)], .nilIface]) (by simp [results, Tryz.results94, go_sem, q0, q1]) rfl (.inl ⟨j, x, _, _, HV.out, rfl, hL7, hkp, HNEW.out⟩)
  · have HV := Lib.hid hv
    have H1 := Lib.hid (H0.out.step b1)
    have hq1 : w.heap.size + 1 < w1.heap.size := H1.out.res.1
    have hk2 : Keeps (· = w.heap.size) w1 ((w1.setCell ⟨w.heap.size, 0, none⟩ (.string s)).setCell ⟨w.heap.size, 1, none⟩ (.int .i64 j)) :=
      Keeps.setCell (D := (· = w.heap.size)) (Keeps.setCell (D := (· = w.heap.size)) (Keeps.refl _ _) (q := ⟨w.heap.size, 0, none⟩) (.inr rfl) _) (q := ⟨w.heap.size, 1, none⟩) (.inr rfl) _
    have hF2 := hf.set H1.out.own s j
    have H2 := Lib.hid (H1.out.put j)
    have hbn := sbelow_new ((w1.setCell ⟨w.heap.size, 0, none⟩ (.string s)).setCell ⟨w.heap.size, 1, none⟩ (.int .i64 j)) (.cells #[.int .i64 k, .string t, .int .u64 n, .slice a l c, .slice a' l' c', .int .i64 z] 27)
    have HF3 := Lib.hid (hF2.keep hbn)
    unfold pf
    have H3 := Lib.hid (H2.out.step hbn)
    have H6 : Hid (SixAt (((w1.setCell ⟨w.heap.size, 0, none⟩ (.string s)).setCell ⟨w.heap.size, 1, none⟩ (.int .i64 j)).alloc (.cells #[.int .i64 k, .string t, .int .u64 n, .slice a l c, .slice a' l' c', .int .i64 z] 27)) w1.heap.size (.int .i64 k) (.string t) (.int .u64 n) (.slice a l c) (.slice a' l' c') (.int .i64 z)) := Lib.hid (by
      have := heap_alloc_new ((w1.setCell ⟨w.heap.size, 0, none⟩ (.string s)).setCell ⟨w.heap.size, 1, none⟩ (.int .i64 j)) (.cells #[.int .i64 k, .string t, .int .u64 n, .slice a l c, .slice a' l' c', .int .i64 z] 27)
      rwa [World.size_setCell, World.size_setCell] at this)
    obtain ⟨l1, c0, c1, cf⟩ := H1.out.own
    obtain ⟨m1, r0, r1, rf⟩ := H1.out.res
    clear hv hf cd hd0 hF2 hk2 hbn
    go_wp2_with fail
    generalize ((w1.setCell ⟨w.heap.size, 0, none⟩ (.string s)).setCell ⟨w.heap.size, 1, none⟩ (.int .i64 j)).alloc (.cells #[.int .i64 k, .string t, .int .u64 n, .slice a l c, .slice a' l' c', .int .i64 z] 27) = w3 at *
    have hL4 : ListSt B L (fun k => (k < w.heap.size ∨ w.heap.size + 2 ≤ k) ∧ E k) vs (.slice va vs.length vc) xs w3.drew := HL.out.step H3.out.below.drew
    have h64 : SixAt w3.drew w1.heap.size (.int .i64 k) (.string t) (.int .u64 n) (.slice a l c) (.slice a' l' c') (.int .i64 z) := H6.out
    have hX4 : FaultAt w3.drew fb ec ea := HF3.out.keep (Below.drew (Below.refl _ _))
    obtain ⟨s0, s1, s2, s3, s4, s5⟩ := h64.cells
    have lc := hL4.cell
    have lf := hL4.fz
    have lc' : w3.cell? ⟨L, 0, none⟩ = some (.slice va vs.length vc) := hL4.cell
    have hq3 : w1.heap.size < w3.heap.size := H6.out.lt
    obtain ⟨p0', p1, p2, p3, p4, p5⟩ := H6.out.cells
    have hL3 : L < w3.heap.size := hL4.lt
    have hix : (vs.length : Int) < (vs.length : Int) + 1 := by omega
    have hB3 : B ≤ w3.heap.size := by have : L < w3.heap.size := hL4.lt; omega
    have hL5 := hL4.step (sbelow_new w3.drew (.cells #[.int .i64 0, .string ⟨#[]⟩, .int .u64 0, .slice none 0 0, .slice none 0 0, .int .i64 0] 27))
    have h65 := h64.alloc (.cells #[.int .i64 0, .string ⟨#[]⟩, .int .u64 0, .slice none 0 0, .slice none 0 0, .int .i64 0] 27)
    have hX5 := hX4.keep (sbelow_new w3.drew (.cells #[.int .i64 0, .string ⟨#[]⟩, .int .u64 0, .slice none 0 0, .slice none 0 0, .int .i64 0] 27))
    have HL5 := Lib.hid hL5
    have HX5 := Lib.hid hX5
    have H65 := Lib.hid h65
    clear hX4 hL5 hX5 h65 h64
    clear c0 c1 cf r0 r1 rf
    go_region_law (first
      | (refine step_append_lies _ rfl _ _ 24 rfl B 27 i0 (.agg #[.int .i64 0, .string ⟨#[]⟩, .int .u64 0, .slice none 0 0, .slice none 0 0, .int .i64 0]) 6 88 Tryz.underlying24 hi hz0 hz1 hz2 rfl (by decide) _ _ _ rfl (hL4.own.alloc _) ⟨w3.heap.size, 0, none⟩ 1 1 zeros6 rfl rfl (World.news_of_block (heap_alloc_new _ _)) zeros6_one (by decide) (by unfold maxLen; omega) (by omega) (Nat.le_trans hB3 (by simp)) _ rfl ?_; intro g cap w5 hown5 hgrow5 hat5 hlt5; obtain ⟨t0, t1, t2, t3, t4, t5, tf⟩ := own_tail hown5 HL5.out.own.1; have h66 := H65.out.grown hgrow5 (fun e => by have := HVLT.out _ e; omega); obtain ⟨s0, s1, s2, s3, s4, s5⟩ := h66.cells; have lc5 := (hgrow5.cell_far ⟨L, 0, none⟩ HL5.out.lt (fun e => HL5.out.row_ne HL5.out.cell (fun k e => by cases e) e.symm)).trans HL5.out.cell; have hgL : g ≠ L := (hat5.elim (fun e e' => HL5.out.row_ne HL5.out.cell (fun k e => by cases e) (by rw [← e']; exact e)) (fun e e' => absurd (show L < L from Nat.lt_of_lt_of_eq HL5.out.lt (e.symm.trans e')) (Nat.lt_irrefl L))); have hLg := hgL.symm; have lf5 := (hgrow5.frozen_far ⟨L, 0, none⟩ HL5.out.lt (fun e => HL5.out.row_ne HL5.out.cell (fun k e => by cases e) e.symm)).trans HL5.out.fz))
    all_goals
      have hpush := ListSt.pushK (n := vs.length) HL5.out rfl hown5 hgrow5 hat5 (.int .i64 k) (.string t) (.int .u64 n) (.slice a l c) (.slice a' l' c') (.int .i64 z)
      obtain ⟨wF, hwF⟩ : ∃ wF, wF = (set6 w5 g (vs.length * 6) (.int .i64 k) (.string t) (.int .u64 n) (.slice a l c) (.slice a' l' c') (.int .i64 z)).setCell ⟨L, 0, none⟩ (.slice (some ⟨g, 0, none⟩) (vs.length + 1) cap) := ⟨_, rfl⟩
      rw [← hwF] at hpush
      have hwF' := hwF.trans (set6_far w5 g (vs.length * 6) L (.int .i64 k) (.string t) (.int .u64 n) (.slice a l c) (.slice a' l' c') (.int .i64 z) (.slice (some ⟨g, 0, none⟩) (vs.length + 1) cap) hgL).symm
      unfold set6 at hwF hwF'
      first | rw [← hwF] | rw [← hwF']
      have hin := ((InK.of (D := Dirty L (.slice va vs.length vc)) H3.out.drew).step (sbelow_new w3.drew (.cells #[.int .i64 0, .string ⟨#[]⟩, .int .u64 0, .slice none 0 0, .slice none 0 0, .int .i64 0] 27))).turn hpush.2 (fun k hk => hk.elim (fun e => by omega) (fun e => HVLT.out _ e))
      have HIN := Lib.hid hin
      have HPU := Lib.hid hpush
      have HFU := Lib.hid (FaultAt.dirty HX5.out HL5.out hpush.2)
      obtain ⟨-, c0, c1, -⟩ := hin.own
      obtain ⟨-, r0, r1, rf⟩ := hin.res
      clear hin hpush hwF hwF' t0 t1 t2 t3 t4 t5 tf s0 s1 s2 s3 s4 s5 lc5 lf5 hown5 hgrow5 hat5 h66
      go_wp2
      obtain ⟨q0, q1, hkp⟩ := HIN.out.out j
      unfold resSet at q0 q1 hkp
      have hq := HFU.out.set HIN.out.res s j
      have hlc : ((wF.setCell ⟨w.heap.size + 1, 0, none⟩ (.string s)).setCell ⟨w.heap.size + 1, 1, none⟩ (.int .i64 j)).cell? ⟨L, 0, none⟩ = some (.slice (some ⟨g, 0, none⟩) (vs.length + 1) cap) := by
        rw [World.cell?_setCell_other _ _ _ _ (by intro e; injection e with e; omega), World.cell?_setCell_other _ _ _ _ (by intro e; injection e with e; omega)]
        exact HPU.out.1
      exact bodyPost_ret (v := .tuple #[.agg #[.string s, .int .i64 j], pf fb]) (by simp [results, Tryz.results94, go_sem, q0, q1, pf]) rfl (.inr ⟨ec, ea, fb, j, _, _, _, HV.out, hj, rfl, hq, hlc, hkp⟩)
end Go.Proofs.YtajmlkephefapaaGreatDoor
