/-
  Package tree by contracts, eleventh part: a value's state.
-/
import Derived.Test.YtajmlkephefapaaGreatDoorTreeL
namespace Go.Proofs.YtajmlkephefapaaGreatDoor
open Go.RowKit Go.Extern.Stop Go.Stop Go.Extern Go.WideMaps

set_option maxHeartbeats 400000 in
theorem holds_any (k : Int) (t : ByteArray) (n : Int) (a : Option Addr) (l c : Nat) (a' : Option Addr) (l' c' : Nat) (z : Int) (w : World) :
    Calls Tryz.prog 38 #[.agg #[.int .i64 k, .string t, .int .u64 n, .slice a l c, .slice a' l' c', .int .i64 z]] w fun e w' => e = .returned (.bool (decide (k = 5 ∨ k = 6))) ∧ Below w.heap.size w w' := by
  go_enter Tryz.func38, Tryz.ntmps38
  go_wp2
  all_goals
    go_ret
    refine ⟨congrArg (fun b => Ending.returned (.bool b)) ?_, (Below.refl _ _).alloc (Nat.le_refl _) _⟩
    rw [Bool.eq_iff_iff]
    simp_all

/-! ### A value's six cells -/
theorem SixAt.put0 {w : World} {b : Nat} {c0 c1 c2 c3 c4 c5 : Value} (h : SixAt w b c0 c1 c2 c3 c4 c5) (u : Value) : SixAt (w.setCell ⟨b, 0, none⟩ u) b u c1 c2 c3 c4 c5 := heap_setCell_same w b 0 _ _ u h
theorem SixAt.put1 {w : World} {b : Nat} {c0 c1 c2 c3 c4 c5 : Value} (h : SixAt w b c0 c1 c2 c3 c4 c5) (u : Value) : SixAt (w.setCell ⟨b, 1, none⟩ u) b c0 u c2 c3 c4 c5 := heap_setCell_same w b 1 _ _ u h
theorem SixAt.put2 {w : World} {b : Nat} {c0 c1 c2 c3 c4 c5 : Value} (h : SixAt w b c0 c1 c2 c3 c4 c5) (u : Value) : SixAt (w.setCell ⟨b, 2, none⟩ u) b c0 c1 u c3 c4 c5 := heap_setCell_same w b 2 _ _ u h
theorem SixAt.put3 {w : World} {b : Nat} {c0 c1 c2 c3 c4 c5 : Value} (h : SixAt w b c0 c1 c2 c3 c4 c5) (u : Value) : SixAt (w.setCell ⟨b, 3, none⟩ u) b c0 c1 c2 u c4 c5 := heap_setCell_same w b 3 _ _ u h
theorem SixAt.put4 {w : World} {b : Nat} {c0 c1 c2 c3 c4 c5 : Value} (h : SixAt w b c0 c1 c2 c3 c4 c5) (u : Value) : SixAt (w.setCell ⟨b, 4, none⟩ u) b c0 c1 c2 c3 u c5 := heap_setCell_same w b 4 _ _ u h
theorem SixAt.put5 {w : World} {b : Nat} {c0 c1 c2 c3 c4 c5 : Value} (h : SixAt w b c0 c1 c2 c3 c4 c5) (u : Value) : SixAt (w.setCell ⟨b, 5, none⟩ u) b c0 c1 c2 c3 c4 u := heap_setCell_same w b 5 _ _ u h
theorem SixAt.set6 {w : World} {b : Nat} {c0 c1 c2 c3 c4 c5 : Value} (h : SixAt w b c0 c1 c2 c3 c4 c5) (d0 d1 d2 d3 d4 d5 : Value) : SixAt (set6 w b 0 d0 d1 d2 d3 d4 d5) b d0 d1 d2 d3 d4 d5 :=
  (((((h.put0 d0).put1 d1).put2 d2).put3 d3).put4 d4).put5 d5
theorem SixAt.far {w : World} {b : Nat} {c0 c1 c2 c3 c4 c5 : Value} (h : SixAt w b c0 c1 c2 c3 c4 c5) {q : Addr} (hq : b ≠ q.block) (u : Value) : SixAt (w.setCell q u) b c0 c1 c2 c3 c4 c5 :=
  (heap_setCell_other _ _ _ _ hq).trans h
theorem SixAt.fz {w : World} {b : Nat} {c0 c1 c2 c3 c4 c5 : Value} (h : SixAt w b c0 c1 c2 c3 c4 c5) (i : Nat) : w.frozen? ⟨b, i, none⟩ = false := by
  unfold World.frozen?
  rw [h]
  simp
theorem SixAt.step {w w' : World} {b : Nat} {c0 c1 c2 c3 c4 c5 : Value} (h : SixAt w b c0 c1 c2 c3 c4 c5) (hb : Below w.heap.size w w') : SixAt w' b c0 c1 c2 c3 c4 c5 := (hb.block b h.lt).trans h
/-- A value's block is no fault's: one holds six cells. -/
theorem SixAt.fault {w : World} {b fb : Nat} {c0 c1 c2 c3 c4 c5 : Value} (h : SixAt w b c0 c1 c2 c3 c4 c5) {c a : Int} (hf : FaultAt w fb c a) (h1 : ∀ z, c1 ≠ .int .i64 z) : fb ≠ b := by
  rintro rfl
  obtain ⟨-, -, -, e⟩ := hf.parts
  obtain ⟨-, e1, -⟩ := h.cells
  rw [e1] at e
  injection e with e
  exact h1 _ e

/-- On the way through a value: the place's variable, the two results, the value's variable. -/
structure VS (w0 : World) (s : ByteArray) (j : Int) (q : Nat) (c0 c1 c2 c3 c4 c5 : Value) (w : World) : Prop where
  own : ScanS w w0.heap.size s j
  res : ScanS w (w0.heap.size + 1) ⟨#[]⟩ 0
  rv : SixAt w (w0.heap.size + 2) (.int .i64 0) (.string ⟨#[]⟩) (.int .u64 0) (.slice none 0 0) (.slice none 0 0) (.int .i64 0)
  val : SixAt w q c0 c1 c2 c3 c4 c5
  at' : w0.heap.size + 3 ≤ q
  below : Below w0.heap.size w0 w
theorem VS.step {w0 w w' : World} {s : ByteArray} {j : Int} {q : Nat} {c0 c1 c2 c3 c4 c5 : Value} (h : VS w0 s j q c0 c1 c2 c3 c4 c5 w) (hb : Below w.heap.size w w') : VS w0 s j q c0 c1 c2 c3 c4 c5 w' :=
  ⟨h.own.step hb, h.res.step hb, h.rv.step hb, h.val.step hb, h.at', h.below.trans (hb.mono h.below.size)⟩
theorem VS.set {w0 w : World} {s : ByteArray} {j : Int} {q : Nat} {c0 c1 c2 c3 c4 c5 : Value} (h : VS w0 s j q c0 c1 c2 c3 c4 c5 w) (j' : Int) :
    VS w0 s j' q c0 c1 c2 c3 c4 c5 ((w.setCell ⟨w0.heap.size, 0, none⟩ (.string s)).setCell ⟨w0.heap.size, 1, none⟩ (.int .i64 j')) := by
  have hq := h.at'
  exact ⟨h.own.set s j', (h.res.other w0.heap.size 0 _ (by omega)).other w0.heap.size 1 _ (by omega), (h.rv.far (by show _ ≠ w0.heap.size; omega) _).far (by show _ ≠ w0.heap.size; omega) _, (h.val.far (by show _ ≠ w0.heap.size; omega) _).far (by show _ ≠ w0.heap.size; omega) _, hq,
    (h.below.setCell (p := ⟨w0.heap.size, 0, none⟩) (Nat.le_refl _) _).setCell (p := ⟨w0.heap.size, 1, none⟩) (Nat.le_refl _) _⟩
theorem VS.put {w0 w : World} {s : ByteArray} {j : Int} {q : Nat} {c0 c1 c2 c3 c4 c5 d0 d1 d2 d3 d4 d5 : Value} (h : VS w0 s j q c0 c1 c2 c3 c4 c5 w) (i : Nat) (u : Value) (hd : SixAt (w.setCell ⟨q, i, none⟩ u) q d0 d1 d2 d3 d4 d5) :
    VS w0 s j q d0 d1 d2 d3 d4 d5 (w.setCell ⟨q, i, none⟩ u) := by
  have hq := h.at'
  exact ⟨h.own.other q i _ (by omega), h.res.other q i _ (by omega), h.rv.far (by show _ ≠ q; omega) _, hd, hq, h.below.setCell (p := ⟨q, i, none⟩) (by show _ ≤ q; omega) _⟩
/-- Behind the stores of both results. -/
theorem VS.out {w0 w : World} {s : ByteArray} {j : Int} {q : Nat} {c0 c1 c2 c3 c4 c5 : Value} (h : VS w0 s j q c0 c1 c2 c3 c4 c5 w) (z : Int) :
    let wF := set6 ((w.setCell ⟨w0.heap.size + 1, 0, none⟩ (.string s)).setCell ⟨w0.heap.size + 1, 1, none⟩ (.int .i64 z)) (w0.heap.size + 2) 0 c0 c1 c2 c3 c4 c5
    ScanS wF (w0.heap.size + 1) s z ∧ SixAt wF (w0.heap.size + 2) c0 c1 c2 c3 c4 c5 ∧ Below w0.heap.size w0 wF ∧ Keeps (fun k => k = w0.heap.size + 1 ∨ k = w0.heap.size + 2) w wF := by
  intro wF
  have h1 := h.res.set s z
  have h2 : SixAt wF (w0.heap.size + 2) c0 c1 c2 c3 c4 c5 := ((h.rv.far (q := ⟨w0.heap.size + 1, 0, none⟩) (by show _ ≠ w0.heap.size + 1; omega) (.string s)).far (q := ⟨w0.heap.size + 1, 1, none⟩) (by show _ ≠ w0.heap.size + 1; omega) (.int .i64 z)).set6 c0 c1 c2 c3 c4 c5
  have hk : Keeps (fun k => k = w0.heap.size + 1 ∨ k = w0.heap.size + 2) w wF :=
    (((((((Keeps.refl _ _).setCell (.inr (.inl rfl)) _).setCell (.inr (.inl rfl)) _ |>.setCell (.inr (.inr rfl)) _).setCell (.inr (.inr rfl)) _).setCell (.inr (.inr rfl)) _).setCell (.inr (.inr rfl)) _).setCell (.inr (.inr rfl)) _).setCell (.inr (.inr rfl)) _
  refine ⟨?_, h2, h.below.trans (hk.below h.below.size (fun k e => by omega)), hk⟩
  have ne : w0.heap.size + 1 ≠ w0.heap.size + 2 := by omega
  exact (((((h1.other _ 0 _ ne).other _ 1 _ ne).other _ 2 _ ne).other _ 3 _ ne).other _ 4 _ ne).other _ 5 _ ne
/-- Ahead of the value's variable. -/
structure VM (w0 : World) (s : ByteArray) (j : Int) (w : World) : Prop where
  own : ScanS w w0.heap.size s j
  res : ScanS w (w0.heap.size + 1) ⟨#[]⟩ 0
  rv : SixAt w (w0.heap.size + 2) (.int .i64 0) (.string ⟨#[]⟩) (.int .u64 0) (.slice none 0 0) (.slice none 0 0) (.int .i64 0)
  size : w0.heap.size + 3 ≤ w.heap.size
  below : Below w0.heap.size w0 w
theorem VM.step {w0 w w' : World} {s : ByteArray} {j : Int} (h : VM w0 s j w) (hb : Below w.heap.size w w') : VM w0 s j w' :=
  ⟨h.own.step hb, h.res.step hb, h.rv.step hb, Nat.le_trans h.size hb.size, h.below.trans (hb.mono h.below.size)⟩
theorem VM.S {w0 w : World} {s : ByteArray} {j : Int} (h : VM w0 s j w) : w.cell? ⟨w0.heap.size, 0, none⟩ = some (.string s) ∧ w.cell? ⟨w0.heap.size, 1, none⟩ = some (.int .i64 j) := ⟨h.own.1.2.1, h.own.1.2.2.1⟩
theorem VM.new {w0 w : World} {s : ByteArray} {j : Int} (h : VM w0 s j w) {R : Nat → World → Prop}
    (hR : ∀ q x, VM w0 s j x → SixAt x q (.int .i64 0) (.string ⟨#[]⟩) (.int .u64 0) (.slice none 0 0) (.slice none 0 0) (.int .i64 0) → w0.heap.size + 3 ≤ q → R q x) :
    R w.heap.size (w.alloc (.cells #[.int .i64 0, .string ⟨#[]⟩, .int .u64 0, .slice none 0 0, .slice none 0 0, .int .i64 0] 27)) :=
  hR _ _ (h.step (sbelow_new _ _)) (heap_alloc_new w _) h.size
theorem VM.val {w0 w : World} {s : ByteArray} {j : Int} {q : Nat} {c0 c1 c2 c3 c4 c5 : Value} (h : VM w0 s j w) (h6 : SixAt w q c0 c1 c2 c3 c4 c5) (hq : w0.heap.size + 3 ≤ q) : VS w0 s j q c0 c1 c2 c3 c4 c5 w :=
  ⟨h.own, h.res, h.rv, h6, hq, h.below⟩
theorem VS.put6 {w0 w : World} {s : ByteArray} {j : Int} {q : Nat} {c0 c1 c2 c3 c4 c5 : Value} (h : VS w0 s j q c0 c1 c2 c3 c4 c5 w) (d0 d1 d2 d3 d4 d5 : Value) : VS w0 s j q d0 d1 d2 d3 d4 d5 (set6 w q 0 d0 d1 d2 d3 d4 d5) :=
  (((((h.put 0 d0 (h.val.put0 d0)).put 1 d1 ((h.val.put0 d0).put1 d1)).put 2 d2 (((h.val.put0 d0).put1 d1).put2 d2)).put 3 d3 ((((h.val.put0 d0).put1 d1).put2 d2).put3 d3)).put 4 d4 (((((h.val.put0 d0).put1 d1).put2 d2).put3 d3).put4 d4)).put 5 d5
    ((((((h.val.put0 d0).put1 d1).put2 d2).put3 d3).put4 d4).put5 d5)
theorem VS.S {w0 w : World} {s : ByteArray} {j : Int} {q : Nat} {c0 c1 c2 c3 c4 c5 : Value} (h : VS w0 s j q c0 c1 c2 c3 c4 c5 w) : w.cell? ⟨w0.heap.size, 0, none⟩ = some (.string s) ∧ w.cell? ⟨w0.heap.size, 1, none⟩ = some (.int .i64 j) ∧ SixAt w q c0 c1 c2 c3 c4 c5 :=
  ⟨h.own.1.2.1, h.own.1.2.2.1, h.val⟩
/-! ### Kinds and leaves -/
theorem kind_cases (n : Int) : (¬ opens n ∧ ((kindT n = 0 ∧ n = 110) ∨ (kindT n = 1 ∧ n = 102) ∨ (kindT n = 2 ∧ n = 116) ∨ (kindT n = 3 ∧ n ≠ 110 ∧ n ≠ 102 ∧ n ≠ 116 ∧ n ≠ 34) ∨ (kindT n = 4 ∧ n = 34))) ∨
    (opens n ∧ ((kindT n = 5 ∧ n = 91) ∨ (kindT n = 6 ∧ n = 123))) := by
  unfold opens kindT
  by_cases h1 : n = 110
  · subst h1; exact .inl ⟨by omega, .inl ⟨by decide, rfl⟩⟩
  by_cases h2 : n = 102
  · subst h2; exact .inl ⟨by omega, .inr (.inl ⟨by decide, rfl⟩)⟩
  by_cases h3 : n = 116
  · subst h3; exact .inl ⟨by omega, .inr (.inr (.inl ⟨by decide, rfl⟩))⟩
  by_cases h4 : n = 34
  · subst h4; exact .inl ⟨by omega, .inr (.inr (.inr (.inr ⟨by decide, rfl⟩)))⟩
  by_cases h5 : n = 91
  · subst h5; exact .inr ⟨by omega, .inl ⟨by decide, rfl⟩⟩
  by_cases h6 : n = 123
  · subst h6; exact .inr ⟨by omega, .inr ⟨by decide, rfl⟩⟩
  exact .inl ⟨by omega, .inr (.inr (.inr (.inl ⟨by rw [if_neg h1, if_neg h2, if_neg h3, if_neg h4, if_neg h5, if_neg h6], h1, h2, h3, h4⟩)))⟩
def WordV (s : ByteArray) (d p : Nat) (kind : Int) (w : World) (e : Ending) (w' : World) : Prop :=
  (∃ j : Nat, e = .returned (.tuple #[.agg #[.string s, .int .i64 j], .nilIface]) ∧ j ≤ s.size ∧ V s d p (.ok j (.mk kind ⟨#[]⟩ 0 [] [] p)) ∧ Below w.heap.size w w') ∨
  (∃ (ec : Int) (ea fb : Nat), e = .returned (.tuple #[.agg #[.string s, .int .i64 ea], pf fb]) ∧ ea ≤ s.size ∧ V s d p (.er ec ea) ∧ FaultAt w' fb ec ea ∧ Below w.heap.size w w')
theorem word_v (s : ByteArray) (d p : Nat) (kind : Int) (l : ByteArray) (hs : s.size ≤ 100000) (hp : p ≤ s.size) (hl : l.size ≤ 100) (h : leafR s p = wordO s p kind l.data.toList) (ho : ¬ opens (byteI s p)) (w : World) :
    Calls Tryz.prog 56 #[.agg #[.string s, .int .i64 p], .string l] w (WordV s d p kind w) := by
  refine (tword_any s l p hs hl hp w).mono ?_
  have hv := W.leaf (s := s) d p ho
  rw [h] at hv
  unfold wordO at hv
  have hle := wordR_le s l.data.toList p hp
  rintro e w' (⟨hc, rfl, hb⟩ | ⟨hc, fb, rfl, hf, hb⟩)
  · rw [if_pos hc] at hv
    exact .inl ⟨_, rfl, hle.2, hv, hb⟩
  · rw [if_neg hc] at hv
    exact .inr ⟨_, _, fb, rfl, hle.2, hv, hf, hb⟩
def NumV (s : ByteArray) (d p : Nat) (w : World) (e : Ending) (w' : World) : Prop :=
  (∃ (j : Nat) (n : Int), e = .returned (.tuple #[.agg #[.string s, .int .i64 j], .int .u64 n, .nilIface]) ∧ j ≤ s.size ∧ V s d p (.ok j (.mk 3 ⟨#[]⟩ n [] [] p)) ∧ Below w.heap.size w w') ∨
  (∃ (ec : Int) (ea fb j : Nat) (n : Int), e = .returned (.tuple #[.agg #[.string s, .int .i64 j], .int .u64 n, pf fb]) ∧ j ≤ s.size ∧ V s d p (.er ec ea) ∧ FaultAt w' fb ec ea ∧ Below w.heap.size w w')
theorem numK_er {s : ByteArray} {k : Nat} (h : numC s k ≠ 0) : numK s k = k := by
  unfold numK numC at *
  split at h
  · rename_i h0; rw [if_pos h0]
  · rename_i h0; rw [if_neg h0, if_neg h]
theorem num_v (s : ByteArray) (d p : Nat) (hs : s.size ≤ 100000) (hp : p ≤ s.size) (hne : byteI s p ≠ 110 ∧ byteI s p ≠ 102 ∧ byteI s p ≠ 116 ∧ byteI s p ≠ 34) (ho : ¬ opens (byteI s p)) (w : World) (hg : Handle w) :
    Calls Tryz.prog 57 #[.agg #[.string s, .int .i64 p]] w (NumV s d p w) := by
  refine (number_any s p hs hp w hg).mono ?_
  have hfit := leafR_fits hp
  have hv := W.leaf (s := s) d p ho
  unfold leafR at hv hfit
  rw [if_neg hne.1, if_neg hne.2.1, if_neg hne.2.2.1, if_neg hne.2.2.2] at hv hfit
  rintro e w' ⟨v, rfl, he, hb⟩
  by_cases hc : numC s p = 0
  · rw [if_pos hc] at hv hfit
    rw [hc] at he
    rw [he.nil_of]
    exact .inl ⟨_, _, rfl, hfit.2, hv, hb⟩
  · rw [if_neg hc] at hv
    obtain ⟨fb, rfl, hf⟩ := he.fb hc
    rw [numK_er hc] at hf ⊢
    exact .inr ⟨_, _, fb, p, _, rfl, hp, hv, hf, hb⟩
def TextV (s : ByteArray) (d p : Nat) (w : World) (e : Ending) (w' : World) : Prop :=
  (∃ (j : Nat) (t : ByteArray), e = .returned (.tuple #[.agg #[.string s, .int .i64 j], .string t, .nilIface]) ∧ j ≤ s.size ∧ V s d p (.ok j (.mk 4 t 0 [] [] p)) ∧ Below w.heap.size w w') ∨
  (∃ (ec : Int) (ea fb j : Nat), e = .returned (.tuple #[.agg #[.string s, .int .i64 j], .string ⟨#[]⟩, pf fb]) ∧ j ≤ s.size ∧ V s d p (.er ec ea) ∧ FaultAt w' fb ec ea ∧ Below w.heap.size w w')
theorem text_v (s : ByteArray) (d p : Nat) (hs : s.size ≤ 100000) (hp : p ≤ s.size) (h34 : byteI s p = 34) (ho : ¬ opens (byteI s p)) (w : World) :
    Calls Tryz.prog 58 #[.agg #[.string s, .int .i64 p]] w (TextV s d p w) := by
  refine (text_any s p hs hp w).mono ?_
  have hv := W.leaf (s := s) d p ho
  unfold leafR at hv
  rw [if_neg (by rw [h34]; decide), if_neg (by rw [h34]; decide), if_neg (by rw [h34]; decide), if_pos h34] at hv
  rintro e w' (⟨hc, rfl, hb⟩ | ⟨hc, fb, j, hj, rfl, hf, hb⟩)
  · rw [if_pos hc] at hv
    exact .inl ⟨_, _, rfl, (quoR_ok hc).2, hv, hb⟩
  · rw [if_neg hc] at hv
    exact .inr ⟨_, _, fb, j, rfl, hj, hv, hf, hb⟩

/-! ### Behind the choice by kind -/
/-- What may be made on the way. -/
def VP (w0 : World) (q k : Nat) : Prop := w0.heap.size + 3 ≤ k ∧ k ≠ q
def VEnd (w0 : World) (s : ByteArray) (d p q : Nat) (v8 : Value) (w : World) : Prop :=
  (∃ (j : Nat) (x : Val) (k : Int) (t : ByteArray) (n : Int) (a : Option Addr) (l c : Nat) (a' : Option Addr) (l' c' : Nat) (z : Int), v8 = .nilIface ∧ j ≤ s.size ∧ V s d p (.ok j x) ∧ VS w0 s j q (.int .i64 k) (.string t) (.int .u64 n) (.slice a l c) (.slice a' l' c') (.int .i64 z) w ∧
    ValC (VP w0 q) w [.int .i64 k, .string t, .int .u64 n, .slice a l c, .slice a' l' c', .int .i64 z] x) ∨
  (∃ (ec : Int) (ea fb j : Nat) (k : Int) (t : ByteArray) (n : Int) (a : Option Addr) (l c : Nat) (a' : Option Addr) (l' c' : Nat) (z : Int), v8 = pf fb ∧ j ≤ s.size ∧ V s d p (.er ec ea) ∧ FaultAt w fb ec ea ∧ VS w0 s j q (.int .i64 k) (.string t) (.int .u64 n) (.slice a l c) (.slice a' l' c') (.int .i64 z) w)
theorem ValC.leaf (P : Nat → Prop) (w : World) (k : Int) (t : ByteArray) (n z : Int) : ValC P w [.int .i64 k, .string t, .int .u64 n, .slice none 0 0, .slice none 0 0, .int .i64 z] (.mk k t n [] [] z) := by
  unfold ValC
  exact ⟨_, _, [], rfl, RowIn.nil _ _, RowIn.nil _ _, ValsC.nil⟩
theorem SixAt.fput {w : World} {b fb : Nat} {c0 c2 c3 c4 c5 : Value} {t : ByteArray} (h : SixAt w b c0 (.string t) c2 c3 c4 c5) {c a : Int} (hf : FaultAt w fb c a) (i : Nat) (u : Value) : FaultAt (w.setCell ⟨b, i, none⟩ u) fb c a :=
  hf.block (by rw [World.size_setCell]; exact Nat.le_refl _) (heap_setCell_other _ _ _ _ (h.fault hf (fun z e => by cases e)))
section
variable {w0 w4 w5 : World} {s : ByteArray} {d p q j0 : Nat} {K : Int} (hvs : VS w0 s j0 q (.int .i64 K) (.string ⟨#[]⟩) (.int .u64 0) (.slice none 0 0) (.slice none 0 0) (.int .i64 p) w4) (b5 : Below w4.heap.size w4 w5)
include hvs b5
theorem vend_word {j : Nat} (hj : j ≤ s.size) (hV : V s d p (.ok j (.mk K ⟨#[]⟩ 0 [] [] p))) :
    VEnd w0 s d p q .nilIface ((w5.setCell ⟨w0.heap.size, 0, none⟩ (.string s)).setCell ⟨w0.heap.size, 1, none⟩ (.int .i64 j)) :=
  .inl ⟨j, _, _, _, _, _, _, _, _, _, _, _, rfl, hj, hV, (hvs.step b5).set j, ValC.leaf _ _ _ _ _ _⟩
theorem vend_num {j : Nat} (n : Int) (hj : j ≤ s.size) (hV : V s d p (.ok j (.mk K ⟨#[]⟩ n [] [] p))) :
    VEnd w0 s d p q .nilIface (((w5.setCell ⟨w0.heap.size, 0, none⟩ (.string s)).setCell ⟨w0.heap.size, 1, none⟩ (.int .i64 j)).setCell ⟨q, 2, none⟩ (.int .u64 n)) :=
  .inl ⟨j, _, _, _, _, _, _, _, _, _, _, _, rfl, hj, hV, ((hvs.step b5).set j).put 2 _ (((hvs.step b5).set j).val.put2 _), ValC.leaf _ _ _ _ _ _⟩
theorem vend_text {j : Nat} (t : ByteArray) (hj : j ≤ s.size) (hV : V s d p (.ok j (.mk K t 0 [] [] p))) :
    VEnd w0 s d p q .nilIface (((w5.setCell ⟨w0.heap.size, 0, none⟩ (.string s)).setCell ⟨w0.heap.size, 1, none⟩ (.int .i64 j)).setCell ⟨q, 1, none⟩ (.string t)) :=
  .inl ⟨j, _, _, _, _, _, _, _, _, _, _, _, rfl, hj, hV, ((hvs.step b5).set j).put 1 _ (((hvs.step b5).set j).val.put1 _), ValC.leaf _ _ _ _ _ _⟩
variable {ec : Int} {ea fb : Nat} (hf : FaultAt w5 fb ec ea) (hE : V s d p (.er ec ea))
include hf
theorem vend_f (j : Nat) : FaultAt ((w5.setCell ⟨w0.heap.size, 0, none⟩ (.string s)).setCell ⟨w0.heap.size, 1, none⟩ (.int .i64 j)) fb ec ea := hf.set (hvs.step b5).own.1 s j
include hE
theorem vend_er {j : Nat} (hj : j ≤ s.size) : VEnd w0 s d p q (pf fb) ((w5.setCell ⟨w0.heap.size, 0, none⟩ (.string s)).setCell ⟨w0.heap.size, 1, none⟩ (.int .i64 j)) :=
  .inr ⟨_, _, fb, j, _, _, _, _, _, _, _, _, _, _, rfl, hj, hE, vend_f hvs b5 hf j, (hvs.step b5).set j⟩
theorem vend_er2 {j : Nat} (n : Int) (hj : j ≤ s.size) : VEnd w0 s d p q (pf fb) (((w5.setCell ⟨w0.heap.size, 0, none⟩ (.string s)).setCell ⟨w0.heap.size, 1, none⟩ (.int .i64 j)).setCell ⟨q, 2, none⟩ (.int .u64 n)) :=
  .inr ⟨_, _, fb, j, _, _, _, _, _, _, _, _, _, _, rfl, hj, hE, ((hvs.step b5).set j).val.fput (vend_f hvs b5 hf j) _ _, ((hvs.step b5).set j).put 2 _ (((hvs.step b5).set j).val.put2 _)⟩
theorem vend_er1 {j : Nat} (t : ByteArray) (hj : j ≤ s.size) : VEnd w0 s d p q (pf fb) (((w5.setCell ⟨w0.heap.size, 0, none⟩ (.string s)).setCell ⟨w0.heap.size, 1, none⟩ (.int .i64 j)).setCell ⟨q, 1, none⟩ (.string t)) :=
  .inr ⟨_, _, fb, j, _, _, _, _, _, _, _, _, _, _, rfl, hj, hE, ((hvs.step b5).set j).val.fput (vend_f hvs b5 hf j) _ _, ((hvs.step b5).set j).put 1 _ (((hvs.step b5).set j).val.put1 _)⟩
theorem vend_er3 {j : Nat} (a : Option Addr) (l c : Nat) (hj : j ≤ s.size) : VEnd w0 s d p q (pf fb) (((w5.setCell ⟨w0.heap.size, 0, none⟩ (.string s)).setCell ⟨w0.heap.size, 1, none⟩ (.int .i64 j)).setCell ⟨q, 3, none⟩ (.slice a l c)) :=
  .inr ⟨_, _, fb, j, _, _, _, _, _, _, _, _, _, _, rfl, hj, hE, ((hvs.step b5).set j).val.fput (vend_f hvs b5 hf j) _ _, ((hvs.step b5).set j).put 3 _ (((hvs.step b5).set j).val.put3 _)⟩
theorem vend_er4 {j : Nat} (b : Option Addr) (l' c' : Nat) (a : Option Addr) (l c : Nat) (hj : j ≤ s.size) :
    VEnd w0 s d p q (pf fb) ((((w5.setCell ⟨w0.heap.size, 0, none⟩ (.string s)).setCell ⟨w0.heap.size, 1, none⟩ (.int .i64 j)).setCell ⟨q, 4, none⟩ (.slice b l' c')).setCell ⟨q, 3, none⟩ (.slice a l c)) :=
  have h4 := ((hvs.step b5).set j).put 4 (.slice b l' c') (((hvs.step b5).set j).val.put4 _)
  .inr ⟨_, _, fb, j, _, _, _, _, _, _, _, _, _, _, rfl, hj, hE, h4.val.fput (((hvs.step b5).set j).val.fput (vend_f hvs b5 hf j) _ _) _ _, h4.put 3 _ (h4.val.put3 _)⟩
end
/-- An array's, an object's rows stay where the place and the value's cells are stored. -/
theorem vp_move {w0 w4 w5 wF : World} {q : Nat} (h4 : w0.heap.size + 3 ≤ w4.heap.size ∧ q < w4.heap.size) (hk : Keeps (fun k => k = w0.heap.size ∨ k = q) w5 wF) : ∀ k, w4.heap.size ≤ k → k < w5.heap.size → VP w0 q k ∧ wF.heap[k]? = w5.heap[k]? :=
  fun k h1 h2 => ⟨⟨by omega, by omega⟩, hk.block k h2 (by rintro (e | e) <;> omega)⟩
theorem vend_arr {w0 w4 w5 : World} {s : ByteArray} {d p q j0 j : Nat} {K : Int} {vs : List Val} {a : Option Addr} {c : Nat} {xs : List Value} (hvs : VS w0 s j0 q (.int .i64 K) (.string ⟨#[]⟩) (.int .u64 0) (.slice none 0 0) (.slice none 0 0) (.int .i64 p) w4) (b5 : Below w4.heap.size w4 w5)
    (hrow : RowIn (fun k => w4.heap.size ≤ k) w5 (.slice a vs.length c) vs.length xs) (hval : ValsC (fun k => w4.heap.size ≤ k) w5 xs vs) (hj : j ≤ s.size) (hV : V s d p (.ok j (.mk K ⟨#[]⟩ 0 vs [] p))) :
    VEnd w0 s d p q .nilIface (((w5.setCell ⟨w0.heap.size, 0, none⟩ (.string s)).setCell ⟨w0.heap.size, 1, none⟩ (.int .i64 j)).setCell ⟨q, 3, none⟩ (.slice a vs.length c)) := by
  have hk : Keeps (fun k => k = w0.heap.size ∨ k = q) w5 (((w5.setCell ⟨w0.heap.size, 0, none⟩ (.string s)).setCell ⟨w0.heap.size, 1, none⟩ (.int .i64 j)).setCell ⟨q, 3, none⟩ (.slice a vs.length c)) :=
    (((Keeps.refl _ _).setCell (.inr (.inl rfl)) _).setCell (.inr (.inl rfl)) _).setCell (.inr (.inr rfl)) _
  have hm := vp_move ⟨by have := hvs.rv.lt; omega, hvs.val.lt⟩ hk
  refine .inl ⟨j, _, _, _, _, _, _, _, _, _, _, _, rfl, hj, hV, ((hvs.step b5).set j).put 3 _ (((hvs.step b5).set j).val.put3 _), ?_⟩
  unfold ValC
  exact ⟨_, _, xs, rfl, RowIn.nil _ _, hrow.move hk.size hm, hval.move hk.size hm⟩
theorem vend_obj {w0 w4 w5 : World} {s : ByteArray} {d p q j0 j : Nat} {K : Int} {vs : List Val} {ks : List ByteArray} {a : Option Addr} {c : Nat} {b : Option Addr} {c' : Nat} {xs : List Value} (hvs : VS w0 s j0 q (.int .i64 K) (.string ⟨#[]⟩) (.int .u64 0) (.slice none 0 0) (.slice none 0 0) (.int .i64 p) w4) (b5 : Below w4.heap.size w4 w5)
    (hrow : RowIn (fun k => w4.heap.size ≤ k) w5 (.slice a vs.length c) vs.length xs) (hkey : RowIn (fun k => w4.heap.size ≤ k) w5 (.slice b ks.length c') ks.length (ks.map Value.string)) (hval : ValsC (fun k => w4.heap.size ≤ k) w5 xs vs) (hj : j ≤ s.size) (hV : V s d p (.ok j (.mk K ⟨#[]⟩ 0 vs ks p))) :
    VEnd w0 s d p q .nilIface ((((w5.setCell ⟨w0.heap.size, 0, none⟩ (.string s)).setCell ⟨w0.heap.size, 1, none⟩ (.int .i64 j)).setCell ⟨q, 4, none⟩ (.slice b ks.length c')).setCell ⟨q, 3, none⟩ (.slice a vs.length c)) := by
  have hk : Keeps (fun k => k = w0.heap.size ∨ k = q) w5 ((((w5.setCell ⟨w0.heap.size, 0, none⟩ (.string s)).setCell ⟨w0.heap.size, 1, none⟩ (.int .i64 j)).setCell ⟨q, 4, none⟩ (.slice b ks.length c')).setCell ⟨q, 3, none⟩ (.slice a vs.length c)) :=
    ((((Keeps.refl _ _).setCell (.inr (.inl rfl)) _).setCell (.inr (.inl rfl)) _).setCell (.inr (.inr rfl)) _).setCell (.inr (.inr rfl)) _
  have hm := vp_move ⟨by have := hvs.rv.lt; omega, hvs.val.lt⟩ hk
  have h4 := ((hvs.step b5).set j).put 4 (.slice b ks.length c') (((hvs.step b5).set j).val.put4 _)
  refine .inl ⟨j, _, _, _, _, _, _, _, _, _, _, _, rfl, hj, hV, h4.put 3 _ (h4.val.put3 _), ?_⟩
  unfold ValC
  exact ⟨_, _, xs, rfl, hkey.move hk.size hm, hrow.move hk.size hm, hval.move hk.size hm⟩
/-- The place's two cells and the value's six. -/
def S8 (W q : Nat) (d0 d1 c0 c1 c2 c3 c4 c5 : Value) (w : World) : Prop :=
  w.cell? ⟨W, 0, none⟩ = some d0 ∧ w.cell? ⟨W, 1, none⟩ = some d1 ∧ w.cell? ⟨q, 0, none⟩ = some c0 ∧ w.cell? ⟨q, 1, none⟩ = some c1 ∧ w.cell? ⟨q, 2, none⟩ = some c2 ∧ w.cell? ⟨q, 3, none⟩ = some c3 ∧ w.cell? ⟨q, 4, none⟩ = some c4 ∧ w.cell? ⟨q, 5, none⟩ = some c5
theorem VS.S8 {w0 w : World} {s : ByteArray} {j : Int} {q : Nat} {c0 c1 c2 c3 c4 c5 : Value} (h : VS w0 s j q c0 c1 c2 c3 c4 c5 w) : S8 w0.heap.size q (.string s) (.int .i64 j) c0 c1 c2 c3 c4 c5 w := ⟨h.own.1.2.1, h.own.1.2.2.1, h.val.cells⟩
theorem S8.put {W q : Nat} {d0 d1 c0 c1 c2 c3 c4 c5 : Value} {w : World} (h : S8 W q d0 d1 c0 c1 c2 c3 c4 c5 w) {b : Nat} (i : Nat) (u : Value) (hb : b ≠ W ∧ b ≠ q) : S8 W q d0 d1 c0 c1 c2 c3 c4 c5 (w.setCell ⟨b, i, none⟩ u) := by
  obtain ⟨h0, h1, h2, h3, h4, h5, h6, h7⟩ := h
  have ne1 : ∀ i j, (⟨b, i, none⟩ : Addr) ≠ ⟨W, j, none⟩ := fun i j e => hb.1 (by injection e)
  have ne2 : ∀ i j, (⟨b, i, none⟩ : Addr) ≠ ⟨q, j, none⟩ := fun i j e => hb.2 (by injection e)
  exact ⟨(World.cell?_setCell_other _ _ _ _ (ne1 _ _)).trans h0, (World.cell?_setCell_other _ _ _ _ (ne1 _ _)).trans h1, (World.cell?_setCell_other _ _ _ _ (ne2 _ _)).trans h2, (World.cell?_setCell_other _ _ _ _ (ne2 _ _)).trans h3,
    (World.cell?_setCell_other _ _ _ _ (ne2 _ _)).trans h4, (World.cell?_setCell_other _ _ _ _ (ne2 _ _)).trans h5, (World.cell?_setCell_other _ _ _ _ (ne2 _ _)).trans h6, (World.cell?_setCell_other _ _ _ _ (ne2 _ _)).trans h7⟩
end Go.Proofs.YtajmlkephefapaaGreatDoor
