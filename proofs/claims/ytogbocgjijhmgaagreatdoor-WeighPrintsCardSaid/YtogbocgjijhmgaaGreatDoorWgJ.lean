/-
  The document's own reader of weights, by contract.
-/
import Derived.Test.YtogbocgjijhmgaaGreatDoorWgI
import Derived.Test.YtogbocgjijhmgaaGreatDoorWgE
import Derived.Deep.CutBlock
import Derived.Deep.DeepCutAuto
namespace Go.Proofs.YtogbocgjijhmgaaGreatDoor
open Go.RowKit Go.Extern.Stop Go.Stop Go.Extern

/-! ### 0 alone, plain -/
theorem num_zero {s : ByteArray} {j : Nat} (hd : isDig (byteI s j) = true) (hc : numC s j = 0) (hn : numN s j = 0) : byteI s j = 48 ∧ numK s j = j + 1 := by
  have hlt := isDig_in hd
  have hr : runTo isDig s j = runTo isDig s (j + 1) := runTo_go hlt (by rw [← byteI_lt hlt]; exact hd)
  have h1 := le_runTo isDig s (j + 1) hlt
  have h2 := runTo_le isDig s (j + 1) hlt
  have hne : ¬ runTo isDig s j = j := by omega
  unfold numC at hc
  unfold numN at hn
  unfold numK
  rw [if_neg hne] at hc hn ⊢
  rw [if_pos hc] at hn ⊢
  have hb := (back _ hc).1
  unfold digsR at hn
  rw [hn] at hb
  have hb2 : (s.extract j (runTo isDig s j)).data.toList = [48] := by rw [← hb]; decide +kernel
  have hz : (s.extract j (runTo isDig s j)).size = 1 := by rw [Lib.size_eq, hb2]; rfl
  rw [ByteArray.size_extract] at hz
  have hk : runTo isDig s j = j + 1 := by omega
  refine ⟨?_, hk⟩
  rw [hk, ByteArray.extract_add_one (by omega)] at hb2
  have h48 : s[j] = 48 := by simpa using hb2
  rw [byteI_lt hlt, h48]
  rfl
theorem nought_num {s : ByteArray} {j : Nat} (h : byteI s j = 48) (he : skp s (j + 1) = s.size) : isDig (byteI s j) = true ∧ numC s j = 0 ∧ numN s j = 0 ∧ numK s j = j + 1 := by
  have hlt := byteI_in h (by decide)
  have ha : At s j (Lib.decDigits 0) := by
    rw [show Lib.decDigits 0 = [48] by decide +kernel]
    refine ⟨hlt, fun i b hi => ?_⟩
    cases i with
    | zero =>
      have : b = 48 := by simpa using hi.symm
      subst this
      exact h
    | succ i => simp at hi
  have hl : (Lib.decDigits 0).length = 1 := by decide +kernel
  have := num_at ha (by decide) (by
    rw [hl]
    by_cases h1 : j + 1 = s.size
    · exact .inl h1
    · refine .inr ?_
      have hlt2 : j + 1 < s.size := by omega
      cases hb : isBl (byteI s (j + 1)) with
      | true =>
        rw [Bool.eq_false_iff, ne_eq, isDig_iff]
        rw [isBl_iff] at hb
        omega
      | false =>
        rw [skp_here hb] at he
        exact absurd he h1)
  rw [hl] at this
  exact ⟨this.1, this.2.1, this.2.2.1, this.2.2.2⟩
theorem nought_iff (s : ByteArray) : noughtB s = true ↔ isDig (byteI s (skp s 0)) = true ∧ numC s (skp s 0) = 0 ∧ numN s (skp s 0) = 0 ∧ skp s (numK s (skp s 0)) = s.size := by
  have hj := (skp_le (Nat.zero_le s.size)).2
  unfold noughtB
  rw [Bool.and_eq_true, decide_eq_true_eq, decide_eq_true_eq]
  constructor
  · rintro ⟨h1, h2⟩
    obtain ⟨a1, a2, a3, a4⟩ := nought_num h1 h2
    exact ⟨a1, a2, a3, by rw [a4]; exact h2⟩
  · rintro ⟨a1, a2, a3, a4⟩
    obtain ⟨b1, b2⟩ := num_zero a1 a2 a3
    exact ⟨b1, by rw [b2] at a4; exact a4⟩

/-! ### Three cells in a block -/
def Cel3 (ty : TypeId) (w : World) (b : Nat) (c0 c1 c2 : Value) : Prop := w.heap[b]? = some (.cells #[c0, c1, c2] ty (0, 0))
section
variable {ty : TypeId} {w w' : World} {b : Nat} {c0 c1 c2 : Value}
theorem Cel3.lt (h : Cel3 ty w b c0 c1 c2) : b < w.heap.size := (Array.getElem?_eq_some_iff.1 h).1
theorem Cel3.step (h : Cel3 ty w b c0 c1 c2) (hb : Below w.heap.size w w') : Cel3 ty w' b c0 c1 c2 := (hb.block b h.lt).trans h
theorem Cel3.cells (h : Cel3 ty w b c0 c1 c2) : w.cell? ⟨b, 0, none⟩ = some c0 ∧ w.cell? ⟨b, 1, none⟩ = some c1 ∧ w.cell? ⟨b, 2, none⟩ = some c2 :=
  ⟨by rw [Lib.cell_of_heap h]; rfl, by rw [Lib.cell_of_heap h]; rfl, by rw [Lib.cell_of_heap h]; rfl⟩
theorem Cel3.fz (h : Cel3 ty w b c0 c1 c2) (i : Nat) : w.frozen? ⟨b, i, none⟩ = false := by
  unfold World.frozen?
  rw [h]
  simp
theorem Cel3.far (h : Cel3 ty w b c0 c1 c2) {q : Addr} (hq : b ≠ q.block) (u : Value) : Cel3 ty (w.setCell q u) b c0 c1 c2 := (heap_setCell_other _ _ _ _ hq).trans h
theorem Cel3.put0 (h : Cel3 ty w b c0 c1 c2) (u : Value) : Cel3 ty (w.setCell ⟨b, 0, none⟩ u) b u c1 c2 := heap_setCell_same w b 0 _ _ u h
theorem Cel3.put1 (h : Cel3 ty w b c0 c1 c2) (u : Value) : Cel3 ty (w.setCell ⟨b, 1, none⟩ u) b c0 u c2 := heap_setCell_same w b 1 _ _ u h
theorem Cel3.put2 (h : Cel3 ty w b c0 c1 c2) (u : Value) : Cel3 ty (w.setCell ⟨b, 2, none⟩ u) b c0 c1 u := heap_setCell_same w b 2 _ _ u h
theorem Cel3.put (h : Cel3 ty w b c0 c1 c2) (x y z : Value) : Cel3 ty (((w.setCell ⟨b, 0, none⟩ x).setCell ⟨b, 1, none⟩ y).setCell ⟨b, 2, none⟩ z) b x y z := ((h.put0 x).put1 y).put2 z
end
/-- The document's reader in memory. -/
structure RpI (w0 : World) (p : Nat → Int) (q : Nat → Bool) (w : World) : Prop where
  res : Cel3 58 w w0.heap.size (.int .u64 0) (.int .u64 0) (.int .u64 0)
  lst : Cel3 53 w (w0.heap.size + 1) (.int .u64 (p 0)) (.int .u64 (p 1)) (.int .u64 (p 2))
  seen : Cel3 4 w (w0.heap.size + 2) (.bool (q 0)) (.bool (q 1)) (.bool (q 2))
  below : Below w0.heap.size w0 w
theorem RpI.step {w0 w w' : World} {p : Nat → Int} {q : Nat → Bool} (h : RpI w0 p q w) (hb : Below w.heap.size w w') : RpI w0 p q w' := ⟨h.res.step hb, h.lst.step hb, h.seen.step hb, h.below.trans (hb.mono h.below.size)⟩
theorem RpI.put0 {w0 w : World} {p : Nat → Int} {q : Nat → Bool} (h : RpI w0 p q w) (m : Int) : RpI w0 (upd p 0 m) (upd q 0 true) ((w.setCell ⟨w0.heap.size + 2, 0, none⟩ (.bool true)).setCell ⟨w0.heap.size + 1, 0, none⟩ (.int .u64 m)) :=
  ⟨(h.res.far (q := ⟨w0.heap.size + 2, 0, none⟩) (by simp) _).far (q := ⟨w0.heap.size + 1, 0, none⟩) (by simp) _,
    (h.lst.far (q := ⟨w0.heap.size + 2, 0, none⟩) (by simp) (.bool true)).put0 (.int .u64 m),
    (h.seen.put0 (.bool true)).far (q := ⟨w0.heap.size + 1, 0, none⟩) (by simp) _,
    (h.below.setCell (p := ⟨w0.heap.size + 2, 0, none⟩) (by simp) _).setCell (p := ⟨w0.heap.size + 1, 0, none⟩) (by simp) _⟩
theorem RpI.put1 {w0 w : World} {p : Nat → Int} {q : Nat → Bool} (h : RpI w0 p q w) (m : Int) : RpI w0 (upd p 1 m) (upd q 1 true) ((w.setCell ⟨w0.heap.size + 2, 1, none⟩ (.bool true)).setCell ⟨w0.heap.size + 1, 1, none⟩ (.int .u64 m)) :=
  ⟨(h.res.far (q := ⟨w0.heap.size + 2, 1, none⟩) (by simp) _).far (q := ⟨w0.heap.size + 1, 1, none⟩) (by simp) _,
    (h.lst.far (q := ⟨w0.heap.size + 2, 1, none⟩) (by simp) (.bool true)).put1 (.int .u64 m),
    (h.seen.put1 (.bool true)).far (q := ⟨w0.heap.size + 1, 1, none⟩) (by simp) _,
    (h.below.setCell (p := ⟨w0.heap.size + 2, 1, none⟩) (by simp) _).setCell (p := ⟨w0.heap.size + 1, 1, none⟩) (by simp) _⟩
theorem RpI.put2 {w0 w : World} {p : Nat → Int} {q : Nat → Bool} (h : RpI w0 p q w) (m : Int) : RpI w0 (upd p 2 m) (upd q 2 true) ((w.setCell ⟨w0.heap.size + 2, 2, none⟩ (.bool true)).setCell ⟨w0.heap.size + 1, 2, none⟩ (.int .u64 m)) :=
  ⟨(h.res.far (q := ⟨w0.heap.size + 2, 2, none⟩) (by simp) _).far (q := ⟨w0.heap.size + 1, 2, none⟩) (by simp) _,
    (h.lst.far (q := ⟨w0.heap.size + 2, 2, none⟩) (by simp) (.bool true)).put2 (.int .u64 m),
    (h.seen.put2 (.bool true)).far (q := ⟨w0.heap.size + 1, 2, none⟩) (by simp) _,
    (h.below.setCell (p := ⟨w0.heap.size + 2, 2, none⟩) (by simp) _).setCell (p := ⟨w0.heap.size + 1, 2, none⟩) (by simp) _⟩
def RgOut (w : World) : WO → Ending → World → Prop
  | .er c a, e, w' => e = .returned (.tuple #[.agg #[.int .u64 0, .int .u64 0, .int .u64 0], .int .i64 c, .int .i64 a]) ∧ Below w.heap.size w w'
  | .ok p, e, w' => e = .returned (.tuple #[.agg #[.int .u64 (p 0), .int .u64 (p 1), .int .u64 (p 2)], .int .i64 0, .int .i64 0]) ∧ Below w.heap.size w w'
def RgRel (w : World) (s : ByteArray) (R : WO) (g : Nat) (v7 v8 : Value) (wr : World) : Prop :=
  ∃ (k : Nat) (p : Nat → Int) (q : Nat → Bool) (fb : Bool), v7 = .int .i64 k ∧ v8 = .bool fb ∧ wgR s g k p q = R ∧ k ≤ s.size ∧ s.size < k + g ∧ (fb = true → k = 0) ∧ RpI w p q wr
theorem rg_start (w : World) : RpI w (fun _ => 0) (fun _ => false) (((w.alloc (.cells #[.int .u64 0, .int .u64 0, .int .u64 0] 58)).alloc (.cells #[.int .u64 0, .int .u64 0, .int .u64 0] 53)).alloc (.cells #[.bool false, .bool false, .bool false] 4)) := by
  have h0 : Cel3 58 (w.alloc (.cells #[.int .u64 0, .int .u64 0, .int .u64 0] 58)) w.heap.size (.int .u64 0) (.int .u64 0) (.int .u64 0) := heap_alloc_new w _
  have h1 : Cel3 53 ((w.alloc (.cells #[.int .u64 0, .int .u64 0, .int .u64 0] 58)).alloc (.cells #[.int .u64 0, .int .u64 0, .int .u64 0] 53)) (w.heap.size + 1) (.int .u64 0) (.int .u64 0) (.int .u64 0) := by
    have := heap_alloc_new (w.alloc (.cells #[.int .u64 0, .int .u64 0, .int .u64 0] 58)) (.cells #[.int .u64 0, .int .u64 0, .int .u64 0] 53)
    unfold Cel3
    rwa [show (w.alloc (.cells #[.int .u64 0, .int .u64 0, .int .u64 0] 58)).heap.size = w.heap.size + 1 by simp] at this
  have h2 : Cel3 4 (((w.alloc (.cells #[.int .u64 0, .int .u64 0, .int .u64 0] 58)).alloc (.cells #[.int .u64 0, .int .u64 0, .int .u64 0] 53)).alloc (.cells #[.bool false, .bool false, .bool false] 4)) (w.heap.size + 2) (.bool false) (.bool false) (.bool false) := by
    have := heap_alloc_new ((w.alloc (.cells #[.int .u64 0, .int .u64 0, .int .u64 0] 58)).alloc (.cells #[.int .u64 0, .int .u64 0, .int .u64 0] 53)) (.cells #[.bool false, .bool false, .bool false] 4)
    unfold Cel3
    rwa [show ((w.alloc (.cells #[.int .u64 0, .int .u64 0, .int .u64 0] 58)).alloc (.cells #[.int .u64 0, .int .u64 0, .int .u64 0] 53)).heap.size = w.heap.size + 2 by simp] at this
  exact ⟨(h0.step (sbelow_new _ _)).step (sbelow_new _ _), h1.step (sbelow_new _ _), h2, ((sbelow_new w _).trans ((sbelow_new _ _).mono (by simp))).trans ((sbelow_new _ _).mono (by simp; omega))⟩
set_option maxRecDepth 100000 in
set_option maxHeartbeats 4000000 in
theorem rgparse_nought (s : ByteArray) (hs : s.size ≤ 65536) (hn : noughtB s = true) (w : World) :
    Calls Tryz.prog 27 #[.string s] w (RgOut w (.ok fun _ => 0)) := by
  obtain ⟨a1, a2, a3, a4⟩ := (nought_iff s).1 hn
  have hj := (skp_le (Nat.zero_le s.size)).2
  have hlt := isDig_in a1
  have HS : Hid (∀ W, Calls Tryz.prog 38 #[.string s, .int .i64 0] W fun e w' => e = .returned (.int .i64 (skp s 0)) ∧ W = w') := Lib.hid (fun W => rskip_any s 0 (by omega) (Nat.zero_le _) W)
  have HN := Lib.hid (fun W => rnumber_any s (skp s 0) (by omega) hj W)
  unfold RefNum at HN
  rw [a2, a3] at HN
  have HS2 : Hid (∀ W, Calls Tryz.prog 38 #[.string s, .int .i64 (numK s (skp s 0))] W fun e w' => e = .returned (.int .i64 s.size) ∧ W = w') := Lib.hid (fun W => by
    have := rskip_any s (numK s (skp s 0)) (by omega) (numK_le s _ hj) W
    unfold skp at a4 this ⊢
    rw [a4] at this
    exact this)
  have HD := Lib.hid (fun W => rdigit_any (s[skp s 0].toNat : Int) W)
  rw [← byteI_lt hlt, a1, byteI_lt hlt] at HD
  have H0 := Lib.hid (rg_start w)
  have hlen : ¬ (65536 : Int) < (s.size : Int) := by omega
  generalize numK s (skp s 0) = e at *
  generalize skp s 0 = j at *
  have hlti : (j : Int) < (s.size : Int) := by omega
  have ha0 : (0 : Int) ≤ (j : Int) := by omega
  clear hn a1 a2 a3 a4 hj
  go_enter Tryz.func27, Tryz.ntmps27
  go_wp2_with fail
  generalize ((w.alloc (.cells #[.int .u64 0, .int .u64 0, .int .u64 0] 58)).alloc (.cells #[.int .u64 0, .int .u64 0, .int .u64 0] 53)).alloc (.cells #[.bool false, .bool false, .bool false] 4) = w1 at *
  obtain ⟨k0, k1, k2⟩ := H0.out.res.cells
  have f0 := H0.out.res.fz 0
  have f1 := H0.out.res.fz 1
  have f2 := H0.out.res.fz 2
  obtain ⟨q0, q1, q2⟩ := (H0.out.res.put (.int .u64 0) (.int .u64 0) (.int .u64 0)).cells
  refine wp_loop_rounds 1 ?_
  rw [rounds_succ]
  go_wp2_with fail
  refine (HS.out _).mono ?_
  rintro e w' ⟨rfl, rfl⟩
  go_wp2_with fail
  refine (HD.out _).mono ?_
  rintro e w' ⟨rfl, rfl⟩
  go_wp2_with fail
  refine (HN.out _).mono ?_
  rintro e w2 ⟨rfl, b2⟩
  have H2 := Lib.hid (H0.out.step b2)
  clear k0 k1 k2 f0 f1 f2 q0 q1 q2 b2
  obtain ⟨k0, k1, k2⟩ := H2.out.res.cells
  have f0 := H2.out.res.fz 0
  have f1 := H2.out.res.fz 1
  have f2 := H2.out.res.fz 2
  obtain ⟨q0, q1, q2⟩ := (H2.out.res.put (.int .u64 0) (.int .u64 0) (.int .u64 0)).cells
  go_wp2_with fail
  refine (HS2.out _).mono ?_
  rintro e w' ⟨rfl, rfl⟩
  go_wp2_with fail
  refine bodyPost_ret (v := .tuple #[.agg #[.int .u64 0, .int .u64 0, .int .u64 0], .int .i64 0, .int .i64 0]) (by simp [results, Tryz.results27, go_sem, q0, q1, q2]) rfl ?_
  exact ⟨rfl, below_tri H2.out.below _ _ _⟩
end Go.Proofs.YtogbocgjijhmgaaGreatDoor
