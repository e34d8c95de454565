/-
  The document's 'the same' of two values, places aside, by contract: a value and the same value as much farther.
-/
import Derived.Test.YtajmlkephefapaaGreatDoorGi5
import Derived.Test.YtajmlkephefapaaGreatDoorTreeP
import Derived.Deep.QuietTactic
import Derived.BigQuiet
namespace Go.Proofs.YtajmlkephefapaaGreatDoor
open Go.RowKit Go.Extern.Stop Go.Stop Go.Extern Go.WideMaps

theorem below_dr5 (w : World) (n : Nat) : Below w.heap.size w (w.drewN n) := by
  induction n with
  | zero => exact Below.refl _ _
  | succ n ih => exact ⟨ih.os, ih.tape, ih.output, ih.size, ih.block⟩
/-- Six cells from a place on. -/
def Six (w : World) (b o : Nat) (c0 c1 c2 c3 c4 c5 : Value) : Prop := b < w.heap.size ∧ w.cell? ⟨b, o, none⟩ = some c0 ∧ w.cell? ⟨b, o + 1, none⟩ = some c1 ∧ w.cell? ⟨b, o + 2, none⟩ = some c2 ∧ w.cell? ⟨b, o + 3, none⟩ = some c3 ∧ w.cell? ⟨b, o + 4, none⟩ = some c4 ∧ w.cell? ⟨b, o + 5, none⟩ = some c5
theorem Six.step {w w' : World} {b o : Nat} {c0 c1 c2 c3 c4 c5 : Value} (h : Six w b o c0 c1 c2 c3 c4 c5) (hb : Below w.heap.size w w') : Six w' b o c0 c1 c2 c3 c4 c5 := by
  obtain ⟨h0, h1, h2, h3, h4, h5, h6⟩ := h
  have e : ∀ i, w'.cell? ⟨b, i, none⟩ = w.cell? ⟨b, i, none⟩ := fun i => hb.cell (p := ⟨b, i, none⟩) h0
  refine ⟨Nat.lt_of_lt_of_le h0 hb.size, ?_, ?_, ?_, ?_, ?_, ?_⟩ <;> rw [e] <;> assumption
theorem six_nw (w : World) (ty : TypeId) (c0 c1 c2 c3 c4 c5 : Value) : Six (w.alloc (.cells #[c0, c1, c2, c3, c4, c5] ty)) w.heap.size 0 c0 c1 c2 c3 c4 c5 := by
  have h := heap_alloc_new w (.cells #[c0, c1, c2, c3, c4, c5] ty)
  refine ⟨by simp, ?_, ?_, ?_, ?_, ?_, ?_⟩ <;> (rw [Lib.cell_of_heap h]; rfl)
theorem farL_at (n : Nat) : ∀ {l : List Val} {i : Nat} {x : Val}, l[i]? = some x → (farL n l)[i]? = some (farV n x)
  | [], _, _, h => by simp at h
  | y :: r, 0, x, h => by
    obtain rfl : y = x := by simpa using h
    rw [farL]; rfl
  | y :: r, i + 1, x, h => by
    rw [farL]
    exact farL_at n (l := r) (by simpa using h)
theorem farL_len (n : Nat) : ∀ l : List Val, (farL n l).length = l.length
  | [] => by rw [farL]
  | y :: r => by rw [farL, List.length_cons, List.length_cons, farL_len n r]
/-- An element of a row of values, in a later world. -/
theorem el_at {P : Nat → Prop} {w wr : World} {a : Option Addr} {l c : Nat} {xs : List Value} {list : List Val} (hr : RowIn P w (.slice a l c) list.length xs) (hv : ValsC P w xs list) {i : Nat} {x : Val} (hx : list[i]? = some x) (hb : Below w.heap.size w wr) :
    ∃ b o k t n a2 l2 c2 a3 l3 c3 z, a = some ⟨b, o, none⟩ ∧ ValC P w [.int .i64 k, .string t, .int .u64 n, .slice a2 l2 c2, .slice a3 l3 c3, .int .i64 z] x ∧
      Six wr b (o + i * 6) (.int .i64 k) (.string t) (.int .u64 n) (.slice a2 l2 c2) (.slice a3 l3 c3) (.int .i64 z) := by
  obtain ⟨d0, d1, d2, d3, d4, d5, hvx, e0, e1, e2, e3, e4, e5⟩ := ValsC.at' hv hx
  obtain ⟨k2, t2, n2, a2, l2, c2, a3, l3, c3, z2, ed⟩ := hvx.form
  simp only [List.cons.injEq, and_true] at ed
  obtain ⟨rfl, rfl, rfl, rfl, rfl, rfl⟩ := ed
  have hlt := (List.getElem?_eq_some_iff.1 hx).1
  rcases hr with ⟨h0, -⟩ | ⟨b, o, c, e, -, hbl, hc⟩
  · omega
  injection e with e
  refine ⟨b, o, _, _, _, _, _, _, _, _, _, _, e, hvx, ?_⟩
  have hj : ∀ j u, xs[6 * i + j]? = some u → wr.cell? ⟨b, o + i * 6 + j, none⟩ = some u := fun j u hu => by
    rw [show o + i * 6 + j = o + (6 * i + j) by omega]
    exact (hb.cell (p := ⟨b, _, none⟩) hbl).trans (hc _ _ hu)
  exact ⟨Nat.lt_of_lt_of_le hbl hb.size, hj 0 _ e0, hj 1 _ e1, hj 2 _ e2, hj 3 _ e3, hj 4 _ e4, hj 5 _ e5⟩
/-- An element of a row of texts, in a later world. -/
theorem key_at {P : Nat → Prop} {w wr : World} {a : Option Addr} {l c : Nat} {keys : List ByteArray} (hr : RowIn P w (.slice a l c) keys.length (keys.map Value.string)) {i : Nat} {y : ByteArray} (hy : keys[i]? = some y) (hb : Below w.heap.size w wr) :
    ∃ b o, a = some ⟨b, o, none⟩ ∧ wr.cell? ⟨b, o + i, none⟩ = some (.string y) := by
  have hlt := (List.getElem?_eq_some_iff.1 hy).1
  rcases hr with ⟨h0, -⟩ | ⟨b, o, c, e, -, hbl, hc⟩
  · omega
  injection e with e
  exact ⟨b, o, e, (hb.cell (p := ⟨b, _, none⟩) hbl).trans (hc i _ (by simp [hy]))⟩
/-- On the way: the two boxes. -/
structure TwoV (w0 : World) (x0 x1 x2 x3 x4 x5 y0 y1 y2 y3 y4 y5 : Value) (w : World) : Prop where
  sa : Six w w0.heap.size 0 x0 x1 x2 x3 x4 x5
  sb : Six w (w0.heap.size + 1) 0 y0 y1 y2 y3 y4 y5
  below : Below w0.heap.size w0 w
theorem TwoV.step {w0 : World} {x0 x1 x2 x3 x4 x5 y0 y1 y2 y3 y4 y5 : Value} {w w' : World} (h : TwoV w0 x0 x1 x2 x3 x4 x5 y0 y1 y2 y3 y4 y5 w) (hb : Below w.heap.size w w') : TwoV w0 x0 x1 x2 x3 x4 x5 y0 y1 y2 y3 y4 y5 w' :=
  ⟨h.sa.step hb, h.sb.step hb, h.below.trans (hb.mono h.below.size)⟩
theorem TwoV.start (w : World) (ty : TypeId) (x0 x1 x2 x3 x4 x5 y0 y1 y2 y3 y4 y5 : Value) : TwoV w x0 x1 x2 x3 x4 x5 y0 y1 y2 y3 y4 y5 ((w.alloc (.cells #[x0, x1, x2, x3, x4, x5] ty)).alloc (.cells #[y0, y1, y2, y3, y4, y5] ty)) := by
  have h1 := six_nw w ty x0 x1 x2 x3 x4 x5
  have h2 := six_nw (w.alloc (.cells #[x0, x1, x2, x3, x4, x5] ty)) ty y0 y1 y2 y3 y4 y5
  rw [World.size_alloc] at h2
  have b1 := sbelow_new w (.cells #[x0, x1, x2, x3, x4, x5] ty)
  have b2 := sbelow_new (w.alloc (.cells #[x0, x1, x2, x3, x4, x5] ty)) (.cells #[y0, y1, y2, y3, y4, y5] ty)
  exact ⟨h1.step b2, h2, b1.trans (b2.mono b1.size)⟩
mutual
/-- No row of keys is long. -/
def keysOk : Val → Prop
  | .mk _ _ _ list keys _ => keys.length ≤ 1000000 ∧ keysOkL list
def keysOkL : List Val → Prop
  | [] => True
  | x :: r => keysOk x ∧ keysOkL r
end
theorem keysOkL_at : ∀ {l : List Val} {i : Nat} {x : Val}, keysOkL l → l[i]? = some x → keysOk x
  | [], _, _, _, h => by simp at h
  | y :: r, 0, x, h0, h => by
    obtain rfl : y = x := by simpa using h
    rw [keysOkL] at h0
    exact h0.1
  | y :: r, i + 1, x, h0, h => by
    rw [keysOkL] at h0
    exact keysOkL_at h0.2 (i := i) (by simpa using h)
def RunTo (w : World) (N : Nat) (g : Nat) (v : Value) (wr : World) : Prop := ∃ i : Nat, i ≤ N ∧ g = N - i ∧ v = .int .i64 i ∧ Below w.heap.size w wr
end Go.Proofs.YtajmlkephefapaaGreatDoor
