/-
  Package net by contracts: a value's kind, its text, its number; what a call leaves as it was that grows a row of its own in a variable from block L on.
  Package tree's copy of a value, by contract (its later part is TreeU2's, turned by tools/gen_ntb.py).
-/
import Derived.Test.YtajmlkephefapaaGreatDoorTreeP
import Derived.Test.YtajmlkephefapaaGreatDoorScanF
import Derived.Test.YtajmlkephefapaaGreatDoorOwnUp
import Derived.Test.YtajmlkephefapaaGreatDoorTreeO
import Derived.Test.YtajmlkephefapaaGreatDoorReg
import Derived.Deep.AppendLies
namespace Go.Proofs.YtajmlkephefapaaGreatDoor
open Go.RowKit Go.Extern.Stop Go.Stop Go.Extern Go.WideMaps

/-- A value of package tree, as a value. -/
abbrev tvV (k : Int) (t : ByteArray) (n : Int) (sl sk : Value) (z : Int) : Value := .agg #[.int .i64 k, .string t, .int .u64 n, sl, sk, .int .i64 z]
/-- What stays where a row grows in the variable L: all below L, and all blocks of the types that X doesn't hold. -/
structure Sf (L : Nat) (X : TypeId → Prop) (W W' : World) : Prop where
  os : W'.os = W.os
  tape : W'.tape = W.tape
  output : W'.output = W.output
  size : W.heap.size ≤ W'.heap.size
  old : ∀ k, k < L → k < W.heap.size → W'.heap[k]? = W.heap[k]?
  ty : ∀ (T : TypeId), ¬ X T → ∀ (k : Nat) (cur : Array Value), W.heap[k]? = some (.cells cur T (0, 0)) → W'.heap[k]? = some (.cells cur T (0, 0))
theorem Sf.of_below {L : Nat} {X : TypeId → Prop} {W W' : World} (h : Below W.heap.size W W') : Sf L X W W' :=
  ⟨h.os, h.tape, h.output, h.size, fun k _ hk => h.block k hk, fun _ _ k _ hk => (h.block k (Array.getElem?_eq_some_iff.1 hk).1).trans hk⟩
theorem Sf.refl (L : Nat) (X : TypeId → Prop) (W : World) : Sf L X W W := Sf.of_below (Below.refl _ _)
theorem Sf.trans {L : Nat} {X : TypeId → Prop} {A B C : World} (h : Sf L X A B) (h' : Sf L X B C) : Sf L X A C :=
  ⟨h'.os.trans h.os, h'.tape.trans h.tape, h'.output.trans h.output, Nat.le_trans h.size h'.size, fun k hL hk => (h'.old k hL (Nat.lt_of_lt_of_le hk h.size)).trans (h.old k hL hk), fun T hT k cur hk => h'.ty T hT k cur (h.ty T hT k cur hk)⟩
/-- Seen from below L, it is old memory that stays as it was. -/
theorem Sf.below {L : Nat} {X : TypeId → Prop} {w W W' : World} (hb : Below w.heap.size w W) (hL : w.heap.size ≤ L) (h : Sf L X W W') : Below w.heap.size w W' :=
  ⟨h.os.trans hb.os, h.tape.trans hb.tape, h.output.trans hb.output, Nat.le_trans hb.size h.size, fun k hk => (h.old k (Nat.lt_of_lt_of_le hk hL) (Nat.lt_of_lt_of_le hk hb.size)).trans (hb.block k hk)⟩
theorem Sf.six {L : Nat} {X : TypeId → Prop} {W W' : World} (h : Sf L X W W') (hX : ¬ X 27) {b : Nat} {c0 c1 c2 c3 c4 c5 : Value} (hs : SixAt W b c0 c1 c2 c3 c4 c5) : SixAt W' b c0 c1 c2 c3 c4 c5 := h.ty _ hX b _ hs
theorem Sf.val {L : Nat} {X : TypeId → Prop} {W W' : World} (h : Sf L X W W') {cs : List Value} {x : Val} (hv : ValC (fun q => q < L) W cs x) : ValC (fun q => q < L) W' cs x := hv.move h.size fun k hk hlt => ⟨hk, h.old k hk hlt⟩
theorem Sf.vals {L : Nat} {X : TypeId → Prop} {W W' : World} (h : Sf L X W W') {cs : List Value} {l : List Val} (hv : ValsC (fun q => q < L) W cs l) : ValsC (fun q => q < L) W' cs l := hv.move h.size fun k hk hlt => ⟨hk, h.old k hk hlt⟩
theorem Sf.row {L : Nat} {X : TypeId → Prop} {W W' : World} (h : Sf L X W W') {v : Value} {n : Nat} {xs : List Value} (hv : RowIn (fun q => q < L) W v n xs) : RowIn (fun q => q < L) W' v n xs := hv.move h.size fun k hk hlt => ⟨hk, h.old k hk hlt⟩
/-- A row of another type, wherever it lies. -/
theorem Sf.own {L B : Nat} {X : TypeId → Prop} {W W' : World} (h : Sf L X W W') {e : TypeId} {sz n : Nat} {v : Value} {xs : List Value} (ho : W.ownsRow B e sz v n xs) (he : ¬ X e) : W'.ownsRow B e sz v n xs :=
  ⟨ho.1, ho.2.imp id fun ⟨g, cap, cur, e1, hb, hg, r⟩ => ⟨g, cap, cur, e1, hb, h.ty e he g cur hg, r⟩⟩
/-- The variable itself is stored. -/
theorem Sf.store {L : Nat} {X : TypeId → Prop} {W : World} {cur : Array Value} {T : TypeId} (hc : W.heap[L]? = some (.cells cur T (0, 0))) (hT : X T) (i : Nat) (u : Value) : Sf L X W (W.setCell ⟨L, i, none⟩ u) := by
  have hb := (Below.refl L W).setCell (p := ⟨L, i, none⟩) (Nat.le_refl _) u
  refine ⟨hb.os, hb.tape, hb.output, hb.size, fun k hk _ => hb.block k hk, fun T' hT' k cur' hk => ?_⟩
  have hne : k ≠ L := by
    rintro rfl
    rw [hc] at hk
    injection hk with hk
    injection hk with _ hk
    exact hT' (hk ▸ hT)
  rw [heap_setCell_other _ _ _ _ hne]
  exact hk
/-- Its row grows. -/
theorem Sf.grown {L B : Nat} {X : TypeId → Prop} {e : TypeId} {sz n : Nat} {v : Value} {xs : List Value} {W W' : World} (h : W.ownsRow B e sz v n xs) (hB : L ≤ B) (hT : X e) (hg : W.grownBy W' v.ownBlock) : Sf L X W W' := by
  refine ⟨hg.os, hg.tape, hg.output, hg.size, fun k hk hlt => hg.block k hlt fun e => ?_, fun T' hT' k cur hk => ?_⟩
  · have := (h.lt k e.symm).1
    omega
  · refine (hg.block k (Array.getElem?_eq_some_iff.1 hk).1 fun e' => ?_).trans hk
    rcases h.2 with ⟨rfl, -⟩ | ⟨g, cap, cur', rfl, -, h1, -⟩
    · cases e'
    · have e2 : g = k := by injection e'.symm
      subst e2
      rw [hk] at h1
      injection h1 with h1
      injection h1 with _ h1
      exact hT' (h1 ▸ hT)
theorem six_new (w : World) (c0 c1 c2 c3 c4 c5 : Value) : SixAt (w.alloc (.cells #[c0, c1, c2, c3, c4, c5] 27)) w.heap.size c0 c1 c2 c3 c4 c5 := heap_alloc_new w _
theorem SixAt.stepN {w w' : World} {b : Nat} {c0 c1 c2 c3 c4 c5 : Value} (h : SixAt w b c0 c1 c2 c3 c4 c5) (hb : Below w.heap.size w w') : SixAt w' b c0 c1 c2 c3 c4 c5 := (hb.block b h.lt).trans h

end Go.Proofs.YtajmlkephefapaaGreatDoor

namespace Go.Proofs.YtajmlkephefapaaGreatDoor
open Go.RowKit Go.Extern.Stop Go.Stop Go.Extern Go.WideMaps

mutual
/-- A value holds what is of its kind alone. -/
def fullV : Val → Prop
  | .mk k t n list keys _ => (k = 4 ∨ t = ⟨#[]⟩) ∧ (k = 3 ∨ n = 0) ∧ (k = 5 ∨ k = 6 ∨ list = []) ∧ (k = 6 ∨ keys = []) ∧ keys.length ≤ 1000000 ∧ fullL list
def fullL : List Val → Prop
  | [] => True
  | x :: r => fullV x ∧ fullL r
end
theorem fullL_at : ∀ {l : List Val} {i : Nat} {x : Val}, fullL l → l[i]? = some x → fullV x
  | [], _, _, _, h => by simp at h
  | y :: r, 0, x, h0, h => by
    obtain rfl : y = x := by simpa using h
    rw [fullL] at h0
    exact h0.1
  | y :: r, i + 1, x, h0, h => by
    rw [fullL] at h0
    exact fullL_at h0.2 (i := i) (by simpa using h)
/-- Six cells of a row. -/
def Six2 (w : World) (b o : Nat) (c0 c1 c2 c3 c4 c5 : Value) : Prop := b < w.heap.size ∧ w.cell? ⟨b, o, none⟩ = some c0 ∧ w.cell? ⟨b, o + 1, none⟩ = some c1 ∧ w.cell? ⟨b, o + 2, none⟩ = some c2 ∧ w.cell? ⟨b, o + 3, none⟩ = some c3 ∧ w.cell? ⟨b, o + 4, none⟩ = some c4 ∧ w.cell? ⟨b, o + 5, none⟩ = some c5
theorem el_at2 {P : Nat → Prop} {w wr : World} {a : Option Addr} {l c : Nat} {xs : List Value} {list : List Val} (hr : RowIn P w (.slice a l c) list.length xs) (hv : ValsC P w xs list) {i : Nat} {x : Val} (hx : list[i]? = some x) (hb : Below w.heap.size w wr) :
    ∃ b o k t n a2 l2 c2 a3 l3 c3 z, a = some ⟨b, o, none⟩ ∧ ValC P w [.int .i64 k, .string t, .int .u64 n, .slice a2 l2 c2, .slice a3 l3 c3, .int .i64 z] x ∧
      Six2 wr b (o + i * 6) (.int .i64 k) (.string t) (.int .u64 n) (.slice a2 l2 c2) (.slice a3 l3 c3) (.int .i64 z) := by
  obtain ⟨d0, d1, d2, d3, d4, d5, hvx, e0, e1, e2, e3, e4, e5⟩ := ValsC.at' hv hx
  obtain ⟨k2, t2, n2, a2, l2, c2, a3, l3, c3, z2, ed⟩ := hvx.form
  simp only [List.cons.injEq, and_true] at ed
  obtain ⟨rfl, rfl, rfl, rfl, rfl, rfl⟩ := ed
  have hlt := (List.getElem?_eq_some_iff.1 hx).1
  rcases hr with ⟨h0, -⟩ | ⟨b, o, c, e, -, hbl, hc⟩
  · omega
  injection e with e
  refine ⟨b, o, _, _, _, _, _, _, _, _, _, _, e, hvx, ?_⟩
  have hj : ∀ j u, xs[6 * i + j]? = some u → wr.cell? ⟨b, o + i * 6 + j, none⟩ = some u := fun j u hu => by
    rw [show o + i * 6 + j = o + (6 * i + j) by omega]
    exact (hb.cell (p := ⟨b, _, none⟩) hbl).trans (hc _ _ hu)
  exact ⟨Nat.lt_of_lt_of_le hbl hb.size, hj 0 _ e0, hj 1 _ e1, hj 2 _ e2, hj 3 _ e3, hj 4 _ e4, hj 5 _ e5⟩
theorem keeps_sixC (w : World) (b o : Nat) (c0 c1 c2 c3 c4 c5 : Value) : Keeps (· = b) w (set6 w b o c0 c1 c2 c3 c4 c5) := by
  have k0 : Keeps (· = b) w (w.setCell ⟨b, o, none⟩ c0) := Keeps.setCell (D := (· = b)) (Keeps.refl _ w) (q := ⟨b, o, none⟩) (.inr rfl) c0
  have k1 := k0.setCell (q := ⟨b, o + 1, none⟩) (.inr rfl) c1
  have k2 := k1.setCell (q := ⟨b, o + 2, none⟩) (.inr rfl) c2
  have k3 := k2.setCell (q := ⟨b, o + 3, none⟩) (.inr rfl) c3
  have k4 := k3.setCell (q := ⟨b, o + 4, none⟩) (.inr rfl) c4
  exact k4.setCell (q := ⟨b, o + 5, none⟩) (.inr rfl) c5
/-- Which blocks of the copy stay as they are. -/
def KeptC (n : Nat) (vL : Value) (q : Nat) : Prop := n + 3 ≤ q ∧ vL.ownBlock ≠ some q
/-- On the way through the items. -/
structure CpySt (w0 : World) (k : Int) (t : ByteArray) (u z : Int) (sl sk : Value) (keys : List ByteArray) (vs : List Val) (vL vK : Value) (xs : List Value) (w : World) : Prop where
  src : SixAt w w0.heap.size (.int .i64 k) (.string t) (.int .u64 u) sl sk (.int .i64 z)
  res : SixAt w (w0.heap.size + 1) (.int .i64 0) (.string ⟨#[]⟩) (.int .u64 0) (.slice none 0 0) (.slice none 0 0) (.int .i64 0)
  out : SixAt w (w0.heap.size + 2) (.int .i64 k) (.string t) (.int .u64 u) vL vK (.int .i64 z)
  own : w.ownsRow (w0.heap.size + 3) 27 6 vL vs.length xs
  vals : ValsC (KeptC w0.heap.size vL) w xs vs
  keys : RowIn (KeptC w0.heap.size vL) w vK keys.length (keys.map Value.string)
  below : Below w0.heap.size w0 w
theorem CpySt.step {w0 : World} {k : Int} {t : ByteArray} {u z : Int} {sl sk : Value} {keys : List ByteArray} {vs : List Val} {vL vK : Value} {xs : List Value} {w w' : World} (h : CpySt w0 k t u z sl sk keys vs vL vK xs w) (hb : Below w.heap.size w w') :
    CpySt w0 k t u z sl sk keys vs vL vK xs w' :=
  ⟨h.src.step hb, h.res.step hb, h.out.step hb, own_up h.own hb, h.vals.move hb.size fun q hq hlt => ⟨hq, hb.block q hlt⟩, h.keys.move hb.size fun q hq hlt => ⟨hq, hb.block q hlt⟩, h.below.trans (hb.mono h.below.size)⟩
theorem CpySt.list {w0 : World} {k : Int} {t : ByteArray} {u z : Int} {sl sk : Value} {keys : List ByteArray} {vs : List Val} {vL vK : Value} {xs : List Value} {w : World} (h : CpySt w0 k t u z sl sk keys vs vL vK xs w) : ∃ a c, vL = .slice a vs.length c := by
  rcases h.own.2 with ⟨rfl, h0⟩ | ⟨g, cap, cur, rfl, -⟩
  · exact ⟨none, 0, by rw [h0]⟩
  · exact ⟨_, cap, rfl⟩
theorem CpySt.lt3 {w0 : World} {k : Int} {t : ByteArray} {u z : Int} {sl sk : Value} {keys : List ByteArray} {vs : List Val} {vL vK : Value} {xs : List Value} {w : World} (h : CpySt w0 k t u z sl sk keys vs vL vK xs w) : w0.heap.size + 3 ≤ w.heap.size := h.out.lt
/-- One item more. -/
theorem CpySt.push {w0 : World} {k : Int} {t : ByteArray} {u z : Int} {sl sk : Value} {keys : List ByteArray} {vs : List Val} {vL vK : Value} {xs : List Value} {w w1 : World} {g cap B n : Nat} {cs : List Value} {x : Val} (hn : n = vs.length)
    (h : CpySt w0 k t u z sl sk keys vs vL vK xs w) (hx : ValC (fun q => B ≤ q) w cs x) (hB : w0.heap.size + 3 ≤ B) (hvB : ∀ q, vL.ownBlock = some q → q < B)
    (hown : w1.ownsRow (w0.heap.size + 3) 27 6 (.slice (some ⟨g, 0, none⟩) (n + 1) cap) (n + 1) (xs ++ cs)) (hgrow : w.grownBy w1 vL.ownBlock) (hat : vL.ownBlock = some g ∨ g = w.heap.size) :
    CpySt w0 k t u z sl sk keys (vs ++ [x]) (.slice (some ⟨g, 0, none⟩) (n + 1) cap) vK (xs ++ cs) (w1.setCell ⟨w0.heap.size + 2, 3, none⟩ (.slice (some ⟨g, 0, none⟩) (n + 1) cap)) := by
  subst hn
  have hne : ∀ q, q < w0.heap.size + 3 → vL.ownBlock ≠ some q := fun q hq e => by have := (h.own.lt q e).1; omega
  have hg3 : w0.heap.size + 3 ≤ g := (hown.lt g rfl).1
  have hmv : ∀ q, KeptC w0.heap.size vL q → q < w.heap.size → KeptC w0.heap.size (.slice (some ⟨g, 0, none⟩) (vs.length + 1) cap) q ∧ (w1.setCell ⟨w0.heap.size + 2, 3, none⟩ (.slice (some ⟨g, 0, none⟩) (vs.length + 1) cap)).heap[q]? = w.heap[q]? := by
    rintro q ⟨h1, h2⟩ hlt
    refine ⟨⟨h1, fun e => ?_⟩, ?_⟩
    · have e' : g = q := by injection e
      subst e'
      rcases hat with e | e
      · exact h2 e
      · omega
    · rw [heap_setCell_other _ _ _ _ (by show q ≠ w0.heap.size + 2; omega), hgrow.block q hlt (fun e => h2 e.symm)]
  have hsz : w.heap.size ≤ (w1.setCell ⟨w0.heap.size + 2, 3, none⟩ (.slice (some ⟨g, 0, none⟩) (vs.length + 1) cap)).heap.size := by rw [World.size_setCell]; exact hgrow.size
  refine ⟨?_, ?_, ?_, ?_, ?_, ?_, ?_⟩
  · exact (h.src.grown hgrow (hne _ (by omega))).far (by show w0.heap.size ≠ w0.heap.size + 2; omega) _
  · exact (h.res.grown hgrow (hne _ (by omega))).far (by show w0.heap.size + 1 ≠ w0.heap.size + 2; omega) _
  · exact (h.out.grown hgrow (hne _ (by omega))).put3 _
  · rw [List.length_append, List.length_singleton]
    exact ownsRow_keeps hown (D := (· = w0.heap.size + 2)) (Keeps.setCell (D := (· = w0.heap.size + 2)) (Keeps.refl _ _) (q := ⟨w0.heap.size + 2, 3, none⟩) (.inr rfl) _) (fun q e => by
      have e' : g = q := by injection e
      show q ≠ w0.heap.size + 2
      omega)
  · exact ValsC.snoc (hx.move hsz fun q hq hlt => hmv q ⟨by omega, fun e => by have := hvB q e; omega⟩ hlt) (h.vals.move hsz hmv)
  · exact h.keys.move hsz hmv
  · exact ((h.below.grown hgrow h.below.size (fun q e => by have := (h.own.lt q e).1; omega)).setCell (p := ⟨w0.heap.size + 2, 3, none⟩) (by show w0.heap.size ≤ w0.heap.size + 2; omega) _)


theorem own_slice {w : World} {B : Nat} {e : TypeId} {sz n : Nat} {v : Value} {xs : List Value} (h : w.ownsRow B e sz v n xs) : ∃ a c, v = .slice a n c := by
  rcases h.2 with ⟨rfl, h0⟩ | ⟨g, cap, cur, rfl, -⟩
  · exact ⟨none, 0, by rw [h0]⟩
  · exact ⟨_, cap, rfl⟩
/-- A row of texts, copied. -/
theorem cloneRow_any {P : Nat → Prop} (ks : List ByteArray) (a : Option Addr) (c : Nat) (w : World) (h : RowIn P w (.slice a ks.length c) ks.length (ks.map Value.string)) (hl : ks.length ≤ 1000000) :
    Calls Tryz.prog 70 #[.slice a ks.length c] w fun e w' => ∃ v, e = .returned v ∧ w'.ownsRow w.heap.size 9 1 v ks.length (ks.map Value.string) ∧ Below w.heap.size w w' := by
  rcases h with ⟨h0, h1, a', c', e⟩ | ⟨b, o, c', e, -, hlt, hc⟩
  · have hk : ks = [] := List.eq_nil_of_length_eq_zero h0
    subst hk
    cases a with
    | none =>
      refine (Tryz.slices_Clone_string_nil 0 c w).mono ?_
      rintro e w' ⟨rfl, rfl⟩
      exact ⟨_, rfl, World.ownsRow_nil _ _ _ _, Below.refl _ _⟩
    | some a =>
      refine (Tryz.slices_Clone_string_zero a c w).mono ?_
      rintro e w' ⟨u, rfl, h1, h2, h3⟩
      exact ⟨u, rfl, h1, h3⟩
  · injection e with e1 e2 e3
    subst e1 e3
    refine (Tryz.slices_Clone_string b o ks.length c ks w (Nat.le_refl _) (by omega) (fun j hj => ?_)).mono ?_
    · have := hc j (.string (ks.getD j ByteArray.empty)) (by rw [List.getElem?_map, List.getElem?_eq_getElem hj, List.getD_eq_getElem?_getD, List.getElem?_eq_getElem hj]; rfl)
      exact this
    · rintro e w' ⟨u, rfl, h1, h2, h3⟩
      rw [List.take_length] at h1
      exact ⟨u, rfl, h1, h3⟩
/-- What the copy answers. -/
def CpyOut (w : World) (k : Int) (t : ByteArray) (u z : Int) (x : Val) (e : Ending) (w' : World) : Prop :=
  ∃ (a : Option Addr) (l c : Nat) (a' : Option Addr) (l' c' : Nat), e = .returned (tvV k t u (.slice a l c) (.slice a' l' c') z) ∧
    ValC (fun q => w.heap.size ≤ q) w' [.int .i64 k, .string t, .int .u64 u, .slice a l c, .slice a' l' c', .int .i64 z] x ∧ Below w.heap.size w w'
set_option maxRecDepth 100000 in
set_option maxHeartbeats 8000000 in
theorem copy_go (P : Nat → Prop) : ∀ (m : Nat) (x : Val), SizeOf.sizeOf x < m → vsize x ≤ 1000000000 → fullV x → ∀ (w : World) (k : Int) (t : ByteArray) (u : Int) (a : Option Addr) (l c : Nat) (a' : Option Addr) (l' c' : Nat) (z : Int),
    ValC P w [.int .i64 k, .string t, .int .u64 u, .slice a l c, .slice a' l' c', .int .i64 z] x →
    Calls Tryz.prog 40 #[tvV k t u (.slice a l c) (.slice a' l' c') z] w (CpyOut w k t u z x) := by
  intro m
  induction m with
  | zero => intro x hx; exact absurd hx (Nat.not_lt_zero _)
  | succ m ih =>
    intro x hx hsz hcl w k t u a l c a' l' c' z hv
    have IH := Lib.hid ih
    clear ih
    obtain ⟨i0, hi, hz0, hz1, hz2⟩ := info_parts infoVal
    cases x with
    | mk k1 t1 n1 list keys z1 =>
      rw [fullV] at hcl
      unfold ValC at hv
      obtain ⟨sl, sk', xs, e, hk, hl, hvs⟩ := hv
      simp only [List.cons.injEq, Value.int.injEq, Value.string.injEq, true_and, and_true] at e
      obtain ⟨rfl, rfl, rfl, rfl, rfl, rfl⟩ := e
      have HROW := Lib.hid hl
      have HVS := Lib.hid hvs
      have HK := Lib.hid hk
      obtain ⟨_, _, es⟩ := hl.form
      simp only [Value.slice.injEq] at es
      obtain ⟨-, el, -⟩ := es
      subst el
      obtain ⟨_, _, es⟩ := hk.form
      simp only [Value.slice.injEq] at es
      obtain ⟨-, el, -⟩ := es
      subst el
      have hll : lsize list ≤ 1000000000 := by
        unfold vsize at hsz
        rcases hcl.2.2.1 with h | h | h
        · rw [if_pos (.inl h)] at hsz; omega
        · rw [if_pos (.inr h)] at hsz; omega
        · subst h; rw [lsize]; omega
      have HLL := Lib.hid hll
      have HCL := Lib.hid hcl.2.2.2.2.2
      simp only [Val.mk.sizeOf_spec] at hx
      have HX := Lib.hid hx
      have HFu := Lib.hid hcl
      clear hk hl hvs hx hsz hcl hll
      have h1 := heap_alloc_new w (.cells #[.int .i64 k, .string t, .int .u64 u, .slice a list.length c, .slice a' keys.length c', .int .i64 z] 27)
      have hS1 : SixAt (w.alloc (.cells #[.int .i64 k, .string t, .int .u64 u, .slice a list.length c, .slice a' keys.length c', .int .i64 z] 27)) w.heap.size (.int .i64 k) (.string t) (.int .u64 u) (.slice a list.length c) (.slice a' keys.length c') (.int .i64 z) := h1
      have hb1 := sbelow_new w (.cells #[.int .i64 k, .string t, .int .u64 u, .slice a list.length c, .slice a' keys.length c', .int .i64 z] 27)
      generalize hw1 : w.alloc (.cells #[.int .i64 k, .string t, .int .u64 u, .slice a list.length c, .slice a' keys.length c', .int .i64 z] 27) = w1 at *
      have hz1' : w1.heap.size = w.heap.size + 1 := by rw [← hw1, World.size_alloc]
      have hR1 : SixAt (w1.alloc (.cells #[.int .i64 0, .string ⟨#[]⟩, .int .u64 0, .slice none 0 0, .slice none 0 0, .int .i64 0] 27)) (w.heap.size + 1) (.int .i64 0) (.string ⟨#[]⟩) (.int .u64 0) (.slice none 0 0) (.slice none 0 0) (.int .i64 0) := by
        have := heap_alloc_new w1 (.cells #[.int .i64 0, .string ⟨#[]⟩, .int .u64 0, .slice none 0 0, .slice none 0 0, .int .i64 0] 27)
        rwa [hz1'] at this
      have hb2 := sbelow_new w1 (.cells #[.int .i64 0, .string ⟨#[]⟩, .int .u64 0, .slice none 0 0, .slice none 0 0, .int .i64 0] 27)
      have hS2 := hS1.step hb2
      have hz2' : (w1.alloc (.cells #[.int .i64 0, .string ⟨#[]⟩, .int .u64 0, .slice none 0 0, .slice none 0 0, .int .i64 0] 27)).heap.size = w.heap.size + 2 := by rw [World.size_alloc, hz1']
      have hB2 := hb1.trans (hb2.mono hb1.size)
      generalize hw2 : w1.alloc (.cells #[.int .i64 0, .string ⟨#[]⟩, .int .u64 0, .slice none 0 0, .slice none 0 0, .int .i64 0] 27) = w2 at *
      have hO3 : SixAt (w2.alloc (.cells #[.int .i64 k, .string ⟨#[]⟩, .int .u64 0, .slice none 0 0, .slice none 0 0, .int .i64 z] 27)) (w.heap.size + 2) (.int .i64 k) (.string ⟨#[]⟩) (.int .u64 0) (.slice none 0 0) (.slice none 0 0) (.int .i64 z) := by
        have := heap_alloc_new w2 (.cells #[.int .i64 k, .string ⟨#[]⟩, .int .u64 0, .slice none 0 0, .slice none 0 0, .int .i64 z] 27)
        rwa [hz2'] at this
      have hb3 := sbelow_new w2 (.cells #[.int .i64 k, .string ⟨#[]⟩, .int .u64 0, .slice none 0 0, .slice none 0 0, .int .i64 z] 27)
      have hS3 := hS2.step hb3
      have hR3 := hR1.step hb3
      have hz3' : (w2.alloc (.cells #[.int .i64 k, .string ⟨#[]⟩, .int .u64 0, .slice none 0 0, .slice none 0 0, .int .i64 z] 27)).heap.size = w.heap.size + 3 := by rw [World.size_alloc, hz2']
      have hB3 := hB2.trans (hb3.mono hB2.size)
      generalize hw3 : w2.alloc (.cells #[.int .i64 k, .string ⟨#[]⟩, .int .u64 0, .slice none 0 0, .slice none 0 0, .int .i64 z] 27) = w3 at *
      obtain ⟨p0, p1, p2, p3, p4, p5⟩ := hS2.cells
      obtain ⟨-, -, -, -, q4, -⟩ := hS3.cells
      obtain ⟨-, -, -, -, r4, -⟩ := hO3.cells
      have rf := hO3.fz 4
      have HS3 := Lib.hid hS3
      have HR3 := Lib.hid hR3
      have HO3 := Lib.hid hO3
      have HB3 := Lib.hid hB3
      have HZ3 := Lib.hid hz3'
      have hKl : keys.length ≤ 1000000 := HFu.out.2.2.2.2.1
      have hK3 := HK.out.move (P' := P) hB3.size (fun q hq hlt => ⟨hq, hB3.block q hlt⟩)
      have HK3 := Lib.hid hK3
      have hs1 : w1.heap.size = w.heap.size + 1 := hz1'
      have hs2 : w2.heap.size = w.heap.size + 2 := hz2'
      clear hS1 hS2 hS3 hR1 hR3 hO3 hb1 hb2 hb3 hB2 hB3 h1 hK3
      go_enter Tryz.func40, Tryz.ntmps40
      go_upto_region 2 with (fail)
      clear p0 p1 p2 p3 p4 p5 q4 r4 rf hw1 hw2 hw3 hz1' hz2' hz3' hs1 hs2
      obtain ⟨p0, p1, p2, p3, p4, p5⟩ := HS3.out.cells
      obtain ⟨r0, r1, r2, r3, r4, r5⟩ := HO3.out.cells
      have rf1 := HO3.out.fz 1
      have rf2 := HO3.out.fz 2
      have rf4 := HO3.out.fz 4
      by_cases h3 : k = 3
      · have hk3 : (k == 3) = true := by simpa using h3
        have ht : t = ⟨#[]⟩ := HFu.out.1.resolve_left (by omega)
        have hli : list = [] := (HFu.out.2.2.1.resolve_left (by omega)).resolve_left (by omega)
        have hke : keys = [] := HFu.out.2.2.2.1.resolve_left (by omega)
        have hst : ∃ vL vK ys, CpySt w k t u z (.slice a list.length c) (.slice a' keys.length c') keys list vL vK ys (w3.setCell ⟨w.heap.size + 2, 2, none⟩ (.int .u64 u)) :=
          ⟨.slice none 0 0, .slice none 0 0, [], HS3.out.far (by show w.heap.size ≠ w.heap.size + 2; omega) _, HR3.out.far (by show w.heap.size + 1 ≠ w.heap.size + 2; omega) _, by rw [ht]; exact HO3.out.put2 _, by rw [hli]; exact World.ownsRow_nil _ _ _ _, by rw [hli]; exact ValsC.nil, by rw [hke]; exact RowIn.nil _ _, HB3.out.setCell (p := ⟨w.heap.size + 2, 2, none⟩) (by show w.heap.size ≤ w.heap.size + 2; omega) _⟩
        have HST := Lib.hid hst
        clear h3 ht hli hke hst
        go_upto_region 15 with (fail)
        obtain ⟨vL, vK, ys, hst⟩ := HST.out
        clear HST p0 p1 p2 p3 p4 p5 r0 r1 r2 r3 r4 r5 rf1 rf2 rf4 HS3 HR3 HO3 HB3 HZ3 HK3
        generalize w3.setCell ⟨w.heap.size + 2, 2, none⟩ (.int .u64 u) = wr at *
        obtain ⟨va, vc, rfl⟩ := hst.list
        obtain ⟨s0, s1, s2, s3, s4, s5⟩ := hst.out.cells
        obtain ⟨r0, r1, r2, r3, r4, r5⟩ := hst.res.cells
        have rf := hst.res.fz
        obtain ⟨q0, q1, q2, q3, q4, q5⟩ := (hst.res.set6 (.int .i64 k) (.string t) (.int .u64 u) (.slice va list.length vc) vK (.int .i64 z)).cells
        have hbl : Below w.heap.size w (set6 wr (w.heap.size + 1) 0 (.int .i64 k) (.string t) (.int .u64 u) (.slice va list.length vc) vK (.int .i64 z)) := by
          unfold set6
          exact (((((hst.below.setCell (p := ⟨w.heap.size + 1, 0, none⟩) (Nat.le_succ _) _).setCell (p := ⟨w.heap.size + 1, 0 + 1, none⟩) (Nat.le_succ _) _).setCell (p := ⟨w.heap.size + 1, 0 + 2, none⟩) (Nat.le_succ _) _).setCell (p := ⟨w.heap.size + 1, 0 + 3, none⟩) (Nat.le_succ _) _).setCell (p := ⟨w.heap.size + 1, 0 + 4, none⟩) (Nat.le_succ _) _).setCell (p := ⟨w.heap.size + 1, 0 + 5, none⟩) (Nat.le_succ _) _
        have hk6 : Keeps (· = w.heap.size + 1) wr (set6 wr (w.heap.size + 1) 0 (.int .i64 k) (.string t) (.int .u64 u) (.slice va list.length vc) vK (.int .i64 z)) := by
          exact keeps_sixC wr (w.heap.size + 1) 0 _ _ _ _ _ _
        have hmv : ∀ q, KeptC w.heap.size (.slice va list.length vc) q → q < wr.heap.size → w.heap.size ≤ q ∧ (set6 wr (w.heap.size + 1) 0 (.int .i64 k) (.string t) (.int .u64 u) (.slice va list.length vc) vK (.int .i64 z)).heap[q]? = wr.heap[q]? :=
          fun q hq hlt => ⟨by have := hq.1; omega, hk6.block q hlt (by have := hq.1; omega)⟩
        have hown9 := ownsRow_keeps hst.own hk6 (fun q e => by have := (hst.own.lt q e).1; omega)
        have hval : ValC (fun q => w.heap.size ≤ q) (set6 wr (w.heap.size + 1) 0 (.int .i64 k) (.string t) (.int .u64 u) (.slice va list.length vc) vK (.int .i64 z)) [.int .i64 k, .string t, .int .u64 u, .slice va list.length vc, vK, .int .i64 z] (.mk k t u list keys z) := by
          unfold ValC
          exact ⟨_, _, ys, rfl, hst.keys.move hk6.size hmv, RowIn.of_own' hown9 (fun q e => by have := (hst.own.lt q e).1; omega), hst.vals.move hk6.size hmv⟩
        obtain ⟨ak, ck, rfl⟩ := hst.keys.form
        have HVAL := Lib.hid hval
        have HBL := Lib.hid hbl
        clear hval hbl hk6 hmv hown9 hst
        have rf0 := rf 0
        have rf1 := rf 1
        have rf2 := rf 2
        have rf3 := rf 3
        have rf4 := rf 4
        have rf5 := rf 5
        clear rf
        go_wp2_with fail
        unfold set6 at q0 q1 q2 q3 q4 q5 HVAL HBL
        exact bodyPost_ret (v := .agg #[.int .i64 k, .string t, .int .u64 u, .slice va list.length vc, .slice ak keys.length ck, .int .i64 z]) (by simp [results, Tryz.results40, go_sem, q0, q1, q2, q3, q4, q5]) rfl ⟨_, _, _, _, _, _, rfl, HVAL.out, HBL.out⟩
      by_cases h4 : k = 4
      · have hk3 : (k == 3) = false := by simpa using h3
        have hk4 : (k == 4) = true := by simpa using h4
        have hu : u = 0 := HFu.out.2.1.resolve_left (by omega)
        have hli : list = [] := (HFu.out.2.2.1.resolve_left (by omega)).resolve_left (by omega)
        have hke : keys = [] := HFu.out.2.2.2.1.resolve_left (by omega)
        have hst : ∃ vL vK ys, CpySt w k t u z (.slice a list.length c) (.slice a' keys.length c') keys list vL vK ys (w3.setCell ⟨w.heap.size + 2, 1, none⟩ (.string t)) :=
          ⟨.slice none 0 0, .slice none 0 0, [], HS3.out.far (by show w.heap.size ≠ w.heap.size + 2; omega) _, HR3.out.far (by show w.heap.size + 1 ≠ w.heap.size + 2; omega) _, by rw [hu]; exact HO3.out.put1 _, by rw [hli]; exact World.ownsRow_nil _ _ _ _, by rw [hli]; exact ValsC.nil, by rw [hke]; exact RowIn.nil _ _, HB3.out.setCell (p := ⟨w.heap.size + 2, 1, none⟩) (by show w.heap.size ≤ w.heap.size + 2; omega) _⟩
        have HST := Lib.hid hst
        clear h3 h4 hu hli hke hst
        go_upto_region 15 with (fail)
        obtain ⟨vL, vK, ys, hst⟩ := HST.out
        clear HST p0 p1 p2 p3 p4 p5 r0 r1 r2 r3 r4 r5 rf1 rf2 rf4 HS3 HR3 HO3 HB3 HZ3 HK3
        generalize w3.setCell ⟨w.heap.size + 2, 1, none⟩ (.string t) = wr at *
        obtain ⟨va, vc, rfl⟩ := hst.list
        obtain ⟨s0, s1, s2, s3, s4, s5⟩ := hst.out.cells
        obtain ⟨r0, r1, r2, r3, r4, r5⟩ := hst.res.cells
        have rf := hst.res.fz
        obtain ⟨q0, q1, q2, q3, q4, q5⟩ := (hst.res.set6 (.int .i64 k) (.string t) (.int .u64 u) (.slice va list.length vc) vK (.int .i64 z)).cells
        have hbl : Below w.heap.size w (set6 wr (w.heap.size + 1) 0 (.int .i64 k) (.string t) (.int .u64 u) (.slice va list.length vc) vK (.int .i64 z)) := by
          unfold set6
          exact (((((hst.below.setCell (p := ⟨w.heap.size + 1, 0, none⟩) (Nat.le_succ _) _).setCell (p := ⟨w.heap.size + 1, 0 + 1, none⟩) (Nat.le_succ _) _).setCell (p := ⟨w.heap.size + 1, 0 + 2, none⟩) (Nat.le_succ _) _).setCell (p := ⟨w.heap.size + 1, 0 + 3, none⟩) (Nat.le_succ _) _).setCell (p := ⟨w.heap.size + 1, 0 + 4, none⟩) (Nat.le_succ _) _).setCell (p := ⟨w.heap.size + 1, 0 + 5, none⟩) (Nat.le_succ _) _
        have hk6 : Keeps (· = w.heap.size + 1) wr (set6 wr (w.heap.size + 1) 0 (.int .i64 k) (.string t) (.int .u64 u) (.slice va list.length vc) vK (.int .i64 z)) := by
          exact keeps_sixC wr (w.heap.size + 1) 0 _ _ _ _ _ _
        have hmv : ∀ q, KeptC w.heap.size (.slice va list.length vc) q → q < wr.heap.size → w.heap.size ≤ q ∧ (set6 wr (w.heap.size + 1) 0 (.int .i64 k) (.string t) (.int .u64 u) (.slice va list.length vc) vK (.int .i64 z)).heap[q]? = wr.heap[q]? :=
          fun q hq hlt => ⟨by have := hq.1; omega, hk6.block q hlt (by have := hq.1; omega)⟩
        have hown9 := ownsRow_keeps hst.own hk6 (fun q e => by have := (hst.own.lt q e).1; omega)
        have hval : ValC (fun q => w.heap.size ≤ q) (set6 wr (w.heap.size + 1) 0 (.int .i64 k) (.string t) (.int .u64 u) (.slice va list.length vc) vK (.int .i64 z)) [.int .i64 k, .string t, .int .u64 u, .slice va list.length vc, vK, .int .i64 z] (.mk k t u list keys z) := by
          unfold ValC
          exact ⟨_, _, ys, rfl, hst.keys.move hk6.size hmv, RowIn.of_own' hown9 (fun q e => by have := (hst.own.lt q e).1; omega), hst.vals.move hk6.size hmv⟩
        obtain ⟨ak, ck, rfl⟩ := hst.keys.form
        have HVAL := Lib.hid hval
        have HBL := Lib.hid hbl
        clear hval hbl hk6 hmv hown9 hst
        have rf0 := rf 0
        have rf1 := rf 1
        have rf2 := rf 2
        have rf3 := rf 3
        have rf4 := rf 4
        have rf5 := rf 5
        clear rf
        go_wp2_with fail
        unfold set6 at q0 q1 q2 q3 q4 q5 HVAL HBL
        exact bodyPost_ret (v := .agg #[.int .i64 k, .string t, .int .u64 u, .slice va list.length vc, .slice ak keys.length ck, .int .i64 z]) (by simp [results, Tryz.results40, go_sem, q0, q1, q2, q3, q4, q5]) rfl ⟨_, _, _, _, _, _, rfl, HVAL.out, HBL.out⟩
      have hk3 : (k == 3) = false := by simpa using h3
      have hk4 : (k == 4) = false := by simpa using h4
      have ht : t = ⟨#[]⟩ := HFu.out.1.resolve_left h4
      have hu : u = 0 := HFu.out.2.1.resolve_left h3
      by_cases h56 : k = 5 ∨ k = 6
      · have key : ∀ w4 vK, CpySt w k t u z (.slice a list.length c) (.slice a' keys.length c') keys [] (.slice none 0 0) vK [] w4 → True := fun _ _ _ => trivial
        clear key
        by_cases h6 : k = 6
        · have hk6 : (k == 6) = true := by simpa using h6
          have HCl := Lib.hid (cloneRow_any keys a' c' w3 HK3.out hKl)
          have HTu := Lib.hid (And.intro ht hu)
          clear h3 h4 h56 h6 ht hu
          go_upto_region 10 with (go_at_call 70; refine HCl.out.mono ?_; rintro e wK ⟨vK, rfl, hownK, hbK⟩; obtain ⟨aK, cK, rfl⟩ := own_slice hownK; have rK := (HO3.out.step hbK).cells.2.2.2.2.1; have rfK := (HO3.out.step hbK).fz 4)
          have H0 : Hid (CpySt w k t u z (.slice a list.length c) (.slice a' keys.length c') keys [] (.slice none 0 0) (.slice aK keys.length cK) [] (wK.setCell ⟨w.heap.size + 2, 4, none⟩ (.slice aK keys.length cK))) := Lib.hid
            ⟨(HS3.out.step hbK).far (by show w.heap.size ≠ w.heap.size + 2; omega) _, (HR3.out.step hbK).far (by show w.heap.size + 1 ≠ w.heap.size + 2; omega) _, by rw [HTu.out.1, HTu.out.2]; exact (HO3.out.step hbK).put4 _, World.ownsRow_nil _ _ _ _, ValsC.nil,
              RowIn.of_own' (ownsRow_keeps hownK (D := (· = w.heap.size + 2)) (Keeps.setCell (D := (· = w.heap.size + 2)) (Keeps.refl _ _) (q := ⟨w.heap.size + 2, 4, none⟩) (.inr rfl) _) (fun q e h => by have := (hownK.lt q e).1; have := HZ3.out; omega)) (fun q e => ⟨by have := (hownK.lt q e).1; have := HZ3.out; omega, fun h => by cases h⟩),
              (HB3.out.trans (hbK.mono HB3.out.size)).setCell (p := ⟨w.heap.size + 2, 4, none⟩) (by show w.heap.size ≤ w.heap.size + 2; omega) _⟩
          clear p0 p1 p2 p3 p4 p5 r0 r1 r2 r3 r4 r5 rf1 rf2 rf4 HS3 HR3 HO3 HB3 HZ3 HK3 hownK hbK HCl rK rfK
          generalize wK.setCell ⟨w.heap.size + 2, 4, none⟩ (.slice aK keys.length cK) = w4 at *
          have p3 := H0.out.src.cells.2.2.2.1
          go_wp2_with fail
          clear p3
          go_loopg [34] list.length (fun g v wr => ∃ (i : Nat) (vL vK : Value) (ys : List Value), i ≤ list.length ∧ g = list.length - i ∧ v = .int .i64 i ∧ CpySt w k t u z (.slice a list.length c) (.slice a' keys.length c') keys (list.take i) vL vK ys wr)
          case atStart => exact ⟨0, _, _, _, Nat.zero_le _, by omega, rfl, by rw [List.take_zero]; exact H0.out⟩
          case round =>
            obtain ⟨i, vL, vK, ys, hi', hgk, rfl, hst⟩ := hrel
            have HST := Lib.hid hst
            by_cases hlt : i < list.length
            · obtain ⟨x, hx⟩ : ∃ x, list[i]? = some x := ⟨_, List.getElem?_eq_getElem hlt⟩
              have hle := lsize_le (l := list) (i + 1)
              have htk := lsize_take hx
              have hsx : SizeOf.sizeOf x < m := by have := sizeOf_mem hx; have := HX.out; omega
              have hcx := fullL_at HCL.out hx
              have hvsz : vsize x ≤ 1000000000 := by have := HLL.out; omega
              have htake : list.take (i + 1) = list.take i ++ [x] := by rw [List.take_add_one, hx]; rfl
              have hlen : (list.take i).length = i := by rw [List.length_take]; omega
              obtain ⟨b1, o1, k6, t6, n6, a6, l6, c6, a7, l7, c7, z7, rfl, hvx, hE1⟩ := el_at2 HROW.out HVS.out hx hst.below
              have HC := Lib.hid (fun W (hb : Below w.heap.size w W) => IH.out x hsx hvsz hcx W _ _ _ _ _ _ _ _ _ _ (hvx.step hb))
              have hb5 := sbelow_new wr (.cells #[.int .i64 k6, .string t6, .int .u64 n6, .slice a6 l6 c6, .slice a7 l7 c7, .int .i64 z7] 27)
              have hst5 := hst.step hb5
              have hq5 : wr.heap.size < (wr.alloc (.cells #[.int .i64 k6, .string t6, .int .u64 n6, .slice a6 l6 c6, .slice a7 l7 c7, .int .i64 z7] 27)).heap.size := by simp
              have hS5 : SixAt (wr.alloc (.cells #[.int .i64 k6, .string t6, .int .u64 n6, .slice a6 l6 c6, .slice a7 l7 c7, .int .i64 z7] 27)) wr.heap.size (.int .i64 k6) (.string t6) (.int .u64 n6) (.slice a6 l6 c6) (.slice a7 l7 c7) (.int .i64 z7) := heap_alloc_new _ _
              have hvl : ∀ q, vL.ownBlock = some q → q < wr.heap.size := fun q e => (hst.own.lt q e).2
              obtain ⟨va, vc, rfl⟩ := hst.list
              rw [hlen] at *
              obtain ⟨-, g0, g1, g2, g3, g4, g5⟩ := hE1
              clear hx hle htk hsx hcx hvsz hvx hst hb5
              go_wp2_with fail
              generalize wr.alloc (.cells #[.int .i64 k6, .string t6, .int .u64 n6, .slice a6 l6 c6, .slice a7 l7 c7, .int .i64 z7] 27) = w5 at *
              have hd5 := hst5.step (Below.refl w5.heap.size w5).drew
              have hBW := hd5.below
              refine region_T (fun W' : World => W'.cell? ⟨w.heap.size + 2, 3, none⟩ = some (.slice va i vc) ∧ SixAt W' wr.heap.size (.int .i64 k6) (.string t6) (.int .u64 n6) (.slice a6 l6 c6) (.slice a7 l7 c7) (.int .i64 z7)) 5 (by kernel_rfl) ?_
              have hS0 : (fun W' : World => W'.cell? ⟨w.heap.size + 2, 3, none⟩ = some (.slice va i vc) ∧ SixAt W' wr.heap.size (.int .i64 k6) (.string t6) (.int .u64 n6) (.slice a6 l6 c6) (.slice a7 l7 c7) (.int .i64 z7)) w5.drew := ⟨hd5.out.cells.2.2.2.1, hS5.step (Below.refl w5.heap.size w5).drew⟩
              refine wpT_take (i := 0) (v := .pointer (some ⟨w.heap.size + 2, 3, none⟩)) rfl (by kernel_rfl) (by kernel_rfl) (by kernel_rfl) (by kernel_rfl) (by kernel_rfl) (by kernel_rfl) (by kernel_rfl) (by kernel_rfl) (fun _ _ _ h => h) (Or.inl ⟨by rfl, ?_⟩) hS0 ?_
              · rintro w' -
                go_simp
              try simp only [Act.put]
              refine wpT_take (i := 1) (v := .slice va i vc) rfl (by kernel_rfl) (by kernel_rfl) (by kernel_rfl) (by kernel_rfl) (by kernel_rfl) (by kernel_rfl) (by kernel_rfl) (by kernel_rfl) (fun _ _ _ h => h) (Or.inl ⟨by rfl, ?_⟩) hS0 ?_
              · rintro w' ⟨s0, -⟩
                go_simp
              try simp only [Act.put]
              refine wpT_take (i := 2) (v := .agg #[.int .i64 k6, .string t6, .int .u64 n6, .slice a6 l6 c6, .slice a7 l7 c7, .int .i64 z7]) rfl (by kernel_rfl) (by kernel_rfl) (by kernel_rfl) (by kernel_rfl) (by kernel_rfl) (by kernel_rfl) (by kernel_rfl) (by kernel_rfl) (fun _ _ _ h => h) (Or.inl ⟨by rfl, ?_⟩) hS0 ?_
              · rintro w' ⟨-, s1⟩
                obtain ⟨y0, y1, y2, y3, y4, y5⟩ := s1.cells
                go_simp
              try simp only [Act.put]
              refine wpT_one (i := 3) (by kernel_rfl) rfl ?_
              intro KK hKK
              go_simp
              refine (HC.out _ hBW).mono ?_
              rintro e w6 ⟨aa, la, ca, ab, lb, cb, rfl, hvx6, b6⟩
              have hst6 := hd5.step b6
              have hS6 : (fun W' : World => W'.cell? ⟨w.heap.size + 2, 3, none⟩ = some (.slice va i vc) ∧ SixAt W' wr.heap.size (.int .i64 k6) (.string t6) (.int .u64 n6) (.slice a6 l6 c6) (.slice a7 l7 c7) (.int .i64 z7)) w6 := ⟨hst6.out.cells.2.2.2.1, hS0.2.step b6⟩
              refine hKK _ _ ⟨fun _ => hS6, ?_⟩
              clear hKK
              try simp only [Act.put]
              have hb7 := sbelow_new w6 (.cells #[.int .i64 k6, .string t6, .int .u64 n6, .slice aa la ca, .slice ab lb cb, .int .i64 z7] 27)
              have hst7 := hst6.step hb7
              have hvx7 := hvx6.step hb7
              have hN7 := heap_alloc_new w6 (.cells #[.int .i64 k6, .string t6, .int .u64 n6, .slice aa la ca, .slice ab lb cb, .int .i64 z7] 27)
              have hS7 : (fun W' : World => W'.cell? ⟨w.heap.size + 2, 3, none⟩ = some (.slice va i vc) ∧ SixAt W' wr.heap.size (.int .i64 k6) (.string t6) (.int .u64 n6) (.slice a6 l6 c6) (.slice a7 l7 c7) (.int .i64 z7)) (w6.alloc (.cells #[.int .i64 k6, .string t6, .int .u64 n6, .slice aa la ca, .slice ab lb cb, .int .i64 z7] 27)) := ⟨hst7.out.cells.2.2.2.1, hS6.2.step hb7⟩
              have hz6 : w.heap.size + 3 ≤ (w6.alloc (.cells #[.int .i64 k6, .string t6, .int .u64 n6, .slice aa la ca, .slice ab lb cb, .int .i64 z7] 27)).heap.size := hst7.out.lt
              refine wpT_one (i := 4) (by kernel_rfl) rfl ?_
              intro KK hKK
              go_simp
              refine hKK _ _ ⟨fun _ => hS7, ?_⟩
              clear hKK hS0
              try simp only [Act.put]
              refine wpT_tail 5 3 rfl rfl (by kernel_rfl) (by kernel_rfl) ?_
              have hown7 := hst7.own
              rw [show (list.take i).length = i by rw [List.length_take]; omega] at hown7
              have hil : i ≤ 1000000000 := by have := length_le_lsize list; have := HLL.out; omega
              simp only [List.drop_succ_cons, List.drop_zero]
              refine wpList_append_lies _ rfl _ _ 24 rfl (w.heap.size + 3) 27 i0 (.agg #[.int .i64 0, .string ⟨#[]⟩, .int .u64 0, .slice none 0 0, .slice none 0 0, .int .i64 0]) 6 88 Tryz.underlying24 hi hz0 hz1 hz2 rfl (by decide) _ _ _ rfl hown7 ⟨w6.heap.size, 0, none⟩ 1 1 [.int .i64 k6, .string t6, .int .u64 n6, .slice aa la ca, .slice ab lb cb, .int .i64 z7] rfl rfl (World.news_of_block hN7) ?ones (by decide) ?len ?bytes hz6 _ rfl ?main6
              case ones => intro y hy; simp only [List.mem_cons, List.not_mem_nil, or_false] at hy; rcases hy with rfl | rfl | rfl | rfl | rfl | rfl <;> rfl
              case len => unfold maxLen; omega
              case bytes => omega
              intro g cap w8 hown8 hgrow8 hat8 hlt8
              have hst8 := hst7.push (n := i) (by rw [List.length_take]; omega) hvx7 hst5.lt3 (fun q e => Nat.lt_trans (hvl q e) hq5) hown8 hgrow8 hat8
              have hrow : (Value.slice va i vc).ownBlock ≠ some (w.heap.size + 2) := fun e => by have := (hown7.lt _ e).1; omega
              have d3 := (hst7.out.grown hgrow8 hrow).cells.2.2.2.1
              have df := (hst7.out.grown hgrow8 hrow).fz 3
              clear hown8 hgrow8 hat8 hlt8 hst7 hst6 hd5 hst5 hvx7 hvx6 hS7 hS6 hS5 hN7 hown7 hb7 hrow
              have HST8 := Lib.hid hst8
              clear hst8
              go_wp2_with fail
              go_roundg (list.length - (i + 1))
              case measure => omega
              case rel => exact ⟨i + 1, _, _, _, by omega, rfl, rfl, by rw [htake]; exact HST8.out⟩
            · obtain rfl : i = list.length := by omega
              rw [List.take_length] at hst
              obtain ⟨va, vc, rfl⟩ := hst.list
              obtain ⟨s0, s1, s2, s3, s4, s5⟩ := hst.out.cells
              obtain ⟨r0, r1, r2, r3, r4, r5⟩ := hst.res.cells
              have rf := hst.res.fz
              obtain ⟨q0, q1, q2, q3, q4, q5⟩ := (hst.res.set6 (.int .i64 k) (.string t) (.int .u64 u) (.slice va list.length vc) vK (.int .i64 z)).cells
              have hbl : Below w.heap.size w (set6 wr (w.heap.size + 1) 0 (.int .i64 k) (.string t) (.int .u64 u) (.slice va list.length vc) vK (.int .i64 z)) := by
                unfold set6
                exact (((((hst.below.setCell (p := ⟨w.heap.size + 1, 0, none⟩) (Nat.le_succ _) _).setCell (p := ⟨w.heap.size + 1, 0 + 1, none⟩) (Nat.le_succ _) _).setCell (p := ⟨w.heap.size + 1, 0 + 2, none⟩) (Nat.le_succ _) _).setCell (p := ⟨w.heap.size + 1, 0 + 3, none⟩) (Nat.le_succ _) _).setCell (p := ⟨w.heap.size + 1, 0 + 4, none⟩) (Nat.le_succ _) _).setCell (p := ⟨w.heap.size + 1, 0 + 5, none⟩) (Nat.le_succ _) _
              have hk6 : Keeps (· = w.heap.size + 1) wr (set6 wr (w.heap.size + 1) 0 (.int .i64 k) (.string t) (.int .u64 u) (.slice va list.length vc) vK (.int .i64 z)) := by
                exact keeps_sixC wr (w.heap.size + 1) 0 _ _ _ _ _ _
              have hmv : ∀ q, KeptC w.heap.size (.slice va list.length vc) q → q < wr.heap.size → w.heap.size ≤ q ∧ (set6 wr (w.heap.size + 1) 0 (.int .i64 k) (.string t) (.int .u64 u) (.slice va list.length vc) vK (.int .i64 z)).heap[q]? = wr.heap[q]? :=
                fun q hq hlt => ⟨by have := hq.1; omega, hk6.block q hlt (by have := hq.1; omega)⟩
              have hown9 := ownsRow_keeps hst.own hk6 (fun q e => by have := (hst.own.lt q e).1; omega)
              have hval : ValC (fun q => w.heap.size ≤ q) (set6 wr (w.heap.size + 1) 0 (.int .i64 k) (.string t) (.int .u64 u) (.slice va list.length vc) vK (.int .i64 z)) [.int .i64 k, .string t, .int .u64 u, .slice va list.length vc, vK, .int .i64 z] (.mk k t u list keys z) := by
                unfold ValC
                exact ⟨_, _, ys, rfl, hst.keys.move hk6.size hmv, RowIn.of_own' hown9 (fun q e => by have := (hst.own.lt q e).1; omega), hst.vals.move hk6.size hmv⟩
              obtain ⟨ak, ck, rfl⟩ := hst.keys.form
              have HVAL := Lib.hid hval
              have HBL := Lib.hid hbl
              clear hval hbl hk6 hmv hown9 hst
              have rf0 := rf 0
              have rf1 := rf 1
              have rf2 := rf 2
              have rf3 := rf 3
              have rf4 := rf 4
              have rf5 := rf 5
              clear rf
              go_wp2_with fail
              unfold set6 at q0 q1 q2 q3 q4 q5 HVAL HBL
              exact bodyPost_ret (v := .agg #[.int .i64 k, .string t, .int .u64 u, .slice va list.length vc, .slice ak keys.length ck, .int .i64 z]) (by simp [results, Tryz.results40, go_sem, q0, q1, q2, q3, q4, q5]) rfl ⟨_, _, _, _, _, _, rfl, HVAL.out, HBL.out⟩
        · have hk6 : (k == 6) = false := by simpa using h6
          have hk5 : (k == 5) = true := by simpa using h56.resolve_right h6
          have hke : keys = [] := HFu.out.2.2.2.1.resolve_left h6
          have H0 : Hid (CpySt w k t u z (.slice a list.length c) (.slice a' keys.length c') keys [] (.slice none 0 0) (.slice none 0 0) [] w3) := Lib.hid
            ⟨HS3.out, HR3.out, by rw [ht, hu]; exact HO3.out, World.ownsRow_nil _ _ _ _, ValsC.nil, by rw [hke]; exact RowIn.nil _ _, HB3.out⟩
          clear h3 h4 h56 h6 ht hu hke r0 r1 r2 r3 r4 r5 rf1 rf2 rf4 HS3 HR3 HO3 HB3 HZ3 HK3
          go_wp2_with fail
          clear p0 p1 p2 p3 p4 p5
          go_loopg [34] list.length (fun g v wr => ∃ (i : Nat) (vL vK : Value) (ys : List Value), i ≤ list.length ∧ g = list.length - i ∧ v = .int .i64 i ∧ CpySt w k t u z (.slice a list.length c) (.slice a' keys.length c') keys (list.take i) vL vK ys wr)
          case atStart => exact ⟨0, _, _, _, Nat.zero_le _, by omega, rfl, by rw [List.take_zero]; exact H0.out⟩
          case round =>
            obtain ⟨i, vL, vK, ys, hi', hgk, rfl, hst⟩ := hrel
            have HST := Lib.hid hst
            by_cases hlt : i < list.length
            · obtain ⟨x, hx⟩ : ∃ x, list[i]? = some x := ⟨_, List.getElem?_eq_getElem hlt⟩
              have hle := lsize_le (l := list) (i + 1)
              have htk := lsize_take hx
              have hsx : SizeOf.sizeOf x < m := by have := sizeOf_mem hx; have := HX.out; omega
              have hcx := fullL_at HCL.out hx
              have hvsz : vsize x ≤ 1000000000 := by have := HLL.out; omega
              have htake : list.take (i + 1) = list.take i ++ [x] := by rw [List.take_add_one, hx]; rfl
              have hlen : (list.take i).length = i := by rw [List.length_take]; omega
              obtain ⟨b1, o1, k6, t6, n6, a6, l6, c6, a7, l7, c7, z7, rfl, hvx, hE1⟩ := el_at2 HROW.out HVS.out hx hst.below
              have HC := Lib.hid (fun W (hb : Below w.heap.size w W) => IH.out x hsx hvsz hcx W _ _ _ _ _ _ _ _ _ _ (hvx.step hb))
              have hb5 := sbelow_new wr (.cells #[.int .i64 k6, .string t6, .int .u64 n6, .slice a6 l6 c6, .slice a7 l7 c7, .int .i64 z7] 27)
              have hst5 := hst.step hb5
              have hq5 : wr.heap.size < (wr.alloc (.cells #[.int .i64 k6, .string t6, .int .u64 n6, .slice a6 l6 c6, .slice a7 l7 c7, .int .i64 z7] 27)).heap.size := by simp
              have hS5 : SixAt (wr.alloc (.cells #[.int .i64 k6, .string t6, .int .u64 n6, .slice a6 l6 c6, .slice a7 l7 c7, .int .i64 z7] 27)) wr.heap.size (.int .i64 k6) (.string t6) (.int .u64 n6) (.slice a6 l6 c6) (.slice a7 l7 c7) (.int .i64 z7) := heap_alloc_new _ _
              have hvl : ∀ q, vL.ownBlock = some q → q < wr.heap.size := fun q e => (hst.own.lt q e).2
              obtain ⟨va, vc, rfl⟩ := hst.list
              rw [hlen] at *
              obtain ⟨-, g0, g1, g2, g3, g4, g5⟩ := hE1
              clear hx hle htk hsx hcx hvsz hvx hst hb5
              go_wp2_with fail
              generalize wr.alloc (.cells #[.int .i64 k6, .string t6, .int .u64 n6, .slice a6 l6 c6, .slice a7 l7 c7, .int .i64 z7] 27) = w5 at *
              have hd5 := hst5.step (Below.refl w5.heap.size w5).drew
              have hBW := hd5.below
              refine region_T (fun W' : World => W'.cell? ⟨w.heap.size + 2, 3, none⟩ = some (.slice va i vc) ∧ SixAt W' wr.heap.size (.int .i64 k6) (.string t6) (.int .u64 n6) (.slice a6 l6 c6) (.slice a7 l7 c7) (.int .i64 z7)) 5 (by kernel_rfl) ?_
              have hS0 : (fun W' : World => W'.cell? ⟨w.heap.size + 2, 3, none⟩ = some (.slice va i vc) ∧ SixAt W' wr.heap.size (.int .i64 k6) (.string t6) (.int .u64 n6) (.slice a6 l6 c6) (.slice a7 l7 c7) (.int .i64 z7)) w5.drew := ⟨hd5.out.cells.2.2.2.1, hS5.step (Below.refl w5.heap.size w5).drew⟩
              refine wpT_take (i := 0) (v := .pointer (some ⟨w.heap.size + 2, 3, none⟩)) rfl (by kernel_rfl) (by kernel_rfl) (by kernel_rfl) (by kernel_rfl) (by kernel_rfl) (by kernel_rfl) (by kernel_rfl) (by kernel_rfl) (fun _ _ _ h => h) (Or.inl ⟨by rfl, ?_⟩) hS0 ?_
              · rintro w' -
                go_simp
              try simp only [Act.put]
              refine wpT_take (i := 1) (v := .slice va i vc) rfl (by kernel_rfl) (by kernel_rfl) (by kernel_rfl) (by kernel_rfl) (by kernel_rfl) (by kernel_rfl) (by kernel_rfl) (by kernel_rfl) (fun _ _ _ h => h) (Or.inl ⟨by rfl, ?_⟩) hS0 ?_
              · rintro w' ⟨s0, -⟩
                go_simp
              try simp only [Act.put]
              refine wpT_take (i := 2) (v := .agg #[.int .i64 k6, .string t6, .int .u64 n6, .slice a6 l6 c6, .slice a7 l7 c7, .int .i64 z7]) rfl (by kernel_rfl) (by kernel_rfl) (by kernel_rfl) (by kernel_rfl) (by kernel_rfl) (by kernel_rfl) (by kernel_rfl) (by kernel_rfl) (fun _ _ _ h => h) (Or.inl ⟨by rfl, ?_⟩) hS0 ?_
              · rintro w' ⟨-, s1⟩
                obtain ⟨y0, y1, y2, y3, y4, y5⟩ := s1.cells
                go_simp
              try simp only [Act.put]
              refine wpT_one (i := 3) (by kernel_rfl) rfl ?_
              intro KK hKK
              go_simp
              refine (HC.out _ hBW).mono ?_
              rintro e w6 ⟨aa, la, ca, ab, lb, cb, rfl, hvx6, b6⟩
              have hst6 := hd5.step b6
              have hS6 : (fun W' : World => W'.cell? ⟨w.heap.size + 2, 3, none⟩ = some (.slice va i vc) ∧ SixAt W' wr.heap.size (.int .i64 k6) (.string t6) (.int .u64 n6) (.slice a6 l6 c6) (.slice a7 l7 c7) (.int .i64 z7)) w6 := ⟨hst6.out.cells.2.2.2.1, hS0.2.step b6⟩
              refine hKK _ _ ⟨fun _ => hS6, ?_⟩
              clear hKK
              try simp only [Act.put]
              have hb7 := sbelow_new w6 (.cells #[.int .i64 k6, .string t6, .int .u64 n6, .slice aa la ca, .slice ab lb cb, .int .i64 z7] 27)
              have hst7 := hst6.step hb7
              have hvx7 := hvx6.step hb7
              have hN7 := heap_alloc_new w6 (.cells #[.int .i64 k6, .string t6, .int .u64 n6, .slice aa la ca, .slice ab lb cb, .int .i64 z7] 27)
              have hS7 : (fun W' : World => W'.cell? ⟨w.heap.size + 2, 3, none⟩ = some (.slice va i vc) ∧ SixAt W' wr.heap.size (.int .i64 k6) (.string t6) (.int .u64 n6) (.slice a6 l6 c6) (.slice a7 l7 c7) (.int .i64 z7)) (w6.alloc (.cells #[.int .i64 k6, .string t6, .int .u64 n6, .slice aa la ca, .slice ab lb cb, .int .i64 z7] 27)) := ⟨hst7.out.cells.2.2.2.1, hS6.2.step hb7⟩
              have hz6 : w.heap.size + 3 ≤ (w6.alloc (.cells #[.int .i64 k6, .string t6, .int .u64 n6, .slice aa la ca, .slice ab lb cb, .int .i64 z7] 27)).heap.size := hst7.out.lt
              refine wpT_one (i := 4) (by kernel_rfl) rfl ?_
              intro KK hKK
              go_simp
              refine hKK _ _ ⟨fun _ => hS7, ?_⟩
              clear hKK hS0
              try simp only [Act.put]
              refine wpT_tail 5 3 rfl rfl (by kernel_rfl) (by kernel_rfl) ?_
              have hown7 := hst7.own
              rw [show (list.take i).length = i by rw [List.length_take]; omega] at hown7
              have hil : i ≤ 1000000000 := by have := length_le_lsize list; have := HLL.out; omega
              simp only [List.drop_succ_cons, List.drop_zero]
              refine wpList_append_lies _ rfl _ _ 24 rfl (w.heap.size + 3) 27 i0 (.agg #[.int .i64 0, .string ⟨#[]⟩, .int .u64 0, .slice none 0 0, .slice none 0 0, .int .i64 0]) 6 88 Tryz.underlying24 hi hz0 hz1 hz2 rfl (by decide) _ _ _ rfl hown7 ⟨w6.heap.size, 0, none⟩ 1 1 [.int .i64 k6, .string t6, .int .u64 n6, .slice aa la ca, .slice ab lb cb, .int .i64 z7] rfl rfl (World.news_of_block hN7) ?ones2 (by decide) ?len2 ?bytes2 hz6 _ rfl ?main62
              case ones2 => intro y hy; simp only [List.mem_cons, List.not_mem_nil, or_false] at hy; rcases hy with rfl | rfl | rfl | rfl | rfl | rfl <;> rfl
              case len2 => unfold maxLen; omega
              case bytes2 => omega
              intro g cap w8 hown8 hgrow8 hat8 hlt8
              have hst8 := hst7.push (n := i) (by rw [List.length_take]; omega) hvx7 hst5.lt3 (fun q e => Nat.lt_trans (hvl q e) hq5) hown8 hgrow8 hat8
              have hrow : (Value.slice va i vc).ownBlock ≠ some (w.heap.size + 2) := fun e => by have := (hown7.lt _ e).1; omega
              have d3 := (hst7.out.grown hgrow8 hrow).cells.2.2.2.1
              have df := (hst7.out.grown hgrow8 hrow).fz 3
              clear hown8 hgrow8 hat8 hlt8 hst7 hst6 hd5 hst5 hvx7 hvx6 hS7 hS6 hS5 hN7 hown7 hb7 hrow
              have HST8 := Lib.hid hst8
              clear hst8
              go_wp2_with fail
              go_roundg (list.length - (i + 1))
              case measure => omega
              case rel => exact ⟨i + 1, _, _, _, by omega, rfl, rfl, by rw [htake]; exact HST8.out⟩
            · obtain rfl : i = list.length := by omega
              rw [List.take_length] at hst
              obtain ⟨va, vc, rfl⟩ := hst.list
              obtain ⟨s0, s1, s2, s3, s4, s5⟩ := hst.out.cells
              obtain ⟨r0, r1, r2, r3, r4, r5⟩ := hst.res.cells
              have rf := hst.res.fz
              obtain ⟨q0, q1, q2, q3, q4, q5⟩ := (hst.res.set6 (.int .i64 k) (.string t) (.int .u64 u) (.slice va list.length vc) vK (.int .i64 z)).cells
              have hbl : Below w.heap.size w (set6 wr (w.heap.size + 1) 0 (.int .i64 k) (.string t) (.int .u64 u) (.slice va list.length vc) vK (.int .i64 z)) := by
                unfold set6
                exact (((((hst.below.setCell (p := ⟨w.heap.size + 1, 0, none⟩) (Nat.le_succ _) _).setCell (p := ⟨w.heap.size + 1, 0 + 1, none⟩) (Nat.le_succ _) _).setCell (p := ⟨w.heap.size + 1, 0 + 2, none⟩) (Nat.le_succ _) _).setCell (p := ⟨w.heap.size + 1, 0 + 3, none⟩) (Nat.le_succ _) _).setCell (p := ⟨w.heap.size + 1, 0 + 4, none⟩) (Nat.le_succ _) _).setCell (p := ⟨w.heap.size + 1, 0 + 5, none⟩) (Nat.le_succ _) _
              have hk6 : Keeps (· = w.heap.size + 1) wr (set6 wr (w.heap.size + 1) 0 (.int .i64 k) (.string t) (.int .u64 u) (.slice va list.length vc) vK (.int .i64 z)) := by
                exact keeps_sixC wr (w.heap.size + 1) 0 _ _ _ _ _ _
              have hmv : ∀ q, KeptC w.heap.size (.slice va list.length vc) q → q < wr.heap.size → w.heap.size ≤ q ∧ (set6 wr (w.heap.size + 1) 0 (.int .i64 k) (.string t) (.int .u64 u) (.slice va list.length vc) vK (.int .i64 z)).heap[q]? = wr.heap[q]? :=
                fun q hq hlt => ⟨by have := hq.1; omega, hk6.block q hlt (by have := hq.1; omega)⟩
              have hown9 := ownsRow_keeps hst.own hk6 (fun q e => by have := (hst.own.lt q e).1; omega)
              have hval : ValC (fun q => w.heap.size ≤ q) (set6 wr (w.heap.size + 1) 0 (.int .i64 k) (.string t) (.int .u64 u) (.slice va list.length vc) vK (.int .i64 z)) [.int .i64 k, .string t, .int .u64 u, .slice va list.length vc, vK, .int .i64 z] (.mk k t u list keys z) := by
                unfold ValC
                exact ⟨_, _, ys, rfl, hst.keys.move hk6.size hmv, RowIn.of_own' hown9 (fun q e => by have := (hst.own.lt q e).1; omega), hst.vals.move hk6.size hmv⟩
              obtain ⟨ak, ck, rfl⟩ := hst.keys.form
              have HVAL := Lib.hid hval
              have HBL := Lib.hid hbl
              clear hval hbl hk6 hmv hown9 hst
              have rf0 := rf 0
              have rf1 := rf 1
              have rf2 := rf 2
              have rf3 := rf 3
              have rf4 := rf 4
              have rf5 := rf 5
              clear rf
              go_wp2_with fail
              unfold set6 at q0 q1 q2 q3 q4 q5 HVAL HBL
              exact bodyPost_ret (v := .agg #[.int .i64 k, .string t, .int .u64 u, .slice va list.length vc, .slice ak keys.length ck, .int .i64 z]) (by simp [results, Tryz.results40, go_sem, q0, q1, q2, q3, q4, q5]) rfl ⟨_, _, _, _, _, _, rfl, HVAL.out, HBL.out⟩
      · have hk6 : (k == 6) = false := by simp; omega
        have hk5 : (k == 5) = false := by simp; omega
        have hli : list = [] := (HFu.out.2.2.1.resolve_left (by omega)).resolve_left (by omega)
        have hke : keys = [] := HFu.out.2.2.2.1.resolve_left (by omega)
        have hst : ∃ vL vK ys, CpySt w k t u z (.slice a list.length c) (.slice a' keys.length c') keys list vL vK ys w3 :=
          ⟨.slice none 0 0, .slice none 0 0, [], HS3.out, HR3.out, by rw [ht, hu]; exact HO3.out, by rw [hli]; exact World.ownsRow_nil _ _ _ _, by rw [hli]; exact ValsC.nil, by rw [hke]; exact RowIn.nil _ _, HB3.out⟩
        have HST := Lib.hid hst
        clear h3 h4 h56 ht hu hli hke hst
        go_upto_region 15 with (fail)
        obtain ⟨vL, vK, ys, hst⟩ := HST.out
        clear HST p0 p1 p2 p3 p4 p5 r0 r1 r2 r3 r4 r5 rf1 rf2 rf4 HS3 HR3 HO3 HB3 HZ3 HK3
        generalize hwr : w3 = wr at *
        clear hwr
        obtain ⟨va, vc, rfl⟩ := hst.list
        obtain ⟨s0, s1, s2, s3, s4, s5⟩ := hst.out.cells
        obtain ⟨r0, r1, r2, r3, r4, r5⟩ := hst.res.cells
        have rf := hst.res.fz
        obtain ⟨q0, q1, q2, q3, q4, q5⟩ := (hst.res.set6 (.int .i64 k) (.string t) (.int .u64 u) (.slice va list.length vc) vK (.int .i64 z)).cells
        have hbl : Below w.heap.size w (set6 wr (w.heap.size + 1) 0 (.int .i64 k) (.string t) (.int .u64 u) (.slice va list.length vc) vK (.int .i64 z)) := by
          unfold set6
          exact (((((hst.below.setCell (p := ⟨w.heap.size + 1, 0, none⟩) (Nat.le_succ _) _).setCell (p := ⟨w.heap.size + 1, 0 + 1, none⟩) (Nat.le_succ _) _).setCell (p := ⟨w.heap.size + 1, 0 + 2, none⟩) (Nat.le_succ _) _).setCell (p := ⟨w.heap.size + 1, 0 + 3, none⟩) (Nat.le_succ _) _).setCell (p := ⟨w.heap.size + 1, 0 + 4, none⟩) (Nat.le_succ _) _).setCell (p := ⟨w.heap.size + 1, 0 + 5, none⟩) (Nat.le_succ _) _
        have hk6 : Keeps (· = w.heap.size + 1) wr (set6 wr (w.heap.size + 1) 0 (.int .i64 k) (.string t) (.int .u64 u) (.slice va list.length vc) vK (.int .i64 z)) := by
          exact keeps_sixC wr (w.heap.size + 1) 0 _ _ _ _ _ _
        have hmv : ∀ q, KeptC w.heap.size (.slice va list.length vc) q → q < wr.heap.size → w.heap.size ≤ q ∧ (set6 wr (w.heap.size + 1) 0 (.int .i64 k) (.string t) (.int .u64 u) (.slice va list.length vc) vK (.int .i64 z)).heap[q]? = wr.heap[q]? :=
          fun q hq hlt => ⟨by have := hq.1; omega, hk6.block q hlt (by have := hq.1; omega)⟩
        have hown9 := ownsRow_keeps hst.own hk6 (fun q e => by have := (hst.own.lt q e).1; omega)
        have hval : ValC (fun q => w.heap.size ≤ q) (set6 wr (w.heap.size + 1) 0 (.int .i64 k) (.string t) (.int .u64 u) (.slice va list.length vc) vK (.int .i64 z)) [.int .i64 k, .string t, .int .u64 u, .slice va list.length vc, vK, .int .i64 z] (.mk k t u list keys z) := by
          unfold ValC
          exact ⟨_, _, ys, rfl, hst.keys.move hk6.size hmv, RowIn.of_own' hown9 (fun q e => by have := (hst.own.lt q e).1; omega), hst.vals.move hk6.size hmv⟩
        obtain ⟨ak, ck, rfl⟩ := hst.keys.form
        have HVAL := Lib.hid hval
        have HBL := Lib.hid hbl
        clear hval hbl hk6 hmv hown9 hst
        have rf0 := rf 0
        have rf1 := rf 1
        have rf2 := rf 2
        have rf3 := rf 3
        have rf4 := rf 4
        have rf5 := rf 5
        clear rf
        go_wp2_with fail
        unfold set6 at q0 q1 q2 q3 q4 q5 HVAL HBL
        exact bodyPost_ret (v := .agg #[.int .i64 k, .string t, .int .u64 u, .slice va list.length vc, .slice ak keys.length ck, .int .i64 z]) (by simp [results, Tryz.results40, go_sem, q0, q1, q2, q3, q4, q5]) rfl ⟨_, _, _, _, _, _, rfl, HVAL.out, HBL.out⟩
end Go.Proofs.YtajmlkephefapaaGreatDoor
