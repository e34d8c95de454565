/-
  The document's own reader of values by contracts: what is known while a row of values is read.
  The document's own reader of values by contracts: what stands between brackets.
  The document's own reader of values by contracts: what stands at a place, within so many.
-/
import Derived.Test.YtajmlkephefapaaGreatDoorGra
import Derived.Test.YtajmlkephefapaaGreatDoorTreeU2
import Derived.Test.YtajmlkephefapaaGreatDoorGnb
namespace Go.Proofs.YtajmlkephefapaaGreatDoor
open Go.RowKit Go.Extern.Stop Go.Stop Go.Extern Go.WideMaps

/-- Which blocks of what was read stay as they are. -/
def KpM (q : Nat) (vL vK : Value) (r : Nat) : Prop := q + 1 ≤ r ∧ vL.ownBlock ≠ some r ∧ vK.ownBlock ≠ some r
structure MnSt (w0 : World) (b q : Nat) (s : ByteArray) (p : Nat) (c : Int) (k z : Int) (vs : List Val) (ks : List ByteArray) (vL vK : Value) (xs : List Value) (w : World) : Prop where
  rd : Tn w b s p c
  box : SixR w q (.int .i64 k) (.string ⟨#[]⟩) (.int .u64 0) vL vK (.int .i64 z)
  own : w.ownsRow (q + 1) 34 6 vL vs.length xs
  vals : ValsC (KpM q vL vK) w xs vs
  kown : w.ownsRow (q + 1) 9 1 vK ks.length (ks.map Value.string)
  ord : b < w0.heap.size ∧ w0.heap.size ≤ q
  kp : Keeps (· = b) w0 w
section
variable {w0 w w' : World} {b q : Nat} {s : ByteArray} {p p' : Nat} {c c' : Int} {k z : Int} {vs : List Val} {ks : List ByteArray} {vL vK : Value} {xs : List Value}
theorem MnSt.go (h : MnSt w0 b q s p c k z vs ks vL vK xs w) (hr : Tn w' b s p' c') (hk : Keeps (· = b) w w') : MnSt w0 b q s p' c' k z vs ks vL vK xs w' :=
  ⟨hr, (hk.block q h.box.lt (by have := h.ord; omega)).trans h.box, ownsRow_keeps h.own hk (fun r e => by have := (h.own.lt r e).1; have := h.ord; show r ≠ b; omega), h.vals.move hk.size (fun r hr' hlt => ⟨hr', hk.block r hlt (by have := hr'.1; have := h.ord; show ¬ r = b; omega)⟩),
    ownsRow_keeps h.kown hk (fun r e => by have := (h.kown.lt r e).1; have := h.ord; show r ≠ b; omega), h.ord, h.kp.trans hk⟩
theorem MnSt.step (h : MnSt w0 b q s p c k z vs ks vL vK xs w) (hb : Below w.heap.size w w') : MnSt w0 b q s p c k z vs ks vL vK xs w' := h.go (h.rd.step hb) (Keeps.of_below hb)
theorem MnSt.lists (h : MnSt w0 b q s p c k z vs ks vL vK xs w) : ∃ a l a' l', vL = .slice a vs.length l ∧ vK = .slice a' ks.length l' := by
  obtain ⟨a, l, e⟩ := own_slice h.own
  obtain ⟨a', l', e'⟩ := own_slice h.kown
  exact ⟨a, l, a', l', e, e'⟩
theorem MnSt.neL (h : MnSt w0 b q s p c k z vs ks vL vK xs w) {r : Nat} (hr : r ≤ q) : vL.ownBlock ≠ some r := fun e => by have := (h.own.lt r e).1; omega
theorem MnSt.neK (h : MnSt w0 b q s p c k z vs ks vL vK xs w) {r : Nat} (hr : r ≤ q) : vK.ownBlock ≠ some r := fun e => by have := (h.kown.lt r e).1; omega
/-- A key more. -/
theorem MnSt.pushK {w6 : World} {g cap n : Nat} {key : ByteArray} (h : MnSt w0 b q s p c k z vs ks vL vK xs w) (hn : n = ks.length)
    (hown : w6.ownsRow (q + 1) 9 1 (.slice (some ⟨g, 0, none⟩) (n + 1) cap) (n + 1) (ks.map Value.string ++ [.string key])) (hgrow : w.grownBy w6 vK.ownBlock) (hat : vK.ownBlock = some g ∨ g = w.heap.size) :
    MnSt w0 b q s p c k z vs (ks ++ [key]) vL (.slice (some ⟨g, 0, none⟩) (n + 1) cap) xs (w6.setCell ⟨q, 4, none⟩ (.slice (some ⟨g, 0, none⟩) (n + 1) cap)) := by
  subst hn
  have ho := h.ord
  have kD : Keeps (fun r => vK.ownBlock = some r) w w6 := .of_grown hgrow (fun r e => e)
  have k2 : Keeps (· = q) w6 (w6.setCell ⟨q, 4, none⟩ (.slice (some ⟨g, 0, none⟩) (ks.length + 1) cap)) := keepsT w6 q 4 _
  have hg := (hown.lt g rfl).1
  have kAll : Keeps (fun r => r = q ∨ vK.ownBlock = some r) w (w6.setCell ⟨q, 4, none⟩ (.slice (some ⟨g, 0, none⟩) (ks.length + 1) cap)) := (kD.mono fun r e => .inr e).trans (k2.mono fun r e => .inl e)
  refine ⟨h.rd.keeps kAll (fun e => e.elim (fun e => by omega) (fun e => h.neK (by omega) e)), (h.box.grown hgrow (h.neK (Nat.le_refl q))).put4 _, ?_, ?_, ?_, ho, ?_⟩
  · exact ownsRow_keeps h.own kAll (fun r e e' => e'.elim (fun e' => by have := (h.own.lt r e).1; omega) (fun e' => rows_ne h.own h.kown (by decide) r e e'))
  · refine h.vals.move kAll.size (fun r hr hlt => ⟨⟨hr.1, hr.2.1, fun e => ?_⟩, kAll.block r hlt (fun e => e.elim (fun e => by have := hr.1; omega) (fun e => hr.2.2 e))⟩)
    have e' : g = r := by injection e
    subst e'
    rcases hat with e | e
    · exact hr.2.2 e
    · omega
  · rw [List.length_append, List.length_singleton, List.map_append]
    exact ownsRow_keeps hown k2 (fun r e => by have e' : g = r := by injection e
                                               show r ≠ q; omega)
  · exact ((h.kp.mono fun r e => .inl e).trans (kAll.mono fun r e => .inr (e.elim (fun e => by show w0.heap.size ≤ r; omega) (fun e => by have := (h.kown.lt r e).1; show w0.heap.size ≤ r; omega)))).row
/-- A value more. -/
theorem MnSt.pushV {w6 : World} {g cap n : Nat} {z0 z1 z2 z3 z4 z5 c0 c1 c2 c3 c4 c5 : Value} {x : Val} {P : Nat → Prop} (h : MnSt w0 b q s p c k z vs ks vL vK xs w) (hn : n = vs.length)
    (hown : w6.ownsRow (q + 1) 34 6 (.slice (some ⟨g, 0, none⟩) (n + 1) cap) (n + 1) (xs ++ [z0, z1, z2, z3, z4, z5])) (hgrow : w.grownBy w6 vL.ownBlock) (hat : vL.ownBlock = some g ∨ g = w.heap.size)
    (hx : ValC P w [c0, c1, c2, c3, c4, c5] x) (hP : ∀ r, P r → r < w.heap.size → KpM q vL vK r) :
    MnSt w0 b q s p c k z (vs ++ [x]) ks (.slice (some ⟨g, 0, none⟩) (n + 1) cap) vK (xs ++ [c0, c1, c2, c3, c4, c5]) ((set6 w6 g (n * 6) c0 c1 c2 c3 c4 c5).setCell ⟨q, 3, none⟩ (.slice (some ⟨g, 0, none⟩) (n + 1) cap)) := by
  subst hn
  have ho := h.ord
  have hxl : vs.length * 6 = xs.length := h.own.1.symm
  obtain ⟨o6, k6⟩ := own_set6 hown (vs.length * 6) hxl c0 c1 c2 c3 c4 c5
  have kD : Keeps (fun r => vL.ownBlock = some r) w w6 := .of_grown hgrow (fun r e => e)
  have k2 : Keeps (· = q) (set6 w6 g (vs.length * 6) c0 c1 c2 c3 c4 c5) ((set6 w6 g (vs.length * 6) c0 c1 c2 c3 c4 c5).setCell ⟨q, 3, none⟩ (.slice (some ⟨g, 0, none⟩) (vs.length + 1) cap)) := keepsT _ q 3 _
  have hg := (hown.lt g rfl).1
  have hgw : ∀ r, r < w.heap.size → r = g → vL.ownBlock = some r := fun r hr e => by
    subst e
    rcases hat with e | e
    · exact e
    · omega
  have kAll : Keeps (fun r => r = q ∨ vL.ownBlock = some r) w ((set6 w6 g (vs.length * 6) c0 c1 c2 c3 c4 c5).setCell ⟨q, 3, none⟩ (.slice (some ⟨g, 0, none⟩) (vs.length + 1) cap)) := by
    have k3 : Keeps (fun r => r = g ∨ r = q) w6 ((set6 w6 g (vs.length * 6) c0 c1 c2 c3 c4 c5).setCell ⟨q, 3, none⟩ (.slice (some ⟨g, 0, none⟩) (vs.length + 1) cap)) := (k6.mono fun r e => .inl e).trans (k2.mono fun r e => .inr e)
    refine ⟨k3.os.trans kD.os, k3.tape.trans kD.tape, k3.output.trans kD.output, Nat.le_trans kD.size k3.size, fun r hr hD => ?_⟩
    rw [k3.block r (Nat.lt_of_lt_of_le hr kD.size) (fun e => e.elim (fun e => hD (.inr (hgw r hr e))) (fun e => hD (.inl e))), kD.block r hr (fun e => hD (.inr e))]
  have hmv : ∀ r, KpM q vL vK r → r < w.heap.size → KpM q (.slice (some ⟨g, 0, none⟩) (vs.length + 1) cap) vK r ∧ ((set6 w6 g (vs.length * 6) c0 c1 c2 c3 c4 c5).setCell ⟨q, 3, none⟩ (.slice (some ⟨g, 0, none⟩) (vs.length + 1) cap)).heap[r]? = w.heap[r]? := fun r hr hlt =>
    ⟨⟨hr.1, fun e => by have e' : g = r := by injection e
                        exact hr.2.1 (hgw r hlt e'.symm), hr.2.2⟩, kAll.block r hlt (fun e => e.elim (fun e => by have := hr.1; omega) (fun e => hr.2.1 e))⟩
  have hgq : ∀ r, r ≤ q → r ≠ g := fun r hr => by omega
  refine ⟨h.rd.keeps kAll (fun e => e.elim (fun e => by omega) (fun e => h.neL (by omega) e)), ?_, ?_, ?_, ?_, ho, ?_⟩
  · have h1 := h.box.grown hgrow (h.neL (Nat.le_refl q))
    have h2 : SixR (set6 w6 g (vs.length * 6) c0 c1 c2 c3 c4 c5) q (.int .i64 k) (.string ⟨#[]⟩) (.int .u64 0) vL vK (.int .i64 z) := (k6.block q h1.lt (hgq q (Nat.le_refl _))).trans h1
    exact h2.put3 _
  · rw [List.length_append, List.length_singleton]
    exact ownsRow_keeps o6 k2 (fun r e => by have e' : g = r := by injection e
                                             show r ≠ q; omega)
  · exact ValsC.snoc (hx.move kAll.size fun r hr hlt => hmv r (hP r hr hlt) hlt) (h.vals.move kAll.size hmv)
  · exact ownsRow_keeps h.kown kAll (fun r e e' => e'.elim (fun e' => by have := (h.kown.lt r e).1; omega) (fun e' => rows_ne h.own h.kown (by decide) r e' e))
  · exact ((h.kp.mono fun r e => .inl e).trans (kAll.mono fun r e => .inr (e.elim (fun e => by show w0.heap.size ≤ r; omega) (fun e => by have := (h.own.lt r e).1; show w0.heap.size ≤ r; omega)))).row
end
end Go.Proofs.YtajmlkephefapaaGreatDoor

namespace Go.Proofs.YtajmlkephefapaaGreatDoor
open Go.RowKit Go.Extern.Stop Go.Stop Go.Extern Go.WideMaps

/-- What a value's call answers. -/
def T5vOut (b : Nat) (s : ByteArray) (w : World) : Out → Ending → World → Prop
  | .ok j x, e, w' => ∃ (k : Int) (t : ByteArray) (n : Int) (a : Option Addr) (l c : Nat) (a' : Option Addr) (l' c' : Nat) (z : Int), e = .returned (.agg #[.int .i64 k, .string t, .int .u64 n, .slice a l c, .slice a' l' c', .int .i64 z]) ∧
    ValC (fun r => w.heap.size ≤ r) w' [.int .i64 k, .string t, .int .u64 n, .slice a l c, .slice a' l' c', .int .i64 z] x ∧ Tn w' b s j 0 ∧ Keeps (· = b) w w'
  | .er ec ea, e, w' => ∃ (k : Int) (t : ByteArray) (n : Int) (a : Option Addr) (l c : Nat) (a' : Option Addr) (l' c' : Nat) (z : Int), e = .returned (.agg #[.int .i64 k, .string t, .int .u64 n, .slice a l c, .slice a' l' c', .int .i64 z]) ∧
    ec ≠ 0 ∧ Tn w' b s ea ec ∧ Keeps (· = b) w w'
def T5Spec (s : ByteArray) (d : Nat) : Prop := ∀ (k : Nat) (o : Out), V s d k o → k ≤ s.size → ∀ (w : World) (b : Nat), Tn w b s k 0 → Calls Tryz.prog 33 #[.pointer (some ⟨b, 0, none⟩), .int .i64 d] w (T5vOut b s w o)
/-- What the brackets' call answers. -/
def T5mOut (w0 : World) (b q : Nat) (s : ByteArray) (kd z : Int) (ob : Bool) : Outs → Ending → World → Prop
  | .ok j vs ks, e, w' => e = .returned (.tuple #[]) ∧ ∃ vL vK xs, MnSt w0 b q s j 0 kd z vs (cond ob ks []) vL vK xs w'
  | .er c a, e, w' => e = .returned (.tuple #[]) ∧ c ≠ 0 ∧ ∃ vs ks vL vK xs, MnSt w0 b q s a c kd z vs ks vL vK xs w'
/-- What is behind an item. -/
def Cont (s : ByteArray) (d : Nat) (br : Int) (ks : List ByteArray) (key : ByteArray) (o : Outs) : Out → Prop
  | .er c a => o = .er c a
  | .ok j v => (byteI s (sk s j) = shutI br ∧ o = .ok (sk s j + 1) [v] [key]) ∨ (byteI s (sk s j) ≠ shutI br ∧ byteI s (sk s j) ≠ 44 ∧ o = .er (missC s (sk s j)) (sk s j)) ∨
    (byteI s (sk s j) ≠ shutI br ∧ byteI s (sk s j) = 44 ∧ ∃ o', I s d br (sk s (sk s j + 1)) (ks ++ [key]) o' ∧ o = o'.cons v key)
theorem I.split {s : ByteArray} {d : Nat} {br : Int} {p : Nat} {ks : List ByteArray} {o : Outs} (h : I s d br p ks o) :
    (∃ c a, keyR s br p ks = .er c a ∧ o = .er c a) ∨ ∃ q key ov, keyR s br p ks = .ok q key ∧ V s d q ov ∧ Cont s d br ks key o ov := by
  cases h with
  | key _ _ _ _ c a h0 => exact .inl ⟨c, a, h0, rfl⟩
  | val _ _ _ _ q key c a h0 hV => exact .inr ⟨q, key, _, h0, hV, rfl⟩
  | last _ _ _ _ q key j v h0 hV h1 => exact .inr ⟨q, key, _, h0, hV, .inl ⟨h1, rfl⟩⟩
  | sep _ _ _ _ q key j v h0 hV h1 h2 => exact .inr ⟨q, key, _, h0, hV, .inr (.inl ⟨h1, h2, rfl⟩)⟩
  | more _ _ _ _ q key j v o' h0 hV h1 hI => exact .inr ⟨q, key, _, h0, hV, .inr (.inr ⟨fun e => shutI_ne br (e.symm.trans h1), h1, o', hI, rfl⟩)⟩
/-- On the way through the items. -/
def MnRel (w0 : World) (b q : Nat) (s : ByteArray) (d : Nat) (br kd z : Int) (ob : Bool) (R : Outs) (g : Nat) (wr : World) : Prop :=
  (∃ p vs ks o vL vK xs, R = o.pre vs ks ∧ I s (d + 1) br p ks o ∧ p ≤ s.size ∧ g = s.size - p + 1 ∧ vs.length ≤ p ∧ ks.length ≤ p ∧ MnSt w0 b q s p 0 kd z vs (cond ob ks []) vL vK xs wr) ∨
  (∃ c a vs ks vL vK xs, R = .er c a ∧ c ≠ 0 ∧ g = 0 ∧ MnSt w0 b q s a c kd z vs ks vL vK xs wr)
theorem infoRValT : (Tryz.prog.info? 34).map (fun i => (i.zero, i.size, i.bytes)) = some (some (.agg #[.int .i64 0, .string ⟨#[]⟩, .int .u64 0, .slice none 0 0, .slice none 0 0, .int .i64 0]), 6, 88) := infoRVal
set_option maxRecDepth 100000 in
set_option maxHeartbeats 1000000 in
theorem t5many_deep (s : ByteArray) (b q k d : Nat) (en : Int) (hd : 64 ≤ d) (hd2 : d ≤ 100) (w : World) (h : Tn w b s k 0) :
    Calls Tryz.prog 67 #[.pointer (some ⟨b, 0, none⟩), .pointer (some ⟨q, 0, none⟩), .int .i64 d, .int .u8 en] w fun e w' => e = .returned (.tuple #[]) ∧ Tn w' b s k 8 ∧ Keeps (· = b) w w' := by
  have HF := Lib.hid (t5fail_yes s k b 8 w h)
  have hdi : (64 : Int) ≤ (d : Int) := by omega
  clear h
  go_enter Tryz.func67, Tryz.ntmps67
  go_wp2_with fail
  refine HF.out.mono ?_
  rintro e w1 ⟨rfl, hr, hk⟩
  go_wp2_with fail
  refine bodyPost_ret (results_none rfl _ _ _) rfl ?_
  exact ⟨rfl, hr, hk⟩

theorem set6_farT (w : World) (g o q i : Nat) (c0 c1 c2 c3 c4 c5 v : Value) (h : g ≠ q) : set6 (w.setCell ⟨q, i, none⟩ v) g o c0 c1 c2 c3 c4 c5 = (set6 w g o c0 c1 c2 c3 c4 c5).setCell ⟨q, i, none⟩ v := by
  unfold set6
  rw [setCell_comm w ⟨q, i, none⟩ ⟨g, o, none⟩ _ _ (Ne.symm h), setCell_comm _ ⟨q, i, none⟩ ⟨g, o + 1, none⟩ _ _ (Ne.symm h), setCell_comm _ ⟨q, i, none⟩ ⟨g, o + 2, none⟩ _ _ (Ne.symm h),
    setCell_comm _ ⟨q, i, none⟩ ⟨g, o + 3, none⟩ _ _ (Ne.symm h), setCell_comm _ ⟨q, i, none⟩ ⟨g, o + 4, none⟩ _ _ (Ne.symm h), setCell_comm _ ⟨q, i, none⟩ ⟨g, o + 5, none⟩ _ _ (Ne.symm h)]

/-! ### A value's call -/
/-- On the way through a value: what it answers, its box, the reader. -/
structure VlSt (w0 : World) (b : Nat) (s : ByteArray) (p : Nat) (c : Int) (c0 c1 c2 c3 c4 c5 : Value) (w : World) : Prop where
  rd : Tn w b s p c
  res : SixR w w0.heap.size (.int .i64 0) (.string ⟨#[]⟩) (.int .u64 0) (.slice none 0 0) (.slice none 0 0) (.int .i64 0)
  box : SixR w (w0.heap.size + 1) c0 c1 c2 c3 c4 c5
  ord : b < w0.heap.size
  kp : Keeps (· = b) (w0.alloc (.cells #[.int .i64 0, .string ⟨#[]⟩, .int .u64 0, .slice none 0 0, .slice none 0 0, .int .i64 0] 34)) w
section
variable {w0 w w' : World} {b : Nat} {s : ByteArray} {p p' : Nat} {c c' : Int} {c0 c1 c2 c3 c4 c5 : Value}
theorem VlSt.go (h : VlSt w0 b s p c c0 c1 c2 c3 c4 c5 w) (hr : Tn w' b s p' c') (hk : Keeps (· = b) w w') : VlSt w0 b s p' c' c0 c1 c2 c3 c4 c5 w' :=
  ⟨hr, (hk.block _ h.res.lt (by have := h.ord; omega)).trans h.res, (hk.block _ h.box.lt (by have := h.ord; omega)).trans h.box, h.ord, h.kp.trans hk⟩
theorem VlSt.step (h : VlSt w0 b s p c c0 c1 c2 c3 c4 c5 w) (hb : Below w.heap.size w w') : VlSt w0 b s p c c0 c1 c2 c3 c4 c5 w' := h.go (h.rd.step hb) (Keeps.of_below hb)
/-- What is handed back lies in the first box. -/
theorem VlSt.fin (h : VlSt w0 b s p c c0 c1 c2 c3 c4 c5 w) : Tn (set6 w w0.heap.size 0 c0 c1 c2 c3 c4 c5) b s p c ∧ Keeps (· = b) w0 (set6 w w0.heap.size 0 c0 c1 c2 c3 c4 c5) ∧ Keeps (· = w0.heap.size) w (set6 w w0.heap.size 0 c0 c1 c2 c3 c4 c5) ∧
    SixR (set6 w w0.heap.size 0 c0 c1 c2 c3 c4 c5) w0.heap.size c0 c1 c2 c3 c4 c5 := by
  have k6 := keeps_set6 w w0.heap.size 0 c0 c1 c2 c3 c4 c5
  have ho := h.ord
  exact ⟨h.rd.keeps k6 (by omega), ((((Keeps.of_below (sbelow_new w0 _)).trans h.kp).mono fun r e => .inl e).trans (k6.mono fun r e => .inr (by show w0.heap.size ≤ r; omega))).row, k6, h.res.set6 _ _ _ _ _ _⟩
theorem VlSt.new (w : World) (b : Nat) (s : ByteArray) (p : Nat) (c z : Int) (h : Tn w b s p c) :
    VlSt w b s p c (.int .i64 0) (.string ⟨#[]⟩) (.int .u64 0) (.slice none 0 0) (.slice none 0 0) (.int .i64 z) ((w.alloc (.cells #[.int .i64 0, .string ⟨#[]⟩, .int .u64 0, .slice none 0 0, .slice none 0 0, .int .i64 0] 34)).alloc (.cells #[.int .i64 0, .string ⟨#[]⟩, .int .u64 0, .slice none 0 0, .slice none 0 0, .int .i64 z] 34)) := by
  have b1 := sbelow_new w (.cells #[.int .i64 0, .string ⟨#[]⟩, .int .u64 0, .slice none 0 0, .slice none 0 0, .int .i64 0] 34)
  have b2 := sbelow_new (w.alloc (.cells #[.int .i64 0, .string ⟨#[]⟩, .int .u64 0, .slice none 0 0, .slice none 0 0, .int .i64 0] 34)) (.cells #[.int .i64 0, .string ⟨#[]⟩, .int .u64 0, .slice none 0 0, .slice none 0 0, .int .i64 z] 34)
  have n1 : SixR _ w.heap.size _ _ _ _ _ _ := heap_alloc_new w (.cells #[.int .i64 0, .string ⟨#[]⟩, .int .u64 0, .slice none 0 0, .slice none 0 0, .int .i64 0] 34)
  have n2 : SixR ((w.alloc (.cells #[.int .i64 0, .string ⟨#[]⟩, .int .u64 0, .slice none 0 0, .slice none 0 0, .int .i64 0] 34)).alloc (.cells #[.int .i64 0, .string ⟨#[]⟩, .int .u64 0, .slice none 0 0, .slice none 0 0, .int .i64 z] 34)) (w.heap.size + 1) (.int .i64 0) (.string ⟨#[]⟩) (.int .u64 0) (.slice none 0 0) (.slice none 0 0) (.int .i64 z) := by
    have := heap_alloc_new (w.alloc (.cells #[.int .i64 0, .string ⟨#[]⟩, .int .u64 0, .slice none 0 0, .slice none 0 0, .int .i64 0] 34)) (.cells #[.int .i64 0, .string ⟨#[]⟩, .int .u64 0, .slice none 0 0, .slice none 0 0, .int .i64 z] 34)
    rwa [World.size_alloc] at this
  exact ⟨(h.step b1).step b2, n1.step b2, n2, h.lt, Keeps.of_below b2⟩
end
set_option maxRecDepth 100000 in
set_option maxHeartbeats 2000000 in
theorem t5value_idle (s : ByteArray) (b a : Nat) (c d : Int) (hc : c ≠ 0) (w : World) (h : Tn w b s a c) :
    Calls Tryz.prog 33 #[.pointer (some ⟨b, 0, none⟩), .int .i64 d] w fun e w' => e = .returned (.agg #[.int .i64 0, .string ⟨#[]⟩, .int .u64 0, .slice none 0 0, .slice none 0 0, .int .i64 a]) ∧ Tn w' b s a c ∧ Keeps (· = b) w w' := by
  have H1 := Lib.hid (VlSt.new w b s a c a h)
  have hb1 := h.step (sbelow_new w (.cells #[.int .i64 0, .string ⟨#[]⟩, .int .u64 0, .slice none 0 0, .slice none 0 0, .int .i64 0] 34))
  obtain ⟨c0, c1, c2⟩ := hb1.cells
  have hne : (c != 0) = true := bne_iff_ne.2 hc
  clear h hc hb1
  go_enter Tryz.func33, Tryz.ntmps33
  go_upto_region 2 with (fail)
  generalize (w.alloc (.cells #[.int .i64 0, .string ⟨#[]⟩, .int .u64 0, .slice none 0 0, .slice none 0 0, .int .i64 0] 34)).alloc (.cells #[.int .i64 0, .string ⟨#[]⟩, .int .u64 0, .slice none 0 0, .slice none 0 0, .int .i64 a] 34) = w1 at *
  clear c0 c1 c2
  obtain ⟨c0, c1, c2⟩ := H1.out.rd.cells
  obtain ⟨x0, x1, x2, x3, x4, x5⟩ := H1.out.box.cells
  obtain ⟨r0, r1, r2, r3, r4, r5⟩ := H1.out.res.cells
  have rf0 := H1.out.res.fz 0
  have rf1 := H1.out.res.fz 1
  have rf2 := H1.out.res.fz 2
  have rf3 := H1.out.res.fz 3
  have rf4 := H1.out.res.fz 4
  have rf5 := H1.out.res.fz 5
  obtain ⟨hF1, hF2, hF3, hF4⟩ := H1.out.fin
  obtain ⟨q0, q1, q2, q3, q4, q5⟩ := hF4.cells
  have HF1 := Lib.hid hF1
  have HF2 := Lib.hid hF2
  have HF3 := Lib.hid hF3
  clear hF1 hF2 hF3 hF4
  unfold set6 at q0 q1 q2 q3 q4 q5 HF1 HF2 HF3
  go_wp2_with fail
  refine bodyPost_ret (v := .agg #[.int .i64 0, .string ⟨#[]⟩, .int .u64 0, .slice none 0 0, .slice none 0 0, .int .i64 a]) (by simp [results, Tryz.results33, go_sem, q0, q1, q2, q3, q4, q5]) rfl ?_
  exact ⟨rfl, HF1.out, HF2.out⟩
end Go.Proofs.YtajmlkephefapaaGreatDoor

namespace Go.Proofs.YtajmlkephefapaaGreatDoor
open Go.RowKit Go.Extern.Stop Go.Stop Go.Extern Go.WideMaps

set_option maxRecDepth 100000 in
set_option maxHeartbeats 1000000 in
theorem rdig5_any (n : Int) (w : World) : Calls Tryz.prog 64 #[.int .u8 n] w fun e w' => e = .returned (.bool (decide (48 ≤ n) && decide (n ≤ 57))) ∧ w' = w := by
  by_cases h1 : (48 : Int) ≤ n
  · by_cases h2 : n ≤ 57
    · rw [decide_eq_true h1, decide_eq_true h2]
      go_enter Tryz.func64, Tryz.ntmps64
      go_wp2_with fail
      go_ret
      exact ⟨rfl, rfl⟩
    · rw [decide_eq_true h1, decide_eq_false h2]
      go_enter Tryz.func64, Tryz.ntmps64
      go_wp2_with fail
      go_ret
      exact ⟨rfl, rfl⟩
  · rw [decide_eq_false h1]
    go_enter Tryz.func64, Tryz.ntmps64
    go_wp2_with fail
    go_ret
    exact ⟨rfl, rfl⟩
theorem leaf_ok {b : Nat} {s : ByteArray} {w W' : World} {j : Nat} {K n z : Int} {t : ByteArray} (hT : Tn W' b s j 0) (hK : Keeps (· = b) w W') :
    T5vOut b s w (.ok j (.mk K t n [] [] z)) (.returned (.agg #[.int .i64 K, .string t, .int .u64 n, .slice none 0 0, .slice none 0 0, .int .i64 z])) W' :=
  ⟨_, _, _, _, _, _, _, _, _, _, rfl, by unfold ValC; exact ⟨_, _, [], rfl, RowIn.nil _ _, RowIn.nil _ _, ValsC.nil⟩, hT, hK⟩
theorem leaf_er {b : Nat} {s : ByteArray} {w W' : World} {a : Nat} {c K n z : Int} {t : ByteArray} {a1 : Option Addr} {l1 c1 : Nat} {a2 : Option Addr} {l2 c2 : Nat} (h0 : c ≠ 0) (hT : Tn W' b s a c) (hK : Keeps (· = b) w W') :
    T5vOut b s w (.er c a) (.returned (.agg #[.int .i64 K, .string t, .int .u64 n, .slice a1 l1 c1, .slice a2 l2 c2, .int .i64 z])) W' :=
  ⟨_, _, _, _, _, _, _, _, _, _, rfl, h0, hT, hK⟩
theorem numK_bad {s : ByteArray} {k : Nat} (h : numC s k ≠ 0) : numK s k = k ∧ numN s k = 0 := by
  unfold numC at h
  unfold numK numN
  by_cases h1 : runTo isDig s k = k
  · rw [if_pos h1, if_pos h1]; exact ⟨rfl, rfl⟩
  · rw [if_neg h1] at h
    rw [if_neg h1, if_neg h1, if_neg h, if_neg h]; exact ⟨rfl, rfl⟩
theorem numC_no {s : ByteArray} {k : Nat} (h : isDig (byteI s k) = false) : numC s k = missC s k := by
  unfold numC
  by_cases hlt : k < s.size
  · rw [if_pos (runTo_stop hlt (by rw [byteI_lt hlt] at h; exact h))]
  · rw [if_pos (runTo_end (by omega))]
section
variable {w w' : World} {b : Nat} {c0 c1 c2 c3 c4 c5 : Value}
theorem SixR.put0 (h : SixR w b c0 c1 c2 c3 c4 c5) (u : Value) : SixR (w.setCell ⟨b, 0, none⟩ u) b u c1 c2 c3 c4 c5 := heap_setCell_same w b 0 _ _ u h
theorem SixR.put1 (h : SixR w b c0 c1 c2 c3 c4 c5) (u : Value) : SixR (w.setCell ⟨b, 1, none⟩ u) b c0 u c2 c3 c4 c5 := heap_setCell_same w b 1 _ _ u h
theorem SixR.put2 (h : SixR w b c0 c1 c2 c3 c4 c5) (u : Value) : SixR (w.setCell ⟨b, 2, none⟩ u) b c0 c1 u c3 c4 c5 := heap_setCell_same w b 2 _ _ u h
end
section
variable {w0 w w' : World} {b : Nat} {s : ByteArray} {p : Nat} {c : Int} {c0 c1 c2 c3 c4 c5 : Value}
theorem VlSt.put (h : VlSt w0 b s p c c0 c1 c2 c3 c4 c5 w) {d0 d1 d2 d3 d4 d5 : Value} (i : Nat) (u : Value) (hb : SixR (w.setCell ⟨w0.heap.size + 1, i, none⟩ u) (w0.heap.size + 1) d0 d1 d2 d3 d4 d5) : VlSt w0 b s p c d0 d1 d2 d3 d4 d5 (w.setCell ⟨w0.heap.size + 1, i, none⟩ u) := by
  have ho := h.ord
  have k1 : Keeps (· = w0.heap.size + 1) w (w.setCell ⟨w0.heap.size + 1, i, none⟩ u) := keepsT w _ i u
  exact ⟨h.rd.keeps k1 (by omega), (k1.block _ h.res.lt (by omega)).trans h.res, hb, ho, ((h.kp.mono fun r e => .inl e).trans (k1.mono fun r e => .inr (by rw [World.size_alloc]; omega))).row⟩
end

set_option maxRecDepth 100000 in
set_option maxHeartbeats 8000000 in
theorem t5v_null (s : ByteArray) (hs : s.size ≤ 100000) (b k : Nat) (d : Int) (o : Out) (hk : k ≤ s.size) (hb : byteI s k = 110) (hleaf : o = wordO s k 0 [110, 117, 108, 108]) (w : World) (h : Tn w b s k 0) :
    Calls Tryz.prog 33 #[.pointer (some ⟨b, 0, none⟩), .int .i64 d] w (T5vOut b s w o) := by
  have H := Lib.hid (VlSt.new w b s k 0 k h)
  have HIS := Lib.hid (fun k c d hd hk W (h : Tn W b s k c) => t5is_any s k b c d hd hk W h)
  have hb1 := h.step (sbelow_new w (.cells #[.int .i64 0, .string ⟨#[]⟩, .int .u64 0, .slice none 0 0, .slice none 0 0, .int .i64 0] 34))
  obtain ⟨c0, c1, c2⟩ := hb1.cells
  clear hb1
  have HW := Lib.hid (fun W (h : Tn W b s k 0) => t5word_any s b k [110, 117, 108, 108] (by decide) (by decide) hs hk W h)
  have HOUT : Hid (∀ W', Tn W' b s (wordR s k [110, 117, 108, 108]).1 (wordR s k [110, 117, 108, 108]).2 → Keeps (· = b) w W' → T5vOut b s w o (.returned (.agg #[.int .i64 0, .string ⟨#[]⟩, .int .u64 0, .slice none 0 0, .slice none 0 0, .int .i64 k])) W') := Lib.hid (by
    intro W' hT hK
    rw [hleaf]
    unfold wordO
    by_cases h0 : (wordR s k [110, 117, 108, 108]).2 = 0
    · rw [if_pos h0]
      rw [h0] at hT
      exact leaf_ok hT hK
    · rw [if_neg h0]
      exact leaf_er h0 hT hK)
  clear hleaf
  generalize wordR s k [110, 117, 108, 108] = WR at *
  have n110 := decide_eq_true hb
  clear hb h
  go_enter Tryz.func33, Tryz.ntmps33
  go_upto_region 2 with (fail)
  generalize (w.alloc (.cells #[.int .i64 0, .string ⟨#[]⟩, .int .u64 0, .slice none 0 0, .slice none 0 0, .int .i64 0] 34)).alloc (.cells #[.int .i64 0, .string ⟨#[]⟩, .int .u64 0, .slice none 0 0, .slice none 0 0, .int .i64 k] 34) = w1 at *
  clear c0 c1 c2
  obtain ⟨c0, c1, c2⟩ := H.out.rd.cells
  go_wp2_with fail
  refine (HIS.out k 0 110 (by decide) hk _ H.out.rd).mono ?_
  rintro e w2 ⟨rfl, bx⟩
  have hn := H.out.step bx
  clear bx H c0 c1 c2
  have H := Lib.hid hn
  obtain ⟨c0, c1, c2⟩ := hn.rd.cells
  clear hn
  rw [n110]
  go_wp2_with fail
  refine (HW.out _ H.out.rd).mono ?_
  rintro e w9 ⟨rfl, hr9, hk9⟩
  have H9 := Lib.hid (H.out.go hr9 hk9)
  clear hr9 hk9 HW
  obtain ⟨x0, x1, x2, x3, x4, x5⟩ := H9.out.box.cells
  obtain ⟨r0, r1, r2, r3, r4, r5⟩ := H9.out.res.cells
  have rf0 := H9.out.res.fz 0
  have rf1 := H9.out.res.fz 1
  have rf2 := H9.out.res.fz 2
  have rf3 := H9.out.res.fz 3
  have rf4 := H9.out.res.fz 4
  have rf5 := H9.out.res.fz 5
  obtain ⟨hF1, hF2, hF3, hF4⟩ := H9.out.fin
  obtain ⟨q0, q1, q2, q3, q4, q5⟩ := hF4.cells
  have HF1 := Lib.hid hF1
  have HF2 := Lib.hid hF2
  have HF3 := Lib.hid hF3
  clear hF1 hF2 hF3 hF4
  unfold set6 at q0 q1 q2 q3 q4 q5 HF1 HF2 HF3
  go_wp2_with fail
  refine bodyPost_ret (v := .agg #[.int .i64 0, .string ⟨#[]⟩, .int .u64 0, .slice none 0 0, .slice none 0 0, .int .i64 k]) (by simp [results, Tryz.results33, go_sem, q0, q1, q2, q3, q4, q5]) rfl ?_
  exact HOUT.out _ HF1.out HF2.out
set_option maxRecDepth 100000 in
set_option maxHeartbeats 8000000 in
theorem t5v_false (s : ByteArray) (hs : s.size ≤ 100000) (b k : Nat) (d : Int) (o : Out) (hk : k ≤ s.size) (hb : byteI s k = 102) (hleaf : o = wordO s k 1 [102, 97, 108, 115, 101]) (w : World) (h : Tn w b s k 0) :
    Calls Tryz.prog 33 #[.pointer (some ⟨b, 0, none⟩), .int .i64 d] w (T5vOut b s w o) := by
  have H := Lib.hid (VlSt.new w b s k 0 k h)
  have HIS := Lib.hid (fun k c d hd hk W (h : Tn W b s k c) => t5is_any s k b c d hd hk W h)
  have hb1 := h.step (sbelow_new w (.cells #[.int .i64 0, .string ⟨#[]⟩, .int .u64 0, .slice none 0 0, .slice none 0 0, .int .i64 0] 34))
  obtain ⟨c0, c1, c2⟩ := hb1.cells
  clear hb1
  have HW := Lib.hid (fun W (h : Tn W b s k 0) => t5word_any s b k [102, 97, 108, 115, 101] (by decide) (by decide) hs hk W h)
  have HOUT : Hid (∀ W', Tn W' b s (wordR s k [102, 97, 108, 115, 101]).1 (wordR s k [102, 97, 108, 115, 101]).2 → Keeps (· = b) w W' → T5vOut b s w o (.returned (.agg #[.int .i64 1, .string ⟨#[]⟩, .int .u64 0, .slice none 0 0, .slice none 0 0, .int .i64 k])) W') := Lib.hid (by
    intro W' hT hK
    rw [hleaf]
    unfold wordO
    by_cases h0 : (wordR s k [102, 97, 108, 115, 101]).2 = 0
    · rw [if_pos h0]
      rw [h0] at hT
      exact leaf_ok hT hK
    · rw [if_neg h0]
      exact leaf_er h0 hT hK)
  clear hleaf
  generalize wordR s k [102, 97, 108, 115, 101] = WR at *
  have n110 : decide (byteI s k = 110) = false := by rw [hb]; rfl
  have n102 : decide (byteI s k = 102) = true := by rw [hb]; rfl
  clear hb h
  go_enter Tryz.func33, Tryz.ntmps33
  go_upto_region 2 with (fail)
  generalize (w.alloc (.cells #[.int .i64 0, .string ⟨#[]⟩, .int .u64 0, .slice none 0 0, .slice none 0 0, .int .i64 0] 34)).alloc (.cells #[.int .i64 0, .string ⟨#[]⟩, .int .u64 0, .slice none 0 0, .slice none 0 0, .int .i64 k] 34) = w1 at *
  clear c0 c1 c2
  obtain ⟨c0, c1, c2⟩ := H.out.rd.cells
  go_wp2_with fail
  refine (HIS.out k 0 110 (by decide) hk _ H.out.rd).mono ?_
  rintro e w2 ⟨rfl, bx⟩
  have hn := H.out.step bx
  clear bx H c0 c1 c2
  have H := Lib.hid hn
  obtain ⟨c0, c1, c2⟩ := hn.rd.cells
  clear hn
  rw [n110]
  go_wp2_with fail
  refine (HIS.out k 0 102 (by decide) hk _ H.out.rd).mono ?_
  rintro e w3 ⟨rfl, bx⟩
  have hn := H.out.step bx
  clear bx H c0 c1 c2
  have H := Lib.hid hn
  obtain ⟨c0, c1, c2⟩ := hn.rd.cells
  clear hn
  rw [n102]
  have H2 := Lib.hid (H.out.put 0 (.int .i64 1) (H.out.box.put0 (.int .i64 1)))
  have yf := H.out.box.fz 0
  have y0 := H.out.box.cells.1
  go_upto_region 9 with (fail)
  generalize (w3).setCell ⟨w.heap.size + 1, 0, none⟩ (.int .i64 1) = wk at *
  clear yf y0 H c0 c1 c2
  obtain ⟨c0, c1, c2⟩ := H2.out.rd.cells
  go_wp2_with fail
  refine (HW.out _ H2.out.rd).mono ?_
  rintro e w9 ⟨rfl, hr9, hk9⟩
  have H9 := Lib.hid (H2.out.go hr9 hk9)
  clear hr9 hk9 HW
  obtain ⟨x0, x1, x2, x3, x4, x5⟩ := H9.out.box.cells
  obtain ⟨r0, r1, r2, r3, r4, r5⟩ := H9.out.res.cells
  have rf0 := H9.out.res.fz 0
  have rf1 := H9.out.res.fz 1
  have rf2 := H9.out.res.fz 2
  have rf3 := H9.out.res.fz 3
  have rf4 := H9.out.res.fz 4
  have rf5 := H9.out.res.fz 5
  obtain ⟨hF1, hF2, hF3, hF4⟩ := H9.out.fin
  obtain ⟨q0, q1, q2, q3, q4, q5⟩ := hF4.cells
  have HF1 := Lib.hid hF1
  have HF2 := Lib.hid hF2
  have HF3 := Lib.hid hF3
  clear hF1 hF2 hF3 hF4
  unfold set6 at q0 q1 q2 q3 q4 q5 HF1 HF2 HF3
  go_wp2_with fail
  refine bodyPost_ret (v := .agg #[.int .i64 1, .string ⟨#[]⟩, .int .u64 0, .slice none 0 0, .slice none 0 0, .int .i64 k]) (by simp [results, Tryz.results33, go_sem, q0, q1, q2, q3, q4, q5]) rfl ?_
  exact HOUT.out _ HF1.out HF2.out
set_option maxRecDepth 100000 in
set_option maxHeartbeats 8000000 in
theorem t5v_true (s : ByteArray) (hs : s.size ≤ 100000) (b k : Nat) (d : Int) (o : Out) (hk : k ≤ s.size) (hb : byteI s k = 116) (hleaf : o = wordO s k 2 [116, 114, 117, 101]) (w : World) (h : Tn w b s k 0) :
    Calls Tryz.prog 33 #[.pointer (some ⟨b, 0, none⟩), .int .i64 d] w (T5vOut b s w o) := by
  have H := Lib.hid (VlSt.new w b s k 0 k h)
  have HIS := Lib.hid (fun k c d hd hk W (h : Tn W b s k c) => t5is_any s k b c d hd hk W h)
  have hb1 := h.step (sbelow_new w (.cells #[.int .i64 0, .string ⟨#[]⟩, .int .u64 0, .slice none 0 0, .slice none 0 0, .int .i64 0] 34))
  obtain ⟨c0, c1, c2⟩ := hb1.cells
  clear hb1
  have HW := Lib.hid (fun W (h : Tn W b s k 0) => t5word_any s b k [116, 114, 117, 101] (by decide) (by decide) hs hk W h)
  have HOUT : Hid (∀ W', Tn W' b s (wordR s k [116, 114, 117, 101]).1 (wordR s k [116, 114, 117, 101]).2 → Keeps (· = b) w W' → T5vOut b s w o (.returned (.agg #[.int .i64 2, .string ⟨#[]⟩, .int .u64 0, .slice none 0 0, .slice none 0 0, .int .i64 k])) W') := Lib.hid (by
    intro W' hT hK
    rw [hleaf]
    unfold wordO
    by_cases h0 : (wordR s k [116, 114, 117, 101]).2 = 0
    · rw [if_pos h0]
      rw [h0] at hT
      exact leaf_ok hT hK
    · rw [if_neg h0]
      exact leaf_er h0 hT hK)
  clear hleaf
  generalize wordR s k [116, 114, 117, 101] = WR at *
  have n110 : decide (byteI s k = 110) = false := by rw [hb]; rfl
  have n102 : decide (byteI s k = 102) = false := by rw [hb]; rfl
  have n116 : decide (byteI s k = 116) = true := by rw [hb]; rfl
  clear hb h
  go_enter Tryz.func33, Tryz.ntmps33
  go_upto_region 2 with (fail)
  generalize (w.alloc (.cells #[.int .i64 0, .string ⟨#[]⟩, .int .u64 0, .slice none 0 0, .slice none 0 0, .int .i64 0] 34)).alloc (.cells #[.int .i64 0, .string ⟨#[]⟩, .int .u64 0, .slice none 0 0, .slice none 0 0, .int .i64 k] 34) = w1 at *
  clear c0 c1 c2
  obtain ⟨c0, c1, c2⟩ := H.out.rd.cells
  go_wp2_with fail
  refine (HIS.out k 0 110 (by decide) hk _ H.out.rd).mono ?_
  rintro e w2 ⟨rfl, bx⟩
  have hn := H.out.step bx
  clear bx H c0 c1 c2
  have H := Lib.hid hn
  obtain ⟨c0, c1, c2⟩ := hn.rd.cells
  clear hn
  rw [n110]
  go_wp2_with fail
  refine (HIS.out k 0 102 (by decide) hk _ H.out.rd).mono ?_
  rintro e w3 ⟨rfl, bx⟩
  have hn := H.out.step bx
  clear bx H c0 c1 c2
  have H := Lib.hid hn
  obtain ⟨c0, c1, c2⟩ := hn.rd.cells
  clear hn
  rw [n102]
  go_wp2_with fail
  refine (HIS.out k 0 116 (by decide) hk _ H.out.rd).mono ?_
  rintro e w4 ⟨rfl, bx⟩
  have hn := H.out.step bx
  clear bx H c0 c1 c2
  have H := Lib.hid hn
  obtain ⟨c0, c1, c2⟩ := hn.rd.cells
  clear hn
  rw [n116]
  have H2 := Lib.hid (H.out.put 0 (.int .i64 2) (H.out.box.put0 (.int .i64 2)))
  have yf := H.out.box.fz 0
  have y0 := H.out.box.cells.1
  go_upto_region 13 with (fail)
  generalize (w4).setCell ⟨w.heap.size + 1, 0, none⟩ (.int .i64 2) = wk at *
  clear yf y0 H c0 c1 c2
  obtain ⟨c0, c1, c2⟩ := H2.out.rd.cells
  go_wp2_with fail
  refine (HW.out _ H2.out.rd).mono ?_
  rintro e w9 ⟨rfl, hr9, hk9⟩
  have H9 := Lib.hid (H2.out.go hr9 hk9)
  clear hr9 hk9 HW
  obtain ⟨x0, x1, x2, x3, x4, x5⟩ := H9.out.box.cells
  obtain ⟨r0, r1, r2, r3, r4, r5⟩ := H9.out.res.cells
  have rf0 := H9.out.res.fz 0
  have rf1 := H9.out.res.fz 1
  have rf2 := H9.out.res.fz 2
  have rf3 := H9.out.res.fz 3
  have rf4 := H9.out.res.fz 4
  have rf5 := H9.out.res.fz 5
  obtain ⟨hF1, hF2, hF3, hF4⟩ := H9.out.fin
  obtain ⟨q0, q1, q2, q3, q4, q5⟩ := hF4.cells
  have HF1 := Lib.hid hF1
  have HF2 := Lib.hid hF2
  have HF3 := Lib.hid hF3
  clear hF1 hF2 hF3 hF4
  unfold set6 at q0 q1 q2 q3 q4 q5 HF1 HF2 HF3
  go_wp2_with fail
  refine bodyPost_ret (v := .agg #[.int .i64 2, .string ⟨#[]⟩, .int .u64 0, .slice none 0 0, .slice none 0 0, .int .i64 k]) (by simp [results, Tryz.results33, go_sem, q0, q1, q2, q3, q4, q5]) rfl ?_
  exact HOUT.out _ HF1.out HF2.out

set_option maxRecDepth 100000 in
set_option maxHeartbeats 8000000 in
theorem t5v_num (s : ByteArray) (hs : s.size ≤ 100000) (b k : Nat) (d : Int) (o : Out) (hk : k ≤ s.size) (hb : isDig (byteI s k) = true) (hleaf : o = if numC s k = 0 then .ok (numK s k) (.mk 3 ⟨#[]⟩ (numN s k) [] [] k) else .er (numC s k) k) (w : World) (h : Tn w b s k 0) :
    Calls Tryz.prog 33 #[.pointer (some ⟨b, 0, none⟩), .int .i64 d] w (T5vOut b s w o) := by
  have H := Lib.hid (VlSt.new w b s k 0 k h)
  have HIS := Lib.hid (fun k c d hd hk W (h : Tn W b s k c) => t5is_any s k b c d hd hk W h)
  have hb1 := h.step (sbelow_new w (.cells #[.int .i64 0, .string ⟨#[]⟩, .int .u64 0, .slice none 0 0, .slice none 0 0, .int .i64 0] 34))
  obtain ⟨c0, c1, c2⟩ := hb1.cells
  clear hb1
  have hdg := (isDig_iff _).1 hb
  have hlt : k < s.size := byteI_pos (by omega)
  have hlti : (k : Int) < (s.size : Int) := by omega
  have ha0 : (0 : Int) ≤ (k : Int) := by omega
  have HDG : Hid (∀ W, Calls Tryz.prog 64 #[.int .u8 (s[k].toNat : Int)] W fun e w' => e = .returned (.bool true) ∧ w' = W) := Lib.hid (fun W => by
    have := rdig5_any (s[k].toNat : Int) W
    rw [byteI_lt hlt] at hdg
    rwa [decide_eq_true hdg.1, decide_eq_true hdg.2] at this)
  have HNUM := Lib.hid (fun W => rnumber_any s k hs hk W)
  unfold RefNum at HNUM
  have HFL := Lib.hid (fun c W (h : Tn W b s k 0) => t5fail_yes s k b c W h)
  have HOUT : Hid (∀ W', Tn W' b s (numK s k) (numC s k) → Keeps (· = b) w W' → T5vOut b s w o (.returned (.agg #[.int .i64 3, .string ⟨#[]⟩, .int .u64 (numN s k), .slice none 0 0, .slice none 0 0, .int .i64 k])) W') := Lib.hid (by
    intro W' hT hK
    rw [hleaf]
    by_cases h0 : numC s k = 0
    · rw [if_pos h0]
      rw [h0] at hT
      exact leaf_ok hT hK
    · rw [if_neg h0]
      have e := numK_bad h0
      rw [e.1] at hT
      exact leaf_er h0 hT hK)
  have n110 : decide (byteI s k = 110) = false := decide_eq_false (by omega)
  have n102 : decide (byteI s k = 102) = false := decide_eq_false (by omega)
  have n116 : decide (byteI s k = 116) = false := decide_eq_false (by omega)
  generalize numK s k = nK at *
  generalize numC s k = nC at *
  generalize numN s k = nN at *
  clear hleaf hb hdg h
  go_enter Tryz.func33, Tryz.ntmps33
  go_upto_region 2 with (fail)
  generalize (w.alloc (.cells #[.int .i64 0, .string ⟨#[]⟩, .int .u64 0, .slice none 0 0, .slice none 0 0, .int .i64 0] 34)).alloc (.cells #[.int .i64 0, .string ⟨#[]⟩, .int .u64 0, .slice none 0 0, .slice none 0 0, .int .i64 k] 34) = w1 at *
  clear c0 c1 c2
  obtain ⟨c0, c1, c2⟩ := H.out.rd.cells
  go_wp2_with fail
  refine (HIS.out k 0 110 (by decide) hk _ H.out.rd).mono ?_
  rintro e w2 ⟨rfl, bx⟩
  have hn := H.out.step bx
  clear bx H c0 c1 c2
  have H := Lib.hid hn
  obtain ⟨c0, c1, c2⟩ := hn.rd.cells
  clear hn
  rw [n110]
  go_wp2_with fail
  refine (HIS.out k 0 102 (by decide) hk _ H.out.rd).mono ?_
  rintro e w3 ⟨rfl, bx⟩
  have hn := H.out.step bx
  clear bx H c0 c1 c2
  have H := Lib.hid hn
  obtain ⟨c0, c1, c2⟩ := hn.rd.cells
  clear hn
  rw [n102]
  go_wp2_with fail
  refine (HIS.out k 0 116 (by decide) hk _ H.out.rd).mono ?_
  rintro e w4 ⟨rfl, bx⟩
  have hn := H.out.step bx
  clear bx H c0 c1 c2
  have H := Lib.hid hn
  obtain ⟨c0, c1, c2⟩ := hn.rd.cells
  clear hn
  rw [n116]
  go_wp2_with fail
  have hD := H.out.step (Below.refl (w4).heap.size (w4)).drew
  obtain ⟨d0, d1, d2⟩ := hD.rd.cells
  have kk : (w4).drew.cell? ⟨b, 0, none⟩ = some (.string s) ∧ (w4).drew.cell? ⟨b, 1, none⟩ = some (.int .i64 k) ∧ (w4).drew.cell? ⟨b, 2, none⟩ = some (.int .i64 0) := ⟨d0, d1, d2⟩
  have HN := Lib.hid hD
  clear hD d0 d1 d2
  go_region_held3 (fun W => W.cell? ⟨b, 0, none⟩ = some (.string s) ∧ W.cell? ⟨b, 1, none⟩ = some (.int .i64 k) ∧ W.cell? ⟨b, 2, none⟩ = some (.int .i64 0))
    (exact kk)
    ((go_at_call 64; refine (HDG.out _).mono ?_; rintro e w5 ⟨rfl, rfl⟩))
  generalize (w4).drew = w5 at *
  clear kk c0 c1 c2 H
  have H := HN
  clear HN
  obtain ⟨c0, c1, c2⟩ := H.out.rd.cells
  have H2 := Lib.hid (H.out.put 0 (.int .i64 3) (H.out.box.put0 (.int .i64 3)))
  have yf := H.out.box.fz 0
  have y0 := H.out.box.cells.1
  go_upto_region 17 with (fail)
  generalize (w5).setCell ⟨w.heap.size + 1, 0, none⟩ (.int .i64 3) = w6 at *
  clear yf y0 H c0 c1 c2
  obtain ⟨c0, c1, c2⟩ := H2.out.rd.cells
  go_wp2_with fail
  have hD := H2.out.rd.step (Below.refl w6.heap.size w6).drew
  have hI := hD
  obtain ⟨d0, d1, d2⟩ := hD.cells
  have kk : w6.drew.cell? ⟨b, 0, none⟩ = some (.string s) ∧ w6.drew.cell? ⟨b, 1, none⟩ = some (.int .i64 k) ∧ w6.drew.cell? ⟨b, 2, none⟩ = some (.int .i64 0) := ⟨d0, d1, d2⟩
  have hV := H2.out.step (Below.refl w6.heap.size w6).drew
  clear hD d0 d1 d2 H2
  go_region_held3 (fun W => W.cell? ⟨b, 0, none⟩ = some (.string s) ∧ W.cell? ⟨b, 1, none⟩ = some (.int .i64 k) ∧ W.cell? ⟨b, 2, none⟩ = some (.int .i64 0))
    (first | exact kk | exact hI.cells)
    ((go_at_call 65; refine (HNUM.out _).mono ?_; rintro e w7 ⟨rfl, b7⟩; replace hI := hI.step b7; replace hV := hV.step b7))
  have H3 := Lib.hid hV
  clear kk hI hV b7 HNUM c0 c1 c2
  go_wp2_with fail
  refine (HFL.out nC _ H3.out.rd).mono ?_
  rintro e w8 ⟨rfl, hr8, hk8⟩
  have h8 := H3.out.go hr8 hk8
  have H8 := Lib.hid h8
  have f1 := h8.rd.fz 1
  obtain ⟨c0, c1, c2⟩ := h8.rd.cells
  have H9 := Lib.hid (h8.go (h8.rd.at1 nK) (keepsT w8 b 1 _))
  clear h8 hr8 hk8 H3
  go_upto_region 20 with (fail)
  generalize w8.setCell ⟨b, 1, none⟩ (.int .i64 (nK : Int)) = w9 at *
  clear f1 c0 c1 c2 H8
  have H10 := Lib.hid (H9.out.put 2 (.int .u64 nN) (H9.out.box.put2 (.int .u64 nN)))
  have yf := H9.out.box.fz 2
  have y2 := H9.out.box.cells.2.2.1
  go_upto_region 21 with (fail)
  generalize w9.setCell ⟨w.heap.size + 1, 2, none⟩ (.int .u64 nN) = w10 at *
  clear yf y2 H9
  obtain ⟨x0, x1, x2, x3, x4, x5⟩ := H10.out.box.cells
  obtain ⟨r0, r1, r2, r3, r4, r5⟩ := H10.out.res.cells
  have rf0 := H10.out.res.fz 0
  have rf1 := H10.out.res.fz 1
  have rf2 := H10.out.res.fz 2
  have rf3 := H10.out.res.fz 3
  have rf4 := H10.out.res.fz 4
  have rf5 := H10.out.res.fz 5
  obtain ⟨hF1, hF2, hF3, hF4⟩ := H10.out.fin
  obtain ⟨q0, q1, q2, q3, q4, q5⟩ := hF4.cells
  have HF1 := Lib.hid hF1
  have HF2 := Lib.hid hF2
  have HF3 := Lib.hid hF3
  clear hF1 hF2 hF3 hF4
  unfold set6 at q0 q1 q2 q3 q4 q5 HF1 HF2 HF3
  go_wp2_with fail
  refine bodyPost_ret (v := .agg #[.int .i64 3, .string ⟨#[]⟩, .int .u64 nN, .slice none 0 0, .slice none 0 0, .int .i64 k]) (by simp [results, Tryz.results33, go_sem, q0, q1, q2, q3, q4, q5]) rfl ?_
  exact HOUT.out _ HF1.out HF2.out
set_option maxRecDepth 100000 in
set_option maxHeartbeats 8000000 in
theorem t5v_text (s : ByteArray) (hs : s.size ≤ 100000) (b k : Nat) (d : Int) (o : Out) (hk : k ≤ s.size) (hb : byteI s k = 34) (hleaf : o = if (quoR s k).c = 0 then .ok (quoR s k).k (.mk 4 ⟨(quoR s k).t.toArray⟩ 0 [] [] k) else .er (quoR s k).c (quoR s k).a) (w : World) (h : Tn w b s k 0) :
    Calls Tryz.prog 33 #[.pointer (some ⟨b, 0, none⟩), .int .i64 d] w (T5vOut b s w o) := by
  have H := Lib.hid (VlSt.new w b s k 0 k h)
  have HIS := Lib.hid (fun k c d hd hk W (h : Tn W b s k c) => t5is_any s k b c d hd hk W h)
  have hb1 := h.step (sbelow_new w (.cells #[.int .i64 0, .string ⟨#[]⟩, .int .u64 0, .slice none 0 0, .slice none 0 0, .int .i64 0] 34))
  obtain ⟨c0, c1, c2⟩ := hb1.cells
  clear hb1
  have HTX := Lib.hid (fun W (h : Tn W b s k 0) => t5text_any s b k hs hk W h)
  have hlt : k < s.size := byteI_pos (by rw [hb]; decide)
  have hlti : (k : Int) < (s.size : Int) := by omega
  have ha0 : (0 : Int) ≤ (k : Int) := by omega
  have HDG : Hid (∀ W, Calls Tryz.prog 64 #[.int .u8 (s[k].toNat : Int)] W fun e w' => e = .returned (.bool false) ∧ w' = W) := Lib.hid (fun W => by
    have := rdig5_any (s[k].toNat : Int) W
    rw [byteI_lt hlt] at hb
    rw [hb] at this ⊢
    exact this)
  have HOUT : Hid (∀ W', ((quoR s k).c = 0 → Tn W' b s (quoR s k).k 0 → Keeps (· = b) w W' → T5vOut b s w o (.returned (.agg #[.int .i64 4, .string ⟨(quoR s k).t.toArray⟩, .int .u64 0, .slice none 0 0, .slice none 0 0, .int .i64 k])) W') ∧
      ((quoR s k).c ≠ 0 → Tn W' b s (quoR s k).a (quoR s k).c → Keeps (· = b) w W' → T5vOut b s w o (.returned (.agg #[.int .i64 4, .string ⟨#[]⟩, .int .u64 0, .slice none 0 0, .slice none 0 0, .int .i64 k])) W')) := Lib.hid (by
    intro W'
    rw [hleaf]
    refine ⟨fun h0 hT hK => ?_, fun h0 hT hK => ?_⟩
    · rw [if_pos h0]; exact leaf_ok hT hK
    · rw [if_neg h0]; exact leaf_er h0 hT hK)
  have n110 : decide (byteI s k = 110) = false := by rw [hb]; rfl
  have n102 : decide (byteI s k = 102) = false := by rw [hb]; rfl
  have n116 : decide (byteI s k = 116) = false := by rw [hb]; rfl
  have n34 : decide (byteI s k = 34) = true := by rw [hb]; rfl
  clear hleaf hb h
  go_enter Tryz.func33, Tryz.ntmps33
  go_upto_region 2 with (fail)
  generalize (w.alloc (.cells #[.int .i64 0, .string ⟨#[]⟩, .int .u64 0, .slice none 0 0, .slice none 0 0, .int .i64 0] 34)).alloc (.cells #[.int .i64 0, .string ⟨#[]⟩, .int .u64 0, .slice none 0 0, .slice none 0 0, .int .i64 k] 34) = w1 at *
  clear c0 c1 c2
  obtain ⟨c0, c1, c2⟩ := H.out.rd.cells
  go_wp2_with fail
  refine (HIS.out k 0 110 (by decide) hk _ H.out.rd).mono ?_
  rintro e w2 ⟨rfl, bx⟩
  have hn := H.out.step bx
  clear bx H c0 c1 c2
  have H := Lib.hid hn
  obtain ⟨c0, c1, c2⟩ := hn.rd.cells
  clear hn
  rw [n110]
  go_wp2_with fail
  refine (HIS.out k 0 102 (by decide) hk _ H.out.rd).mono ?_
  rintro e w3 ⟨rfl, bx⟩
  have hn := H.out.step bx
  clear bx H c0 c1 c2
  have H := Lib.hid hn
  obtain ⟨c0, c1, c2⟩ := hn.rd.cells
  clear hn
  rw [n102]
  go_wp2_with fail
  refine (HIS.out k 0 116 (by decide) hk _ H.out.rd).mono ?_
  rintro e w4 ⟨rfl, bx⟩
  have hn := H.out.step bx
  clear bx H c0 c1 c2
  have H := Lib.hid hn
  obtain ⟨c0, c1, c2⟩ := hn.rd.cells
  clear hn
  rw [n116]
  go_wp2_with fail
  have hD := H.out.step (Below.refl (w4).heap.size (w4)).drew
  obtain ⟨d0, d1, d2⟩ := hD.rd.cells
  have kk : (w4).drew.cell? ⟨b, 0, none⟩ = some (.string s) ∧ (w4).drew.cell? ⟨b, 1, none⟩ = some (.int .i64 k) ∧ (w4).drew.cell? ⟨b, 2, none⟩ = some (.int .i64 0) := ⟨d0, d1, d2⟩
  have HN := Lib.hid hD
  clear hD d0 d1 d2
  go_region_held3 (fun W => W.cell? ⟨b, 0, none⟩ = some (.string s) ∧ W.cell? ⟨b, 1, none⟩ = some (.int .i64 k) ∧ W.cell? ⟨b, 2, none⟩ = some (.int .i64 0))
    (exact kk)
    ((go_at_call 64; refine (HDG.out _).mono ?_; rintro e w5 ⟨rfl, rfl⟩))
  generalize (w4).drew = w5 at *
  clear kk c0 c1 c2 H
  have H := HN
  clear HN
  obtain ⟨c0, c1, c2⟩ := H.out.rd.cells
  go_wp2_with fail
  refine (HIS.out k 0 34 (by decide) hk _ H.out.rd).mono ?_
  rintro e w6 ⟨rfl, bx⟩
  have hn := H.out.step bx
  clear bx H c0 c1 c2
  have H := Lib.hid hn
  obtain ⟨c0, c1, c2⟩ := hn.rd.cells
  clear hn
  rw [n34]
  have H2 := Lib.hid (H.out.put 0 (.int .i64 4) (H.out.box.put0 (.int .i64 4)))
  have yf := H.out.box.fz 0
  have y0 := H.out.box.cells.1
  go_upto_region 24 with (fail)
  generalize (w6).setCell ⟨w.heap.size + 1, 0, none⟩ (.int .i64 4) = w7 at *
  clear yf y0 H c0 c1 c2
  obtain ⟨c0, c1, c2⟩ := H2.out.rd.cells
  go_wp2_with fail
  refine (HTX.out _ H2.out.rd).mono ?_
  rintro e w8 (⟨hc, rfl, hr8, hk8⟩ | ⟨hc, rfl, hr8, hk8⟩)
  · have HC := Lib.hid hc
    have H8 := Lib.hid (H2.out.go hr8 hk8)
    clear hc hr8 hk8 H2
    generalize (⟨(quoR s k).t.toArray⟩ : ByteArray) = T at *
    have H10 := Lib.hid (H8.out.put 1 (.string T) (H8.out.box.put1 (.string T)))
    have yf := H8.out.box.fz 1
    have y1 := H8.out.box.cells.2.1
    go_upto_region 25 with (fail)
    generalize w8.setCell ⟨w.heap.size + 1, 1, none⟩ (.string T) = w10 at *
    clear yf y1 H8
    obtain ⟨x0, x1, x2, x3, x4, x5⟩ := H10.out.box.cells
    obtain ⟨r0, r1, r2, r3, r4, r5⟩ := H10.out.res.cells
    have rf0 := H10.out.res.fz 0
    have rf1 := H10.out.res.fz 1
    have rf2 := H10.out.res.fz 2
    have rf3 := H10.out.res.fz 3
    have rf4 := H10.out.res.fz 4
    have rf5 := H10.out.res.fz 5
    obtain ⟨hF1, hF2, hF3, hF4⟩ := H10.out.fin
    obtain ⟨q0, q1, q2, q3, q4, q5⟩ := hF4.cells
    have HF1 := Lib.hid hF1
    have HF2 := Lib.hid hF2
    have HF3 := Lib.hid hF3
    clear hF1 hF2 hF3 hF4
    unfold set6 at q0 q1 q2 q3 q4 q5 HF1 HF2 HF3
    go_wp2_with fail
    refine bodyPost_ret (v := .agg #[.int .i64 4, .string T, .int .u64 0, .slice none 0 0, .slice none 0 0, .int .i64 k]) (by simp [results, Tryz.results33, go_sem, q0, q1, q2, q3, q4, q5]) rfl ?_
    exact (HOUT.out _).1 HC.out HF1.out HF2.out
  · have HC := Lib.hid hc
    have H8 := Lib.hid (H2.out.go hr8 hk8)
    clear hc hr8 hk8 H2
    have H10 := Lib.hid (H8.out.put 1 (.string ⟨#[]⟩) (H8.out.box.put1 (.string ⟨#[]⟩)))
    have yf := H8.out.box.fz 1
    have y1 := H8.out.box.cells.2.1
    go_upto_region 25 with (fail)
    generalize w8.setCell ⟨w.heap.size + 1, 1, none⟩ (.string ⟨#[]⟩) = w10 at *
    clear yf y1 H8
    obtain ⟨x0, x1, x2, x3, x4, x5⟩ := H10.out.box.cells
    obtain ⟨r0, r1, r2, r3, r4, r5⟩ := H10.out.res.cells
    have rf0 := H10.out.res.fz 0
    have rf1 := H10.out.res.fz 1
    have rf2 := H10.out.res.fz 2
    have rf3 := H10.out.res.fz 3
    have rf4 := H10.out.res.fz 4
    have rf5 := H10.out.res.fz 5
    obtain ⟨hF1, hF2, hF3, hF4⟩ := H10.out.fin
    obtain ⟨q0, q1, q2, q3, q4, q5⟩ := hF4.cells
    have HF1 := Lib.hid hF1
    have HF2 := Lib.hid hF2
    have HF3 := Lib.hid hF3
    clear hF1 hF2 hF3 hF4
    unfold set6 at q0 q1 q2 q3 q4 q5 HF1 HF2 HF3
    go_wp2_with fail
    refine bodyPost_ret (v := .agg #[.int .i64 4, .string ⟨#[]⟩, .int .u64 0, .slice none 0 0, .slice none 0 0, .int .i64 k]) (by simp [results, Tryz.results33, go_sem, q0, q1, q2, q3, q4, q5]) rfl ?_
    exact (HOUT.out _).2 HC.out HF1.out HF2.out
end Go.Proofs.YtajmlkephefapaaGreatDoor
