/-
  Package tree by contracts, seventh part: one member of an object.
-/
import Derived.Test.YtajmlkephefapaaGreatDoorTreeH
import Derived.Test.YtajmlkephefapaaGreatDoorReg
namespace Go.Proofs.YtajmlkephefapaaGreatDoor
open Go.RowKit Go.Extern.Stop Go.Stop Go.Extern Go.WideMaps

/-- A variable in block K that holds a list of keys of the call's own. -/
structure KeysSt (B K : Nat) (ks : List ByteArray) (v : Value) (w : World) : Prop where
  cell : w.cell? ⟨K, 0, none⟩ = some v
  fz : w.frozen? ⟨K, 0, none⟩ = false
  lt : K < w.heap.size
  own : w.ownsRow B 9 1 v ks.length (ks.map Value.string)
  nil : ks = [] → v = .slice none 0 0
theorem KeysSt.keeps {D : Nat → Prop} {B K : Nat} {ks : List ByteArray} {v : Value} {w w' : World} (h : KeysSt B K ks v w) (hk : Keeps D w w') (hL : ¬ D K) (hv : ∀ k, v.ownBlock = some k → ¬ D k) : KeysSt B K ks v w' := by
  have e := hk.block K h.lt hL
  exact ⟨(World.cell?_of_block (a := ⟨K, 0, none⟩) e).trans h.cell, (World.frozen?_of_block (a := ⟨K, 0, none⟩) e).trans h.fz, Nat.lt_of_lt_of_le h.lt hk.size, ownsRow_keeps h.own hk hv, h.nil⟩
theorem KeysSt.step {B K : Nat} {ks : List ByteArray} {v : Value} {w w' : World} (h : KeysSt B K ks v w) (hb : Below w.heap.size w w') : KeysSt B K ks v w' :=
  h.keeps (D := fun _ => False) (.of_below hb) (fun e => e) (fun _ _ e => e)
theorem KeysSt.slice {B K : Nat} {ks : List ByteArray} {v : Value} {w : World} (h : KeysSt B K ks v w) : ∃ a c, v = .slice a ks.length c := by
  rcases h.own.2 with ⟨rfl, h0⟩ | ⟨g, cap, cur, rfl, -⟩
  · exact ⟨none, 0, by rw [h0]⟩
  · exact ⟨_, cap, rfl⟩
/-- The keys' own row is no other block whose first cell is no text. -/
theorem KeysSt.row_ne {B K : Nat} {ks : List ByteArray} {v : Value} {w : World} (h : KeysSt B K ks v w) {b : Nat} {u : Value} (hc : w.cell? ⟨b, 0, none⟩ = some u) (hu : ∀ k, u ≠ .string k) : v.ownBlock ≠ some b := by
  intro e
  have hnil := h.nil
  have hown := h.own
  cases ks with
  | nil => rw [hnil rfl] at e; cases e
  | cons x r =>
    have := hown.cells e 0 (.string x) rfl
    have e0 : (⟨b, 0, none⟩ : Addr).add 0 = ⟨b, 0, none⟩ := by unfold Addr.add; split <;> simp_all
    rw [e0, hc] at this
    injection this with this
    exact hu x this
/-- Two rows of two kinds of things lie in two blocks. -/
theorem rows_ne {w : World} {B B' : Nat} {e e' : TypeId} {sz sz' : Nat} {v v' : Value} {n n' : Nat} {xs xs' : List Value} (h : w.ownsRow B e sz v n xs) (h' : w.ownsRow B' e' sz' v' n' xs') (hne : e ≠ e') : ∀ g, v.ownBlock = some g → v'.ownBlock ≠ some g := by
  intro g hg hg'
  rcases h.2 with ⟨rfl, -⟩ | ⟨g1, cap, cur, rfl, -, h1, -⟩
  · cases hg
  · rcases h'.2 with ⟨rfl, -⟩ | ⟨g2, cap', cur', rfl, -, h2, -⟩
    · cases hg'
    · have e1 : g1 = g := by injection hg
      have e2 : g2 = g := by injection hg'
      subst e1; subst e2
      rw [h1] at h2
      injection h2 with h2
      injection h2 with _ h2
      exact hne h2

/-- An object's state. -/
def ObjE (F : Nat → Prop) (K mb : Nat) (kv : Value) (k : Nat) : Prop := F k ∧ k ≠ K ∧ k ≠ mb ∧ kv.ownBlock ≠ some k
structure ObjSt (F : Nat → Prop) (B L K M mb Db d W : Nat) (vs : List Val) (ks : List ByteArray) (w : World) : Prop where
  st : ∃ v xs kv, ListSt B L (ObjE F K mb kv) vs v xs w ∧ (∀ g, v.ownBlock = some g → W ≤ g) ∧ KeysSt B K ks kv w ∧ (∀ g, kv.ownBlock = some g → W ≤ g)
  set : KsAt w mb ks.length ks
  num : NumAt w Db d
  map : w.cell? ⟨M, 0, none⟩ = some (.map (some mb))
  lt : L < W ∧ K < W ∧ M < W ∧ mb < W ∧ Db < W
  ne : Db ≠ L ∧ Db ≠ K ∧ Db ≠ mb ∧ L ≠ K ∧ L ≠ mb ∧ K ≠ mb ∧ M ≠ L ∧ M ≠ K ∧ M ≠ mb
  le : W ≤ w.heap.size
def ObjEnd (K L : Nat) (w : World) : Prop := ∃ (a : Option Addr) (l c : Nat) (a' : Option Addr) (l' c' : Nat), w.cell? ⟨K, 0, none⟩ = some (.slice a l c) ∧ w.cell? ⟨L, 0, none⟩ = some (.slice a' l' c')
/-- What an object's member may turn. -/
def ObjD (L K mb : Nat) (k : Nat) : Prop := k = L ∨ k = K ∨ k = mb

theorem infoStr' : (Tryz.prog.info? 9).map (fun i => (i.zero, i.size, i.bytes)) = some (some (.string ByteArray.empty), 1, 16) := infoStr

/-! ### Two lists grow -/
/-- Behind the keys' append, ahead of the stores. -/
theorem KeysSt.grown {B K : Nat} {ks : List ByteArray} {kv : Value} {wa w5 : World} (h : KeysSt B K ks kv wa) (hgrow : wa.grownBy w5 kv.ownBlock) : w5.cell? ⟨K, 0, none⟩ = some kv ∧ w5.frozen? ⟨K, 0, none⟩ = false ∧ K < w5.heap.size := by
  have hne : some K ≠ kv.ownBlock := fun e => by
    obtain ⟨a, c, rfl⟩ := h.slice
    exact h.row_ne h.cell (fun k e => by cases e) e.symm
  exact ⟨(hgrow.cell_far ⟨K, 0, none⟩ h.lt hne).trans h.cell, (hgrow.frozen_far ⟨K, 0, none⟩ h.lt hne).trans h.fz, Nat.lt_of_lt_of_le h.lt hgrow.size⟩
/-- Both behind both appends, and stored. -/
theorem both_push {F : Nat → Prop} {B L K mb : Nat} {vs : List Val} {ks : List ByteArray} {v kv : Value} {xs : List Value} {wa wb w5 w6 : World} {g cap g' cap' : Nat} {key : ByteArray} {c0 c1 c2 c3 c4 c5 : Value} {x : Val} {P : Nat → Prop}
    (hl : ListSt B L (ObjE F K mb kv) vs v xs wa) (hk : KeysSt B K ks kv wa) (hLK : L ≠ K) (hB : B ≤ L)
    (hown : w5.ownsRow B 9 1 (.slice (some ⟨g, 0, none⟩) (ks.length + 1) cap) (ks.length + 1) (ks.map Value.string ++ [.string key])) (hgrow : wa.grownBy w5 kv.ownBlock) (hat : kv.ownBlock = some g ∨ g = wa.heap.size)
    (hb : Below w5.heap.size w5 wb)
    (hown' : w6.ownsRow B 27 6 (.slice (some ⟨g', 0, none⟩) (vs.length + 1) cap') (vs.length + 1) (xs ++ [c0, c1, c2, c3, c4, c5])) (hgrow' : wb.grownBy w6 v.ownBlock) (hat' : v.ownBlock = some g' ∨ g' = wb.heap.size)
    (hx : ValC P wa [c0, c1, c2, c3, c4, c5] x) (hP : ∀ k, P k → k < wa.heap.size → B ≤ k ∧ k ≠ L ∧ v.ownBlock ≠ some k ∧ ObjE F K mb kv k) :
    let wF := (w6.setCell ⟨K, 0, none⟩ (.slice (some ⟨g, 0, none⟩) (ks.length + 1) cap)).setCell ⟨L, 0, none⟩ (.slice (some ⟨g', 0, none⟩) (vs.length + 1) cap')
    ListSt B L (ObjE F K mb (.slice (some ⟨g, 0, none⟩) (ks.length + 1) cap)) (vs ++ [x]) (.slice (some ⟨g', 0, none⟩) (vs.length + 1) cap') (xs ++ [c0, c1, c2, c3, c4, c5]) wF ∧
      KeysSt B K (ks ++ [key]) (.slice (some ⟨g, 0, none⟩) (ks.length + 1) cap) wF ∧ Keeps (fun k => k = L ∨ k = K ∨ v.ownBlock = some k ∨ kv.ownBlock = some k) wa wF := by
  intro wF
  have hvk := rows_ne hl.own hk.own (by decide)
  have hkv := rows_ne hk.own hl.own (by decide)
  have hKk : kv.ownBlock ≠ some K := fun e => by
    obtain ⟨a, c, rfl⟩ := hk.slice
    exact hk.row_ne hk.cell (fun k e => by cases e) e
  have hLk : kv.ownBlock ≠ some L := fun e => by
    obtain ⟨a, c, rfl⟩ := hl.slice
    exact hk.row_ne hl.cell (fun k e => by cases e) e
  have hLv : v.ownBlock ≠ some L := fun e => by
    obtain ⟨a, c, rfl⟩ := hl.slice
    exact hl.row_ne hl.cell (fun k e => by cases e) e
  have hKv : v.ownBlock ≠ some K := fun e => by
    obtain ⟨a, c, rfl⟩ := hk.slice
    exact hl.row_ne hk.cell (fun k e => by cases e) e
  have hvlt := fun k e => (hl.own.lt k e).2
  have hklt := fun k e => (hk.own.lt k e).2
  have k5 : Keeps (fun k => kv.ownBlock = some k) wa w5 := .of_grown hgrow (fun k e => e)
  have kb : Keeps (fun k => kv.ownBlock = some k) wa wb := k5.next hb
  have k6 : Keeps (fun k => v.ownBlock = some k) wb w6 := .of_grown hgrow' (fun k e => e)
  have hsz : wa.heap.size ≤ w6.heap.size := Nat.le_trans kb.size k6.size
  have h6 : ∀ k, k < wa.heap.size → v.ownBlock ≠ some k → kv.ownBlock ≠ some k → w6.heap[k]? = wa.heap[k]? := fun k hk1 h1 h2 => by
    rw [k6.block k (Nat.lt_of_lt_of_le hk1 kb.size) h1, kb.block k hk1 h2]
  have hg5 : g < w5.heap.size := by
    rcases hown.2 with ⟨e, -⟩ | ⟨g1, c1, cur, e, -, hh, -⟩
    · cases e
    · have : g1 = g := by injection e with e; injection e with e; injection e with e; exact e.symm
      subst this
      exact (Array.getElem?_eq_some_iff.1 hh).1
  have hgb : g < wb.heap.size := Nat.lt_of_lt_of_le hg5 hb.size
  have hgv : v.ownBlock ≠ some g := fun e => by
    rcases hat with h | h
    · exact hkv g h e
    · have := hvlt g e; omega
  have hg'g : g' ≠ g := by
    rintro rfl
    rcases hat' with h | h
    · exact hgv h
    · omega
  have hgL : g ≠ L := by rintro rfl; rcases hat with h | h; exact hLk h; have := hl.lt; omega
  have hgK : g ≠ K := by rintro rfl; rcases hat with h | h; exact hKk h; have := hk.lt; omega
  have hg'L : g' ≠ L := by rintro rfl; rcases hat' with h | h; exact hLv h; have := hl.lt; have := kb.size; omega
  have hg'K : g' ≠ K := by rintro rfl; rcases hat' with h | h; exact hKv h; have := hk.lt; have := kb.size; omega
  have kF : Keeps (fun k => k = L ∨ k = K) w6 wF := by
    have a1 : Keeps (fun k => k = L ∨ k = K) w6 (w6.setCell ⟨K, 0, none⟩ (.slice (some ⟨g, 0, none⟩) (ks.length + 1) cap)) := Keeps.setCell (D := fun k => k = L ∨ k = K) (Keeps.refl _ _) (q := ⟨K, 0, none⟩) (.inr (.inr rfl)) _
    exact a1.setCell (q := ⟨L, 0, none⟩) (.inr (.inl rfl)) _
  have hall : ∀ k, k < wa.heap.size → k ≠ L → k ≠ K → v.ownBlock ≠ some k → kv.ownBlock ≠ some k → wF.heap[k]? = wa.heap[k]? := fun k h1 h2 h3 h4 h5 => by
    rw [kF.block k (Nat.lt_of_lt_of_le h1 hsz) (fun e => e.elim h2 h3), h6 k h1 h4 h5]
  have hszF : wa.heap.size ≤ wF.heap.size := Nat.le_trans hsz kF.size
  have hL6 : w6.heap[L]? = wa.heap[L]? := h6 L hl.lt hLv hLk
  have hK6 : w6.heap[K]? = wa.heap[K]? := h6 K hk.lt hKv hKk
  have hmv : ∀ k, B ≤ k ∧ k ≠ L ∧ v.ownBlock ≠ some k ∧ ObjE F K mb kv k → k < wa.heap.size → (B ≤ k ∧ k ≠ L ∧ some k ≠ Value.ownBlock (.slice (some ⟨g', 0, none⟩) (vs.length + 1) cap') ∧ ObjE F K mb (.slice (some ⟨g, 0, none⟩) (ks.length + 1) cap) k) ∧ wF.heap[k]? = wa.heap[k]? := by
    rintro k ⟨h1, h2, h3, h4⟩ hlt
    refine ⟨⟨h1, h2, fun e => ?_, h4.1, h4.2.1, h4.2.2.1, fun e => ?_⟩, hall k hlt h2 h4.2.1 h3 h4.2.2.2⟩
    · have e' : k = g' := by injection e
      subst e'
      rcases hat' with e | e
      · exact h3 e
      · have := kb.size; omega
    · have e' : g = k := by injection e
      subst e'
      rcases hat with e | e
      · exact h4.2.2.2 e
      · omega
  refine ⟨⟨?_, ?_, ?_, ?_, ?_, fun e => absurd e (by simp)⟩, ⟨?_, ?_, ?_, ?_, fun e => absurd e (by simp)⟩, ⟨kF.os.trans (k6.os.trans kb.os), kF.tape.trans (k6.tape.trans kb.tape), kF.output.trans (k6.output.trans kb.output), hszF, fun k h1 h2 => hall k h1 (fun e => h2 (.inl e)) (fun e => h2 (.inr (.inl e))) (fun e => h2 (.inr (.inr (.inl e)))) (fun e => h2 (.inr (.inr (.inr e))))⟩⟩
  · exact World.cell?_setCell_same _ _ _ ((World.cell?_setCell_other _ _ _ _ (by intro e; injection e with e; exact hLK e.symm)).trans ((World.cell?_of_block (a := ⟨L, 0, none⟩) hL6).trans hl.cell))
  · rw [World.frozen?_setCell, World.frozen?_setCell]; exact (World.frozen?_of_block (a := ⟨L, 0, none⟩) hL6).trans hl.fz
  · exact Nat.lt_of_lt_of_le hl.lt hszF
  · rw [List.length_append, List.length_singleton]
    exact ownsRow_keeps hown' kF (fun k e => by
      have : g' = k := by injection e
      subst this
      exact fun e => e.elim hg'L hg'K)
  · exact ValsC.snoc (hx.move hszF fun k hP' hlt => hmv k (hP k hP' hlt) hlt) (hl.vals.move hszF fun k hP' hlt => hmv k ⟨hP'.1, hP'.2.1, fun e => hP'.2.2.1 e.symm, hP'.2.2.2⟩ hlt)
  · show ((w6.setCell ⟨K, 0, none⟩ _).setCell ⟨L, 0, none⟩ _).cell? _ = _
    rw [World.cell?_setCell_other _ _ _ _ (by intro e; injection e with e; exact hLK e)]
    exact World.cell?_setCell_same _ _ _ ((World.cell?_of_block (a := ⟨K, 0, none⟩) hK6).trans hk.cell)
  · rw [World.frozen?_setCell, World.frozen?_setCell]; exact (World.frozen?_of_block (a := ⟨K, 0, none⟩) hK6).trans hk.fz
  · exact Nat.lt_of_lt_of_le hk.lt hszF
  · rw [List.length_append, List.length_singleton, List.map_append]
    refine ownsRow_keeps (D := fun k => k = L ∨ k = K ∨ v.ownBlock = some k) hown ⟨kF.os.trans (k6.os.trans hb.os), kF.tape.trans (k6.tape.trans hb.tape), kF.output.trans (k6.output.trans hb.output), Nat.le_trans (Nat.le_trans hb.size k6.size) kF.size, fun k h1 h2 => ?_⟩ (fun k e => ?_)
    · rw [kF.block k (Nat.lt_of_lt_of_le h1 (Nat.le_trans hb.size k6.size)) (fun e => e.elim (fun e => h2 (.inl e)) (fun e => h2 (.inr (.inl e)))), k6.block k (Nat.lt_of_lt_of_le h1 hb.size) (fun e => h2 (.inr (.inr e))), hb.block k h1]
    · have : g = k := by injection e
      subst this
      rintro (e | e | e)
      · exact hgL e
      · exact hgK e
      · exact hgv e

/-- .. whatever is stored there. -/
theorem both_pushK {F : Nat → Prop} {B L K mb : Nat} {vs : List Val} {ks : List ByteArray} {v kv : Value} {xs : List Value} {wa wb w5 w6 : World} {g cap g' cap' : Nat} {key : ByteArray} {c0 c1 c2 c3 c4 c5 : Value}
    (hl : ListSt B L (ObjE F K mb kv) vs v xs wa) (hk : KeysSt B K ks kv wa) (hLK : L ≠ K) (hB : B ≤ L)
    (hown : w5.ownsRow B 9 1 (.slice (some ⟨g, 0, none⟩) (ks.length + 1) cap) (ks.length + 1) (ks.map Value.string ++ [.string key])) (hgrow : wa.grownBy w5 kv.ownBlock) (hat : kv.ownBlock = some g ∨ g = wa.heap.size)
    (hb : Below w5.heap.size w5 wb)
    (hown' : w6.ownsRow B 27 6 (.slice (some ⟨g', 0, none⟩) (vs.length + 1) cap') (vs.length + 1) (xs ++ [c0, c1, c2, c3, c4, c5])) (hgrow' : wb.grownBy w6 v.ownBlock) (hat' : v.ownBlock = some g' ∨ g' = wb.heap.size) :
    let wF := (w6.setCell ⟨K, 0, none⟩ (.slice (some ⟨g, 0, none⟩) (ks.length + 1) cap)).setCell ⟨L, 0, none⟩ (.slice (some ⟨g', 0, none⟩) (vs.length + 1) cap')
    wF.cell? ⟨L, 0, none⟩ = some (.slice (some ⟨g', 0, none⟩) (vs.length + 1) cap') ∧ wF.cell? ⟨K, 0, none⟩ = some (.slice (some ⟨g, 0, none⟩) (ks.length + 1) cap) ∧ Keeps (fun k => k = L ∨ k = K ∨ v.ownBlock = some k ∨ kv.ownBlock = some k) wa wF := by
  intro wF
  have hvk := rows_ne hl.own hk.own (by decide)
  have hkv := rows_ne hk.own hl.own (by decide)
  have hKk : kv.ownBlock ≠ some K := fun e => by
    obtain ⟨a, c, rfl⟩ := hk.slice
    exact hk.row_ne hk.cell (fun k e => by cases e) e
  have hLk : kv.ownBlock ≠ some L := fun e => by
    obtain ⟨a, c, rfl⟩ := hl.slice
    exact hk.row_ne hl.cell (fun k e => by cases e) e
  have hLv : v.ownBlock ≠ some L := fun e => by
    obtain ⟨a, c, rfl⟩ := hl.slice
    exact hl.row_ne hl.cell (fun k e => by cases e) e
  have hKv : v.ownBlock ≠ some K := fun e => by
    obtain ⟨a, c, rfl⟩ := hk.slice
    exact hl.row_ne hk.cell (fun k e => by cases e) e
  have hvlt := fun k e => (hl.own.lt k e).2
  have hklt := fun k e => (hk.own.lt k e).2
  have k5 : Keeps (fun k => kv.ownBlock = some k) wa w5 := .of_grown hgrow (fun k e => e)
  have kb : Keeps (fun k => kv.ownBlock = some k) wa wb := k5.next hb
  have k6 : Keeps (fun k => v.ownBlock = some k) wb w6 := .of_grown hgrow' (fun k e => e)
  have hsz : wa.heap.size ≤ w6.heap.size := Nat.le_trans kb.size k6.size
  have h6 : ∀ k, k < wa.heap.size → v.ownBlock ≠ some k → kv.ownBlock ≠ some k → w6.heap[k]? = wa.heap[k]? := fun k hk1 h1 h2 => by
    rw [k6.block k (Nat.lt_of_lt_of_le hk1 kb.size) h1, kb.block k hk1 h2]
  have hg5 : g < w5.heap.size := by
    rcases hown.2 with ⟨e, -⟩ | ⟨g1, c1, cur, e, -, hh, -⟩
    · cases e
    · have : g1 = g := by injection e with e; injection e with e; injection e with e; exact e.symm
      subst this
      exact (Array.getElem?_eq_some_iff.1 hh).1
  have hgb : g < wb.heap.size := Nat.lt_of_lt_of_le hg5 hb.size
  have hgv : v.ownBlock ≠ some g := fun e => by
    rcases hat with h | h
    · exact hkv g h e
    · have := hvlt g e; omega
  have hg'g : g' ≠ g := by
    rintro rfl
    rcases hat' with h | h
    · exact hgv h
    · omega
  have hgL : g ≠ L := by rintro rfl; rcases hat with h | h; exact hLk h; have := hl.lt; omega
  have hgK : g ≠ K := by rintro rfl; rcases hat with h | h; exact hKk h; have := hk.lt; omega
  have hg'L : g' ≠ L := by rintro rfl; rcases hat' with h | h; exact hLv h; have := hl.lt; have := kb.size; omega
  have hg'K : g' ≠ K := by rintro rfl; rcases hat' with h | h; exact hKv h; have := hk.lt; have := kb.size; omega
  have kF : Keeps (fun k => k = L ∨ k = K) w6 wF := by
    have a1 : Keeps (fun k => k = L ∨ k = K) w6 (w6.setCell ⟨K, 0, none⟩ (.slice (some ⟨g, 0, none⟩) (ks.length + 1) cap)) := Keeps.setCell (D := fun k => k = L ∨ k = K) (Keeps.refl _ _) (q := ⟨K, 0, none⟩) (.inr (.inr rfl)) _
    exact a1.setCell (q := ⟨L, 0, none⟩) (.inr (.inl rfl)) _
  have hall : ∀ k, k < wa.heap.size → k ≠ L → k ≠ K → v.ownBlock ≠ some k → kv.ownBlock ≠ some k → wF.heap[k]? = wa.heap[k]? := fun k h1 h2 h3 h4 h5 => by
    rw [kF.block k (Nat.lt_of_lt_of_le h1 hsz) (fun e => e.elim h2 h3), h6 k h1 h4 h5]
  have hszF : wa.heap.size ≤ wF.heap.size := Nat.le_trans hsz kF.size
  have hL6 : w6.heap[L]? = wa.heap[L]? := h6 L hl.lt hLv hLk
  have hK6 : w6.heap[K]? = wa.heap[K]? := h6 K hk.lt hKv hKk
  refine ⟨?_, ?_, ⟨kF.os.trans (k6.os.trans kb.os), kF.tape.trans (k6.tape.trans kb.tape), kF.output.trans (k6.output.trans kb.output), hszF, fun k h1 h2 => hall k h1 (fun e => h2 (.inl e)) (fun e => h2 (.inr (.inl e))) (fun e => h2 (.inr (.inr (.inl e)))) (fun e => h2 (.inr (.inr (.inr e))))⟩⟩
  · exact World.cell?_setCell_same _ _ _ ((World.cell?_setCell_other _ _ _ _ (by intro e; injection e with e; exact hLK e.symm)).trans ((World.cell?_of_block (a := ⟨L, 0, none⟩) hL6).trans hl.cell))
  · show ((w6.setCell ⟨K, 0, none⟩ _).setCell ⟨L, 0, none⟩ _).cell? _ = _
    rw [World.cell?_setCell_other _ _ _ _ (by intro e; injection e with e; exact hLK e)]
    exact World.cell?_setCell_same _ _ _ ((World.cell?_of_block (a := ⟨K, 0, none⟩) hK6).trans hk.cell)

theorem KsAt.row_ne {w : World} {b n : Nat} {ks : List ByteArray} (h : KsAt w b n ks) {B : Nat} {e : TypeId} {sz : Nat} {v : Value} {m : Nat} {xs : List Value} (ho : w.ownsRow B e sz v m xs) : ∀ g, v.ownBlock = some g → g ≠ b := by
  rintro g hg rfl
  obtain ⟨D, ⟨es, clock, hb, -⟩, -⟩ := h
  rcases ho.2 with ⟨rfl, -⟩ | ⟨g1, cap, cur, rfl, -, h1, -⟩
  · cases hg
  · have e1 : g1 = g := by injection hg
    subst e1
    rw [hb] at h1
    cases h1
/-- What a member's key leaves of the state. -/
structure ObjMid (F : Nat → Prop) (B L K M mb Db d W : Nat) (vs : List Val) (ks ks' : List ByteArray) (n : Nat) (v : Value) (xs : List Value) (kv : Value) (w : World) : Prop where
  ls : ListSt B L (ObjE F K mb kv) vs v xs w
  vW : ∀ g, v.ownBlock = some g → W ≤ g
  kst : KeysSt B K ks kv w
  kW : ∀ g, kv.ownBlock = some g → W ≤ g
  set : KsAt w mb n ks'
  num : NumAt w Db d
  map : w.cell? ⟨M, 0, none⟩ = some (.map (some mb))
  le : W ≤ w.heap.size

theorem ObjSt.mid {F : Nat → Prop} {B L K M mb Db d W : Nat} {vs : List Val} {ks : List ByteArray} {w : World} (h : ObjSt F B L K M mb Db d W vs ks w) : ∃ v xs kv, ObjMid F B L K M mb Db d W vs ks ks ks.length v xs kv w := by
  obtain ⟨⟨v, xs, kv, hl, hvW, hk, hkW⟩, hset, hnum, hmap, hlt, hne, hle⟩ := h
  exact ⟨v, xs, kv, hl, hvW, hk, hkW, hset, hnum, hmap, hle⟩
theorem ObjMid.baseB {F : Nat → Prop} {B L K M mb Db d W : Nat} {vs : List Val} {ks ks' : List ByteArray} {n : Nat} {v : Value} {xs : List Value} {kv : Value} {w : World} (h : ObjMid F B L K M mb Db d W vs ks ks' n v xs kv w) (hB : B ≤ L) : B ≤ w.heap.size := Nat.le_of_lt (Nat.lt_of_le_of_lt hB h.ls.lt)
/-- The state stays while the map alone turns, whose set is then another one. -/
theorem ObjMid.keeps {F : Nat → Prop} {B L K M mb Db d W : Nat} {vs : List Val} {ks ks' ks'' : List ByteArray} {n n' : Nat} {v : Value} {xs : List Value} {kv : Value} {w w' : World} (h : ObjMid F B L K M mb Db d W vs ks ks' n v xs kv w) (hM : M < W ∧ M ≠ mb ∧ Db ≠ mb ∧ L ≠ mb ∧ K ≠ mb) (hk : Keeps (· = mb) w w') (hs : KsAt w' mb n' ks'') : ObjMid F B L K M mb Db d W vs ks ks'' n' v xs kv w' :=
  ⟨h.ls.keeps hk hM.2.2.2.1 (fun g e => h.set.row_ne h.ls.own g e) (fun q _ _ _ _ hE => hE.2.2.1), h.vW, h.kst.keeps hk hM.2.2.2.2 (fun g e => h.set.row_ne h.kst.own g e), h.kW, hs, h.num.keeps hk hM.2.2.1,
    (World.cell?_of_block (a := ⟨M, 0, none⟩) (hk.block M (Nat.lt_of_lt_of_le hM.1 h.le) hM.2.1)).trans h.map, Nat.le_trans h.le hk.size⟩
theorem ObjMid.step {F : Nat → Prop} {B L K M mb Db d W : Nat} {vs : List Val} {ks ks' : List ByteArray} {n : Nat} {v : Value} {xs : List Value} {kv : Value} {w w' : World} (h : ObjMid F B L K M mb Db d W vs ks ks' n v xs kv w) (hM : M < W ∧ M ≠ mb ∧ Db ≠ mb ∧ L ≠ mb ∧ K ≠ mb) (hb : Below w.heap.size w w') : ObjMid F B L K M mb Db d W vs ks ks' n v xs kv w' :=
  h.keeps hM (.of_below hb) (h.set.step hb)

def ObjDt (L K mb : Nat) (v kv : Value) (k : Nat) : Prop := k = mb ∨ k = L ∨ k = K ∨ v.ownBlock = some k ∨ kv.ownBlock = some k
theorem ObjMid.dt_lt {F : Nat → Prop} {B L K M mb Db d W : Nat} {vs : List Val} {ks ks' : List ByteArray} {n : Nat} {v : Value} {xs : List Value} {kv : Value} {w : World} (h : ObjMid F B L K M mb Db d W vs ks ks' n v xs kv w) : ∀ k, ObjDt L K mb v kv k → k < w.heap.size := by
  rintro k (rfl | rfl | rfl | e | e)
  · exact h.set.lt
  · exact h.ls.lt
  · exact h.kst.lt
  · exact (h.ls.own.lt k e).2
  · exact (h.kst.own.lt k e).2
/-- What an old place, number or map variable is not. -/
theorem ObjMid.dt_scan {F : Nat → Prop} {B L K M mb Db d W : Nat} {vs : List Val} {ks ks' : List ByteArray} {n : Nat} {v : Value} {xs : List Value} {kv : Value} {w : World} (h : ObjMid F B L K M mb Db d W vs ks ks' n v xs kv w) {b : Nat} {s : ByteArray} {j : Int} (hs : ScanS w b s j) : ¬ ObjDt L K mb v kv b := by
  rintro (rfl | rfl | rfl | e | e)
  · obtain ⟨D, ⟨es, clock, hb, -⟩, -⟩ := h.set
    obtain ⟨cur, fz, hc⟩ := hs.2
    rw [hb] at hc
    cases hc
  · obtain ⟨a, c, rfl⟩ := h.ls.slice
    have := hs.1.2.1
    rw [h.ls.cell] at this
    cases this
  · obtain ⟨a, c, rfl⟩ := h.kst.slice
    have := hs.1.2.1
    rw [h.kst.cell] at this
    cases this
  · exact h.ls.row_ne hs.1.2.1 (fun k e => by cases e) e
  · rcases h.kst.own.2 with ⟨rfl, -⟩ | ⟨g, cap, cur, rfl, -, hg, -⟩
    · cases e
    · have e' : g = b := by injection e
      subst e'
      obtain ⟨cur', fz, hc⟩ := hs.2
      rw [hg] at hc
      injection hc with hc
      injection hc with _ hc
      exact absurd hc (by decide)
theorem ObjMid.dt_num {F : Nat → Prop} {B L K M mb Db d W : Nat} {vs : List Val} {ks ks' : List ByteArray} {n : Nat} {v : Value} {xs : List Value} {kv : Value} {w : World} (h : ObjMid F B L K M mb Db d W vs ks ks' n v xs kv w) (hne : Db ≠ L ∧ Db ≠ K ∧ Db ≠ mb) : ¬ ObjDt L K mb v kv Db := by
  rintro (e | e | e | e | e)
  · exact hne.2.2 e
  · exact hne.1 e
  · exact hne.2.1 e
  · exact h.num.row_ne h.ls e
  · rcases h.kst.own.2 with ⟨rfl, -⟩ | ⟨g, cap, cur, rfl, -, hg, -⟩
    · cases e
    · have e' : g = Db := by injection e
      subst e'
      have := h.num
      unfold NumAt at this
      rw [hg] at this
      injection this with this
      injection this with _ this
      exact absurd this (by decide)
theorem ObjMid.dt_map {F : Nat → Prop} {B L K M mb Db d W : Nat} {vs : List Val} {ks ks' : List ByteArray} {n : Nat} {v : Value} {xs : List Value} {kv : Value} {w : World} (h : ObjMid F B L K M mb Db d W vs ks ks' n v xs kv w) (hne : M ≠ L ∧ M ≠ K ∧ M ≠ mb) : ¬ ObjDt L K mb v kv M := by
  rintro (e | e | e | e | e)
  · exact hne.2.2 e
  · exact hne.1 e
  · exact hne.2.1 e
  · exact h.ls.row_ne h.map (fun k e => by cases e) e
  · exact h.kst.row_ne h.map (fun k e => by cases e) e
theorem obj_fr {F : Nat → Prop} {B L K M mb Db d W : Nat} {vs : List Val} {ks ks' : List ByteArray} {n : Nat} {v : Value} {xs : List Value} {kv : Value} {w wG : World} (h : ObjMid F B L K M mb Db d W vs ks ks' n v xs kv w) (hk : Keeps (ObjDt L K mb v kv) w wG) : Fr (ObjD L K mb) W w wG :=
  ⟨fun b s j hs => hs.keeps hk (h.dt_scan hs), hk.mono fun k e => by
    rcases e with e | e | e | e | e
    · exact .inl (.inr (.inr e))
    · exact .inl (.inl e)
    · exact .inl (.inr (.inl e))
    · exact .inr (h.vW k e)
    · exact .inr (h.kW k e)⟩
theorem obj_end {F : Nat → Prop} {B L K M mb Db d W : Nat} {vs : List Val} {ks : List ByteArray} {v : Value} {xs : List Value} {kv : Value} {w wF : World} {s : ByteArray} {n : Nat} (z : Int) {fb : Nat} {ec ea : Int}
    (h : ObjMid F B L K M mb Db d W vs ks ks n v xs kv w) (hlt : L < W ∧ K < W ∧ M < W ∧ mb < W ∧ Db < W)
    (hk : Keeps (ObjDt L K mb v kv) w wF) (hres : ScanAt wF (w.heap.size + 1) ⟨#[]⟩ 0) {a a' : Option Addr} {l l' c c' : Nat}
    (hL : wF.cell? ⟨L, 0, none⟩ = some (.slice a' l' c')) (hK : wF.cell? ⟨K, 0, none⟩ = some (.slice a l c)) (hf : FaultAt wF fb ec ea) :
    ObjEnd K L (resSet w wF s z) ∧ Fr (ObjD L K mb) W w (resSet w wF s z) ∧ FaultAt (resSet w wF s z) fb ec ea := by
  have hle := h.le
  have kw : Keeps (ObjDt L K mb v kv) w (resSet w wF s z) := (hk.setCell (q := ⟨w.heap.size + 1, 0, none⟩) (.inl (by simp)) _).setCell (q := ⟨w.heap.size + 1, 1, none⟩) (.inl (by simp)) _
  refine ⟨⟨a, l, c, a', l', c', ?_, ?_⟩, obj_fr h kw, hf.set hres s z⟩
  · unfold resSet
    rw [World.cell?_setCell_other _ _ _ _ (by intro e; injection e with e; omega), World.cell?_setCell_other _ _ _ _ (by intro e; injection e with e; omega)]
    exact hK
  · unfold resSet
    rw [World.cell?_setCell_other _ _ _ _ (by intro e; injection e with e; omega), World.cell?_setCell_other _ _ _ _ (by intro e; injection e with e; omega)]
    exact hL
theorem ObjMid.fault {F : Nat → Prop} {B L K M mb Db d W : Nat} {vs : List Val} {ks ks' : List ByteArray} {n : Nat} {v : Value} {xs : List Value} {kv : Value} {w w' : World} (h : ObjMid F B L K M mb Db d W vs ks ks' n v xs kv w) {fb : Nat} {c a : Int} (hf : FaultAt w fb c a)
    (hk : Keeps (fun k => k = L ∨ k = K ∨ v.ownBlock = some k ∨ kv.ownBlock = some k) w w') : FaultAt w' fb c a := by
  obtain ⟨h0, hlt, hc0, hc1⟩ := hf.parts
  refine hf.block hk.size (hk.block fb hlt ?_)
  rintro (rfl | rfl | e | e)
  · obtain ⟨a, c, rfl⟩ := h.ls.slice
    rw [h.ls.cell] at hc0
    cases hc0
  · obtain ⟨a, c, rfl⟩ := h.kst.slice
    rw [h.kst.cell] at hc0
    cases hc0
  · exact h.ls.row_ne' hc1 (fun k e => by cases e) e
  · exact h.kst.row_ne hc0 (fun k e => by cases e) e
theorem obj_done {F : Nat → Prop} {B L K M mb Db d W : Nat} {vs : List Val} {ks : List ByteArray} {v v' : Value} {xs xs' : List Value} {kv kv' : Value} {w wF : World} {x : Val} {key s : ByteArray} {n : Nat} (z : Int)
    (h : ObjMid (fun k => (k < w.heap.size ∨ w.heap.size + 2 ≤ k) ∧ F k) B L K M mb Db d W vs ks ks n v xs kv w) (hlt : L < W ∧ K < W ∧ M < W ∧ mb < W ∧ Db < W) (hne : Db ≠ L ∧ Db ≠ K ∧ Db ≠ mb ∧ L ≠ K ∧ L ≠ mb ∧ K ≠ mb ∧ M ≠ L ∧ M ≠ K ∧ M ≠ mb)
    (hk : Keeps (ObjDt L K mb v kv) w wF) (hres : ScanAt wF (w.heap.size + 1) ⟨#[]⟩ 0)
    (hls : ListSt B L (ObjE (fun k => (k < w.heap.size ∨ w.heap.size + 2 ≤ k) ∧ F k) K mb kv') (vs ++ [x]) v' xs' wF) (hks : KeysSt B K (ks ++ [key]) kv' wF)
    (hv' : ∀ g, v'.ownBlock = some g → v.ownBlock = some g ∨ W ≤ g) (hkv' : ∀ g, kv'.ownBlock = some g → (kv.ownBlock = some g ∨ W ≤ g) ∧ g ≠ w.heap.size + 1)
    (hset : KsAt wF mb (ks.length + 1) (ks ++ [key])) :
    ObjSt F B L K M mb Db d W (vs ++ [x]) (ks ++ [key]) (resSet w wF s z) ∧ Fr (ObjD L K mb) W w (resSet w wF s z) := by
  have hle := h.le
  have kG : Keeps (· = w.heap.size + 1) wF (resSet w wF s z) :=
    Keeps.setCell (D := (· = w.heap.size + 1)) (Keeps.setCell (D := (· = w.heap.size + 1)) (Keeps.refl _ _) (q := ⟨w.heap.size + 1, 0, none⟩) (.inr rfl) _) (q := ⟨w.heap.size + 1, 1, none⟩) (.inr rfl) _
  have kw : Keeps (ObjDt L K mb v kv) w (resSet w wF s z) := (hk.setCell (q := ⟨w.heap.size + 1, 0, none⟩) (.inl (by simp)) _).setCell (q := ⟨w.heap.size + 1, 1, none⟩) (.inl (by simp)) _
  have hgne := hls.row_ne hres.2.1 (fun k e => by cases e)
  refine ⟨⟨⟨v', xs', kv', (hls.keeps kG (by omega) (fun q e h => by rw [h] at e; exact hgne e) (fun q _ _ _ _ hE h => by rcases hE.1.1 with hE | hE <;> omega)).weaken (fun k _ hE => ⟨hE.1.2, hE.2⟩), fun g hg => (hv' g hg).elim (h.vW g) id,
      hks.keeps kG (by omega) (fun q e h => (hkv' q e).2 h), fun g hg => (hkv' g hg).1.elim (h.kW g) id⟩, ?_, h.num.keeps kw (h.dt_num ⟨hne.1, hne.2.1, hne.2.2.1⟩), ?_, hlt, hne, Nat.le_trans hle kw.size⟩, obj_fr h kw⟩
  · rw [List.length_append, List.length_singleton]
    exact hset.keeps kG (by omega)
  · exact (World.cell?_of_block (a := ⟨M, 0, none⟩) (kw.block M (by omega) (h.dt_map ⟨hne.2.2.2.2.2.2.1, hne.2.2.2.2.2.2.2.1, hne.2.2.2.2.2.2.2.2⟩))).trans h.map

set_option maxRecDepth 100000 in
set_option maxHeartbeats 8000000 in
theorem object1_ok (F : Nat → Prop) (s : ByteArray) (d B L K M mb Db W p0 q0' : Nat) (key : ByteArray) (vs : List Val) (ks : List ByteArray) (hs : s.size ≤ 100000) (hp0 : p0 ≤ s.size) (hV : ValueSpec s d) (w : World) (hg : Handle w) (hB : B ≤ L ∧ B ≤ K ∧ B ≤ mb) (hB0 : 0 < B) (hn : vs.length ≤ 200000) (hn' : ks.length ≤ 200000) (hF : ∀ k, w.heap.size + 2 ≤ k → F k) (h : ObjSt F B L K M mb Db d W vs ks w)
    (hkey : ∀ w, KsAt w mb ks.length ks → Calls Tryz.prog 96 #[.agg #[.string s, .int .i64 p0], .map (some mb)] w (KeyOut w s ks mb ks.length (.ok q0' key))) (hkr : keyR s 123 (sk s p0) ks = .ok q0' key) :
    Calls Tryz.prog 95 #[.agg #[.string s, .int .i64 p0], .pointer (some ⟨M, 0, none⟩), .pointer (some ⟨Db, 0, none⟩), .pointer (some ⟨K, 0, none⟩), .pointer (some ⟨L, 0, none⟩)] w (Item (ObjSt F B L K M mb Db d W) (ObjEnd K L) (ObjD L K mb) W w s d 123 vs ks p0) := by
  obtain ⟨i0, hi, hz0, hz1, hz2⟩ := info_parts infoVal
  obtain ⟨i1, hi', hz0', hz1', hz2'⟩ := info_parts infoStr'
  obtain ⟨v, xs, kv, hm⟩ := h.mid
  have hlt := h.lt
  have hne := h.ne
  have hM : M < W ∧ M ≠ mb ∧ Db ≠ mb ∧ L ≠ mb ∧ K ≠ mb := ⟨hlt.2.2.1, hne.2.2.2.2.2.2.2.2, hne.2.2.1, hne.2.2.2.2.1, hne.2.2.2.2.2.1⟩
  have hWle := h.le
  have HF := Lib.hid hF
  clear hF
  have HM : Hid (ObjMid (fun k => (k < w.heap.size ∨ w.heap.size + 2 ≤ k) ∧ F k) B L K M mb Db d W vs ks ks ks.length v xs kv w) := Lib.hid ⟨hm.ls.weaken fun k hlt hE => ⟨⟨.inl hlt, hE.1⟩, hE.2⟩, hm.vW, hm.kst, hm.kW, hm.set, hm.num, hm.map, hm.le⟩
  have H0 := Lib.hid (InScan.new w s p0 58)
  have HK0 := Lib.hid (InK.of (D := (· = mb)) H0.out)
  have hm0 := hm.step hM H0.out.below
  have cm := hm0.map
  have HKEY := Lib.hid (hkey _ hm0.set)
  have hVLT : ∀ k, v.ownBlock = some k → k < w.heap.size := fun k e => (hm.ls.own.lt k e).2
  have hKLT : ∀ k, kv.ownBlock = some k → k < w.heap.size := fun k e => (hm.kst.own.lt k e).2
  have HVLT := Lib.hid hVLT
  have HKLT := Lib.hid hKLT
  have HKR0 := Lib.hid hkr
  obtain ⟨va, vc, rfl⟩ := hm.ls.slice
  obtain ⟨ka, kc, rfl⟩ := hm.kst.slice
  clear h hm hm0 hkey hVLT hKLT hkr
  go_enter Tryz.func95, Tryz.ntmps95
  go_wp2_with fail
  refine HKEY.out.mono ?_
  rintro e w1 ⟨r, hrl, hsk, rfl, hset1, hk1⟩
  have HKR : Hid (keyR s 123 (sk s p0) ks = .ok (sk s r) key) := Lib.hid (by rw [hsk]; exact HKR0.out)
  clear hsk HKR0
  have H1 := Lib.hid ((HK0.out.turn hk1 (fun k e => by subst e; omega)).set r)
  have hk01 : Keeps (· = mb) w w1 := (Keeps.of_below H0.out.below).trans hk1
  have hmw : mb ≠ w.heap.size := by omega
  have hs2 := (hset1.far (q := ⟨w.heap.size, 0, none⟩) hmw (.string s)).far (q := ⟨w.heap.size, 1, none⟩) hmw (.int .i64 r)
  have hm2 := HM.out.keeps hM ((hk01.setCell (q := ⟨w.heap.size, 0, none⟩) (.inl (Nat.le_refl _)) (.string s)).setCell (q := ⟨w.heap.size, 1, none⟩) (.inl (Nat.le_refl _)) (.int .i64 r)) hs2
  have HM2 := Lib.hid hm2
  have cd := hm2.num.cell
  obtain ⟨-, c0, c1, cf⟩ := (HK0.out.turn hk1 (fun k e => by subst e; omega)).own
  clear hs2 hm2 hset1 cm
  go_wp2_with fail
  generalize (w1.setCell ⟨w.heap.size, 0, none⟩ (.string s)).setCell ⟨w.heap.size, 1, none⟩ (.int .i64 r) = w2 at *
  refine (hV r hrl _ (by exact (Handle.pos hg |> fun hp => (World.cell?_of_block (a := ⟨0, 0, none⟩) (H1.out.keeps.block 0 hp (by omega))).trans hg))).mono ?_
  rintro e w3 (⟨j, x, k, t, n, a, l, c, a', l', c', z, hv, rfl, hval, b3⟩ | ⟨ec, ea, fb, j, k, t, n, a, l, c, a', l', c', z, hv, hj, rfl, hf, b3⟩)
  · have HV := Lib.hid hv
    have HI3 := Lib.hid (H1.out.step b3)
    have HM3 := Lib.hid (HM2.out.step hM b3)
    have hq2 : w.heap.size + 1 < w2.heap.size := H1.out.res.1
    have hk4 : Keeps (· = w.heap.size) w3 ((w3.setCell ⟨w.heap.size, 0, none⟩ (.string s)).setCell ⟨w.heap.size, 1, none⟩ (.int .i64 (sk s j))) :=
      Keeps.setCell (D := (· = w.heap.size)) (Keeps.setCell (D := (· = w.heap.size)) (Keeps.refl _ _) (q := ⟨w.heap.size, 0, none⟩) (.inr rfl) _) (q := ⟨w.heap.size, 1, none⟩) (.inr rfl) _
    have hX3 : ValC (fun q => w.heap.size + 2 ≤ q) w3 [.int .i64 k, .string t, .int .u64 n, .slice a l c, .slice a' l' c', .int .i64 z] x := hval.move (Nat.le_refl _) fun q hq _ => ⟨by have hq : w2.heap.size ≤ q := hq; omega, rfl⟩
    have hX4 := hX3.keeps hk4 (fun q hq e => by omega)
    have hs4 := ((HM3.out.set.far (q := ⟨w.heap.size, 0, none⟩) hmw (.string s)).far (q := ⟨w.heap.size, 1, none⟩) hmw (.int .i64 (sk s j)))
    have hbn := sbelow_new ((w3.setCell ⟨w.heap.size, 0, none⟩ (.string s)).setCell ⟨w.heap.size, 1, none⟩ (.int .i64 (sk s j))) (.cells #[.int .i64 k, .string t, .int .u64 n, .slice a l c, .slice a' l' c', .int .i64 z] 27)
    have hI4 := (HI3.out.set (sk s j)).step hbn
    have hM4 := HM.out.keeps hM hI4.keeps (hs4.step hbn)
    have HX4 := Lib.hid (hX4.step hbn)
    have H64 : Hid (SixAt (((w3.setCell ⟨w.heap.size, 0, none⟩ (.string s)).setCell ⟨w.heap.size, 1, none⟩ (.int .i64 (sk s j))).alloc (.cells #[.int .i64 k, .string t, .int .u64 n, .slice a l c, .slice a' l' c', .int .i64 z] 27)) w3.heap.size (.int .i64 k) (.string t) (.int .u64 n) (.slice a l c) (.slice a' l' c') (.int .i64 z)) := Lib.hid (by
      have := heap_alloc_new ((w3.setCell ⟨w.heap.size, 0, none⟩ (.string s)).setCell ⟨w.heap.size, 1, none⟩ (.int .i64 (sk s j))) (.cells #[.int .i64 k, .string t, .int .u64 n, .slice a l c, .slice a' l' c', .int .i64 z] 27)
      rwa [World.size_setCell, World.size_setCell] at this)
    have HI4 := Lib.hid hI4
    have HM4 := Lib.hid hM4
    obtain ⟨l3, c0, c1, cf⟩ := HI3.out.own
    clear hv hval cd hX3 hX4 hk4 hs4 hI4 hM4 hbn
    go_wp2_with fail
    generalize ((w3.setCell ⟨w.heap.size, 0, none⟩ (.string s)).setCell ⟨w.heap.size, 1, none⟩ (.int .i64 (sk s j))).alloc (.cells #[.int .i64 k, .string t, .int .u64 n, .slice a l c, .slice a' l' c', .int .i64 z] 27) = w4 at *
    generalize w3.heap.size = q at *
    clear c0 c1 cf
    refine region_T (fun w' => w'.cell? ⟨K, 0, none⟩ = some (.slice ka ks.length kc) ∧ w'.cell? ⟨L, 0, none⟩ = some (.slice va vs.length vc) ∧ SixAt w' q (.int .i64 k) (.string t) (.int .u64 n) (.slice a l c) (.slice a' l' c') (.int .i64 z)) 8 (by kernel_rfl) ?_
    have hS0 : (fun w' : World => w'.cell? ⟨K, 0, none⟩ = some (.slice ka ks.length kc) ∧ w'.cell? ⟨L, 0, none⟩ = some (.slice va vs.length vc) ∧ SixAt w' q (.int .i64 k) (.string t) (.int .u64 n) (.slice a l c) (.slice a' l' c') (.int .i64 z)) w4.drew := ⟨HM4.out.kst.cell, HM4.out.ls.cell, H64.out⟩
    refine wpT_take (i := 0) (v := .slice ka ks.length kc) rfl (by kernel_rfl) (by kernel_rfl) (by kernel_rfl) (by kernel_rfl) (by kernel_rfl) (by kernel_rfl) (by kernel_rfl) (by kernel_rfl) (fun _ _ _ h => h) (Or.inl ⟨by rfl, ?_⟩) hS0 ?_
    · rintro w' ⟨h1, h2, h3⟩
      go_simp
    simp only [Act.put, List.setIfInBounds_toArray, List.set_cons_zero, List.set_cons_succ]
    refine wpT_take (i := 1) (v := .string key) rfl (by kernel_rfl) (by kernel_rfl) (by kernel_rfl) (by kernel_rfl) (by kernel_rfl) (by kernel_rfl) (by kernel_rfl) (by kernel_rfl) (fun _ _ _ h => h) (Or.inl ⟨by rfl, ?_⟩) hS0 ?_
    · intro w' _
      go_simp
    simp only [Act.put, List.setIfInBounds_toArray, List.set_cons_zero, List.set_cons_succ]
    refine wpT_take (i := 4) (v := .slice va vs.length vc) rfl (by kernel_rfl) (by kernel_rfl) (by kernel_rfl) (by kernel_rfl) (by kernel_rfl) (by kernel_rfl) (by kernel_rfl) (by kernel_rfl) (fun _ _ _ h => h) (Or.inl ⟨by rfl, ?_⟩) hS0 ?_
    · rintro w' ⟨h1, h2, h3⟩
      go_simp
    simp only [Act.put, List.setIfInBounds_toArray, List.set_cons_zero, List.set_cons_succ]
    refine wpT_take (i := 5) (v := .agg #[.int .i64 k, .string t, .int .u64 n, .slice a l c, .slice a' l' c', .int .i64 z]) rfl (by kernel_rfl) (by kernel_rfl) (by kernel_rfl) (by kernel_rfl) (by kernel_rfl) (by kernel_rfl) (by kernel_rfl) (by kernel_rfl) (fun _ _ _ h => h) (Or.inl ⟨by rfl, ?_⟩) hS0 ?_
    · rintro w' ⟨h1, h2, h3⟩
      obtain ⟨s0, s1, s2, s3, s4, s5⟩ := h3.cells
      go_simp
    simp only [Act.put, List.setIfInBounds_toArray, List.set_cons_zero, List.set_cons_succ]
    have hmid0 : ObjMid (fun k => (k < w.heap.size ∨ w.heap.size + 2 ≤ k) ∧ F k) B L K M mb Db d W vs ks (ks ++ [key]) (ks.length + 1) (.slice va vs.length vc) xs (.slice ka ks.length kc) w4.drew := HM4.out.step hM (Below.drew (Below.refl _ _))
    have hx0 : ValC (fun q => w.heap.size + 2 ≤ q) w4.drew [.int .i64 k, .string t, .int .u64 n, .slice a l c, .slice a' l' c', .int .i64 z] x := HX4.out.step (Below.drew (Below.refl _ _))
    have h60 : SixAt w4.drew q (.int .i64 k) (.string t) (.int .u64 n) (.slice a l c) (.slice a' l' c') (.int .i64 z) := H64.out
    have hqk : ∀ k', Value.ownBlock (.slice ka ks.length kc) = some k' → k' ≠ q := fun k' e => by have := HKLT.out _ e; omega
    have hqv : ∀ k', Value.ownBlock (.slice va vs.length vc) = some k' → k' ≠ q := fun k' e => by have := HVLT.out _ e; omega
    have hone : ∀ u ∈ [Value.string key], u.oneCell' = true := by intro u hu; rw [List.mem_singleton.1 hu]; rfl
    have hsix : ∀ u ∈ [Value.int .i64 k, .string t, .int .u64 n, .slice a l c, .slice a' l' c', .int .i64 z], u.oneCell' = true := by
      intro u hu
      simp only [List.mem_cons, List.not_mem_nil, or_false] at hu
      rcases hu with rfl | rfl | rfl | rfl | rfl | rfl <;> rfl
    refine wpT_two (i := 2) (i' := 6) (by kernel_rfl) rfl rfl ?_ ?_
    · intro KK hKK
      go_simp
      have hbk := sbelow_new w4.drew (.cells #[.string key] 9)
      have HBK := Lib.hid hbk
      have hmid1 := hmid0.step hM hbk
      have h61 := h60.alloc (.cells #[.string key] 9)
      have hx1 := hx0.step hbk
      have hk1 : (w4.drew.alloc (.cells #[.string key] 9)).heap[w4.heap.size]? = some (.cells #[.string key] 9 (0, 0)) := heap_alloc_new w4.drew _
      refine hKK _ _ ⟨fun _ => ⟨hmid1.kst.cell, hmid1.ls.cell, h61⟩, ?_⟩
      clear hKK
      refine wpT_two (i := 3) (i' := 6) (by kernel_rfl) rfl rfl ?_ ?_
      · intro KK hKK
        refine step_append_lies _ rfl _ _ 25 rfl B 9 i1 (.string ByteArray.empty) 1 16 Tryz.underlying25 hi' hz0' hz1' hz2' rfl (by decide) _ ks.length (ks.map Value.string) rfl hmid1.kst.own _ 1 1 [.string key] rfl rfl (World.news_of_block hk1) hone (by decide) (by unfold maxLen; omega) (by omega) (hmid1.baseB hB.1) _ rfl ?_
        intro g cap w5 hown5 hgrow5 hat5 hlt5
        have HGE5 : Hid (w.heap.size + 2 ≤ (w4.drew.alloc (.cells #[.string key] 9)).heap.size) := Lib.hid (Nat.le_trans (show w.heap.size + 2 ≤ w4.drew.heap.size from HI4.out.res.1) HBK.out.size)
        have kg := hmid1.kst.grown hgrow5
        have lne : some L ≠ Value.ownBlock (.slice ka ks.length kc) := fun e => hmid1.kst.row_ne hmid1.ls.cell (fun k e => by cases e) e.symm
        have lc5 := (hgrow5.cell_far ⟨L, 0, none⟩ hmid1.ls.lt lne).trans hmid1.ls.cell
        have lf5 := (hgrow5.frozen_far ⟨L, 0, none⟩ hmid1.ls.lt lne).trans hmid1.ls.fz
        have six5 := h61.grown hgrow5 (fun e => hqk _ e rfl)
        have lo5 := ownsRow_keeps hmid1.ls.own (Keeps.of_grown (D := fun k => Value.ownBlock (.slice ka ks.length kc) = some k) hgrow5 (fun k e => e)) (fun k e e' => rows_ne hmid1.ls.own hmid1.kst.own (by decide) k e e')
        refine hKK _ _ ⟨fun _ => ⟨kg.1, lc5, six5⟩, ?_⟩
        clear hKK
        simp only [Act.put, List.setIfInBounds_toArray, List.set_cons_zero, List.set_cons_succ]
        refine wpT_one (i := 6) (by kernel_rfl) rfl ?_
        intro KK hKK
        go_simp
        have hb6 := sbelow_new w5 (.cells #[.int .i64 k, .string t, .int .u64 n, .slice a l c, .slice a' l' c', .int .i64 z] 27)
        have six6 := six5.alloc (.cells #[.int .i64 k, .string t, .int .u64 n, .slice a l c, .slice a' l' c', .int .i64 z] 27)
        have hB2 : SixAt (w5.alloc (.cells #[.int .i64 k, .string t, .int .u64 n, .slice a l c, .slice a' l' c', .int .i64 z] 27)) w5.heap.size (.int .i64 k) (.string t) (.int .u64 n) (.slice a l c) (.slice a' l' c') (.int .i64 z) := heap_alloc_new w5 _
        have kc6 := (hb6.cell (p := ⟨K, 0, none⟩) kg.2.2).trans kg.1
        have kf6 := (hb6.frozen (p := ⟨K, 0, none⟩) kg.2.2).trans kg.2.1
        have kl6 := Nat.lt_of_lt_of_le kg.2.2 hb6.size
        have ll5 := Nat.lt_of_lt_of_le hmid1.ls.lt hgrow5.size
        have lc6 := (hb6.cell (p := ⟨L, 0, none⟩) ll5).trans lc5
        have lf6 := (hb6.frozen (p := ⟨L, 0, none⟩) ll5).trans lf5
        have ll6 := Nat.lt_of_lt_of_le ll5 hb6.size
        refine hKK _ _ ⟨fun _ => ⟨kc6, lc6, six6⟩, ?_⟩
        clear hKK
        refine wpT_one (i := 7) (by kernel_rfl) rfl ?_
        intro KK hKK
        refine step_append_lies _ rfl _ _ 24 rfl B 27 i0 (.agg #[.int .i64 0, .string ⟨#[]⟩, .int .u64 0, .slice none 0 0, .slice none 0 0, .int .i64 0]) 6 88 Tryz.underlying24 hi hz0 hz1 hz2 rfl (by decide) _ vs.length xs rfl (lo5.alloc _) _ 1 1 [.int .i64 k, .string t, .int .u64 n, .slice a l c, .slice a' l' c', .int .i64 z] rfl rfl (World.news_of_block hB2) hsix (by decide) (by unfold maxLen; omega) (by omega) (Nat.le_trans (hmid1.baseB hB.1) (Nat.le_trans hgrow5.size hb6.size)) _ rfl ?_
        intro g' cap' w7 hown7 hgrow7 hat7 hlt7
        have HGE7 : Hid (W ≤ (w5.alloc (.cells #[.int .i64 k, .string t, .int .u64 n, .slice a l c, .slice a' l' c', .int .i64 z] 27)).heap.size) := Lib.hid (Nat.le_trans hmid1.le (Nat.le_trans hgrow5.size hb6.size))
        have kne : some K ≠ Value.ownBlock (.slice va vs.length vc) := fun e => hmid1.ls.row_ne hmid1.kst.cell (fun k e => by cases e) e.symm
        have lne7 : some L ≠ Value.ownBlock (.slice va vs.length vc) := fun e => hmid1.ls.row_ne hmid1.ls.cell (fun k e => by cases e) e.symm
        have hbp := both_push hmid1.ls hmid1.kst hne.2.2.2.1 hB.1 hown5 hgrow5 hat5 hb6 hown7 hgrow7 hat7 hx1 (fun k' hk' hlt' => ⟨by omega, by omega, fun e => by have := HVLT.out _ e; omega, ⟨.inr hk', HF.out _ hk'⟩, by omega, by omega, fun e => by have := HKLT.out _ e; omega⟩)
        have kc7 := (hgrow7.cell_far ⟨K, 0, none⟩ kl6 kne).trans kc6
        have kf7 := (hgrow7.frozen_far ⟨K, 0, none⟩ kl6 kne).trans kf6
        have lc7 := (hgrow7.cell_far ⟨L, 0, none⟩ ll6 lne7).trans lc6
        have lf7 := (hgrow7.frozen_far ⟨L, 0, none⟩ ll6 lne7).trans lf6
        have six7 := six6.grown hgrow7 (fun e => hqv _ e rfl)
        refine hKK _ _ ⟨fun _ => ⟨kc7, lc7, six7⟩, ?_⟩
        simp only [Act.put, List.setIfInBounds_toArray, List.set_cons_zero, List.set_cons_succ]
        refine wpT_tail 8 2 rfl rfl (by kernel_rfl) (by kernel_rfl) ?_
        have hKL := hne.2.2.2.1
        have hKL' := hKL.symm
        have hbk3 : Keeps (ObjDt L K mb (.slice va vs.length vc) (.slice ka ks.length kc)) _ _ := hbp.2.2.mono (fun k' e => .inr e)
        have hIF := (((HI4.out.mono (D' := ObjDt L K mb (.slice va vs.length vc) (.slice ka ks.length kc)) (fun k' e => .inl e)).drew).step HBK.out).turn hbk3 HM.out.dt_lt
        have hset7 := hmid1.set.keeps hbp.2.2 (fun e => by
          rcases e with e | e | e | e
          · exact hne.2.2.2.2.1 e.symm
          · exact hne.2.2.2.2.2.1 e.symm
          · exact hmid1.set.row_ne hmid1.ls.own _ e rfl
          · exact hmid1.set.row_ne hmid1.kst.own _ e rfl)
        have HDONE := Lib.hid (obj_done (s := s) (z := (sk s j : Nat)) HM.out hlt hne hIF.keeps hIF.res hbp.1 hbp.2.1 (fun g1 e => by
            have e' : g' = g1 := by injection e
            subst e'
            exact hat7.imp id (fun e => by have h1 : W ≤ g' := Nat.le_trans HGE7.out (Nat.le_of_eq e.symm); omega)) (fun g1 e => by
            have e' : g = g1 := by injection e
            subst e'
            exact ⟨hat5.imp id (fun e => by have h1 : w.heap.size + 2 ≤ g := Nat.le_trans HGE5.out (Nat.le_of_eq e.symm); omega), hat5.elim (fun e => by have := HKLT.out _ e; omega) (fun e => by have h1 : w.heap.size + 2 ≤ g := Nat.le_trans HGE5.out (Nat.le_of_eq e.symm); omega)⟩) hset7)
        have HBP := Lib.hid hbp
        have HIF := Lib.hid hIF
        have hKw : K ≠ w.heap.size := by omega
        have hLw : L ≠ w.heap.size := by omega
        have hKw1 : K ≠ w.heap.size + 1 := by omega
        have hLw1 : L ≠ w.heap.size + 1 := by omega
        have o70 := ((World.cell?_setCell_far _ ⟨L, 0, none⟩ ⟨w.heap.size, 0, none⟩ _ hLw).trans (World.cell?_setCell_far _ ⟨K, 0, none⟩ ⟨w.heap.size, 0, none⟩ _ hKw)).symm.trans hIF.own.2.1
        have o71 := ((World.cell?_setCell_far _ ⟨L, 0, none⟩ ⟨w.heap.size, 1, none⟩ _ hLw).trans (World.cell?_setCell_far _ ⟨K, 0, none⟩ ⟨w.heap.size, 1, none⟩ _ hKw)).symm.trans hIF.own.2.2.1
        have r70 := ((World.cell?_setCell_far _ ⟨L, 0, none⟩ ⟨w.heap.size + 1, 0, none⟩ _ hLw1).trans (World.cell?_setCell_far _ ⟨K, 0, none⟩ ⟨w.heap.size + 1, 0, none⟩ _ hKw1)).symm.trans hIF.res.2.1
        have r71 := ((World.cell?_setCell_far _ ⟨L, 0, none⟩ ⟨w.heap.size + 1, 1, none⟩ _ hLw1).trans (World.cell?_setCell_far _ ⟨K, 0, none⟩ ⟨w.heap.size + 1, 1, none⟩ _ hKw1)).symm.trans hIF.res.2.2.1
        have rf7 : ∀ i, w7.frozen? ⟨w.heap.size + 1, i, none⟩ = false := fun i => by
          have := hIF.res.2.2.2 i
          rwa [World.frozen?_setCell, World.frozen?_setCell] at this
        clear hKK hbp hIF hbk3 hset7
        go_wp2
        obtain ⟨q0, q1, -⟩ := HIF.out.out (sk s j)
        unfold resSet at q0 q1
        exact bodyPost_ret (v := .tuple #[.agg #[.string s, .int .i64 (sk s j)], .nilIface]) (by simp [results, Tryz.results95, go_sem, q0, q1]) rfl (.inl ⟨j, sk s r, x, key, HKR.out, HV.out, rfl, HDONE.out.1, HDONE.out.2⟩)
      · intro KK hKK
        go_simp
        have hbk2 := sbelow_new (w4.drew.alloc (.cells #[.string key] 9)) (.cells #[.int .i64 k, .string t, .int .u64 n, .slice a l c, .slice a' l' c', .int .i64 z] 27)
        have HBK2 := Lib.hid (HBK.out.trans (hbk2.mono HBK.out.size))
        have hmid2 := hmid1.step hM hbk2
        have h62 := h61.alloc (.cells #[.int .i64 k, .string t, .int .u64 n, .slice a l c, .slice a' l' c', .int .i64 z] 27)
        have hx2 := hx1.step hbk2
        have hk2 : ((w4.drew.alloc (.cells #[.string key] 9)).alloc (.cells #[.int .i64 k, .string t, .int .u64 n, .slice a l c, .slice a' l' c', .int .i64 z] 27)).heap[w4.heap.size]? = some (.cells #[.string key] 9 (0, 0)) := (heap_alloc_old _ _ (Array.getElem?_eq_some_iff.1 hk1).1).trans hk1
        have hB2 : SixAt ((w4.drew.alloc (.cells #[.string key] 9)).alloc (.cells #[.int .i64 k, .string t, .int .u64 n, .slice a l c, .slice a' l' c', .int .i64 z] 27)) (w4.heap.size + 1) (.int .i64 k) (.string t) (.int .u64 n) (.slice a l c) (.slice a' l' c') (.int .i64 z) := by
          have := heap_alloc_new (w4.drew.alloc (.cells #[.string key] 9)) (.cells #[.int .i64 k, .string t, .int .u64 n, .slice a l c, .slice a' l' c', .int .i64 z] 27)
          rwa [show (w4.drew.alloc (.cells #[.string key] 9)).heap.size = w4.heap.size + 1 by simp] at this
        refine hKK _ _ ⟨fun _ => ⟨hmid2.kst.cell, hmid2.ls.cell, h62⟩, ?_⟩
        clear hKK
        refine wpT_one (i := 3) (by kernel_rfl) rfl ?_
        intro KK hKK
        refine step_append_lies _ rfl _ _ 25 rfl B 9 i1 (.string ByteArray.empty) 1 16 Tryz.underlying25 hi' hz0' hz1' hz2' rfl (by decide) _ ks.length (ks.map Value.string) rfl hmid2.kst.own _ 1 1 [.string key] rfl rfl (World.news_of_block hk2) hone (by decide) (by unfold maxLen; omega) (by omega) (hmid2.baseB hB.1) _ rfl ?_
        intro g cap w5 hown5 hgrow5 hat5 hlt5
        have HGE5 : Hid (w.heap.size + 2 ≤ ((w4.drew.alloc (.cells #[.string key] 9)).alloc (.cells #[.int .i64 k, .string t, .int .u64 n, .slice a l c, .slice a' l' c', .int .i64 z] 27)).heap.size) := Lib.hid (Nat.le_trans (show w.heap.size + 2 ≤ w4.drew.heap.size from HI4.out.res.1) HBK2.out.size)
        have kg := hmid2.kst.grown hgrow5
        have lne : some L ≠ Value.ownBlock (.slice ka ks.length kc) := fun e => hmid2.kst.row_ne hmid2.ls.cell (fun k e => by cases e) e.symm
        have lc5 := (hgrow5.cell_far ⟨L, 0, none⟩ hmid2.ls.lt lne).trans hmid2.ls.cell
        have lf5 := (hgrow5.frozen_far ⟨L, 0, none⟩ hmid2.ls.lt lne).trans hmid2.ls.fz
        have six5 := h62.grown hgrow5 (fun e => hqk _ e rfl)
        have lo5 := ownsRow_keeps hmid2.ls.own (Keeps.of_grown (D := fun k => Value.ownBlock (.slice ka ks.length kc) = some k) hgrow5 (fun k e => e)) (fun k e e' => rows_ne hmid2.ls.own hmid2.kst.own (by decide) k e e')
        refine hKK _ _ ⟨fun _ => ⟨kg.1, lc5, six5⟩, ?_⟩
        clear hKK
        simp only [Act.put, List.setIfInBounds_toArray, List.set_cons_zero, List.set_cons_succ]
        have hB5 := hB2.grown hgrow5 (fun e => by have := HKLT.out _ e; have := HI4.out.res.1; omega)
        have ll5 := Nat.lt_of_lt_of_le hmid2.ls.lt hgrow5.size
        refine wpT_one (i := 7) (by kernel_rfl) rfl ?_
        intro KK hKK
        refine step_append_lies _ rfl _ _ 24 rfl B 27 i0 (.agg #[.int .i64 0, .string ⟨#[]⟩, .int .u64 0, .slice none 0 0, .slice none 0 0, .int .i64 0]) 6 88 Tryz.underlying24 hi hz0 hz1 hz2 rfl (by decide) _ vs.length xs rfl lo5 _ 1 1 [.int .i64 k, .string t, .int .u64 n, .slice a l c, .slice a' l' c', .int .i64 z] rfl rfl (World.news_of_block hB5) hsix (by decide) (by unfold maxLen; omega) (by omega) (Nat.le_trans (hmid2.baseB hB.1) hgrow5.size) _ rfl ?_
        intro g' cap' w7 hown7 hgrow7 hat7 hlt7
        have HGE7 : Hid (W ≤ w5.heap.size) := Lib.hid (Nat.le_trans hmid2.le hgrow5.size)
        have kne : some K ≠ Value.ownBlock (.slice va vs.length vc) := fun e => hmid2.ls.row_ne hmid2.kst.cell (fun k e => by cases e) e.symm
        have lne7 : some L ≠ Value.ownBlock (.slice va vs.length vc) := fun e => hmid2.ls.row_ne hmid2.ls.cell (fun k e => by cases e) e.symm
        have hbp := both_push hmid2.ls hmid2.kst hne.2.2.2.1 hB.1 hown5 hgrow5 hat5 (Below.refl _ _) hown7 hgrow7 hat7 hx2 (fun k' hk' hlt' => ⟨by omega, by omega, fun e => by have := HVLT.out _ e; omega, ⟨.inr hk', HF.out _ hk'⟩, by omega, by omega, fun e => by have := HKLT.out _ e; omega⟩)
        have kc7 := (hgrow7.cell_far ⟨K, 0, none⟩ kg.2.2 kne).trans kg.1
        have kf7 := (hgrow7.frozen_far ⟨K, 0, none⟩ kg.2.2 kne).trans kg.2.1
        have lc7 := (hgrow7.cell_far ⟨L, 0, none⟩ ll5 lne7).trans lc5
        have lf7 := (hgrow7.frozen_far ⟨L, 0, none⟩ ll5 lne7).trans lf5
        have six7 := six5.grown hgrow7 (fun e => hqv _ e rfl)
        refine hKK _ _ ⟨fun _ => ⟨kc7, lc7, six7⟩, ?_⟩
        simp only [Act.put, List.setIfInBounds_toArray, List.set_cons_zero, List.set_cons_succ]
        refine wpT_tail 8 2 rfl rfl (by kernel_rfl) (by kernel_rfl) ?_
        have hKL := hne.2.2.2.1
        have hKL' := hKL.symm
        have hbk3 : Keeps (ObjDt L K mb (.slice va vs.length vc) (.slice ka ks.length kc)) _ _ := hbp.2.2.mono (fun k' e => .inr e)
        have hIF := (((HI4.out.mono (D' := ObjDt L K mb (.slice va vs.length vc) (.slice ka ks.length kc)) (fun k' e => .inl e)).drew).step HBK2.out).turn hbk3 HM.out.dt_lt
        have hset7 := hmid2.set.keeps hbp.2.2 (fun e => by
          rcases e with e | e | e | e
          · exact hne.2.2.2.2.1 e.symm
          · exact hne.2.2.2.2.2.1 e.symm
          · exact hmid2.set.row_ne hmid2.ls.own _ e rfl
          · exact hmid2.set.row_ne hmid2.kst.own _ e rfl)
        have HDONE := Lib.hid (obj_done (s := s) (z := (sk s j : Nat)) HM.out hlt hne hIF.keeps hIF.res hbp.1 hbp.2.1 (fun g1 e => by
            have e' : g' = g1 := by injection e
            subst e'
            exact hat7.imp id (fun e => by have h1 : W ≤ g' := Nat.le_trans HGE7.out (Nat.le_of_eq e.symm); omega)) (fun g1 e => by
            have e' : g = g1 := by injection e
            subst e'
            exact ⟨hat5.imp id (fun e => by have h1 : w.heap.size + 2 ≤ g := Nat.le_trans HGE5.out (Nat.le_of_eq e.symm); omega), hat5.elim (fun e => by have := HKLT.out _ e; omega) (fun e => by have h1 : w.heap.size + 2 ≤ g := Nat.le_trans HGE5.out (Nat.le_of_eq e.symm); omega)⟩) hset7)
        have HBP := Lib.hid hbp
        have HIF := Lib.hid hIF
        have hKw : K ≠ w.heap.size := by omega
        have hLw : L ≠ w.heap.size := by omega
        have hKw1 : K ≠ w.heap.size + 1 := by omega
        have hLw1 : L ≠ w.heap.size + 1 := by omega
        have o70 := ((World.cell?_setCell_far _ ⟨L, 0, none⟩ ⟨w.heap.size, 0, none⟩ _ hLw).trans (World.cell?_setCell_far _ ⟨K, 0, none⟩ ⟨w.heap.size, 0, none⟩ _ hKw)).symm.trans hIF.own.2.1
        have o71 := ((World.cell?_setCell_far _ ⟨L, 0, none⟩ ⟨w.heap.size, 1, none⟩ _ hLw).trans (World.cell?_setCell_far _ ⟨K, 0, none⟩ ⟨w.heap.size, 1, none⟩ _ hKw)).symm.trans hIF.own.2.2.1
        have r70 := ((World.cell?_setCell_far _ ⟨L, 0, none⟩ ⟨w.heap.size + 1, 0, none⟩ _ hLw1).trans (World.cell?_setCell_far _ ⟨K, 0, none⟩ ⟨w.heap.size + 1, 0, none⟩ _ hKw1)).symm.trans hIF.res.2.1
        have r71 := ((World.cell?_setCell_far _ ⟨L, 0, none⟩ ⟨w.heap.size + 1, 1, none⟩ _ hLw1).trans (World.cell?_setCell_far _ ⟨K, 0, none⟩ ⟨w.heap.size + 1, 1, none⟩ _ hKw1)).symm.trans hIF.res.2.2.1
        have rf7 : ∀ i, w7.frozen? ⟨w.heap.size + 1, i, none⟩ = false := fun i => by
          have := hIF.res.2.2.2 i
          rwa [World.frozen?_setCell, World.frozen?_setCell] at this
        clear hKK hbp hIF hbk3 hset7
        go_wp2
        obtain ⟨q0, q1, -⟩ := HIF.out.out (sk s j)
        unfold resSet at q0 q1
        exact bodyPost_ret (v := .tuple #[.agg #[.string s, .int .i64 (sk s j)], .nilIface]) (by simp [results, Tryz.results95, go_sem, q0, q1]) rfl (.inl ⟨j, sk s r, x, key, HKR.out, HV.out, rfl, HDONE.out.1, HDONE.out.2⟩)
    · intro KK hKK
      go_simp
      have hbk := sbelow_new w4.drew (.cells #[.int .i64 k, .string t, .int .u64 n, .slice a l c, .slice a' l' c', .int .i64 z] 27)
      have hmid1 := hmid0.step hM hbk
      have h61 := h60.alloc (.cells #[.int .i64 k, .string t, .int .u64 n, .slice a l c, .slice a' l' c', .int .i64 z] 27)
      have hx1 := hx0.step hbk
      have hB1 : SixAt (w4.drew.alloc (.cells #[.int .i64 k, .string t, .int .u64 n, .slice a l c, .slice a' l' c', .int .i64 z] 27)) w4.heap.size (.int .i64 k) (.string t) (.int .u64 n) (.slice a l c) (.slice a' l' c') (.int .i64 z) := heap_alloc_new w4.drew _
      refine hKK _ _ ⟨fun _ => ⟨hmid1.kst.cell, hmid1.ls.cell, h61⟩, ?_⟩
      clear hKK
      refine wpT_one (i := 2) (by kernel_rfl) rfl ?_
      intro KK hKK
      go_simp
      have hbk2 := sbelow_new (w4.drew.alloc (.cells #[.int .i64 k, .string t, .int .u64 n, .slice a l c, .slice a' l' c', .int .i64 z] 27)) (.cells #[.string key] 9)
      have HBK2 := Lib.hid (hbk.trans (hbk2.mono hbk.size))
      have hmid2 := hmid1.step hM hbk2
      have h62 := h61.alloc (.cells #[.string key] 9)
      have hx2 := hx1.step hbk2
      have hk2 : ((w4.drew.alloc (.cells #[.int .i64 k, .string t, .int .u64 n, .slice a l c, .slice a' l' c', .int .i64 z] 27)).alloc (.cells #[.string key] 9)).heap[w4.heap.size + 1]? = some (.cells #[.string key] 9 (0, 0)) := by
        have := heap_alloc_new (w4.drew.alloc (.cells #[.int .i64 k, .string t, .int .u64 n, .slice a l c, .slice a' l' c', .int .i64 z] 27)) (.cells #[.string key] 9)
        rwa [show (w4.drew.alloc (.cells #[.int .i64 k, .string t, .int .u64 n, .slice a l c, .slice a' l' c', .int .i64 z] 27)).heap.size = w4.heap.size + 1 by simp] at this
      have hB2 := hB1.alloc (.cells #[.string key] 9)
      refine hKK _ _ ⟨fun _ => ⟨hmid2.kst.cell, hmid2.ls.cell, h62⟩, ?_⟩
      clear hKK
      refine wpT_one (i := 3) (by kernel_rfl) rfl ?_
      intro KK hKK
      refine step_append_lies _ rfl _ _ 25 rfl B 9 i1 (.string ByteArray.empty) 1 16 Tryz.underlying25 hi' hz0' hz1' hz2' rfl (by decide) _ ks.length (ks.map Value.string) rfl hmid2.kst.own _ 1 1 [.string key] rfl rfl (World.news_of_block hk2) hone (by decide) (by unfold maxLen; omega) (by omega) (hmid2.baseB hB.1) _ rfl ?_
      intro g cap w5 hown5 hgrow5 hat5 hlt5
      have HGE5 : Hid (w.heap.size + 2 ≤ ((w4.drew.alloc (.cells #[.int .i64 k, .string t, .int .u64 n, .slice a l c, .slice a' l' c', .int .i64 z] 27)).alloc (.cells #[.string key] 9)).heap.size) := Lib.hid (Nat.le_trans (show w.heap.size + 2 ≤ w4.drew.heap.size from HI4.out.res.1) HBK2.out.size)
      have kg := hmid2.kst.grown hgrow5
      have lne : some L ≠ Value.ownBlock (.slice ka ks.length kc) := fun e => hmid2.kst.row_ne hmid2.ls.cell (fun k e => by cases e) e.symm
      have lc5 := (hgrow5.cell_far ⟨L, 0, none⟩ hmid2.ls.lt lne).trans hmid2.ls.cell
      have lf5 := (hgrow5.frozen_far ⟨L, 0, none⟩ hmid2.ls.lt lne).trans hmid2.ls.fz
      have six5 := h62.grown hgrow5 (fun e => hqk _ e rfl)
      have lo5 := ownsRow_keeps hmid2.ls.own (Keeps.of_grown (D := fun k => Value.ownBlock (.slice ka ks.length kc) = some k) hgrow5 (fun k e => e)) (fun k e e' => rows_ne hmid2.ls.own hmid2.kst.own (by decide) k e e')
      refine hKK _ _ ⟨fun _ => ⟨kg.1, lc5, six5⟩, ?_⟩
      clear hKK
      simp only [Act.put, List.setIfInBounds_toArray, List.set_cons_zero, List.set_cons_succ]
      have hB5 := hB2.grown hgrow5 (fun e => by have := HKLT.out _ e; have := HI4.out.res.1; omega)
      have ll5 := Nat.lt_of_lt_of_le hmid2.ls.lt hgrow5.size
      refine wpT_one (i := 7) (by kernel_rfl) rfl ?_
      intro KK hKK
      refine step_append_lies _ rfl _ _ 24 rfl B 27 i0 (.agg #[.int .i64 0, .string ⟨#[]⟩, .int .u64 0, .slice none 0 0, .slice none 0 0, .int .i64 0]) 6 88 Tryz.underlying24 hi hz0 hz1 hz2 rfl (by decide) _ vs.length xs rfl lo5 _ 1 1 [.int .i64 k, .string t, .int .u64 n, .slice a l c, .slice a' l' c', .int .i64 z] rfl rfl (World.news_of_block hB5) hsix (by decide) (by unfold maxLen; omega) (by omega) (Nat.le_trans (hmid2.baseB hB.1) hgrow5.size) _ rfl ?_
      intro g' cap' w7 hown7 hgrow7 hat7 hlt7
      have HGE7 : Hid (W ≤ w5.heap.size) := Lib.hid (Nat.le_trans hmid2.le hgrow5.size)
      have kne : some K ≠ Value.ownBlock (.slice va vs.length vc) := fun e => hmid2.ls.row_ne hmid2.kst.cell (fun k e => by cases e) e.symm
      have lne7 : some L ≠ Value.ownBlock (.slice va vs.length vc) := fun e => hmid2.ls.row_ne hmid2.ls.cell (fun k e => by cases e) e.symm
      have hbp := both_push hmid2.ls hmid2.kst hne.2.2.2.1 hB.1 hown5 hgrow5 hat5 (Below.refl _ _) hown7 hgrow7 hat7 hx2 (fun k' hk' hlt' => ⟨by omega, by omega, fun e => by have := HVLT.out _ e; omega, ⟨.inr hk', HF.out _ hk'⟩, by omega, by omega, fun e => by have := HKLT.out _ e; omega⟩)
      have kc7 := (hgrow7.cell_far ⟨K, 0, none⟩ kg.2.2 kne).trans kg.1
      have kf7 := (hgrow7.frozen_far ⟨K, 0, none⟩ kg.2.2 kne).trans kg.2.1
      have lc7 := (hgrow7.cell_far ⟨L, 0, none⟩ ll5 lne7).trans lc5
      have lf7 := (hgrow7.frozen_far ⟨L, 0, none⟩ ll5 lne7).trans lf5
      have six7 := six5.grown hgrow7 (fun e => hqv _ e rfl)
      refine hKK _ _ ⟨fun _ => ⟨kc7, lc7, six7⟩, ?_⟩
      simp only [Act.put, List.setIfInBounds_toArray, List.set_cons_zero, List.set_cons_succ]
      refine wpT_tail 8 2 rfl rfl (by kernel_rfl) (by kernel_rfl) ?_
      have hKL := hne.2.2.2.1
      have hKL' := hKL.symm
      have hbk3 : Keeps (ObjDt L K mb (.slice va vs.length vc) (.slice ka ks.length kc)) _ _ := hbp.2.2.mono (fun k' e => .inr e)
      have hIF := (((HI4.out.mono (D' := ObjDt L K mb (.slice va vs.length vc) (.slice ka ks.length kc)) (fun k' e => .inl e)).drew).step HBK2.out).turn hbk3 HM.out.dt_lt
      have hset7 := hmid2.set.keeps hbp.2.2 (fun e => by
        rcases e with e | e | e | e
        · exact hne.2.2.2.2.1 e.symm
        · exact hne.2.2.2.2.2.1 e.symm
        · exact hmid2.set.row_ne hmid2.ls.own _ e rfl
        · exact hmid2.set.row_ne hmid2.kst.own _ e rfl)
      have HDONE := Lib.hid (obj_done (s := s) (z := (sk s j : Nat)) HM.out hlt hne hIF.keeps hIF.res hbp.1 hbp.2.1 (fun g1 e => by
          have e' : g' = g1 := by injection e
          subst e'
          exact hat7.imp id (fun e => by have h1 : W ≤ g' := Nat.le_trans HGE7.out (Nat.le_of_eq e.symm); omega)) (fun g1 e => by
          have e' : g = g1 := by injection e
          subst e'
          exact ⟨hat5.imp id (fun e => by have h1 : w.heap.size + 2 ≤ g := Nat.le_trans HGE5.out (Nat.le_of_eq e.symm); omega), hat5.elim (fun e => by have := HKLT.out _ e; omega) (fun e => by have h1 : w.heap.size + 2 ≤ g := Nat.le_trans HGE5.out (Nat.le_of_eq e.symm); omega)⟩) hset7)
      have HBP := Lib.hid hbp
      have HIF := Lib.hid hIF
      have hKw : K ≠ w.heap.size := by omega
      have hLw : L ≠ w.heap.size := by omega
      have hKw1 : K ≠ w.heap.size + 1 := by omega
      have hLw1 : L ≠ w.heap.size + 1 := by omega
      have o70 := ((World.cell?_setCell_far _ ⟨L, 0, none⟩ ⟨w.heap.size, 0, none⟩ _ hLw).trans (World.cell?_setCell_far _ ⟨K, 0, none⟩ ⟨w.heap.size, 0, none⟩ _ hKw)).symm.trans hIF.own.2.1
      have o71 := ((World.cell?_setCell_far _ ⟨L, 0, none⟩ ⟨w.heap.size, 1, none⟩ _ hLw).trans (World.cell?_setCell_far _ ⟨K, 0, none⟩ ⟨w.heap.size, 1, none⟩ _ hKw)).symm.trans hIF.own.2.2.1
      have r70 := ((World.cell?_setCell_far _ ⟨L, 0, none⟩ ⟨w.heap.size + 1, 0, none⟩ _ hLw1).trans (World.cell?_setCell_far _ ⟨K, 0, none⟩ ⟨w.heap.size + 1, 0, none⟩ _ hKw1)).symm.trans hIF.res.2.1
      have r71 := ((World.cell?_setCell_far _ ⟨L, 0, none⟩ ⟨w.heap.size + 1, 1, none⟩ _ hLw1).trans (World.cell?_setCell_far _ ⟨K, 0, none⟩ ⟨w.heap.size + 1, 1, none⟩ _ hKw1)).symm.trans hIF.res.2.2.1
      have rf7 : ∀ i, w7.frozen? ⟨w.heap.size + 1, i, none⟩ = false := fun i => by
        have := hIF.res.2.2.2 i
        rwa [World.frozen?_setCell, World.frozen?_setCell] at this
      clear hKK hbp hIF hbk3 hset7
      go_wp2
      obtain ⟨q0, q1, -⟩ := HIF.out.out (sk s j)
      unfold resSet at q0 q1
      exact bodyPost_ret (v := .tuple #[.agg #[.string s, .int .i64 (sk s j)], .nilIface]) (by simp [results, Tryz.results95, go_sem, q0, q1]) rfl (.inl ⟨j, sk s r, x, key, HKR.out, HV.out, rfl, HDONE.out.1, HDONE.out.2⟩)
  · have HV := Lib.hid hv
    have HI3 := Lib.hid (H1.out.step b3)
    have HM3 := Lib.hid (HM2.out.step hM b3)
    have hq2 : w.heap.size + 1 < w2.heap.size := H1.out.res.1
    have hk4 : Keeps (· = w.heap.size) w3 ((w3.setCell ⟨w.heap.size, 0, none⟩ (.string s)).setCell ⟨w.heap.size, 1, none⟩ (.int .i64 j)) :=
      Keeps.setCell (D := (· = w.heap.size)) (Keeps.setCell (D := (· = w.heap.size)) (Keeps.refl _ _) (q := ⟨w.heap.size, 0, none⟩) (.inr rfl) _) (q := ⟨w.heap.size, 1, none⟩) (.inr rfl) _
    have hF3 := hf.set HI3.out.own s j
    have hs4 := ((HM3.out.set.far (q := ⟨w.heap.size, 0, none⟩) hmw (.string s)).far (q := ⟨w.heap.size, 1, none⟩) hmw (.int .i64 j))
    have hbn := sbelow_new ((w3.setCell ⟨w.heap.size, 0, none⟩ (.string s)).setCell ⟨w.heap.size, 1, none⟩ (.int .i64 j)) (.cells #[.int .i64 k, .string t, .int .u64 n, .slice a l c, .slice a' l' c', .int .i64 z] 27)
    have hI4 := (HI3.out.set j).step hbn
    have hM4 := HM.out.keeps hM hI4.keeps (hs4.step hbn)
    have HF4 := Lib.hid (hF3.keep hbn)
    unfold pf
    have H64 : Hid (SixAt (((w3.setCell ⟨w.heap.size, 0, none⟩ (.string s)).setCell ⟨w.heap.size, 1, none⟩ (.int .i64 j)).alloc (.cells #[.int .i64 k, .string t, .int .u64 n, .slice a l c, .slice a' l' c', .int .i64 z] 27)) w3.heap.size (.int .i64 k) (.string t) (.int .u64 n) (.slice a l c) (.slice a' l' c') (.int .i64 z)) := Lib.hid (by
      have := heap_alloc_new ((w3.setCell ⟨w.heap.size, 0, none⟩ (.string s)).setCell ⟨w.heap.size, 1, none⟩ (.int .i64 j)) (.cells #[.int .i64 k, .string t, .int .u64 n, .slice a l c, .slice a' l' c', .int .i64 z] 27)
      rwa [World.size_setCell, World.size_setCell] at this)
    have HI4 := Lib.hid hI4
    have HM4 := Lib.hid hM4
    obtain ⟨l3, c0, c1, cf⟩ := HI3.out.own
    clear hv hf hF3 cd hk4 hs4 hI4 hM4 hbn
    go_wp2_with fail
    generalize ((w3.setCell ⟨w.heap.size, 0, none⟩ (.string s)).setCell ⟨w.heap.size, 1, none⟩ (.int .i64 j)).alloc (.cells #[.int .i64 k, .string t, .int .u64 n, .slice a l c, .slice a' l' c', .int .i64 z] 27) = w4 at *
    generalize w3.heap.size = q at *
    clear c0 c1 cf
    refine region_T (fun w' => w'.cell? ⟨K, 0, none⟩ = some (.slice ka ks.length kc) ∧ w'.cell? ⟨L, 0, none⟩ = some (.slice va vs.length vc) ∧ SixAt w' q (.int .i64 k) (.string t) (.int .u64 n) (.slice a l c) (.slice a' l' c') (.int .i64 z)) 8 (by kernel_rfl) ?_
    have hS0 : (fun w' : World => w'.cell? ⟨K, 0, none⟩ = some (.slice ka ks.length kc) ∧ w'.cell? ⟨L, 0, none⟩ = some (.slice va vs.length vc) ∧ SixAt w' q (.int .i64 k) (.string t) (.int .u64 n) (.slice a l c) (.slice a' l' c') (.int .i64 z)) w4.drew := ⟨HM4.out.kst.cell, HM4.out.ls.cell, H64.out⟩
    refine wpT_take (i := 0) (v := .slice ka ks.length kc) rfl (by kernel_rfl) (by kernel_rfl) (by kernel_rfl) (by kernel_rfl) (by kernel_rfl) (by kernel_rfl) (by kernel_rfl) (by kernel_rfl) (fun _ _ _ h => h) (Or.inl ⟨by rfl, ?_⟩) hS0 ?_
    · rintro w' ⟨h1, h2, h3⟩
      go_simp
    simp only [Act.put, List.setIfInBounds_toArray, List.set_cons_zero, List.set_cons_succ]
    refine wpT_take (i := 1) (v := .string key) rfl (by kernel_rfl) (by kernel_rfl) (by kernel_rfl) (by kernel_rfl) (by kernel_rfl) (by kernel_rfl) (by kernel_rfl) (by kernel_rfl) (fun _ _ _ h => h) (Or.inl ⟨by rfl, ?_⟩) hS0 ?_
    · intro w' _
      go_simp
    simp only [Act.put, List.setIfInBounds_toArray, List.set_cons_zero, List.set_cons_succ]
    refine wpT_take (i := 4) (v := .slice va vs.length vc) rfl (by kernel_rfl) (by kernel_rfl) (by kernel_rfl) (by kernel_rfl) (by kernel_rfl) (by kernel_rfl) (by kernel_rfl) (by kernel_rfl) (fun _ _ _ h => h) (Or.inl ⟨by rfl, ?_⟩) hS0 ?_
    · rintro w' ⟨h1, h2, h3⟩
      go_simp
    simp only [Act.put, List.setIfInBounds_toArray, List.set_cons_zero, List.set_cons_succ]
    refine wpT_take (i := 5) (v := .agg #[.int .i64 k, .string t, .int .u64 n, .slice a l c, .slice a' l' c', .int .i64 z]) rfl (by kernel_rfl) (by kernel_rfl) (by kernel_rfl) (by kernel_rfl) (by kernel_rfl) (by kernel_rfl) (by kernel_rfl) (by kernel_rfl) (fun _ _ _ h => h) (Or.inl ⟨by rfl, ?_⟩) hS0 ?_
    · rintro w' ⟨h1, h2, h3⟩
      obtain ⟨s0, s1, s2, s3, s4, s5⟩ := h3.cells
      go_simp
    simp only [Act.put, List.setIfInBounds_toArray, List.set_cons_zero, List.set_cons_succ]
    have hmid0 : ObjMid (fun k => (k < w.heap.size ∨ w.heap.size + 2 ≤ k) ∧ F k) B L K M mb Db d W vs ks (ks ++ [key]) (ks.length + 1) (.slice va vs.length vc) xs (.slice ka ks.length kc) w4.drew := HM4.out.step hM (Below.drew (Below.refl _ _))
    have hx0 : FaultAt w4.drew fb ec ea := HF4.out.keep (Below.drew (Below.refl _ _))
    have h60 : SixAt w4.drew q (.int .i64 k) (.string t) (.int .u64 n) (.slice a l c) (.slice a' l' c') (.int .i64 z) := H64.out
    have hqk : ∀ k', Value.ownBlock (.slice ka ks.length kc) = some k' → k' ≠ q := fun k' e => by have := HKLT.out _ e; omega
    have hqv : ∀ k', Value.ownBlock (.slice va vs.length vc) = some k' → k' ≠ q := fun k' e => by have := HVLT.out _ e; omega
    have hone : ∀ u ∈ [Value.string key], u.oneCell' = true := by intro u hu; rw [List.mem_singleton.1 hu]; rfl
    have hsix : ∀ u ∈ [Value.int .i64 k, .string t, .int .u64 n, .slice a l c, .slice a' l' c', .int .i64 z], u.oneCell' = true := by
      intro u hu
      simp only [List.mem_cons, List.not_mem_nil, or_false] at hu
      rcases hu with rfl | rfl | rfl | rfl | rfl | rfl <;> rfl
    refine wpT_two (i := 2) (i' := 6) (by kernel_rfl) rfl rfl ?_ ?_
    · intro KK hKK
      go_simp
      have hbk := sbelow_new w4.drew (.cells #[.string key] 9)
      have HBK := Lib.hid hbk
      have hmid1 := hmid0.step hM hbk
      have h61 := h60.alloc (.cells #[.string key] 9)
      have hx1 := hx0.keep hbk
      have hk1 : (w4.drew.alloc (.cells #[.string key] 9)).heap[w4.heap.size]? = some (.cells #[.string key] 9 (0, 0)) := heap_alloc_new w4.drew _
      refine hKK _ _ ⟨fun _ => ⟨hmid1.kst.cell, hmid1.ls.cell, h61⟩, ?_⟩
      clear hKK
      refine wpT_two (i := 3) (i' := 6) (by kernel_rfl) rfl rfl ?_ ?_
      · intro KK hKK
        refine step_append_lies _ rfl _ _ 25 rfl B 9 i1 (.string ByteArray.empty) 1 16 Tryz.underlying25 hi' hz0' hz1' hz2' rfl (by decide) _ ks.length (ks.map Value.string) rfl hmid1.kst.own _ 1 1 [.string key] rfl rfl (World.news_of_block hk1) hone (by decide) (by unfold maxLen; omega) (by omega) (hmid1.baseB hB.1) _ rfl ?_
        intro g cap w5 hown5 hgrow5 hat5 hlt5
        have HGE5 : Hid (w.heap.size + 2 ≤ (w4.drew.alloc (.cells #[.string key] 9)).heap.size) := Lib.hid (Nat.le_trans (show w.heap.size + 2 ≤ w4.drew.heap.size from HI4.out.res.1) HBK.out.size)
        have kg := hmid1.kst.grown hgrow5
        have lne : some L ≠ Value.ownBlock (.slice ka ks.length kc) := fun e => hmid1.kst.row_ne hmid1.ls.cell (fun k e => by cases e) e.symm
        have lc5 := (hgrow5.cell_far ⟨L, 0, none⟩ hmid1.ls.lt lne).trans hmid1.ls.cell
        have lf5 := (hgrow5.frozen_far ⟨L, 0, none⟩ hmid1.ls.lt lne).trans hmid1.ls.fz
        have six5 := h61.grown hgrow5 (fun e => hqk _ e rfl)
        have lo5 := ownsRow_keeps hmid1.ls.own (Keeps.of_grown (D := fun k => Value.ownBlock (.slice ka ks.length kc) = some k) hgrow5 (fun k e => e)) (fun k e e' => rows_ne hmid1.ls.own hmid1.kst.own (by decide) k e e')
        refine hKK _ _ ⟨fun _ => ⟨kg.1, lc5, six5⟩, ?_⟩
        clear hKK
        simp only [Act.put, List.setIfInBounds_toArray, List.set_cons_zero, List.set_cons_succ]
        refine wpT_one (i := 6) (by kernel_rfl) rfl ?_
        intro KK hKK
        go_simp
        have hb6 := sbelow_new w5 (.cells #[.int .i64 k, .string t, .int .u64 n, .slice a l c, .slice a' l' c', .int .i64 z] 27)
        have six6 := six5.alloc (.cells #[.int .i64 k, .string t, .int .u64 n, .slice a l c, .slice a' l' c', .int .i64 z] 27)
        have hB2 : SixAt (w5.alloc (.cells #[.int .i64 k, .string t, .int .u64 n, .slice a l c, .slice a' l' c', .int .i64 z] 27)) w5.heap.size (.int .i64 k) (.string t) (.int .u64 n) (.slice a l c) (.slice a' l' c') (.int .i64 z) := heap_alloc_new w5 _
        have kc6 := (hb6.cell (p := ⟨K, 0, none⟩) kg.2.2).trans kg.1
        have kf6 := (hb6.frozen (p := ⟨K, 0, none⟩) kg.2.2).trans kg.2.1
        have kl6 := Nat.lt_of_lt_of_le kg.2.2 hb6.size
        have ll5 := Nat.lt_of_lt_of_le hmid1.ls.lt hgrow5.size
        have lc6 := (hb6.cell (p := ⟨L, 0, none⟩) ll5).trans lc5
        have lf6 := (hb6.frozen (p := ⟨L, 0, none⟩) ll5).trans lf5
        have ll6 := Nat.lt_of_lt_of_le ll5 hb6.size
        refine hKK _ _ ⟨fun _ => ⟨kc6, lc6, six6⟩, ?_⟩
        clear hKK
        refine wpT_one (i := 7) (by kernel_rfl) rfl ?_
        intro KK hKK
        refine step_append_lies _ rfl _ _ 24 rfl B 27 i0 (.agg #[.int .i64 0, .string ⟨#[]⟩, .int .u64 0, .slice none 0 0, .slice none 0 0, .int .i64 0]) 6 88 Tryz.underlying24 hi hz0 hz1 hz2 rfl (by decide) _ vs.length xs rfl (lo5.alloc _) _ 1 1 [.int .i64 k, .string t, .int .u64 n, .slice a l c, .slice a' l' c', .int .i64 z] rfl rfl (World.news_of_block hB2) hsix (by decide) (by unfold maxLen; omega) (by omega) (Nat.le_trans (hmid1.baseB hB.1) (Nat.le_trans hgrow5.size hb6.size)) _ rfl ?_
        intro g' cap' w7 hown7 hgrow7 hat7 hlt7
        have HGE7 : Hid (W ≤ (w5.alloc (.cells #[.int .i64 k, .string t, .int .u64 n, .slice a l c, .slice a' l' c', .int .i64 z] 27)).heap.size) := Lib.hid (Nat.le_trans hmid1.le (Nat.le_trans hgrow5.size hb6.size))
        have kne : some K ≠ Value.ownBlock (.slice va vs.length vc) := fun e => hmid1.ls.row_ne hmid1.kst.cell (fun k e => by cases e) e.symm
        have lne7 : some L ≠ Value.ownBlock (.slice va vs.length vc) := fun e => hmid1.ls.row_ne hmid1.ls.cell (fun k e => by cases e) e.symm
        have hbp := both_pushK hmid1.ls hmid1.kst hne.2.2.2.1 hB.1 hown5 hgrow5 hat5 hb6 hown7 hgrow7 hat7
        have kc7 := (hgrow7.cell_far ⟨K, 0, none⟩ kl6 kne).trans kc6
        have kf7 := (hgrow7.frozen_far ⟨K, 0, none⟩ kl6 kne).trans kf6
        have lc7 := (hgrow7.cell_far ⟨L, 0, none⟩ ll6 lne7).trans lc6
        have lf7 := (hgrow7.frozen_far ⟨L, 0, none⟩ ll6 lne7).trans lf6
        have six7 := six6.grown hgrow7 (fun e => hqv _ e rfl)
        refine hKK _ _ ⟨fun _ => ⟨kc7, lc7, six7⟩, ?_⟩
        simp only [Act.put, List.setIfInBounds_toArray, List.set_cons_zero, List.set_cons_succ]
        refine wpT_tail 8 2 rfl rfl (by kernel_rfl) (by kernel_rfl) ?_
        have hKL := hne.2.2.2.1
        have hKL' := hKL.symm
        have hbk3 : Keeps (ObjDt L K mb (.slice va vs.length vc) (.slice ka ks.length kc)) _ _ := hbp.2.2.mono (fun k' e => .inr e)
        have hIF := (((HI4.out.mono (D' := ObjDt L K mb (.slice va vs.length vc) (.slice ka ks.length kc)) (fun k' e => .inl e)).drew).step HBK.out).turn hbk3 HM.out.dt_lt
        have HDONE := Lib.hid (obj_end (s := s) (z := (j : Nat)) HM.out hlt hIF.keeps hIF.res hbp.1 hbp.2.1 (hmid1.fault hx1 hbp.2.2))
        have HBP := Lib.hid hbp
        have HIF := Lib.hid hIF
        have hKw : K ≠ w.heap.size := by omega
        have hLw : L ≠ w.heap.size := by omega
        have hKw1 : K ≠ w.heap.size + 1 := by omega
        have hLw1 : L ≠ w.heap.size + 1 := by omega
        have o70 := ((World.cell?_setCell_far _ ⟨L, 0, none⟩ ⟨w.heap.size, 0, none⟩ _ hLw).trans (World.cell?_setCell_far _ ⟨K, 0, none⟩ ⟨w.heap.size, 0, none⟩ _ hKw)).symm.trans hIF.own.2.1
        have o71 := ((World.cell?_setCell_far _ ⟨L, 0, none⟩ ⟨w.heap.size, 1, none⟩ _ hLw).trans (World.cell?_setCell_far _ ⟨K, 0, none⟩ ⟨w.heap.size, 1, none⟩ _ hKw)).symm.trans hIF.own.2.2.1
        have r70 := ((World.cell?_setCell_far _ ⟨L, 0, none⟩ ⟨w.heap.size + 1, 0, none⟩ _ hLw1).trans (World.cell?_setCell_far _ ⟨K, 0, none⟩ ⟨w.heap.size + 1, 0, none⟩ _ hKw1)).symm.trans hIF.res.2.1
        have r71 := ((World.cell?_setCell_far _ ⟨L, 0, none⟩ ⟨w.heap.size + 1, 1, none⟩ _ hLw1).trans (World.cell?_setCell_far _ ⟨K, 0, none⟩ ⟨w.heap.size + 1, 1, none⟩ _ hKw1)).symm.trans hIF.res.2.2.1
        have rf7 : ∀ i, w7.frozen? ⟨w.heap.size + 1, i, none⟩ = false := fun i => by
          have := hIF.res.2.2.2 i
          rwa [World.frozen?_setCell, World.frozen?_setCell] at this
        clear hKK hbp hIF hbk3
        go_wp2
        obtain ⟨q0, q1, -⟩ := HIF.out.out j
        unfold resSet at q0 q1
        exact bodyPost_ret (v := .tuple #[.agg #[.string s, .int .i64 j], pf fb]) (by simp [results, Tryz.results95, go_sem, q0, q1, pf]) rfl (.inr ⟨ec, ea, fb, j, .val d 123 (sk s p0) ks (sk s r) key ec ea HKR.out HV.out, hj, rfl, HDONE.out.2.2, HDONE.out.1, HDONE.out.2.1⟩)
      · intro KK hKK
        go_simp
        have hbk2 := sbelow_new (w4.drew.alloc (.cells #[.string key] 9)) (.cells #[.int .i64 k, .string t, .int .u64 n, .slice a l c, .slice a' l' c', .int .i64 z] 27)
        have HBK2 := Lib.hid (HBK.out.trans (hbk2.mono HBK.out.size))
        have hmid2 := hmid1.step hM hbk2
        have h62 := h61.alloc (.cells #[.int .i64 k, .string t, .int .u64 n, .slice a l c, .slice a' l' c', .int .i64 z] 27)
        have hx2 := hx1.keep hbk2
        have hk2 : ((w4.drew.alloc (.cells #[.string key] 9)).alloc (.cells #[.int .i64 k, .string t, .int .u64 n, .slice a l c, .slice a' l' c', .int .i64 z] 27)).heap[w4.heap.size]? = some (.cells #[.string key] 9 (0, 0)) := (heap_alloc_old _ _ (Array.getElem?_eq_some_iff.1 hk1).1).trans hk1
        have hB2 : SixAt ((w4.drew.alloc (.cells #[.string key] 9)).alloc (.cells #[.int .i64 k, .string t, .int .u64 n, .slice a l c, .slice a' l' c', .int .i64 z] 27)) (w4.heap.size + 1) (.int .i64 k) (.string t) (.int .u64 n) (.slice a l c) (.slice a' l' c') (.int .i64 z) := by
          have := heap_alloc_new (w4.drew.alloc (.cells #[.string key] 9)) (.cells #[.int .i64 k, .string t, .int .u64 n, .slice a l c, .slice a' l' c', .int .i64 z] 27)
          rwa [show (w4.drew.alloc (.cells #[.string key] 9)).heap.size = w4.heap.size + 1 by simp] at this
        refine hKK _ _ ⟨fun _ => ⟨hmid2.kst.cell, hmid2.ls.cell, h62⟩, ?_⟩
        clear hKK
        refine wpT_one (i := 3) (by kernel_rfl) rfl ?_
        intro KK hKK
        refine step_append_lies _ rfl _ _ 25 rfl B 9 i1 (.string ByteArray.empty) 1 16 Tryz.underlying25 hi' hz0' hz1' hz2' rfl (by decide) _ ks.length (ks.map Value.string) rfl hmid2.kst.own _ 1 1 [.string key] rfl rfl (World.news_of_block hk2) hone (by decide) (by unfold maxLen; omega) (by omega) (hmid2.baseB hB.1) _ rfl ?_
        intro g cap w5 hown5 hgrow5 hat5 hlt5
        have HGE5 : Hid (w.heap.size + 2 ≤ ((w4.drew.alloc (.cells #[.string key] 9)).alloc (.cells #[.int .i64 k, .string t, .int .u64 n, .slice a l c, .slice a' l' c', .int .i64 z] 27)).heap.size) := Lib.hid (Nat.le_trans (show w.heap.size + 2 ≤ w4.drew.heap.size from HI4.out.res.1) HBK2.out.size)
        have kg := hmid2.kst.grown hgrow5
        have lne : some L ≠ Value.ownBlock (.slice ka ks.length kc) := fun e => hmid2.kst.row_ne hmid2.ls.cell (fun k e => by cases e) e.symm
        have lc5 := (hgrow5.cell_far ⟨L, 0, none⟩ hmid2.ls.lt lne).trans hmid2.ls.cell
        have lf5 := (hgrow5.frozen_far ⟨L, 0, none⟩ hmid2.ls.lt lne).trans hmid2.ls.fz
        have six5 := h62.grown hgrow5 (fun e => hqk _ e rfl)
        have lo5 := ownsRow_keeps hmid2.ls.own (Keeps.of_grown (D := fun k => Value.ownBlock (.slice ka ks.length kc) = some k) hgrow5 (fun k e => e)) (fun k e e' => rows_ne hmid2.ls.own hmid2.kst.own (by decide) k e e')
        refine hKK _ _ ⟨fun _ => ⟨kg.1, lc5, six5⟩, ?_⟩
        clear hKK
        simp only [Act.put, List.setIfInBounds_toArray, List.set_cons_zero, List.set_cons_succ]
        have hB5 := hB2.grown hgrow5 (fun e => by have := HKLT.out _ e; have := HI4.out.res.1; omega)
        have ll5 := Nat.lt_of_lt_of_le hmid2.ls.lt hgrow5.size
        refine wpT_one (i := 7) (by kernel_rfl) rfl ?_
        intro KK hKK
        refine step_append_lies _ rfl _ _ 24 rfl B 27 i0 (.agg #[.int .i64 0, .string ⟨#[]⟩, .int .u64 0, .slice none 0 0, .slice none 0 0, .int .i64 0]) 6 88 Tryz.underlying24 hi hz0 hz1 hz2 rfl (by decide) _ vs.length xs rfl lo5 _ 1 1 [.int .i64 k, .string t, .int .u64 n, .slice a l c, .slice a' l' c', .int .i64 z] rfl rfl (World.news_of_block hB5) hsix (by decide) (by unfold maxLen; omega) (by omega) (Nat.le_trans (hmid2.baseB hB.1) hgrow5.size) _ rfl ?_
        intro g' cap' w7 hown7 hgrow7 hat7 hlt7
        have HGE7 : Hid (W ≤ w5.heap.size) := Lib.hid (Nat.le_trans hmid2.le hgrow5.size)
        have kne : some K ≠ Value.ownBlock (.slice va vs.length vc) := fun e => hmid2.ls.row_ne hmid2.kst.cell (fun k e => by cases e) e.symm
        have lne7 : some L ≠ Value.ownBlock (.slice va vs.length vc) := fun e => hmid2.ls.row_ne hmid2.ls.cell (fun k e => by cases e) e.symm
        have hbp := both_pushK hmid2.ls hmid2.kst hne.2.2.2.1 hB.1 hown5 hgrow5 hat5 (Below.refl _ _) hown7 hgrow7 hat7
        have kc7 := (hgrow7.cell_far ⟨K, 0, none⟩ kg.2.2 kne).trans kg.1
        have kf7 := (hgrow7.frozen_far ⟨K, 0, none⟩ kg.2.2 kne).trans kg.2.1
        have lc7 := (hgrow7.cell_far ⟨L, 0, none⟩ ll5 lne7).trans lc5
        have lf7 := (hgrow7.frozen_far ⟨L, 0, none⟩ ll5 lne7).trans lf5
        have six7 := six5.grown hgrow7 (fun e => hqv _ e rfl)
        refine hKK _ _ ⟨fun _ => ⟨kc7, lc7, six7⟩, ?_⟩
        simp only [Act.put, List.setIfInBounds_toArray, List.set_cons_zero, List.set_cons_succ]
        refine wpT_tail 8 2 rfl rfl (by kernel_rfl) (by kernel_rfl) ?_
        have hKL := hne.2.2.2.1
        have hKL' := hKL.symm
        have hbk3 : Keeps (ObjDt L K mb (.slice va vs.length vc) (.slice ka ks.length kc)) _ _ := hbp.2.2.mono (fun k' e => .inr e)
        have hIF := (((HI4.out.mono (D' := ObjDt L K mb (.slice va vs.length vc) (.slice ka ks.length kc)) (fun k' e => .inl e)).drew).step HBK2.out).turn hbk3 HM.out.dt_lt
        have HDONE := Lib.hid (obj_end (s := s) (z := (j : Nat)) HM.out hlt hIF.keeps hIF.res hbp.1 hbp.2.1 (hmid2.fault hx2 hbp.2.2))
        have HBP := Lib.hid hbp
        have HIF := Lib.hid hIF
        have hKw : K ≠ w.heap.size := by omega
        have hLw : L ≠ w.heap.size := by omega
        have hKw1 : K ≠ w.heap.size + 1 := by omega
        have hLw1 : L ≠ w.heap.size + 1 := by omega
        have o70 := ((World.cell?_setCell_far _ ⟨L, 0, none⟩ ⟨w.heap.size, 0, none⟩ _ hLw).trans (World.cell?_setCell_far _ ⟨K, 0, none⟩ ⟨w.heap.size, 0, none⟩ _ hKw)).symm.trans hIF.own.2.1
        have o71 := ((World.cell?_setCell_far _ ⟨L, 0, none⟩ ⟨w.heap.size, 1, none⟩ _ hLw).trans (World.cell?_setCell_far _ ⟨K, 0, none⟩ ⟨w.heap.size, 1, none⟩ _ hKw)).symm.trans hIF.own.2.2.1
        have r70 := ((World.cell?_setCell_far _ ⟨L, 0, none⟩ ⟨w.heap.size + 1, 0, none⟩ _ hLw1).trans (World.cell?_setCell_far _ ⟨K, 0, none⟩ ⟨w.heap.size + 1, 0, none⟩ _ hKw1)).symm.trans hIF.res.2.1
        have r71 := ((World.cell?_setCell_far _ ⟨L, 0, none⟩ ⟨w.heap.size + 1, 1, none⟩ _ hLw1).trans (World.cell?_setCell_far _ ⟨K, 0, none⟩ ⟨w.heap.size + 1, 1, none⟩ _ hKw1)).symm.trans hIF.res.2.2.1
        have rf7 : ∀ i, w7.frozen? ⟨w.heap.size + 1, i, none⟩ = false := fun i => by
          have := hIF.res.2.2.2 i
          rwa [World.frozen?_setCell, World.frozen?_setCell] at this
        clear hKK hbp hIF hbk3
        go_wp2
        obtain ⟨q0, q1, -⟩ := HIF.out.out j
        unfold resSet at q0 q1
        exact bodyPost_ret (v := .tuple #[.agg #[.string s, .int .i64 j], pf fb]) (by simp [results, Tryz.results95, go_sem, q0, q1, pf]) rfl (.inr ⟨ec, ea, fb, j, .val d 123 (sk s p0) ks (sk s r) key ec ea HKR.out HV.out, hj, rfl, HDONE.out.2.2, HDONE.out.1, HDONE.out.2.1⟩)
    · intro KK hKK
      go_simp
      have hbk := sbelow_new w4.drew (.cells #[.int .i64 k, .string t, .int .u64 n, .slice a l c, .slice a' l' c', .int .i64 z] 27)
      have hmid1 := hmid0.step hM hbk
      have h61 := h60.alloc (.cells #[.int .i64 k, .string t, .int .u64 n, .slice a l c, .slice a' l' c', .int .i64 z] 27)
      have hx1 := hx0.keep hbk
      have hB1 : SixAt (w4.drew.alloc (.cells #[.int .i64 k, .string t, .int .u64 n, .slice a l c, .slice a' l' c', .int .i64 z] 27)) w4.heap.size (.int .i64 k) (.string t) (.int .u64 n) (.slice a l c) (.slice a' l' c') (.int .i64 z) := heap_alloc_new w4.drew _
      refine hKK _ _ ⟨fun _ => ⟨hmid1.kst.cell, hmid1.ls.cell, h61⟩, ?_⟩
      clear hKK
      refine wpT_one (i := 2) (by kernel_rfl) rfl ?_
      intro KK hKK
      go_simp
      have hbk2 := sbelow_new (w4.drew.alloc (.cells #[.int .i64 k, .string t, .int .u64 n, .slice a l c, .slice a' l' c', .int .i64 z] 27)) (.cells #[.string key] 9)
      have HBK2 := Lib.hid (hbk.trans (hbk2.mono hbk.size))
      have hmid2 := hmid1.step hM hbk2
      have h62 := h61.alloc (.cells #[.string key] 9)
      have hx2 := hx1.keep hbk2
      have hk2 : ((w4.drew.alloc (.cells #[.int .i64 k, .string t, .int .u64 n, .slice a l c, .slice a' l' c', .int .i64 z] 27)).alloc (.cells #[.string key] 9)).heap[w4.heap.size + 1]? = some (.cells #[.string key] 9 (0, 0)) := by
        have := heap_alloc_new (w4.drew.alloc (.cells #[.int .i64 k, .string t, .int .u64 n, .slice a l c, .slice a' l' c', .int .i64 z] 27)) (.cells #[.string key] 9)
        rwa [show (w4.drew.alloc (.cells #[.int .i64 k, .string t, .int .u64 n, .slice a l c, .slice a' l' c', .int .i64 z] 27)).heap.size = w4.heap.size + 1 by simp] at this
      have hB2 := hB1.alloc (.cells #[.string key] 9)
      refine hKK _ _ ⟨fun _ => ⟨hmid2.kst.cell, hmid2.ls.cell, h62⟩, ?_⟩
      clear hKK
      refine wpT_one (i := 3) (by kernel_rfl) rfl ?_
      intro KK hKK
      refine step_append_lies _ rfl _ _ 25 rfl B 9 i1 (.string ByteArray.empty) 1 16 Tryz.underlying25 hi' hz0' hz1' hz2' rfl (by decide) _ ks.length (ks.map Value.string) rfl hmid2.kst.own _ 1 1 [.string key] rfl rfl (World.news_of_block hk2) hone (by decide) (by unfold maxLen; omega) (by omega) (hmid2.baseB hB.1) _ rfl ?_
      intro g cap w5 hown5 hgrow5 hat5 hlt5
      have HGE5 : Hid (w.heap.size + 2 ≤ ((w4.drew.alloc (.cells #[.int .i64 k, .string t, .int .u64 n, .slice a l c, .slice a' l' c', .int .i64 z] 27)).alloc (.cells #[.string key] 9)).heap.size) := Lib.hid (Nat.le_trans (show w.heap.size + 2 ≤ w4.drew.heap.size from HI4.out.res.1) HBK2.out.size)
      have kg := hmid2.kst.grown hgrow5
      have lne : some L ≠ Value.ownBlock (.slice ka ks.length kc) := fun e => hmid2.kst.row_ne hmid2.ls.cell (fun k e => by cases e) e.symm
      have lc5 := (hgrow5.cell_far ⟨L, 0, none⟩ hmid2.ls.lt lne).trans hmid2.ls.cell
      have lf5 := (hgrow5.frozen_far ⟨L, 0, none⟩ hmid2.ls.lt lne).trans hmid2.ls.fz
      have six5 := h62.grown hgrow5 (fun e => hqk _ e rfl)
      have lo5 := ownsRow_keeps hmid2.ls.own (Keeps.of_grown (D := fun k => Value.ownBlock (.slice ka ks.length kc) = some k) hgrow5 (fun k e => e)) (fun k e e' => rows_ne hmid2.ls.own hmid2.kst.own (by decide) k e e')
      refine hKK _ _ ⟨fun _ => ⟨kg.1, lc5, six5⟩, ?_⟩
      clear hKK
      simp only [Act.put, List.setIfInBounds_toArray, List.set_cons_zero, List.set_cons_succ]
      have hB5 := hB2.grown hgrow5 (fun e => by have := HKLT.out _ e; have := HI4.out.res.1; omega)
      have ll5 := Nat.lt_of_lt_of_le hmid2.ls.lt hgrow5.size
      refine wpT_one (i := 7) (by kernel_rfl) rfl ?_
      intro KK hKK
      refine step_append_lies _ rfl _ _ 24 rfl B 27 i0 (.agg #[.int .i64 0, .string ⟨#[]⟩, .int .u64 0, .slice none 0 0, .slice none 0 0, .int .i64 0]) 6 88 Tryz.underlying24 hi hz0 hz1 hz2 rfl (by decide) _ vs.length xs rfl lo5 _ 1 1 [.int .i64 k, .string t, .int .u64 n, .slice a l c, .slice a' l' c', .int .i64 z] rfl rfl (World.news_of_block hB5) hsix (by decide) (by unfold maxLen; omega) (by omega) (Nat.le_trans (hmid2.baseB hB.1) hgrow5.size) _ rfl ?_
      intro g' cap' w7 hown7 hgrow7 hat7 hlt7
      have HGE7 : Hid (W ≤ w5.heap.size) := Lib.hid (Nat.le_trans hmid2.le hgrow5.size)
      have kne : some K ≠ Value.ownBlock (.slice va vs.length vc) := fun e => hmid2.ls.row_ne hmid2.kst.cell (fun k e => by cases e) e.symm
      have lne7 : some L ≠ Value.ownBlock (.slice va vs.length vc) := fun e => hmid2.ls.row_ne hmid2.ls.cell (fun k e => by cases e) e.symm
      have hbp := both_pushK hmid2.ls hmid2.kst hne.2.2.2.1 hB.1 hown5 hgrow5 hat5 (Below.refl _ _) hown7 hgrow7 hat7
      have kc7 := (hgrow7.cell_far ⟨K, 0, none⟩ kg.2.2 kne).trans kg.1
      have kf7 := (hgrow7.frozen_far ⟨K, 0, none⟩ kg.2.2 kne).trans kg.2.1
      have lc7 := (hgrow7.cell_far ⟨L, 0, none⟩ ll5 lne7).trans lc5
      have lf7 := (hgrow7.frozen_far ⟨L, 0, none⟩ ll5 lne7).trans lf5
      have six7 := six5.grown hgrow7 (fun e => hqv _ e rfl)
      refine hKK _ _ ⟨fun _ => ⟨kc7, lc7, six7⟩, ?_⟩
      simp only [Act.put, List.setIfInBounds_toArray, List.set_cons_zero, List.set_cons_succ]
      refine wpT_tail 8 2 rfl rfl (by kernel_rfl) (by kernel_rfl) ?_
      have hKL := hne.2.2.2.1
      have hKL' := hKL.symm
      have hbk3 : Keeps (ObjDt L K mb (.slice va vs.length vc) (.slice ka ks.length kc)) _ _ := hbp.2.2.mono (fun k' e => .inr e)
      have hIF := (((HI4.out.mono (D' := ObjDt L K mb (.slice va vs.length vc) (.slice ka ks.length kc)) (fun k' e => .inl e)).drew).step HBK2.out).turn hbk3 HM.out.dt_lt
      have HDONE := Lib.hid (obj_end (s := s) (z := (j : Nat)) HM.out hlt hIF.keeps hIF.res hbp.1 hbp.2.1 (hmid2.fault hx2 hbp.2.2))
      have HBP := Lib.hid hbp
      have HIF := Lib.hid hIF
      have hKw : K ≠ w.heap.size := by omega
      have hLw : L ≠ w.heap.size := by omega
      have hKw1 : K ≠ w.heap.size + 1 := by omega
      have hLw1 : L ≠ w.heap.size + 1 := by omega
      have o70 := ((World.cell?_setCell_far _ ⟨L, 0, none⟩ ⟨w.heap.size, 0, none⟩ _ hLw).trans (World.cell?_setCell_far _ ⟨K, 0, none⟩ ⟨w.heap.size, 0, none⟩ _ hKw)).symm.trans hIF.own.2.1
      have o71 := ((World.cell?_setCell_far _ ⟨L, 0, none⟩ ⟨w.heap.size, 1, none⟩ _ hLw).trans (World.cell?_setCell_far _ ⟨K, 0, none⟩ ⟨w.heap.size, 1, none⟩ _ hKw)).symm.trans hIF.own.2.2.1
      have r70 := ((World.cell?_setCell_far _ ⟨L, 0, none⟩ ⟨w.heap.size + 1, 0, none⟩ _ hLw1).trans (World.cell?_setCell_far _ ⟨K, 0, none⟩ ⟨w.heap.size + 1, 0, none⟩ _ hKw1)).symm.trans hIF.res.2.1
      have r71 := ((World.cell?_setCell_far _ ⟨L, 0, none⟩ ⟨w.heap.size + 1, 1, none⟩ _ hLw1).trans (World.cell?_setCell_far _ ⟨K, 0, none⟩ ⟨w.heap.size + 1, 1, none⟩ _ hKw1)).symm.trans hIF.res.2.2.1
      have rf7 : ∀ i, w7.frozen? ⟨w.heap.size + 1, i, none⟩ = false := fun i => by
        have := hIF.res.2.2.2 i
        rwa [World.frozen?_setCell, World.frozen?_setCell] at this
      clear hKK hbp hIF hbk3
      go_wp2
      obtain ⟨q0, q1, -⟩ := HIF.out.out j
      unfold resSet at q0 q1
      exact bodyPost_ret (v := .tuple #[.agg #[.string s, .int .i64 j], pf fb]) (by simp [results, Tryz.results95, go_sem, q0, q1, pf]) rfl (.inr ⟨ec, ea, fb, j, .val d 123 (sk s p0) ks (sk s r) key ec ea HKR.out HV.out, hj, rfl, HDONE.out.2.2, HDONE.out.1, HDONE.out.2.1⟩)

set_option maxRecDepth 100000 in
set_option maxHeartbeats 4000000 in
theorem object1_er (F : Nat → Prop) (s : ByteArray) (d B L K M mb Db W p0 : Nat) (c : Int) (a : Nat) (vs : List Val) (ks : List ByteArray) (w : World) (hB : B ≤ L ∧ B ≤ K ∧ B ≤ mb) (h : ObjSt F B L K M mb Db d W vs ks w)
    (hkey : ∀ w, KsAt w mb ks.length ks → Calls Tryz.prog 96 #[.agg #[.string s, .int .i64 p0], .map (some mb)] w fun e w' => ∃ (fb r : Nat) (t : ByteArray), r ≤ s.size ∧ e = .returned (.tuple #[.agg #[.string s, .int .i64 r], .string t, pf fb]) ∧ FaultAt w' fb c a ∧ Keeps (· = mb) w w') (hkr : keyR s 123 (sk s p0) ks = .er c a) :
    Calls Tryz.prog 95 #[.agg #[.string s, .int .i64 p0], .pointer (some ⟨M, 0, none⟩), .pointer (some ⟨Db, 0, none⟩), .pointer (some ⟨K, 0, none⟩), .pointer (some ⟨L, 0, none⟩)] w (Item (ObjSt F B L K M mb Db d W) (ObjEnd K L) (ObjD L K mb) W w s d 123 vs ks p0) := by
  obtain ⟨v, xs, kv, hm⟩ := h.mid
  have hlt := h.lt
  have hne := h.ne
  have hM : M < W ∧ M ≠ mb ∧ Db ≠ mb ∧ L ≠ mb ∧ K ≠ mb := ⟨hlt.2.2.1, hne.2.2.2.2.2.2.2.2, hne.2.2.1, hne.2.2.2.2.1, hne.2.2.2.2.2.1⟩
  have hWle := h.le
  have HM := Lib.hid hm
  have H0 := Lib.hid (InScan.new w s p0 58)
  have HK0 := Lib.hid (InK.of (D := (· = mb)) H0.out)
  have hm0 := hm.step hM H0.out.below
  have cm := hm0.map
  have HKEY := Lib.hid (hkey _ hm0.set)
  have HKR := Lib.hid hkr
  obtain ⟨va, vc, rfl⟩ := hm.ls.slice
  obtain ⟨ka, kc, rfl⟩ := hm.kst.slice
  clear h hm hm0 hkey hkr
  go_enter Tryz.func95, Tryz.ntmps95
  go_wp2_with fail
  refine HKEY.out.mono ?_
  rintro e w1 ⟨fb, r, t, hrl, rfl, hf, hk1⟩
  have hi1 := HK0.out.turn hk1 (fun k e => by subst e; omega)
  have HI1 := Lib.hid (hi1.set r)
  have HF := Lib.hid (hf.set hi1.own s r)
  obtain ⟨-, c0, c1, cf⟩ := hi1.own
  obtain ⟨-, r0, r1, rf⟩ := hi1.res
  have HL1 := Lib.hid ((HM.out.ls.keeps (HI1.out.keeps) hM.2.2.2.1 (fun g e => HM.out.set.row_ne HM.out.ls.own g e) (fun q _ _ _ _ hE => hE.2.2.1)).cell)
  have HK1 := Lib.hid ((HM.out.kst.keeps (HI1.out.keeps) hM.2.2.2.2 (fun g e => HM.out.set.row_ne HM.out.kst.own g e)).cell)
  have HDONE := Lib.hid (obj_end (s := s) (z := (r : Nat)) HM.out hlt (HI1.out.keeps.mono (fun k e => .inl e)) HI1.out.res HL1.out HK1.out HF.out)
  clear hf hi1
  unfold pf
  go_wp2
  obtain ⟨q0, q1, -⟩ := HI1.out.out r
  unfold resSet at q0 q1
  exact bodyPost_ret (v := .tuple #[.agg #[.string s, .int .i64 r], pf fb]) (by simp [results, Tryz.results95, go_sem, q0, q1, pf]) rfl (.inr ⟨c, a, fb, r, .key d 123 (sk s p0) ks c a HKR.out, hrl, rfl, HDONE.out.2.2, HDONE.out.1, HDONE.out.2.1⟩)

theorem obj_item (F : Nat → Prop) (s : ByteArray) (d B L K M mb Db W p0 : Nat) (vs : List Val) (ks : List ByteArray) (hs : s.size ≤ 100000) (hp0 : p0 ≤ s.size) (hV : ValueSpec s d) (w : World) (hg : Handle w) (hB : B ≤ L ∧ B ≤ K ∧ B ≤ mb) (hB0 : 0 < B) (hn : vs.length ≤ 200000) (hn' : ks.length ≤ 200000) (hF : ∀ k, w.heap.size + 2 ≤ k → F k) (h : ObjSt F B L K M mb Db d W vs ks w) :
    Calls Tryz.prog 95 #[.agg #[.string s, .int .i64 p0], .pointer (some ⟨M, 0, none⟩), .pointer (some ⟨Db, 0, none⟩), .pointer (some ⟨K, 0, none⟩), .pointer (some ⟨L, 0, none⟩)] w (Item (ObjSt F B L K M mb Db d W) (ObjEnd K L) (ObjD L K mb) W w s d 123 vs ks p0) := by
  have hk := fun w hm => key_any s p0 mb ks.length ks hs hp0 hn' w hm
  cases e : keyR s 123 (sk s p0) ks with
  | er c a =>
    refine object1_er F s d B L K M mb Db W p0 c a vs ks w hB h (fun w hm => ?_) e
    have := hk w hm
    rw [e] at this
    exact this
  | ok q key =>
    exact object1_ok F s d B L K M mb Db W p0 q key vs ks hs hp0 hV w hg hB hB0 hn hn' hF h (fun w hm => by
      have := hk w hm
      rw [e] at this
      exact this) e
end Go.Proofs.YtajmlkephefapaaGreatDoor
