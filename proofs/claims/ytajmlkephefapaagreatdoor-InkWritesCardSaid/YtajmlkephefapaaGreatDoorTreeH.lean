/-
  Package tree by contracts, sixth part: what stands between brackets, for arrays.
-/
import Derived.Test.YtajmlkephefapaaGreatDoorTreeG
namespace Go.Proofs.YtajmlkephefapaaGreatDoor
open Go.RowKit Go.Extern.Stop Go.Stop Go.Extern Go.WideMaps

/-- What a row of items is, from its bracket at k on. -/
def RowRel (s : ByteArray) (d : Nat) (b : Int) (k : Nat) (o : Outs) : Prop :=
  (byteI s (sk s (k + 1)) = shutI b ∧ o = .ok (sk s (k + 1) + 1) [] []) ∨ (byteI s (sk s (k + 1)) ≠ shutI b ∧ I s d b (sk s (k + 1)) [] o)
theorem RowRel.val {s : ByteArray} {d k : Nat} {o : Outs} (h : RowRel s (d + 1) (byteI s k) k o) (ho : opens (byteI s k)) (hd : d < 64) : V s d k (o.wrap (byteI s k) k) := by
  rcases h with ⟨h1, rfl⟩ | ⟨h1, h2⟩
  · exact .none d k ho hd h1
  · exact .some d k o ho hd h1 h2
def Outs.pre (vs : List Val) (ks : List ByteArray) : Outs → Outs
  | .ok j vs' ks' => .ok j (vs ++ vs') (ks ++ ks')
  | .er c a => .er c a
theorem Outs.pre_cons (vs : List Val) (ks : List ByteArray) (x : Val) (key : ByteArray) (o : Outs) : (o.cons x key).pre vs ks = o.pre (vs ++ [x]) (ks ++ [key]) := by
  cases o <;> simp [Outs.cons, Outs.pre]
theorem Outs.pre_nil (o : Outs) : o.pre [] [] = o := by cases o <;> rfl

/-- A place of a text in a block that is known to be one. -/
def ScanS (w : World) (b : Nat) (s : ByteArray) (j : Int) : Prop := ScanAt w b s j ∧ ∃ cur fz, w.heap[b]? = some (.cells cur 58 fz)
theorem ScanS.keeps {D : Nat → Prop} {w w' : World} {b : Nat} {s : ByteArray} {j : Int} (h : ScanS w b s j) (hk : Keeps D w w') (hD : ¬ D b) : ScanS w' b s j :=
  ⟨h.1.keeps hk hD, by rw [hk.block b h.1.1 hD]; exact h.2⟩
theorem ScanS.step {w w' : World} {b : Nat} {s : ByteArray} {j : Int} (h : ScanS w b s j) (hb : Below w.heap.size w w') : ScanS w' b s j := h.keeps (D := fun _ => False) (.of_below hb) (fun e => e)
theorem ScanS.new (w : World) (s : ByteArray) (j : Int) : ScanS (w.alloc (.cells #[.string s, .int .i64 j] 58)) w.heap.size s j := ⟨ScanAt.new w s j 58, _, _, heap_alloc_new w _⟩
theorem ScanS.far {w : World} {b : Nat} {s : ByteArray} {j : Int} (h : ScanS w b s j) {q : Addr} (hq : b ≠ q.block) (v : Value) : ScanS (w.setCell q v) b s j :=
  ⟨h.1.far hq v, by rw [heap_setCell_other _ _ _ _ hq]; exact h.2⟩
theorem cells_setCell {w : World} {b : Nat} {T : TypeId} (h : ∃ cur fz, w.heap[b]? = some (.cells cur T fz)) (q : Addr) (v : Value) : ∃ cur fz, (w.setCell q v).heap[b]? = some (.cells cur T fz) := by
  obtain ⟨cur, fz, h⟩ := h
  by_cases hq : b = q.block
  · subst hq
    refine ⟨if q.spot.isSome then cur else cur.setIfInBounds q.off v, fz, ?_⟩
    unfold World.setCell
    simp only [Array.getElem?_modify, if_true, h, Option.map_some]
  · exact ⟨cur, fz, by rw [heap_setCell_other _ _ _ _ hq]; exact h⟩
theorem ScanS.set {w : World} {b : Nat} {s : ByteArray} {j : Int} (h : ScanS w b s j) (s' : ByteArray) (j' : Int) : ScanS ((w.setCell ⟨b, 0, none⟩ (.string s')).setCell ⟨b, 1, none⟩ (.int .i64 j')) b s' j' :=
  ⟨h.1.set s' j', cells_setCell (cells_setCell h.2 _ _) _ _⟩
/-- What stays, whatever an item turns. -/
def Fr (D : Nat → Prop) (W : Nat) (w w' : World) : Prop := (∀ b s j, ScanS w b s j → ScanS w' b s j) ∧ Keeps (fun k => D k ∨ W ≤ k) w w'

/-! ### An array's state -/
structure ArrSt (E : Nat → Prop) (B L Db d W : Nat) (vs : List Val) (ks : List ByteArray) (w : World) : Prop where
  st : ∃ v xs, ListSt B L E vs v xs w ∧ ∀ g, v.ownBlock = some g → W ≤ g
  num : NumAt w Db d
  lt : L < W ∧ Db < W ∧ Db ≠ L
  le : W ≤ w.heap.size
def ArrE (L : Nat) (w : World) : Prop := ∃ (a : Option Addr) (l c : Nat), w.cell? ⟨L, 0, none⟩ = some (.slice a l c)
theorem ArrSt.step {E : Nat → Prop} {B L Db d W : Nat} {vs : List Val} {ks : List ByteArray} {w w' : World} (h : ArrSt E B L Db d W vs ks w) (hb : Below w.heap.size w w') : ArrSt E B L Db d W vs ks w' := by
  obtain ⟨⟨v, xs, h1, h2⟩, h3, h4, h5⟩ := h
  exact ⟨⟨v, xs, h1.step hb, h2⟩, h3.keeps (D := fun _ => False) (.of_below hb) (fun e => e), h4, Nat.le_trans h5 hb.size⟩
/-- What an item answers. -/
def Item (St : List Val → List ByteArray → World → Prop) (StE : World → Prop) (D : Nat → Prop) (W : Nat) (w : World) (s : ByteArray) (d : Nat) (b : Int) (vs : List Val) (ks : List ByteArray) (p0 : Nat) (e : Ending) (w' : World) : Prop :=
  (∃ (j q : Nat) (x : Val) (key : ByteArray), keyR s b (sk s p0) ks = .ok q key ∧ V s d q (.ok j x) ∧ e = .returned (.tuple #[.agg #[.string s, .int .i64 (sk s j)], .nilIface]) ∧ St (vs ++ [x]) (ks ++ [key]) w' ∧ Fr D W w w') ∨
  (∃ (ec : Int) (ea fb j : Nat), I s d b (sk s p0) ks (.er ec ea) ∧ j ≤ s.size ∧ e = .returned (.tuple #[.agg #[.string s, .int .i64 j], pf fb]) ∧ FaultAt w' fb ec ea ∧ StE w' ∧ Fr D W w w')
theorem arr_item (E : Nat → Prop) (s : ByteArray) (d B L Db W p0 : Nat) (vs : List Val) (ks : List ByteArray) (hs : s.size ≤ 100000) (hp0 : p0 ≤ s.size) (hV : ValueSpec s d) (w : World) (hg : Handle w) (hB : B ≤ L) (hB0 : 0 < B) (hn : vs.length ≤ 200000) (hE : ∀ k, w.heap.size + 2 ≤ k → E k) (h : ArrSt E B L Db d W vs ks w) :
    Calls Tryz.prog 94 #[.agg #[.string s, .int .i64 p0], .pointer (some ⟨Db, 0, none⟩), .pointer (some ⟨L, 0, none⟩)] w (Item (ArrSt E B L Db d W) (ArrE L) (· = L) W w s d 91 vs ks p0) := by
  obtain ⟨⟨v, xs, hl, hgW⟩, hnum, hlt, hle⟩ := h
  have hfr : ∀ w', Keeps (Dirty L v) w w' → Fr (· = L) W w w' := fun w' hk => by
    refine ⟨fun b s j hs => hs.keeps hk ?_, hk.mono (fun k e => e.imp id (hgW k))⟩
    rintro (rfl | e)
    · obtain ⟨a, c, rfl⟩ := hl.slice
      have := hs.1.2.1
      rw [hl.cell] at this
      cases this
    · exact hl.row_ne hs.1.2.1 (fun k e => by cases e) e
  refine (array1_any E s d B L Db p0 vs v xs hs hp0 hV w hg hB hB0 hE hl hnum hn hlt.2.2).mono ?_
  rintro e w' (⟨j, x, v', xs', hv, rfl, hl', hk, hnew⟩ | ⟨ec, ea, fb, j, a, l, c, hv, hj, rfl, hf, hc, hk⟩)
  · exact .inl ⟨j, sk s p0, x, ⟨#[]⟩, rfl, hv, rfl, ⟨⟨v', xs', hl', fun g hg => (hnew g hg).elim (hgW g) (fun h => Nat.le_trans hle h)⟩,
      hnum.keeps hk (fun e => e.elim hlt.2.2 (fun e => hnum.row_ne hl e)), hlt, Nat.le_trans hle hk.size⟩, hfr _ hk⟩
  · exact .inr ⟨ec, ea, fb, j, .val d 91 (sk s p0) ks (sk s p0) ⟨#[]⟩ ec ea rfl hv, hj, rfl, hf, ⟨a, l, c, hc⟩, hfr _ hk⟩
end Go.Proofs.YtajmlkephefapaaGreatDoor
