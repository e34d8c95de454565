/-
  Chapter 11's law, first part: what is gone through; the document's topology; whether one may be.
  Chapter 11's law, second part: a topology as the document's.
  Chapter 11's law, third part: whether a topology may be, by the document; what is asked ahead.
-/
import Derived.Test.YtlcpbfklnjlgnaaGreatDoorGl
import Derived.Test.YtlcpbfklnjlgnaaGreatDoorGd
namespace Go.Proofs.YtlcpbfklnjlgnaaGreatDoor
open Go.RowKit Go.Extern.Stop Go.Stop Go.Extern

/-- What is gone through. -/
structure LightT (rs : List ByteArray) (ls : List Lk) : Prop where
  nr : rs.length ≤ 70
  nl : ls.length ≤ 70
  sr : ∀ (i : Nat) (s : ByteArray), rs[i]? = some s → s.size ≤ 60
  sl : ∀ (i : Nat) (l : Lk), ls[i]? = some l → l.nm.size ≤ 60
/-- What comes of asking. -/
def LiPost (w : World) (p : Prop) (e : Ending) (w' : World) : Prop := ∃ b, e = .returned (.bool b) ∧ (b = true → p) ∧ Below w.heap.size w w'
theorem LiPost.no {w w' : World} {p : Prop} (h : Below w.heap.size w w') : LiPost w p (.returned (.bool false)) w' := ⟨false, rfl, (fun e => by cases e), h⟩
theorem LiPost.yes {w w' : World} {p : Prop} (hp : p) (h : Below w.heap.size w w') : LiPost w p (.returned (.bool true)) w' := ⟨true, rfl, fun _ => hp, h⟩
def LiR (w : World) (n : Nat) (p : Nat → Prop) (g : Nat) (v : Value) (wr : World) : Prop :=
  ∃ i : Nat, i ≤ n ∧ g = n - i ∧ v = .int .i64 i ∧ (∀ j, j < i → p j) ∧ Below w.heap.size w wr
set_option maxRecDepth 100000 in
set_option maxHeartbeats 4000000 in
theorem light11_any (vr vl : Value) (rs : List ByteArray) (ls : List Lk) (w : World) (ht : TpAt w vr vl rs ls) :
    Calls Tryz.prog 5 #[.agg #[vr, vl]] w (LiPost w (LightT rs ls)) := by
  have HT := Lib.hid (TB.start ht)
  obtain ⟨ra, rcap, rfl⟩ := ht.rs.form
  obtain ⟨la, lcap, rfl⟩ := ht.ls.form
  have k0 := HT.out.c0
  have k1 := HT.out.c1
  have HB := Lib.hid HT.out.below
  have HS := Lib.hid HT.out.tp
  have HL := Lib.hid HT.out.lt
  clear ht HT
  by_cases h1 : rs.length ≤ 70
  · have q1 : ¬ (70 : Int) < rs.length := by omega
    by_cases h2 : ls.length ≤ 70
    · have q2 : ¬ (70 : Int) < ls.length := by omega
      go_enter Tryz.func5, Tryz.ntmps5
      go_wp2_with fail
      generalize w.alloc (.cells #[.slice ra rs.length rcap, .slice la ls.length lcap] 25) = w1 at *
      go_loopg [20] rs.length (fun g u wr => LiR w1 rs.length (fun j => ∀ s, rs[j]? = some s → s.size ≤ 60) g u wr)
      case atStart => exact ⟨0, Nat.zero_le _, by omega, rfl, fun j hj => absurd hj (Nat.not_lt_zero _), Below.refl _ _⟩
      case round =>
        obtain ⟨i, hi, hgi, rfl, hp, hb⟩ := hrel
        have HP := Lib.hid hp
        have HBr := Lib.hid hb
        by_cases hlt : i < rs.length
        · obtain ⟨s, hx⟩ : ∃ s, rs[i]? = some s := ⟨_, List.getElem?_eq_getElem hlt⟩
          obtain ⟨b, off, rfl, c0⟩ := HS.out.rs.at hx hb
          by_cases hs : s.size ≤ 60
          · have hs' : ¬ (60 : Int) < s.size := by omega
            have H3 : Hid (LiR w1 rs.length (fun j => ∀ s, rs[j]? = some s → s.size ≤ 60) (rs.length - (i + 1)) (.int .i64 ((i : Int) + 1)) wr) := Lib.hid ⟨i + 1, by omega, rfl, by go_num, fun j hj s' hs'' => by
              rcases Nat.lt_succ_iff_lt_or_eq.1 hj with hj | rfl
              · exact HP.out j hj s' hs''
              · rw [hx] at hs''; injection hs'' with hs''; rw [← hs'']; exact hs, HBr.out⟩
            clear hp hb hx k0 k1
            go_wp2_with fail
            go_roundg (rs.length - (i + 1))
            case measure => omega
            case rel => exact H3.out
          · have hs' : (60 : Int) < s.size := by omega
            clear hp hb hx k0 k1
            go_wp2_with fail
            go_ret
            exact LiPost.no (HB.out.trans (HBr.out.mono HB.out.size))
        · obtain rfl : i = rs.length := by omega
          have HSz : Hid (∀ (i : Nat) (s : ByteArray), rs[i]? = some s → s.size ≤ 60) := Lib.hid (fun j s hj => HP.out j (List.getElem?_eq_some_iff.1 hj).1 s hj)
          have m0 := (hb.cell (p := ⟨w.heap.size, 0, none⟩) HL.out).trans k0
          have m1 := (hb.cell (p := ⟨w.heap.size, 1, none⟩) HL.out).trans k1
          clear hp HP hb k0 k1
          go_wp2_with fail
          rename World => wo
          go_loopg [31] ls.length (fun g u wr => LiR w1 ls.length (fun j => ∀ l, ls[j]? = some l → l.nm.size ≤ 60) g u wr)
          case atStart => exact ⟨0, Nat.zero_le _, by omega, rfl, fun j hj => absurd hj (Nat.not_lt_zero _), HBr.out⟩
          case round =>
            obtain ⟨i, hi, hgi, rfl, hp, hb⟩ := hrel
            have HP := Lib.hid hp
            have HBr := Lib.hid hb
            by_cases hlt : i < ls.length
            · obtain ⟨l, hx⟩ : ∃ l, ls[i]? = some l := ⟨_, List.getElem?_eq_getElem hlt⟩
              obtain ⟨b, off, rfl, c0, c1, c2, c3⟩ := HS.out.ls.at hx hb
              have HB2 := Lib.hid (hb.trans ((below_new wr (.cells #[.string l.nm, .int .i64 l.fr, .int .i64 l.to, .int .u64 l.ds] 60)).mono hb.size))
              by_cases hs : l.nm.size ≤ 60
              · have hs' : ¬ (60 : Int) < l.nm.size := by omega
                have HP2 : Hid (∀ j, j < i + 1 → ∀ l, ls[j]? = some l → l.nm.size ≤ 60) := Lib.hid (fun j hj s' hs'' => by
                  rcases Nat.lt_succ_iff_lt_or_eq.1 hj with hj | rfl
                  · exact HP.out j hj s' hs''
                  · rw [hx] at hs''; injection hs'' with hs''; rw [← hs'']; exact hs)
                clear hp hb hx m0 m1
                go_wp2_with fail
                go_roundg (ls.length - (i + 1))
                case measure => omega
                case rel => exact ⟨i + 1, by omega, rfl, by go_num, HP2.out, HB2.out⟩
              · have hs' : (60 : Int) < l.nm.size := by omega
                clear hp hb hx m0 m1
                go_wp2_with fail
                go_ret
                exact LiPost.no (HB.out.trans (HB2.out.mono HB.out.size))
            · obtain rfl : i = ls.length := by omega
              have HSl : Hid (∀ (i : Nat) (l : Lk), ls[i]? = some l → l.nm.size ≤ 60) := Lib.hid (fun j s hj => HP.out j (List.getElem?_eq_some_iff.1 hj).1 s hj)
              clear hp HP hb m0 m1
              go_wp2_with fail
              go_ret
              exact LiPost.yes ⟨h1, h2, HSz.out, HSl.out⟩ (HB.out.trans (HBr.out.mono HB.out.size))
    · have q2 : (70 : Int) < ls.length := by omega
      go_enter Tryz.func5, Tryz.ntmps5
      go_wp2_with fail
      go_ret
      exact LiPost.no HB.out
  · have q1 : (70 : Int) < rs.length := by omega
    go_enter Tryz.func5, Tryz.ntmps5
    go_wp2_with fail
    go_ret
    exact LiPost.no HB.out

/-! ### The document's topology -/
theorem WordsOf_at {rs : List ByteArray} {j : Nat} {u : Value} (h : (WordsOf rs)[j]? = some u) : ∃ s, rs[j]? = some s ∧ u = .string s := by
  unfold WordsOf at h
  rw [List.getElem?_map] at h
  cases hs : rs[j]? with
  | none => rw [hs] at h; cases h
  | some s => rw [hs] at h; injection h with h; exact ⟨s, rfl, h.symm⟩
theorem run_append_strs (w : World) (base : Nat) (ty : TypeId) (v : Value) (n : Nat) (xs : List Value) (hown : w.ownsRow base 9 1 v n xs) (vx : Value) (l : List ByteArray) (hv : StrsAt w vx l) (hn : n + l.length ≤ 1000000) (hbase : base ≤ w.heap.size) :
    ∃ v' w', (Builtin.append_ #[22, 22] ty #[v, vx]).run Tryz.prog w = .ok v' w' ∧ w'.ownsRow base 9 1 v' (n + l.length) (xs ++ WordsOf l) ∧ w.grownBy w' v.ownBlock := by
  obtain ⟨i0, hi, hz0, hz1, hz2⟩ := info_parts infoStr
  rcases hv with ⟨a, cap, rfl, rfl⟩ | ⟨b, off, cap, rfl, hb, hc⟩
  · rcases a with _ | a
    · refine ⟨v, w, ?_, by simpa [WordsOf] using hown, World.grownBy.refl w _⟩
      rcases hown.2 with ⟨rfl, -⟩ | ⟨g, cp, cur, rfl, -, -, hle, -⟩
      · simp [Builtin.append_, run_underlying Tryz.underlying22, sizeOf, typeInfo, hi, Builtin.lenOf, Builtin.firstCells]
      · simp [Builtin.append_, run_underlying Tryz.underlying22, sizeOf, typeInfo, hi, Builtin.lenOf, Builtin.firstCells, hle, storeCells]
    · obtain ⟨v', w', h1, h2, h3, -⟩ := run_append_own (P := Tryz.prog) w base 22 ty 9 i0 (.string ByteArray.empty) 1 16 Tryz.underlying22 hi hz0 hz1 hz2 rfl (by decide) v n xs hown a 0 cap [] rfl (by intro j u hu; cases hu) (by intro u hu; cases hu) (by unfold maxLen; omega) (by omega) hbase
      exact ⟨v', w', h1, by simpa [WordsOf] using h2, h3⟩
  · obtain ⟨v', w', h1, h2, h3, -⟩ := run_append_own (P := Tryz.prog) w base 22 ty 9 i0 (.string ByteArray.empty) 1 16 Tryz.underlying22 hi hz0 hz1 hz2 rfl (by decide) v n xs hown ⟨b, off, none⟩ l.length cap (WordsOf l) (by simp [WordsOf]) (by
      intro j u hu
      obtain ⟨s, hj, rfl⟩ := WordsOf_at hu
      have e0 : (⟨b, off, none⟩ : Addr).add j = ⟨b, off + j, none⟩ := by unfold Addr.add; split <;> simp_all
      rw [e0]
      obtain ⟨hl, rfl⟩ := List.getElem?_eq_some_iff.1 hj
      have := hc j hl
      rw [List.getD, List.getElem?_eq_getElem hl] at this
      exact this) (by
      intro u hu
      obtain ⟨s, -, rfl⟩ := List.mem_map.1 hu
      rfl) (by unfold maxLen; omega) (by omega) hbase
    exact ⟨v', w', h1, h2, h3⟩
theorem wpList_append_strs {ops : Array Oper} {rest : List Oper} {o : Oper} {a : Act} {Q : Exit → Act → World → Prop} (w : World) (hgd : o.guard = none) (s x : Operand) (ho : o.op = .call { callee := .builtin .append, args := #[s, x], argTypes := #[22, 22] })
    (base : Nat) (v : Value) (n : Nat) (xs : List Value) (hs : a.eval s = v) (hown : w.ownsRow base 9 1 v n xs) (vx : Value) (l : List ByteArray) (hx : a.eval x = vx) (hv : StrsAt w vx l) (hn : n + l.length ≤ 1000000) (hbase : base ≤ w.heap.size)
    (h : ∀ v' w', w'.ownsRow base 9 1 v' (n + l.length) (xs ++ WordsOf l) → w.grownBy w' v.ownBlock → wpList Tryz.prog ops Q rest (a.put o.dst v') w') : wpList Tryz.prog ops Q (o :: rest) a w := by
  refine wpList_plain hgd fun K hK => ?_
  obtain ⟨v', w', h1, h2, h3⟩ := run_append_strs w base o.type v n xs hown vx l hv hn hbase
  unfold Oper.wp execOp
  simp only [ho, resolve, invoke, builtin, Sem.run_bind, Sem.run_pure, Result.andThen_ok, List.map_toArray, List.map_cons, List.map_nil, hs, hx, h1]
  exact hK _ _ (h v' w' h2 h3)
def lkCells (ls : List Lk) : List Value := ls.flatMap fun l => [.string l.nm, .int .i64 l.fr, .int .i64 l.to, .int .u64 l.ds]
theorem lkCells_append (a b : List Lk) : lkCells (a ++ b) = lkCells a ++ lkCells b := by unfold lkCells; rw [List.flatMap_append]
theorem lkCells_one (c : List Lk) : ∀ u ∈ lkCells c, u.oneCell' = true := by
  intro u hu
  obtain ⟨o, -, ho⟩ := List.mem_flatMap.1 hu
  simp at ho
  rcases ho with rfl | rfl | rfl | rfl <;> rfl
theorem lkCells_at : ∀ {c : List Lk} {i : Nat} {l : Lk}, c[i]? = some l → (lkCells c)[i * 4]? = some (.string l.nm) ∧ (lkCells c)[i * 4 + 1]? = some (.int .i64 l.fr) ∧ (lkCells c)[i * 4 + 2]? = some (.int .i64 l.to) ∧ (lkCells c)[i * 4 + 3]? = some (.int .u64 l.ds)
  | [], _, _, h => by simp at h
  | a :: c, 0, o, h => by
    obtain rfl : a = o := by simpa using h
    exact ⟨rfl, rfl, rfl, rfl⟩
  | a :: c, i + 1, o, h => by
    have := lkCells_at (c := c) (i := i) (l := o) (by simpa using h)
    have e : lkCells (a :: c) = .string a.nm :: .int .i64 a.fr :: .int .i64 a.to :: .int .u64 a.ds :: lkCells c := rfl
    rw [e, show (i + 1) * 4 = i * 4 + 1 + 1 + 1 + 1 by omega]
    exact this
theorem LksAt.own {w : World} {base : Nat} {T : TypeId} {v : Value} {n : Nat} {c : List Lk} (h : w.ownsRow base T 4 v n (lkCells c)) (hn : n = c.length) : LksAt w v c := by
  subst hn
  have hc := h
  obtain ⟨h1, h2⟩ := h
  rcases h2 with ⟨rfl, h3⟩ | ⟨g, cap, cur, rfl, hg, hh, h3, h4, h5, h6⟩
  · exact .inl ⟨none, 0, rfl, List.eq_nil_of_length_eq_zero h3⟩
  · refine .inr ⟨g, 0, cap, rfl, (Array.getElem?_eq_some_iff.1 hh).1, fun i o ho => ?_⟩
    obtain ⟨k0, k1, k2, k3⟩ := lkCells_at ho
    have e0 : ∀ j, (⟨g, 0, none⟩ : Addr).add j = ⟨g, 0 + j, none⟩ := fun j => by unfold Addr.add; split <;> simp_all
    have a0 := hc.cells (g := g) rfl _ _ k0
    have a1 := hc.cells (g := g) rfl _ _ k1
    have a2 := hc.cells (g := g) rfl _ _ k2
    have a3 := hc.cells (g := g) rfl _ _ k3
    rw [e0] at a0 a1 a2 a3
    exact ⟨a0, by rw [Nat.add_assoc]; exact a1, by rw [Nat.add_assoc]; exact a2, by rw [Nat.add_assoc]; exact a3⟩
theorem infoRLink : (Tryz.prog.info? 62).map (fun i => (i.zero, i.size, i.bytes)) = some (some (.agg #[.string ByteArray.empty, .int .i64 0, .int .i64 0, .int .u64 0]), 4, 40) := by kernel_rfl
end Go.Proofs.YtlcpbfklnjlgnaaGreatDoor

namespace Go.Proofs.YtlcpbfklnjlgnaaGreatDoor
open Go.RowKit Go.Extern.Stop Go.Stop Go.Extern

theorem rows_apart {w : World} {B B' : Nat} {e e' : TypeId} {sz sz' : Nat} {v v' : Value} {n n' : Nat} {xs xs' : List Value} (h : w.ownsRow B e sz v n xs) (h' : w.ownsRow B' e' sz' v' n' xs') (hne : e ≠ e') : v.ownBlock = none ∨ v.ownBlock ≠ v'.ownBlock := by
  rcases h.2 with ⟨rfl, -⟩ | ⟨g1, cap, cur, rfl, -, h1, -⟩
  · exact .inl rfl
  · refine .inr fun hg => ?_
    rcases h'.2 with ⟨rfl, -⟩ | ⟨g2, cap', cur', rfl, -, h2, -⟩
    · cases hg
    · have e2 : g1 = g2 := by injection hg
      subst e2
      rw [h1] at h2
      injection h2 with h2
      injection h2 with _ h2
      exact hne h2
/-- On the way: the boxes of the topology, of the result, of what is made; its two rows. -/
structure ToSt (w : World) (vr vl : Value) (rs : List ByteArray) (c : List Lk) (v0 v1 : Value) (W : World) : Prop where
  topo : W.heap[w.heap.size]? = some (.cells #[vr, vl] 25 (0, 0))
  res : W.heap[w.heap.size + 1]? = some (.cells #[.slice none 0 0, .slice none 0 0] 35 (0, 0))
  out : W.heap[w.heap.size + 1 + 1]? = some (.cells #[v0, v1] 35 (0, 0))
  r0 : W.ownsRow (w.heap.size + 1 + 1 + 1) 9 1 v0 rs.length (WordsOf rs)
  r1 : W.ownsRow (w.heap.size + 1 + 1 + 1) 62 4 v1 c.length (lkCells c)
  below : Below w.heap.size w W
theorem hcell {W : World} {b : Nat} {v0 v1 : Value} {T : TypeId} (h : W.heap[b]? = some (.cells #[v0, v1] T (0, 0))) : W.cell? ⟨b, 0, none⟩ = some v0 ∧ W.cell? ⟨b, 1, none⟩ = some v1 ∧ ∀ i, W.frozen? ⟨b, i, none⟩ = false :=
  ⟨by rw [Lib.cell_of_heap h]; rfl, by rw [Lib.cell_of_heap h]; rfl, fun i => by unfold World.frozen?; rw [h]; simp⟩
theorem hlt {W : World} {b : Nat} {o : Obj} (h : W.heap[b]? = some o) : b < W.heap.size := (Array.getElem?_eq_some_iff.1 h).1
theorem ToSt.lt {w : World} {vr vl : Value} {rs : List ByteArray} {c : List Lk} {v0 v1 : Value} {W : World} (h : ToSt w vr vl rs c v0 v1 W) : w.heap.size + 1 + 1 < W.heap.size := hlt h.out
theorem ToSt.step {w : World} {vr vl : Value} {rs : List ByteArray} {c : List Lk} {v0 v1 : Value} {W W' : World} (h : ToSt w vr vl rs c v0 v1 W) (hb : Below W.heap.size W W') : ToSt w vr vl rs c v0 v1 W' :=
  ⟨(hb.block _ (hlt h.topo)).trans h.topo, (hb.block _ (hlt h.res)).trans h.res, (hb.block _ (hlt h.out)).trans h.out, h.r0.kept (grown_of_below hb) (by cases Value.ownBlock v0 <;> simp), h.r1.kept (grown_of_below hb) (by cases Value.ownBlock v1 <;> simp), h.below.trans (hb.mono h.below.size)⟩
/-- One link more behind, and its slice stored. -/
theorem ToSt.more {w : World} {vr vl : Value} {rs : List ByteArray} {c c' : List Lk} {v0 v1 v2 : Value} {W W' : World} (h : ToSt w vr vl rs c v0 v1 W) (hg : W.grownBy W' v1.ownBlock) (hr : W'.ownsRow (w.heap.size + 1 + 1 + 1) 62 4 v2 c'.length (lkCells c')) :
    ToSt w vr vl rs c' v0 v2 (W'.setCell ⟨w.heap.size + 1 + 1, 1, none⟩ v2) ∧ W'.heap[w.heap.size + 1 + 1]? = some (.cells #[v0, v1] 35 (0, 0)) := by
  have hge : ∀ k, v1.ownBlock = some k → w.heap.size + 1 + 1 + 1 ≤ k := fun k e => (h.r1.lt k e).1
  have hne : ∀ b, b ≤ w.heap.size + 1 + 1 → some b ≠ v1.ownBlock := fun b hb e => by have := hge b e.symm; omega
  have h0 := (hg.block _ (hlt h.topo) (hne _ (by omega))).trans h.topo
  have h1 := (hg.block _ (hlt h.res) (hne _ (by omega))).trans h.res
  have h2 := (hg.block _ (hlt h.out) (hne _ (by omega))).trans h.out
  refine ⟨⟨(heap_setCell_other _ _ _ _ (by show w.heap.size ≠ w.heap.size + 1 + 1; omega)).trans h0, (heap_setCell_other _ _ _ _ (by show w.heap.size + 1 ≠ w.heap.size + 1 + 1; omega)).trans h1, heap_setCell_same _ _ 1 _ _ v2 h2,
    ownsRow_setCell_below (h.r0.kept hg (rows_apart h.r0 h.r1 (by decide))) (a := ⟨w.heap.size + 1 + 1, 1, none⟩) (by show w.heap.size + 1 + 1 < _; omega) v2, ownsRow_setCell_below hr (a := ⟨w.heap.size + 1 + 1, 1, none⟩) (by show w.heap.size + 1 + 1 < _; omega) v2, ?_⟩, h2⟩
  exact (h.below.grown hg h.below.size (fun k e => by have := hge k e; omega)).setCell (p := ⟨w.heap.size + 1 + 1, 1, none⟩) (by show _ ≤ w.heap.size + 1 + 1; omega) _
theorem row_form {w : World} {B : Nat} {e : TypeId} {sz n : Nat} {v : Value} {xs : List Value} (h : w.ownsRow B e sz v n xs) : ∃ a cap, v = .slice a n cap := by
  rcases h.2 with ⟨rfl, h0⟩ | ⟨g, cap, cur, rfl, -⟩
  · exact ⟨none, 0, by rw [h0]⟩
  · exact ⟨_, cap, rfl⟩
def ToRl (w : World) (vr vl : Value) (rs : List ByteArray) (ls : List Lk) (g : Nat) (u : Value) (wr : World) : Prop :=
  ∃ (i : Nat) (v0 v1 : Value), i ≤ ls.length ∧ g = ls.length - i ∧ u = .int .i64 i ∧ ToSt w vr vl rs (ls.take i) v0 v1 wr
set_option maxRecDepth 100000 in
set_option maxHeartbeats 4000000 in
theorem to11_any (vr vl : Value) (rs : List ByteArray) (ls : List Lk) (w : World) (ht : TpAt w vr vl rs ls) (hn : rs.length ≤ 1000) (hl : ls.length ≤ 1000) :
    Calls Tryz.prog 8 #[.agg #[vr, vl]] w fun e w' => ∃ u0 u1, e = .returned (.agg #[u0, u1]) ∧ TpAt w' u0 u1 rs ls ∧ Below w.heap.size w w' := by
  obtain ⟨i0, hi, hz0, hz1, hz2⟩ := info_parts infoRLink
  have e1 : (w.alloc (.cells #[vr, vl] 25)).heap.size = w.heap.size + 1 := World.size_alloc _ _
  have e2 : ((w.alloc (.cells #[vr, vl] 25)).alloc (.cells #[.slice none 0 0, .slice none 0 0] 35)).heap.size = w.heap.size + 1 + 1 := by rw [World.size_alloc, World.size_alloc]
  have e3 : (((w.alloc (.cells #[vr, vl] 25)).alloc (.cells #[.slice none 0 0, .slice none 0 0] 35)).alloc (.cells #[.slice none 0 0, .slice none 0 0] 35)).heap.size = w.heap.size + 1 + 1 + 1 := by rw [World.size_alloc, e2]
  have hB : Below w.heap.size w (((w.alloc (.cells #[vr, vl] 25)).alloc (.cells #[.slice none 0 0, .slice none 0 0] 35)).alloc (.cells #[.slice none 0 0, .slice none 0 0] 35)) :=
    (((Below.refl _ w).alloc (Nat.le_refl _) _).alloc (by simp) _).alloc (by simp; omega) _
  have g0 : (((w.alloc (.cells #[vr, vl] 25)).alloc (.cells #[.slice none 0 0, .slice none 0 0] 35)).alloc (.cells #[.slice none 0 0, .slice none 0 0] 35)).heap[w.heap.size]? = some (.cells #[vr, vl] 25 (0, 0)) :=
    ((heap_alloc_old _ _ (by rw [e2]; omega)).trans (heap_alloc_old _ _ (by rw [e1]; omega))).trans (heap_alloc_new w _)
  have g1 : (((w.alloc (.cells #[vr, vl] 25)).alloc (.cells #[.slice none 0 0, .slice none 0 0] 35)).alloc (.cells #[.slice none 0 0, .slice none 0 0] 35)).heap[w.heap.size + 1]? = some (.cells #[.slice none 0 0, .slice none 0 0] 35 (0, 0)) := by
    have := heap_alloc_new (w.alloc (.cells #[vr, vl] 25)) (.cells #[.slice none 0 0, .slice none 0 0] 35)
    rw [e1] at this
    exact (heap_alloc_old _ _ (by rw [e2]; omega)).trans this
  have g2 : (((w.alloc (.cells #[vr, vl] 25)).alloc (.cells #[.slice none 0 0, .slice none 0 0] 35)).alloc (.cells #[.slice none 0 0, .slice none 0 0] 35)).heap[w.heap.size + 1 + 1]? = some (.cells #[.slice none 0 0, .slice none 0 0] 35 (0, 0)) := by
    have := heap_alloc_new ((w.alloc (.cells #[vr, vl] 25)).alloc (.cells #[.slice none 0 0, .slice none 0 0] 35)) (.cells #[.slice none 0 0, .slice none 0 0] 35)
    rwa [e2] at this
  obtain ⟨la, lcap, rfl⟩ := ht.ls.form
  obtain ⟨ra, rcap, rfl⟩ := ht.rs.form
  have HT := Lib.hid ht
  obtain ⟨k0, k1, -⟩ := hcell g0
  obtain ⟨o0, o1, of⟩ := hcell g2
  have o2 := of 0
  have HB := Lib.hid hB
  have HG0 := Lib.hid g0
  have HG1 := Lib.hid g1
  have HG2 := Lib.hid g2
  have HE3 := Lib.hid e3
  clear e1 e2 e3 hB g0 g1 g2 of ht
  go_enter Tryz.func8, Tryz.ntmps8
  go_wp2_with (at_builtin; refine wpList_append_strs _ rfl _ _ rfl (w.heap.size + 1 + 1 + 1) _ _ _ rfl (World.ownsRow_nil _ _ _ _) _ rs rfl (HT.out.rs.keep HB.out) (by omega) (by rw [HE3.out]; omega) ?_)
  intro v0 w1 hown hgrow
  have hb1 : Below (w.heap.size + 1 + 1 + 1) _ w1 := (Below.refl (w.heap.size + 1 + 1 + 1) (((w.alloc (.cells #[.slice ra rs.length rcap, .slice la ls.length lcap] 25)).alloc (.cells #[.slice none 0 0, .slice none 0 0] 35)).alloc (.cells #[.slice none 0 0, .slice none 0 0] 35))).grown hgrow (by rw [HE3.out]; exact Nat.le_refl _) (fun k e => by cases e)
  have HB1 : Hid (Below w.heap.size w w1) := Lib.hid (HB.out.trans (hb1.mono (by omega)))
  have q0 := (hb1.block (w.heap.size) (by omega)).trans HG0.out
  have q1 := (hb1.block (w.heap.size + 1) (by omega)).trans HG1.out
  have q2 := (hb1.block (w.heap.size + 1 + 1) (by omega)).trans HG2.out
  obtain ⟨sa, scap, rfl⟩ := row_form hown
  obtain ⟨k0, k1, -⟩ := hcell q0
  obtain ⟨o0, o1, of⟩ := hcell q2
  have o2 := of 0
  have HSt : Hid (ToSt w (.slice ra rs.length rcap) (.slice la ls.length lcap) rs [] (.slice sa rs.length scap) (.slice none 0 0) (w1.setCell ⟨w.heap.size + 1 + 1, 0, none⟩ (.slice sa rs.length scap))) := Lib.hid
    ⟨(heap_setCell_other _ _ _ _ (by show w.heap.size ≠ w.heap.size + 1 + 1; omega)).trans q0, (heap_setCell_other _ _ _ _ (by show w.heap.size + 1 ≠ w.heap.size + 1 + 1; omega)).trans q1, heap_setCell_same _ _ 0 _ _ _ q2,
      ownsRow_setCell_below hown (a := ⟨w.heap.size + 1 + 1, 0, none⟩) (by show w.heap.size + 1 + 1 < _; omega) _, World.ownsRow_nil _ _ _ _, HB1.out.setCell (p := ⟨w.heap.size + 1 + 1, 0, none⟩) (by show _ ≤ w.heap.size + 1 + 1; omega) _⟩
  obtain ⟨z0, z1, -⟩ := hcell HSt.out.topo
  clear hown hgrow hb1 q0 q1 q2 of HB HG0 HG1 HG2 HE3 HB1
  go_wp2_with fail
  go_loopg [15] ls.length (fun g u wr => ToRl w (.slice ra rs.length rcap) (.slice la ls.length lcap) rs ls g u wr)
  case atStart => exact ⟨0, _, _, Nat.zero_le _, by omega, rfl, HSt.out⟩
  case round =>
    obtain ⟨i, v0, v1, hil, hgi, rfl, hst⟩ := hrel
    by_cases hlt : i < ls.length
    · obtain ⟨l, hx⟩ : ∃ l, ls[i]? = some l := ⟨_, List.getElem?_eq_getElem hlt⟩
      obtain ⟨b, off, rfl, c0, c1, c2, c3⟩ := HT.out.ls.at hx hst.below
      obtain ⟨s0a, s0c, rfl⟩ := row_form hst.r0
      obtain ⟨s1a, s1c, rfl⟩ := row_form hst.r1
      have HE : Hid (lkCells (ls.take (i + 1)) = lkCells (ls.take i) ++ lkCells [l]) := Lib.hid (by rw [List.take_add_one, hx, Option.toList_some, lkCells_append])
      have HLn : Hid ((ls.take i).length = i ∧ (ls.take (i + 1)).length = i + 1) := Lib.hid (by rw [List.length_take, List.length_take]; omega)
      have hs1 := hst.step (below_new wr (.cells #[.string l.nm, .int .i64 l.fr, .int .i64 l.to, .int .u64 l.ds] 60))
      obtain ⟨o0, o1, -⟩ := hcell hs1.out
      have hs2 := hs1.step (below_new _ (.cells #[.string l.nm, .int .i64 l.fr, .int .i64 l.to, .int .u64 l.ds] 62))
      have HN : Hid (((wr.alloc (.cells #[.string l.nm, .int .i64 l.fr, .int .i64 l.to, .int .u64 l.ds] 60)).alloc (.cells #[.string l.nm, .int .i64 l.fr, .int .i64 l.to, .int .u64 l.ds] 62)).heap[wr.heap.size + 1]? = some (.cells #[.string l.nm, .int .i64 l.fr, .int .i64 l.to, .int .u64 l.ds] 62 (0, 0))) := Lib.hid (by
        have := heap_alloc_new (wr.alloc (.cells #[.string l.nm, .int .i64 l.fr, .int .i64 l.to, .int .u64 l.ds] 60)) (.cells #[.string l.nm, .int .i64 l.fr, .int .i64 l.to, .int .u64 l.ds] 62)
        rwa [World.size_alloc] at this)
      have HS2 := Lib.hid hs2
      have hsz := hst.lt
      have hl1 := HLn.out.1
      rw [hl1] at o1
      clear hst hs1 hs2 hx z0 z1
      have HO := Lib.hid HS2.out.r1
      rw [hl1] at HO
      go_wp2_with (at_builtin; refine wpList_append_own _ rfl _ _ 33 rfl (w.heap.size + 1 + 1 + 1) 62 i0 (.agg #[.string ByteArray.empty, .int .i64 0, .int .i64 0, .int .u64 0]) 4 40 Tryz.underlying33 hi hz0 hz1 hz2 rfl (by decide) _ _ _ rfl HO.out ⟨wr.heap.size + 1, 0, none⟩ 1 1 (lkCells [l]) rfl rfl ?_ (lkCells_one _) ?_ ?_ ?_ ?_)
      · intro j u hu
        first
        | exact hu
        | (have e0 : (⟨wr.heap.size + 1, 0, none⟩ : Addr).add j = ⟨wr.heap.size + 1, j, none⟩ := by unfold Addr.add; split <;> simp_all
           rw [e0, Lib.cell_of_heap HN.out, List.getElem?_toArray]
           exact hu)
      · unfold maxLen; omega
      · omega
      · (try simp only [World.size_alloc]); omega
      intro v4 w4 hown4 hgrow4 _
      obtain ⟨s4a, s4c, rfl⟩ := row_form hown4
      rw [← HE.out] at hown4
      have hm := HS2.out.more (c' := ls.take (i + 1)) (v2 := .slice s4a (i + 1) s4c) (by rw [hl1]; exact hgrow4) (by rw [HLn.out.2]; exact hown4)
      obtain ⟨p0, p1, pf⟩ := hcell hm.2
      have p2 := pf 1
      have HN4 : Hid (ToRl w (.slice ra rs.length rcap) (.slice (some ⟨b, off, none⟩) ls.length lcap) rs ls (ls.length - (i + 1)) (.int .i64 ((i : Int) + 1)) (w4.setCell ⟨w.heap.size + 1 + 1, 1, none⟩ (.slice s4a (i + 1) s4c))) := Lib.hid ⟨i + 1, _, _, by omega, rfl, by go_num, hm.1⟩
      clear hown4 hgrow4 hm pf HS2 HN HO HSt
      go_wp2_with fail
      go_roundg (ls.length - (i + 1))
      case measure => omega
      case rel => exact HN4.out
    · obtain rfl : i = ls.length := by omega
      rw [List.take_length] at hst
      obtain ⟨s0a, s0c, rfl⟩ := row_form hst.r0
      obtain ⟨s1a, s1c, rfl⟩ := row_form hst.r1
      obtain ⟨o0, o1, -⟩ := hcell hst.out
      obtain ⟨r0, r1, rf⟩ := hcell hst.res
      have r2 := rf 0
      have r3 := rf 1
      have HF := Lib.hid hst
      clear hst rf z0 z1 HSt
      go_wp2_with fail
      refine bodyPost_ret (v := .agg #[.slice s0a rs.length s0c, .slice s1a ls.length s1c]) (by simp [results, Tryz.f8, go_sem, r0, r1]) rfl ⟨_, _, rfl, ⟨?_, ?_⟩, ?_⟩
      · exact strs_own (ownsRow_setCell_below (ownsRow_setCell_below HF.out.r0 (a := ⟨w.heap.size + 1, 0, none⟩) (by show w.heap.size + 1 < _; omega) _) (a := ⟨w.heap.size + 1, 1, none⟩) (by show w.heap.size + 1 < _; omega) _)
      · exact LksAt.own (ownsRow_setCell_below (ownsRow_setCell_below HF.out.r1 (a := ⟨w.heap.size + 1, 0, none⟩) (by show w.heap.size + 1 < _; omega) _) (a := ⟨w.heap.size + 1, 1, none⟩) (by show w.heap.size + 1 < _; omega) _) rfl
      · exact (HF.out.below.setCell (p := ⟨w.heap.size + 1, 0, none⟩) (by show _ ≤ w.heap.size + 1; omega) _).setCell (p := ⟨w.heap.size + 1, 1, none⟩) (by show _ ≤ w.heap.size + 1; omega) _
end Go.Proofs.YtlcpbfklnjlgnaaGreatDoor

namespace Go.Proofs.YtlcpbfklnjlgnaaGreatDoor
open Go.RowKit Go.Extern.Stop Go.Stop Go.Extern

/-- A topology that may be: what follows wants of it. -/
structure GoodT (rs : List ByteArray) (ls : List Lk) : Prop where
  nr : rs.length ≤ 64
  nl : ls.length ≤ 64
  may : MayL rs.length ls
  rr : ∀ (i : Nat) (s t : ByteArray), rs[i]? = some s → rs[i + 1]? = some t → ltB s t = true
  rl : ∀ (i : Nat) (l m : Lk), ls[i]? = some l → ls[i + 1]? = some m → ltB l.nm m.nm = true
theorem leq_false {s t : ByteArray} (h : (Op.bytesLess s.toList t.toList || s.toList == t.toList) = false) : ltB t s = true := by
  rw [Bool.or_eq_false_iff] at h
  refine ltB_total h.1 fun e => ?_
  have h2 := h.2
  rw [e] at h2
  simp at h2
/-- A link in a block of its own. -/
def LkB (w : World) (T : TypeId) (b : Nat) (l : Lk) : Prop := w.heap[b]? = some (.cells #[.string l.nm, .int .i64 l.fr, .int .i64 l.to, .int .u64 l.ds] T (0, 0))
theorem LkB.step {w w' : World} {T : TypeId} {b : Nat} {l : Lk} (h : LkB w T b l) (hb : Below w.heap.size w w') : LkB w' T b l := (hb.block _ (hlt h)).trans h
theorem LkB.cells {w : World} {T : TypeId} {b : Nat} {l : Lk} (h : LkB w T b l) : w.cell? ⟨b, 0, none⟩ = some (.string l.nm) ∧ w.cell? ⟨b, 1, none⟩ = some (.int .i64 l.fr) ∧ w.cell? ⟨b, 2, none⟩ = some (.int .i64 l.to) ∧ w.cell? ⟨b, 3, none⟩ = some (.int .u64 l.ds) :=
  ⟨by rw [Lib.cell_of_heap h]; rfl, by rw [Lib.cell_of_heap h]; rfl, by rw [Lib.cell_of_heap h]; rfl, by rw [Lib.cell_of_heap h]; rfl⟩
def ChPost (w : World) (p : Prop) (e : Ending) (w' : World) : Prop := ∃ c a s, e = .returned (.tuple #[.int .i64 c, .int .i64 a, .string s]) ∧ (c = 0 → p) ∧ Below w.heap.size w w'
theorem ChPost.no {w w' : World} {p : Prop} {c a : Int} {s : ByteArray} (hc : c ≠ 0) (h : Below w.heap.size w w') : ChPost w p (.returned (.tuple #[.int .i64 c, .int .i64 a, .string s])) w' := ⟨c, a, s, rfl, fun e => absurd e hc, h⟩
theorem ChPost.yes {w w' : World} {p : Prop} {a : Int} {s : ByteArray} (hp : p) (h : Below w.heap.size w w') : ChPost w p (.returned (.tuple #[.int .i64 0, .int .i64 a, .string s])) w' := ⟨0, a, s, rfl, fun _ => hp, h⟩
theorem boxed_rtopo (w : World) (vr vl : Value) : (w.alloc (.cells #[vr, vl] 35)).cell? ⟨w.heap.size, 0, none⟩ = some vr ∧ (w.alloc (.cells #[vr, vl] 35)).cell? ⟨w.heap.size, 1, none⟩ = some vl :=
  ⟨by rw [Lib.cell_of_heap (heap_alloc_new w _)]; rfl, by rw [Lib.cell_of_heap (heap_alloc_new w _)]; rfl⟩
set_option maxRecDepth 100000 in
set_option maxHeartbeats 8000000 in
theorem rcheck_any (vr vl : Value) (rs : List ByteArray) (ls : List Lk) (w : World) (ht : TpAt w vr vl rs ls) (hlt : LightT rs ls) (hds : ∀ (i : Nat) (l : Lk), ls[i]? = some l → 0 ≤ l.ds) :
    Calls Tryz.prog 7 #[.agg #[vr, vl]] w (ChPost w (GoodT rs ls)) := by
  have hb1 := below_new w (.cells #[vr, vl] 35)
  obtain ⟨k0, k1⟩ := boxed_rtopo w vr vl
  have HS := Lib.hid (ht.step hb1)
  have HB := Lib.hid hb1
  have HL : Hid (w.heap.size < (w.alloc (.cells #[vr, vl] 35)).heap.size) := Lib.hid (by simp)
  have HN := Lib.hid (fun (s : ByteArray) (h : s.size ≤ 60) W => risName_any s (by omega) W)
  obtain ⟨ra, rcap, rfl⟩ := ht.rs.form
  obtain ⟨la, lcap, rfl⟩ := ht.ls.form
  have HK1 := Lib.hid k1
  clear ht hb1
  by_cases h1 : rs.length ≤ 64
  · have q1 : ¬ (64 : Int) < rs.length := by omega
    go_enter Tryz.func7, Tryz.ntmps7
    go_wp2_with fail
    generalize w.alloc (.cells #[.slice ra rs.length rcap, .slice la ls.length lcap] 35) = w1 at *
    go_loopg [17] rs.length (fun g u wr => LiR w1 rs.length (fun j => ∀ s t, rs[j]? = some t → j ≠ 0 → rs[j - 1]? = some s → ltB s t = true) g u wr)
    case atStart => exact ⟨0, Nat.zero_le _, by omega, rfl, fun j hj => absurd hj (Nat.not_lt_zero _), Below.refl _ _⟩
    case round =>
      obtain ⟨i, hi, hgi, rfl, hp, hb⟩ := hrel
      have HP := Lib.hid hp
      have m0 := (hb.cell (p := ⟨w.heap.size, 0, none⟩) HL.out).trans k0
      have m1 := (hb.cell (p := ⟨w.heap.size, 1, none⟩) HL.out).trans k1
      clear hp k0 k1
      by_cases hlti : i < rs.length
      · obtain ⟨s, hx⟩ : ∃ s, rs[i]? = some s := ⟨_, List.getElem?_eq_getElem hlti⟩
        obtain ⟨b, off, rfl, c0⟩ := HS.out.rs.at hx hb
        have HNs := Lib.hid (HN.out s (hlt.sr i s hx) wr)
        have HBr := Lib.hid hb
        cases hnm : isNameR s with
        | false =>
          rw [hnm] at HNs
          clear hb hx m0 m1 hnm
          go_wp2_with fail
          refine HNs.out.mono ?_
          rintro e w2 ⟨rfl, b2⟩
          go_wp2_with fail
          go_ret3
          exact ChPost.no (by decide) (HB.out.trans ((HBr.out.trans (b2.mono HBr.out.size)).mono HB.out.size))
        | true =>
          rw [hnm] at HNs
          clear hnm
          by_cases h0 : i = 0
          · subst h0
            have c00 : wr.cell? ⟨b, off, none⟩ = some (.string s) := c0
            clear c0 hx m0 m1
            go_wp2_with fail
            refine HNs.out.mono ?_
            rintro e w2 ⟨rfl, b2⟩
            have HB2 := Lib.hid (HBr.out.trans (b2.mono HBr.out.size))
            clear hb
            go_wp2_with fail
            go_roundg (rs.length - 1)
            case measure => omega
            case rel => exact ⟨1, by omega, rfl, rfl, fun j hj s t _ h0 => by omega, HB2.out⟩
          · obtain ⟨s', hx'⟩ : ∃ s', rs[i - 1]? = some s' := ⟨_, List.getElem?_eq_getElem (by omega)⟩
            have hi1 : (i : Int) - 1 = ((i - 1 : Nat) : Int) := by omega
            have hi0 : (0 : Int) < (i : Int) := by omega
            have c1 : wr.cell? ⟨b, off + (i - 1), none⟩ = some (.string s') := by
              obtain ⟨b', off', e, c1⟩ := HS.out.rs.at hx' hb
              injection e with e
              injection e with e1 e2
              subst e1 e2
              exact c1
            have hi2 : ((i - 1 : Nat) : Int) < rs.length := by omega
            have hle : (Op.bytesLess s.toList s'.toList || s.toList == s'.toList) = false → ∀ u t, rs[i]? = some t → i ≠ 0 → rs[i - 1]? = some u → ltB u t = true := by
              intro h u t ht _ hu
              rw [hx] at ht
              rw [hx'] at hu
              injection ht with ht
              injection hu with hu
              rw [← ht, ← hu]
              exact leq_false h
            obtain ⟨le, hl⟩ : ∃ le, (Op.bytesLess s.toList s'.toList || s.toList == s'.toList) = le := ⟨_, rfl⟩
            clear hx hx' hb
            cases le with
            | true =>
              clear hle
              go_wp2_with fail
              refine HNs.out.mono ?_
              rintro e w2 ⟨rfl, b2⟩
              have d0 := (b2.cell (p := ⟨w.heap.size, 0, none⟩) (Nat.lt_of_lt_of_le HL.out HBr.out.size)).trans m0
              have d1 := (b2.cell (p := ⟨b, off + (i - 1), none⟩) (World.block_lt_of_cell? _ _ c1)).trans c1
              have HB2 := Lib.hid (HBr.out.trans (b2.mono HBr.out.size))
              clear m0 m1 c0 c1 b2
              go_wp2_with fail
              go_ret3
              exact ChPost.no (by decide) (HB.out.trans (HB2.out.mono HB.out.size))
            | false =>
              have HLe := Lib.hid (hle hl)
              clear hle
              go_wp2_with fail
              refine HNs.out.mono ?_
              rintro e w2 ⟨rfl, b2⟩
              have d0 := (b2.cell (p := ⟨w.heap.size, 0, none⟩) (Nat.lt_of_lt_of_le HL.out HBr.out.size)).trans m0
              have d1 := (b2.cell (p := ⟨b, off + (i - 1), none⟩) (World.block_lt_of_cell? _ _ c1)).trans c1
              have HB2 := Lib.hid (HBr.out.trans (b2.mono HBr.out.size))
              clear m0 m1 c0 c1 b2
              go_wp2_with fail
              go_roundg (rs.length - (i + 1))
              case measure => omega
              case rel => exact ⟨i + 1, by omega, rfl, by go_num, fun j hj u t ht h0 hu => by
                rcases Nat.lt_succ_iff_lt_or_eq.1 hj with hj | rfl
                · exact HP.out j hj u t ht h0 hu
                · exact HLe.out u t ht h0 hu, HB2.out⟩
      · obtain rfl : i = rs.length := by omega
        have HRr : Hid (∀ (i : Nat) (s t : ByteArray), rs[i]? = some s → rs[i + 1]? = some t → ltB s t = true) := Lib.hid (fun j s t hs ht => HP.out (j + 1) (List.getElem?_eq_some_iff.1 ht).1 s t ht (by omega) hs)
        clear HP
        have HBr := Lib.hid hb
        clear hb
        by_cases h2 : ls.length ≤ 64
        · have q2 : ¬ (64 : Int) < ls.length := by omega
          go_wp2_with fail
          rename World => wo
          go_loopg [50] ls.length (fun g u wr => LiR w1 ls.length (fun j => (∀ l, ls[j]? = some l → InN rs.length l.fr ∧ InN rs.length l.to ∧ l.ds ≤ most) ∧ ∀ l m, ls[j]? = some m → j ≠ 0 → ls[j - 1]? = some l → ltB l.nm m.nm = true) g u wr)
          case atStart => exact ⟨0, Nat.zero_le _, by omega, rfl, fun j hj => absurd hj (Nat.not_lt_zero _), HBr.out⟩
          case round =>
            obtain ⟨i, hi, hgi, rfl, hp, hb⟩ := hrel
            have HP := Lib.hid hp
            have n1 := (hb.cell (p := ⟨w.heap.size, 1, none⟩) HL.out).trans HK1.out
            clear hp m0 m1
            by_cases hlti : i < ls.length
            · obtain ⟨l, hx⟩ : ∃ l, ls[i]? = some l := ⟨_, List.getElem?_eq_getElem hlti⟩
              obtain ⟨b, off, rfl, c0, c1, c2, c3⟩ := HS.out.ls.at hx hb
              have hbn := below_new wr (.cells #[.string l.nm, .int .i64 l.fr, .int .i64 l.to, .int .u64 l.ds] 62)
              have HB1 := Lib.hid (hb.trans (hbn.mono hb.size))
              have hBx1 : LkB (wr.alloc (.cells #[.string l.nm, .int .i64 l.fr, .int .i64 l.to, .int .u64 l.ds] 62)) 62 wr.heap.size l := heap_alloc_new wr _
              have HBx := Lib.hid hBx1
              have x0 := hBx1.cells.1
              have n1' := (hbn.cell (p := ⟨w.heap.size, 1, none⟩) (Nat.lt_of_lt_of_le HL.out hb.size)).trans n1
              have HNs := Lib.hid (HN.out l.nm (hlt.sl i l hx) (wr.alloc (.cells #[.string l.nm, .int .i64 l.fr, .int .i64 l.to, .int .u64 l.ds] 62)))
              have HX := Lib.hid hx
              have hd0 := hds i l hx
              cases hnm : isNameR l.nm with
              | false =>
                rw [hnm] at HNs
                clear hb hx n1 n1' hnm hbn hBx1
                go_wp2_with fail
                refine HNs.out.mono ?_
                rintro e w2 ⟨rfl, b2⟩
                go_wp2_with fail
                go_ret3
                exact ChPost.no (by decide) (HB.out.trans ((HB1.out.trans (b2.mono HB1.out.size)).mono HB.out.size))
              | true =>
                rw [hnm] at HNs
                clear hnm
                by_cases h0 : i = 0
                · have hi0 : ¬ (0 : Int) < (i : Int) := by omega
                  have hi0n : ¬ 0 < i := by omega
                  have HLe : Hid (∀ l m, ls[i]? = some m → i ≠ 0 → ls[i - 1]? = some l → ltB l.nm m.nm = true) := Lib.hid (fun _ _ _ h => absurd h0 h)
                  clear hb hx n1 n1' hbn hBx1 h0
                  go_wp2_with fail
                  refine HNs.out.mono ?_
                  rintro e w2 ⟨rfl, b2⟩
                  have hBx2 := HBx.out.step b2
                  have HB2 := Lib.hid (HB1.out.trans (b2.mono HB1.out.size))
                  clear b2 HBx HB1 x0 c0 c1 c2 c3 HNs
                  go_wp2_with fail
                  go_quiet (fail)
                  have hBx := hBx2.step (below_drewN w2 nq)
                  have HB3 := Lib.hid (HB2.out.trans ((below_drewN w2 nq).mono HB2.out.size))
                  clear hBx2 HB2
                  generalize w2.drewN nq = w3 at *
                  obtain ⟨x0, x1, x2, x3⟩ := hBx.cells
                  clear hBx
                  by_cases f1 : l.fr < 0
                  · clear x0 x2 x3
                    go_wp2_with fail
                    go_ret3
                    exact ChPost.no (by decide) (HB.out.trans (HB3.out.mono HB.out.size))
                  · have f1' : decide (l.fr < 0) = false := decide_eq_false f1
                    by_cases f2 : l.fr < (rs.length : Int)
                    · have f2' : decide ((rs.length : Int) ≤ l.fr) = false := decide_eq_false (by omega)
                      by_cases f3 : l.to < 0
                      · clear x0 x3
                        go_wp2_with fail
                        go_ret3
                        exact ChPost.no (by decide) (HB.out.trans (HB3.out.mono HB.out.size))
                      · have f3' : decide (l.to < 0) = false := decide_eq_false f3
                        by_cases f4 : l.to < (rs.length : Int)
                        · have f4' : decide ((rs.length : Int) ≤ l.to) = false := decide_eq_false (by omega)
                          by_cases f5 : (9223372036854775807 : Int) < l.ds
                          · clear x0
                            go_wp2_with fail
                            go_ret3
                            exact ChPost.no (by decide) (HB.out.trans (HB3.out.mono HB.out.size))
                          · have f5' : decide ((9223372036854775807 : Int) < l.ds) = false := decide_eq_false f5
                            have HNx : Hid (LiR w1 ls.length (fun j => (∀ l, ls[j]? = some l → InN rs.length l.fr ∧ InN rs.length l.to ∧ l.ds ≤ most) ∧ ∀ l m, ls[j]? = some m → j ≠ 0 → ls[j - 1]? = some l → ltB l.nm m.nm = true) (ls.length - (i + 1)) (.int .i64 ((i : Int) + 1)) _) := Lib.hid ⟨i + 1, by omega, rfl, by go_num, fun j hj => by
                              rcases Nat.lt_succ_iff_lt_or_eq.1 hj with hj | rfl
                              · exact HP.out j hj
                              · exact ⟨fun l' hl' => by rw [HX.out] at hl'; injection hl' with hl'; subst hl'; unfold InN most; omega, HLe.out⟩, HB3.out⟩
                            clear x0
                            go_wp2_with fail
                            go_roundg (ls.length - (i + 1))
                            case measure => omega
                            case rel => exact HNx.out
                        · have f4' : decide ((rs.length : Int) ≤ l.to) = true := decide_eq_true (by omega)
                          clear x0 x3
                          go_wp2_with fail
                          go_ret3
                          exact ChPost.no (by decide) (HB.out.trans (HB3.out.mono HB.out.size))
                    · have f2' : decide ((rs.length : Int) ≤ l.fr) = true := decide_eq_true (by omega)
                      clear x0 x2 x3
                      go_wp2_with fail
                      go_ret3
                      exact ChPost.no (by decide) (HB.out.trans (HB3.out.mono HB.out.size))
                · obtain ⟨l', hx'⟩ : ∃ l', ls[i - 1]? = some l' := ⟨_, List.getElem?_eq_getElem (by omega)⟩
                  have hi1 : (i : Int) - 1 = ((i - 1 : Nat) : Int) := by omega
                  have hi0 : (0 : Int) < (i : Int) := by omega
                  have hi0n : 0 < i := by omega
                  have p0 : wr.cell? ⟨b, off + (i - 1) * 4, none⟩ = some (.string l'.nm) := by
                    obtain ⟨b', off', e, c1, -⟩ := HS.out.ls.at hx' hb
                    injection e with e
                    injection e with e1 e2
                    subst e1 e2
                    exact c1
                  have hi2 : ((i - 1 : Nat) : Int) < ls.length := by omega
                  have hle : (Op.bytesLess l.nm.toList l'.nm.toList || l.nm.toList == l'.nm.toList) = false → ∀ u t, ls[i]? = some t → i ≠ 0 → ls[i - 1]? = some u → ltB u.nm t.nm = true := by
                    intro h u t ht _ hu
                    rw [hx] at ht
                    rw [hx'] at hu
                    injection ht with ht
                    injection hu with hu
                    rw [← ht, ← hu]
                    exact leq_false h
                  have p1 := (hbn.cell (p := ⟨b, off + (i - 1) * 4, none⟩) (World.block_lt_of_cell? _ _ p0)).trans p0
                  have HLb : Hid (b < (wr.alloc (.cells #[.string l.nm, .int .i64 l.fr, .int .i64 l.to, .int .u64 l.ds] 62)).heap.size ∧ w.heap.size < (wr.alloc (.cells #[.string l.nm, .int .i64 l.fr, .int .i64 l.to, .int .u64 l.ds] 62)).heap.size) := Lib.hid ⟨World.block_lt_of_cell? _ _ p1, World.block_lt_of_cell? _ _ n1'⟩
                  have HP1 := Lib.hid p1
                  have HN1 := Lib.hid n1'
                  obtain ⟨le, hl⟩ : ∃ le, (Op.bytesLess l.nm.toList l'.nm.toList || l.nm.toList == l'.nm.toList) = le := ⟨_, rfl⟩
                  clear hx hx' hb n1 n1' hbn hBx1 p0 p1
                  cases le with
                  | true =>
                    clear hle
                    go_wp2_with fail
                    refine HNs.out.mono ?_
                    rintro e w2 ⟨rfl, b2⟩
                    have y0 := (HBx.out.step b2).cells.1
                    have y1 := (b2.cell (p := ⟨b, off + (i - 1) * 4, none⟩) HLb.out.1).trans HP1.out
                    have y2 := (b2.cell (p := ⟨w.heap.size, 1, none⟩) HLb.out.2).trans HN1.out
                    have HB2 := Lib.hid (HB1.out.trans (b2.mono HB1.out.size))
                    clear b2 HBx HB1 x0 c0 c1 c2 c3 HNs HP1 HN1
                    go_wp2_with fail
                    go_quiet (fail)
                    have HB3 := Lib.hid (HB2.out.trans ((below_drewN w2 nq).mono HB2.out.size))
                    clear y0 y1 y2
                    go_wp2_with fail
                    go_ret3
                    exact ChPost.no (by decide) (HB.out.trans (HB3.out.mono HB.out.size))
                  | false =>
                    have HLe := Lib.hid (hle hl)
                    clear hle
                    go_wp2_with fail
                    refine HNs.out.mono ?_
                    rintro e w2 ⟨rfl, b2⟩
                    have hBx2 := HBx.out.step b2
                    have y0 := hBx2.cells.1
                    have y1 := (b2.cell (p := ⟨b, off + (i - 1) * 4, none⟩) HLb.out.1).trans HP1.out
                    have y2 := (b2.cell (p := ⟨w.heap.size, 1, none⟩) HLb.out.2).trans HN1.out
                    have HB2 := Lib.hid (HB1.out.trans (b2.mono HB1.out.size))
                    clear b2 HBx HB1 x0 c0 c1 c2 c3 HNs HP1 HN1
                    go_wp2_with fail
                    go_quiet (fail)
                    have hBx := hBx2.step (below_drewN w2 nq)
                    have HB3 := Lib.hid (HB2.out.trans ((below_drewN w2 nq).mono HB2.out.size))
                    clear hBx2 HB2 y0 y1 y2
                    generalize w2.drewN nq = w3 at *
                    obtain ⟨x0, x1, x2, x3⟩ := hBx.cells
                    clear hBx
                    by_cases f1 : l.fr < 0
                    · clear x0 x2 x3
                      go_wp2_with fail
                      go_ret3
                      exact ChPost.no (by decide) (HB.out.trans (HB3.out.mono HB.out.size))
                    · have f1' : decide (l.fr < 0) = false := decide_eq_false f1
                      by_cases f2 : l.fr < (rs.length : Int)
                      · have f2' : decide ((rs.length : Int) ≤ l.fr) = false := decide_eq_false (by omega)
                        by_cases f3 : l.to < 0
                        · clear x0 x3
                          go_wp2_with fail
                          go_ret3
                          exact ChPost.no (by decide) (HB.out.trans (HB3.out.mono HB.out.size))
                        · have f3' : decide (l.to < 0) = false := decide_eq_false f3
                          by_cases f4 : l.to < (rs.length : Int)
                          · have f4' : decide ((rs.length : Int) ≤ l.to) = false := decide_eq_false (by omega)
                            by_cases f5 : (9223372036854775807 : Int) < l.ds
                            · clear x0
                              go_wp2_with fail
                              go_ret3
                              exact ChPost.no (by decide) (HB.out.trans (HB3.out.mono HB.out.size))
                            · have f5' : decide ((9223372036854775807 : Int) < l.ds) = false := decide_eq_false f5
                              have HNx : Hid (LiR w1 ls.length (fun j => (∀ l, ls[j]? = some l → InN rs.length l.fr ∧ InN rs.length l.to ∧ l.ds ≤ most) ∧ ∀ l m, ls[j]? = some m → j ≠ 0 → ls[j - 1]? = some l → ltB l.nm m.nm = true) (ls.length - (i + 1)) (.int .i64 ((i : Int) + 1)) _) := Lib.hid ⟨i + 1, by omega, rfl, by go_num, fun j hj => by
                                rcases Nat.lt_succ_iff_lt_or_eq.1 hj with hj | rfl
                                · exact HP.out j hj
                                · exact ⟨fun l' hl' => by rw [HX.out] at hl'; injection hl' with hl'; subst hl'; unfold InN most; omega, HLe.out⟩, HB3.out⟩
                              clear x0
                              go_wp2_with fail
                              go_roundg (ls.length - (i + 1))
                              case measure => omega
                              case rel => exact HNx.out
                          · have f4' : decide ((rs.length : Int) ≤ l.to) = true := decide_eq_true (by omega)
                            clear x0 x3
                            go_wp2_with fail
                            go_ret3
                            exact ChPost.no (by decide) (HB.out.trans (HB3.out.mono HB.out.size))
                      · have f2' : decide ((rs.length : Int) ≤ l.fr) = true := decide_eq_true (by omega)
                        clear x0 x2 x3
                        go_wp2_with fail
                        go_ret3
                        exact ChPost.no (by decide) (HB.out.trans (HB3.out.mono HB.out.size))
            · obtain rfl : i = ls.length := by omega
              have HRl : Hid (GoodT rs ls) := Lib.hid ⟨h1, h2, fun j l hj => ⟨((HP.out j (List.getElem?_eq_some_iff.1 hj).1).1 l hj).1, ((HP.out j (List.getElem?_eq_some_iff.1 hj).1).1 l hj).2.1, hds j l hj, ((HP.out j (List.getElem?_eq_some_iff.1 hj).1).1 l hj).2.2⟩, HRr.out, fun j l m hl hm => (HP.out (j + 1) (List.getElem?_eq_some_iff.1 hm).1).2 l m hm (by omega) hl⟩
              have HBr := Lib.hid hb
              clear hb n1
              go_wp2_with fail
              go_ret3
              exact ChPost.yes HRl.out (HB.out.trans (HBr.out.mono HB.out.size))
        · have q2 : (64 : Int) < ls.length := by omega
          go_wp2_with fail
          go_ret3
          exact ChPost.no (by decide) (HB.out.trans (HBr.out.mono HB.out.size))
  · have q1 : (64 : Int) < rs.length := by omega
    go_enter Tryz.func7, Tryz.ntmps7
    go_wp2_with fail
    go_ret3
    exact ChPost.no (by decide) HB.out
end Go.Proofs.YtlcpbfklnjlgnaaGreatDoor
