/-
  TopoFinds' law, its plain part: numbers of names, sets of links as lists; several rows of a call's own.
  Chapter 11's law, the document's own answers: the least distance, by rounds.
  Chapter 11's law, the document's own answers: to which routers one comes.
  TopoWays' law, by contract.
  The statement TopoWays, proved: for every topology, two routers and set of links, and in whatever memory, the law answers true and each argument reads afterwards as it did; what it lists of package-level variables is tied to the program's text.
-/
import Derived.Test.YtkijbiaenfeijaaGreatDoorGq
import Derived.Laws.MakeOwn
import Derived.Test.YtkijbiaenfeijaaGreatDoorGk
import Derived.Test.YtkijbiaenfeijaaGreatDoorGr
namespace Go.Proofs.YtkijbiaenfeijaaGreatDoor
open Go.RowKit Go.Extern.Stop Go.Stop Go.Extern

/-! ### Sets of links as lists -/
theorem filter_range {f g : Nat → Bool} {n N : Nat} (hn : n ≤ N) (h1 : ∀ j, j < n → f j = g j) (h2 : ∀ j, n ≤ j → f j = false) : (List.range N).filter f = (List.range n).filter g := by
  obtain ⟨d, rfl⟩ := Nat.le.dest hn
  rw [List.range_add, List.filter_append]
  have e1 : (List.range n).filter f = (List.range n).filter g := List.filter_congr fun j hj => h1 j (List.mem_range.1 hj)
  have e2 : ((List.range d).map (n + ·)).filter f = [] := by
    rw [List.filter_eq_nil_iff]
    intro j hj
    obtain ⟨k, -, rfl⟩ := List.mem_map.1 hj
    rw [h2 (n + k) (by omega)]
    simp
  rw [e1, e2, List.append_nil]
theorem ints_wh {P : Lk → Bool} {ls : List Lk} {p q : Nat} (hl : ls.length ≤ 128) (h : ∀ j, hasB p q j = (decide (j < 128) && (ls[j]?.map P).getD false)) : intsL p q = idxL P ls ls.length := by
  unfold intsL idxL
  rw [setL_eq]
  refine congrArg (List.map Int.ofNat) (filter_range hl (fun j hj => ?_) (fun j hj => ?_))
  · rw [h, decide_eq_true (by omega : j < 128), Bool.true_and]
  · rw [h, List.getElem?_eq_none hj]
    simp
theorem ints_whS (P : Lk → Bool) {ls : List Lk} (hl : ls.length ≤ 128) : intsL (whS P ls).1 (whS P ls).2 = idxL P ls ls.length := ints_wh hl (hasB_idx P ls)
theorem ints_both (P R : Lk → Bool) {ls : List Lk} (hl : ls.length ≤ 128) : intsL ((whS P ls).1 &&& (whS R ls).1) ((whS P ls).2 &&& (whS R ls).2) = idxL (fun l => P l && R l) ls ls.length := by
  refine ints_wh hl fun j => ?_
  rw [hasB_and]
  have e1 := hasB_idx P ls j
  have e2 := hasB_idx R ls j
  unfold whS
  rw [e1, e2]
  cases decide (j < 128) <;> cases ls[j]? <;> simp
theorem idxL_len (P : Lk → Bool) (ls : List Lk) (k : Nat) : (idxL P ls k).length ≤ k := by
  unfold idxL
  rw [List.length_map]
  exact Nat.le_trans (List.length_filter_le _ _) (by simp)

/-! ### The number of a name -/
theorem rise_all {xs : List ByteArray} (h : ∀ (i : Nat) (s t : ByteArray), xs[i]? = some s → xs[i + 1]? = some t → ltB s t = true) : ∀ (d i : Nat) (s t : ByteArray), xs[i]? = some s → xs[i + d + 1]? = some t → ltB s t = true
  | 0, i, s, t, hs, ht => h i s t hs ht
  | d + 1, i, s, t, hs, ht => by
    have hlt : i + (d + 1) + 1 < xs.length := (List.getElem?_eq_some_iff.1 ht).1
    obtain ⟨u, hu⟩ : ∃ u, xs[i + d + 1]? = some u := ⟨_, List.getElem?_eq_getElem (by omega)⟩
    exact ltB_trans (rise_all h d i s u hs hu) (h _ _ _ hu ht)
theorem rise_one {xs : List ByteArray} (h : ∀ (i : Nat) (s t : ByteArray), xs[i]? = some s → xs[i + 1]? = some t → ltB s t = true) {i j : Nat} {s : ByteArray} (hi : xs[i]? = some s) (hj : xs[j]? = some s) : i = j := by
  rcases Nat.lt_trichotomy i j with hlt | e | hlt
  · obtain ⟨d, rfl⟩ := Nat.le.dest (Nat.succ_le_of_lt hlt)
    have := rise_all h d i s s hi (by rw [← hj]; congr 1; omega)
    rw [ltB_irrefl] at this
    cases this
  · exact e
  · obtain ⟨d, rfl⟩ := Nat.le.dest (Nat.succ_le_of_lt hlt)
    have := rise_all h d j s s hj (by rw [← hi]; congr 1; omega)
    rw [ltB_irrefl] at this
    cases this
theorem beq_list {s t : ByteArray} : (s.toList == t.toList) = true ↔ s = t := by
  rw [Go.ByteArray.toList_eq, Go.ByteArray.toList_eq]
  constructor
  · intro h; exact bytes_ext (by simpa using h)
  · rintro rfl; simp
/-- On the way: the number of a name among the first so many; -1. -/
def CurL (xs : List ByteArray) (x : ByteArray) (i : Nat) (r : Int) : Prop :=
  (r = -1 ∧ ∀ j s, j < i → xs[j]? = some s → s ≠ x) ∨ ∃ j : Nat, j < i ∧ xs[j]? = some x ∧ r = j
theorem CurL.start (xs : List ByteArray) (x : ByteArray) : CurL xs x 0 (-1) := .inl ⟨rfl, fun _ _ hj => absurd hj (Nat.not_lt_zero _)⟩
theorem CurL.hit {xs : List ByteArray} {x s : ByteArray} {i : Nat} (hx : xs[i]? = some s) (h : (s.toList == x.toList) = true) : CurL xs x (i + 1) (i : Int) :=
  .inr ⟨i, Nat.lt_succ_self i, by rw [hx, beq_list.1 h], rfl⟩
theorem CurL.miss {xs : List ByteArray} {x s : ByteArray} {i : Nat} {r : Int} (h : CurL xs x i r) (hx : xs[i]? = some s) (hn : (s.toList == x.toList) = false) : CurL xs x (i + 1) r := by
  rcases h with ⟨rfl, h⟩ | ⟨j, hj, h1, rfl⟩
  · refine .inl ⟨rfl, fun j t hj ht => ?_⟩
    rcases Nat.lt_succ_iff_lt_or_eq.1 hj with hj | rfl
    · exact h j t hj ht
    · rintro rfl
      rw [hx] at ht
      injection ht with ht
      rw [ht, beq_list.2 rfl] at hn
      cases hn
  · exact .inr ⟨j, by omega, h1, rfl⟩
theorem CurL.index {xs : List ByteArray} {x : ByteArray} {r : Int} (h : CurL xs x xs.length r) (hr : ∀ (i : Nat) (s t : ByteArray), xs[i]? = some s → xs[i + 1]? = some t → ltB s t = true) : Lib.idxOfS xs x = r := by
  rcases h with ⟨rfl, h⟩ | ⟨j, hj, h1, rfl⟩
  · have := Lib.idxOfS_miss xs xs.length x (fun j hj => by
      rw [List.getD_eq_getElem?_getD, List.getElem?_eq_getElem hj]
      exact h j _ hj (List.getElem?_eq_getElem hj))
    rwa [List.take_length] at this
  · have := Lib.idxOfS_hit xs xs.length j x hj (Nat.le_refl _) (by rw [List.getD_eq_getElem?_getD, h1]; rfl) (fun k hk => by
      have hk2 : k < xs.length := by omega
      rw [List.getD_eq_getElem?_getD, List.getElem?_eq_getElem hk2]
      intro e
      have e : xs[k]? = some x := by rw [List.getElem?_eq_getElem hk2]; exact congrArg some e
      have := rise_one hr e h1
      omega)
    rwa [List.take_length] at this
theorem fstI_none {P : Lk → Bool} : ∀ (ls : List Lk) (k : Nat), (∀ (j : Nat) (l : Lk), ls[j]? = some l → P l = false) → fstI P ls k = -1
  | [], _, _ => rfl
  | l :: ls, k, h => by
    rw [fstI_miss (h 0 l rfl)]
    exact fstI_none ls (k + 1) fun j m hm => h (j + 1) m hm
theorem fstI_at {P : Lk → Bool} : ∀ (ls : List Lk) (k j : Nat) (l : Lk), ls[j]? = some l → P l = true → (∀ (i : Nat) (m : Lk), i < j → ls[i]? = some m → P m = false) → fstI P ls k = ((k + j : Nat) : Int)
  | [], _, _, _, h, _, _ => by simp at h
  | m :: ls, k, 0, l, h, hP, _ => by
    obtain rfl : m = l := by simpa using h
    exact fstI_hit hP
  | m :: ls, k, j + 1, l, h, hP, hn => by
    rw [fstI_miss (hn 0 m (Nat.succ_pos _) rfl), fstI_at ls (k + 1) j l h hP fun i m' hi hm => hn (i + 1) m' (Nat.succ_lt_succ hi) hm]
    congr 1
    omega
theorem CurL.first {ls : List Lk} {x : ByteArray} {r : Int} (h : CurL (ls.map (·.nm)) x ls.length r) (hr : ∀ (i : Nat) (l m : Lk), ls[i]? = some l → ls[i + 1]? = some m → ltB l.nm m.nm = true) : fstI (fun l => l.nm.toList == x.toList) ls 0 = r := by
  have hr' : ∀ (i : Nat) (s t : ByteArray), (ls.map (·.nm))[i]? = some s → (ls.map (·.nm))[i + 1]? = some t → ltB s t = true := by
    intro i s t hs ht
    rw [List.getElem?_map] at hs ht
    obtain ⟨l, hl, rfl⟩ := Option.map_eq_some_iff.1 hs
    obtain ⟨m, hm, rfl⟩ := Option.map_eq_some_iff.1 ht
    exact hr i l m hl hm
  have hm : ∀ {j : Nat} {l : Lk}, ls[j]? = some l → (ls.map (·.nm))[j]? = some l.nm := fun h => by rw [List.getElem?_map, h]; rfl
  rcases h with ⟨rfl, h⟩ | ⟨j, hj, h1, rfl⟩
  · refine fstI_none ls 0 fun j l hl => ?_
    have hj := (List.getElem?_eq_some_iff.1 hl).1
    rw [← Bool.not_eq_true]
    intro e
    exact h j _ hj (hm hl) (beq_list.1 e)
  · obtain ⟨l, hl⟩ : ∃ l, ls[j]? = some l := ⟨_, List.getElem?_eq_getElem hj⟩
    rw [hm hl] at h1
    injection h1 with h1
    have := fstI_at (P := fun l => l.nm.toList == x.toList) ls 0 j l hl (beq_list.2 h1) (fun i m hi hmi => by
      rw [← Bool.not_eq_true]
      intro e
      have e := beq_list.1 e
      have := rise_one hr' (i := i) (j := j) (s := x) (by rw [hm hmi, e]) (by rw [hm hl, h1])
      omega)
    simpa using this

/-! ### Several rows of a call's own -/
def Apart (v v' : Value) : Prop := v.ownBlock = none ∨ v.ownBlock ≠ v'.ownBlock
theorem Apart.symm {v v' : Value} (h : Apart v v') : Apart v' v := by
  unfold Apart at *
  rcases h with h | h
  · by_cases h2 : v'.ownBlock = none
    · exact .inl h2
    · exact .inr (by rw [h]; exact h2)
  · exact .inr (Ne.symm h)
structure Row3 (B : Nat) (W : World) (o n m : Value) (lo ln lm : List Int) : Prop where
  ro : W.ownsRow B 3 1 o lo.length (encI lo)
  rn : W.ownsRow B 3 1 n ln.length (encI ln)
  rm : W.ownsRow B 3 1 m lm.length (encI lm)
  on : Apart o n
  nm : Apart n m
  mo : Apart m o
theorem Row3.nil (B : Nat) (W : World) : Row3 B W (.slice none 0 0) (.slice none 0 0) (.slice none 0 0) [] [] [] :=
  ⟨World.ownsRow_nil _ _ _ _, World.ownsRow_nil _ _ _ _, World.ownsRow_nil _ _ _ _, .inl rfl, .inl rfl, .inl rfl⟩
theorem Row3.turn {B : Nat} {W : World} {o n m : Value} {lo ln lm : List Int} (h : Row3 B W o n m lo ln lm) : Row3 B W n m o ln lm lo := ⟨h.rn, h.rm, h.ro, h.nm, h.mo, h.on⟩
theorem Row3.alloc {B : Nat} {W : World} {o n m : Value} {lo ln lm : List Int} (h : Row3 B W o n m lo ln lm) (ob : Obj) : Row3 B (W.alloc ob) o n m lo ln lm :=
  ⟨h.ro.alloc ob, h.rn.alloc ob, h.rm.alloc ob, h.on, h.nm, h.mo⟩
theorem apart_new {B n : Nat} {W : World} {v v' u : Value} {xs : List Value} (ha : Apart v u) (hu : W.ownsRow B 3 1 u n xs) (h : v'.ownBlock = v.ownBlock ∨ v'.ownBlock = some W.heap.size) : Apart v' u := by
  rcases h with h | h
  · unfold Apart; rw [h]; exact ha
  · refine .inr fun e => ?_
    rw [h] at e
    have := (hu.lt _ e.symm).2
    omega
theorem Row3.put {B : Nat} {W W' : World} {o n m o' : Value} {lo ln lm lo' : List Int} (h : Row3 B W o n m lo ln lm) (hg : W.grownBy W' o.ownBlock) (hr : W'.ownsRow B 3 1 o' lo'.length (encI lo')) (hb : o'.ownBlock = o.ownBlock ∨ o'.ownBlock = some W.heap.size) : Row3 B W' o' n m lo' ln lm :=
  ⟨hr, h.rn.kept hg h.on.symm, h.rm.kept hg h.mo, apart_new h.on h.rn hb, h.nm, (apart_new h.mo.symm h.rm hb).symm⟩
theorem wpList_append_one {ops : Array Oper} {rest : List Oper} {o : Oper} {a : Act} {Q : Exit → Act → World → Prop} (w : World) (hgd : o.guard = none) (s x : Operand) (ho : o.op = .call { callee := .builtin .append, args := #[s, x], argTypes := #[28, 28] })
    (base : Nat) (v : Value) (l : List Int) (hs : a.eval s = v) (hown : w.ownsRow base 3 1 v l.length (encI l)) (b : Nat) (c : Int) (hx : a.eval x = .slice (some ⟨b, 0, none⟩) 1 1) (hc : w.cell? ⟨b, 0, none⟩ = some (.int .i64 c)) (hn : l.length + 1 ≤ 1000000) (hbase : base ≤ w.heap.size)
    (h : ∀ v' w', w'.ownsRow base 3 1 v' (l ++ [c]).length (encI (l ++ [c])) → w.grownBy w' v.ownBlock → (v'.ownBlock = v.ownBlock ∨ v'.ownBlock = some w.heap.size) → wpList Tryz.prog ops Q rest (a.put o.dst v') w') : wpList Tryz.prog ops Q (o :: rest) a w := by
  obtain ⟨i0, hi, hz0, hz1, hz2⟩ := info_parts infoInt
  refine wpList_plain hgd fun K hK => ?_
  obtain ⟨v', w', h1, h2, h3, -, h4⟩ := run_append_own_at (P := Tryz.prog) w base 28 o.type 3 i0 (.int .i64 0) 1 8 Tryz.underlying28 hi hz0 hz1 hz2 rfl (by decide) v l.length (encI l) hown ⟨b, 0, none⟩ 1 1 (encI [c]) (by simp [encI]) (by
      intro j u hu
      rcases j with _ | j
      · obtain rfl : Value.int .i64 c = u := by simpa [encI] using hu
        exact hc
      · simp [encI] at hu) (encI_one [c]) (by unfold maxLen; omega) (by omega) hbase
  unfold Oper.wp execOp
  simp only [ho, resolve, invoke, builtin, Sem.run_bind, Sem.run_pure, Result.andThen_ok, List.map_toArray, List.map_cons, List.map_nil, hs, hx, h1]
  exact hK _ _ (h v' w' (by rw [encI_snoc, List.length_append]; exact h2) h3 h4)
theorem int_at (W : World) (c : Int) : (W.alloc (.cells #[.int .i64 c] 3)).cell? ⟨W.heap.size, 0, none⟩ = some (.int .i64 c) := by
  rw [Lib.cell_of_heap (heap_alloc_new W _)]; rfl
theorem int_at2 (W : World) (ob : Obj) (c : Int) : ((W.alloc ob).alloc (.cells #[.int .i64 c] 3)).cell? ⟨W.heap.size + 1, 0, none⟩ = some (.int .i64 c) := by
  have := int_at (W.alloc ob) c
  rwa [World.size_alloc] at this
end Go.Proofs.YtkijbiaenfeijaaGreatDoor

namespace Go.Proofs.YtkijbiaenfeijaaGreatDoor
open Go.RowKit Go.Extern.Stop Go.Stop Go.Extern

theorem infoBool11 : (Tryz.prog.info? 4).map (fun i => (i.zero, i.size, i.bytes)) = some (some (.bool false), 1, 1) := by kernel_rfl
theorem infoU64c : (Tryz.prog.info? 29).map (fun i => (i.zero, i.size, i.bytes)) = some (some (.int .u64 0), 1, 8) := by kernel_rfl
theorem make_known (n : Nat) (hn : n ≤ 200) (w : World) : (Instr.makeSlice 98 (.int .i64 (n : Int)) (.int .i64 (n : Int))).run Tryz.prog w =
    .ok (.slice (some ⟨w.heap.size, 0, none⟩) n n) (w.alloc (.cells (((List.range n).map fun _ => Value.bool false).toArray) 4)) := by
  obtain ⟨i0, hi, hz0, hz1, hz2⟩ := info_parts infoBool11
  have e := run_make (P := Tryz.prog) w 98 4 i0 (.bool false) Tryz.underlying98 hi hz0 .i64 .i64 n n (by omega) (by omega) (by rw [hz2]; omega) (by omega)
  rw [e, hz1]
  have em : madeCells (Value.bool false).cells ((n : Int).toNat * 1) = ((List.range n).map fun _ => Value.bool false).toArray := by
    apply Array.ext
    · simp [size_madeCells]
    · intro k h1 h2
      simp [madeCells, Value.cells, Nat.mod_one]
  rw [em]
  simp
theorem make_cost (n : Nat) (hn : n ≤ 200) (w : World) : (Instr.makeSlice 97 (.int .i64 (n : Int)) (.int .i64 (n : Int))).run Tryz.prog w =
    .ok (.slice (some ⟨w.heap.size, 0, none⟩) n n) (w.alloc (.cells (((List.range n).map fun _ => Value.int .u64 0).toArray) 29)) := by
  obtain ⟨i0, hi, hz0, hz1, hz2⟩ := info_parts infoU64c
  have e := run_make (P := Tryz.prog) w 97 29 i0 (.int .u64 0) Tryz.underlying97 hi hz0 .i64 .i64 n n (by omega) (by omega) (by rw [hz2]; omega) (by omega)
  rw [e, hz1]
  have em : madeCells (Value.int .u64 0).cells ((n : Int).toNat * 1) = ((List.range n).map fun _ => Value.int .u64 0).toArray := by
    apply Array.ext
    · simp [size_madeCells]
    · intro k h1 h2
      simp [madeCells, Value.cells, Nat.mod_one]
  rw [em]
  simp
/-- A row of booleans, one of distances, each in a block of its own. -/
def KnAt (w : World) (C N : Nat) (f : Nat → Bool) : Prop := w.heap[C]? = some (.cells (((List.range N).map fun j => Value.bool (f j)).toArray) 4 (0, 0))
def CoAt (w : World) (C N : Nat) (f : Nat → Int) : Prop := w.heap[C]? = some (.cells (((List.range N).map fun j => Value.int .u64 (f j)).toArray) 29 (0, 0))
theorem KnAt.cell {w : World} {C N : Nat} {f : Nat → Bool} (h : KnAt w C N f) {j : Nat} (hj : j < N) : w.cell? ⟨C, j, none⟩ = some (.bool (f j)) := by
  rw [Lib.cell_of_heap h]
  simp [hj]
theorem KnAt.fz {w : World} {C N : Nat} {f : Nat → Bool} (h : KnAt w C N f) (j : Nat) : w.frozen? ⟨C, j, none⟩ = false := by
  unfold World.frozen?; rw [h]; simp
theorem KnAt.put {w : World} {C N : Nat} {f : Nat → Bool} (h : KnAt w C N f) {j : Nat} {c : Bool} (g : Nat → Bool) (hg : ∀ k, g k = if k = j then c else f k) : KnAt (w.setCell ⟨C, j, none⟩ (.bool c)) C N g := by
  have e := heap_setCell_same w C j _ _ (.bool c) h
  have el : ((List.range N).map fun k => (.bool (f k) : Value)).set j (.bool c) = (List.range N).map fun k => (.bool (g k) : Value) := by
    refine List.ext_getElem (by simp) fun k h1 h2 => ?_
    rw [List.getElem_set]
    by_cases hk : j = k
    · subst hk; simp [hg]
    · have : ¬ k = j := fun e => hk e.symm
      simp [hg, hk, this]
  unfold KnAt
  rw [e, List.setIfInBounds_toArray, el]
theorem CoAt.cell {w : World} {C N : Nat} {f : Nat → Int} (h : CoAt w C N f) {j : Nat} (hj : j < N) : w.cell? ⟨C, j, none⟩ = some (.int .u64 (f j)) := by
  rw [Lib.cell_of_heap h]
  simp [hj]
theorem CoAt.fz {w : World} {C N : Nat} {f : Nat → Int} (h : CoAt w C N f) (j : Nat) : w.frozen? ⟨C, j, none⟩ = false := by
  unfold World.frozen?; rw [h]; simp
theorem CoAt.put {w : World} {C N : Nat} {f : Nat → Int} (h : CoAt w C N f) {j : Nat} {c : Int} (g : Nat → Int) (hg : ∀ k, g k = if k = j then c else f k) : CoAt (w.setCell ⟨C, j, none⟩ (.int .u64 c)) C N g := by
  have e := heap_setCell_same w C j _ _ (.int .u64 c) h
  have el : ((List.range N).map fun k => (.int .u64 (f k) : Value)).set j (.int .u64 c) = (List.range N).map fun k => (.int .u64 (g k) : Value) := by
    refine List.ext_getElem (by simp) fun k h1 h2 => ?_
    rw [List.getElem_set]
    by_cases hk : j = k
    · subst hk; simp [hg]
    · have : ¬ k = j := fun e => hk e.symm
      simp [hg, hk, this]
  unfold CoAt
  rw [e, List.setIfInBounds_toArray, el]
/-- On the way: the topology's box; costs; which are known. -/
structure LsS (w : World) (vr vl : Value) (n : Nat) (cost : Nat → Int) (known : Nat → Bool) (W : World) : Prop where
  c0 : W.cell? ⟨w.heap.size, 0, none⟩ = some vr
  c1 : W.cell? ⟨w.heap.size, 1, none⟩ = some vl
  co : CoAt W (w.heap.size + 1) n cost
  kn : KnAt W (w.heap.size + 1 + 1) n known
  below : Below w.heap.size w W
theorem LsS.lt {w : World} {vr vl : Value} {n : Nat} {cost : Nat → Int} {known : Nat → Bool} {W : World} (h : LsS w vr vl n cost known W) : w.heap.size + 1 + 1 < W.heap.size := hlt h.kn
theorem LsS.step {w : World} {vr vl : Value} {n : Nat} {cost : Nat → Int} {known : Nat → Bool} {W W' : World} (h : LsS w vr vl n cost known W) (hb : Below W.heap.size W W') : LsS w vr vl n cost known W' := by
  have hl := h.lt
  exact ⟨(hb.cell (p := ⟨w.heap.size, 0, none⟩) (by show w.heap.size < _; omega)).trans h.c0, (hb.cell (p := ⟨w.heap.size, 1, none⟩) (by show w.heap.size < _; omega)).trans h.c1,
    (hb.block _ (by omega)).trans h.co, (hb.block _ hl).trans h.kn, h.below.trans (hb.mono h.below.size)⟩
theorem LsS.know {w : World} {vr vl : Value} {n : Nat} {cost : Nat → Int} {known : Nat → Bool} {W : World} (h : LsS w vr vl n cost known W) {v : Nat} (known' : Nat → Bool) (hk : ∀ x, known' x = (known x || decide (x = v))) :
    LsS w vr vl n cost known' (W.setCell ⟨w.heap.size + 1 + 1, v, none⟩ (.bool true)) := by
  refine ⟨?_, ?_, ?_, h.kn.put known' (fun x => ?_), h.below.setCell (p := ⟨w.heap.size + 1 + 1, v, none⟩) (by show _ ≤ w.heap.size + 1 + 1; omega) _⟩
  · exact (World.cell?_setCell_other _ _ _ _ (by intro h; injection h with h; omega)).trans h.c0
  · exact (World.cell?_setCell_other _ _ _ _ (by intro h; injection h with h; omega)).trans h.c1
  · exact (heap_setCell_other _ _ _ _ (by show w.heap.size + 1 ≠ w.heap.size + 1 + 1; omega)).trans h.co
  · rw [hk]
    by_cases e : x = v <;> simp [e]
theorem LsS.cost {w : World} {vr vl : Value} {n : Nat} {cost : Nat → Int} {known : Nat → Bool} {W : World} (h : LsS w vr vl n cost known W) {v : Nat} {c : Int} (cost' : Nat → Int) (hk : ∀ x, cost' x = if x = v then c else cost x) :
    LsS w vr vl n cost' known (W.setCell ⟨w.heap.size + 1, v, none⟩ (.int .u64 c)) := by
  refine ⟨?_, ?_, h.co.put cost' hk, ?_, h.below.setCell (p := ⟨w.heap.size + 1, v, none⟩) (by show _ ≤ w.heap.size + 1; omega) _⟩
  · exact (World.cell?_setCell_other _ _ _ _ (by intro h; injection h with h; omega)).trans h.c0
  · exact (World.cell?_setCell_other _ _ _ _ (by intro h; injection h with h; omega)).trans h.c1
  · exact (heap_setCell_other _ _ _ _ (by show w.heap.size + 1 + 1 ≠ w.heap.size + 1; omega)).trans h.kn
theorem set_one (n A : Nat) : ((List.range n).map fun _ => Value.bool false).set A (.bool true) = (List.range n).map fun j => Value.bool (decide (j = A)) := by
  refine List.ext_getElem (by simp) fun k h1 h2 => ?_
  rw [List.getElem_set]
  by_cases hk : A = k
  · subst hk; simp
  · have : ¬ k = A := fun e => hk e.symm
    simp [hk, this]
theorem lss_start (w : World) (vr vl : Value) (n : Nat) (known : Nat → Bool) : LsS w vr vl n (fun _ => 0) known
    (((w.alloc (.cells #[vr, vl] 45)).alloc (.cells (((List.range n).map fun _ => Value.int .u64 0).toArray) 29)).alloc (.cells (((List.range n).map fun j => Value.bool (known j)).toArray) 4)) := by
  have e1 : (w.alloc (.cells #[vr, vl] 45)).heap.size = w.heap.size + 1 := World.size_alloc _ _
  have e2 : ((w.alloc (.cells #[vr, vl] 45)).alloc (.cells (((List.range n).map fun _ => Value.int .u64 0).toArray) 29)).heap.size = w.heap.size + 1 + 1 := by rw [World.size_alloc, e1]
  have hb1 := below_new w (.cells #[vr, vl] 45)
  have hb2 := below_new (w.alloc (.cells #[vr, vl] 45)) (.cells (((List.range n).map fun _ => Value.int .u64 0).toArray) 29)
  have hb3 := below_new ((w.alloc (.cells #[vr, vl] 45)).alloc (.cells (((List.range n).map fun _ => Value.int .u64 0).toArray) 29)) (.cells (((List.range n).map fun j => Value.bool (known j)).toArray) 4)
  obtain ⟨k0, k1⟩ := boxed_rtopo w vr vl
  have hn2 := heap_alloc_new (w.alloc (.cells #[vr, vl] 45)) (.cells (((List.range n).map fun _ => Value.int .u64 0).toArray) 29)
  have hn3 := heap_alloc_new ((w.alloc (.cells #[vr, vl] 45)).alloc (.cells (((List.range n).map fun _ => Value.int .u64 0).toArray) 29)) (.cells (((List.range n).map fun j => Value.bool (known j)).toArray) 4)
  rw [e1] at hn2
  rw [e2] at hn3
  refine ⟨((hb3.cell (p := ⟨w.heap.size, 0, none⟩) (by rw [e2]; show w.heap.size < _; omega)).trans (hb2.cell (p := ⟨w.heap.size, 0, none⟩) (by simp))).trans k0, ((hb3.cell (p := ⟨w.heap.size, 1, none⟩) (by rw [e2]; show w.heap.size < _; omega)).trans (hb2.cell (p := ⟨w.heap.size, 1, none⟩) (by simp))).trans k1,
    (hb3.block _ (by rw [e2]; omega)).trans hn2, hn3, hb1.trans ((hb2.trans (hb3.mono hb2.size)).mono hb1.size)⟩
/-- In a round: at link number i of round k. -/
def LoR (w : World) (vr vl : Value) (ls : List Lk) (n : Nat) (F : Nat → Bool) (a : Int) (g : Nat) (u : Value) (wr : World) : Prop :=
  ∃ (k : Nat) (cost : Nat → Int) (known : Nat → Bool), k ≤ n ∧ g = n - k ∧ u = .int .i64 k ∧ Bf ls n F a k 0 cost known ∧ (∀ v, known v = false → cost v = 0) ∧ LsS w vr vl n cost known wr
def LoI (w : World) (vr vl : Value) (ls : List Lk) (n : Nat) (F : Nat → Bool) (a : Int) (k : Nat) (g : Nat) (u : Value) (wr : World) : Prop :=
  ∃ (i : Nat) (cost : Nat → Int) (known : Nat → Bool), i ≤ ls.length ∧ g = ls.length - i ∧ u = .int .i64 i ∧ Bf ls n F a k i cost known ∧ (∀ v, known v = false → cost v = 0) ∧ LsS w vr vl n cost known wr
def LeP (w : World) (ls : List Lk) (n : Nat) (F : Nat → Bool) (a b : Int) (e : Ending) (w' : World) : Prop :=
  ∃ d o, e = .returned (.tuple #[.int .u64 d, .bool o]) ∧ Told ls n F a b d o ∧ Below w.heap.size w w'
theorem InN.nat {n : Nat} {u : Int} (h : InN n u) : ∃ U : Nat, u = (U : Int) ∧ U < n := by
  unfold InN at h
  exact ⟨u.toNat, by omega, by omega⟩
set_option maxRecDepth 100000 in
set_option maxHeartbeats 4000000 in
theorem rleast_out (a b : Int) (F : Nat → Bool) (vf : Value) (ra : Option Addr) (rcap : Nat) (la : Option Addr) (lcap : Nat) (rs : List ByteArray) (ls : List Lk) (w : World) (hn : ¬ (InN rs.length a ∧ InN rs.length b)) (hw : ∀ d, ¬ Way ls rs.length F a b d) :
    Calls Tryz.prog 18 #[.agg #[.slice ra rs.length rcap, .slice la ls.length lcap], .int .i64 a, .int .i64 b, vf] w (LeP w ls rs.length F a b) := by
  have HE : Hid (LeP w ls rs.length F a b (.returned (.tuple #[.int .u64 0, .bool false])) (w.alloc (.cells #[.slice ra rs.length rcap, .slice la ls.length lcap] 45))) := Lib.hid ⟨0, false, rfl, .inr ⟨rfl, rfl, hw⟩, below_new _ _⟩
  obtain ⟨k0, k1⟩ := boxed_rtopo w (.slice ra rs.length rcap) (.slice la ls.length lcap)
  unfold InN at hn
  clear hw
  by_cases h0 : a < 0
  · clear hn
    go_enter Tryz.func18, Tryz.ntmps18
    go_wp2_with fail
    go_ret2
    exact HE.out
  · by_cases h1 : (rs.length : Int) ≤ a
    · clear hn
      go_enter Tryz.func18, Tryz.ntmps18
      go_wp2_with fail
      go_ret2
      exact HE.out
    · by_cases h2 : b < 0
      · clear hn
        go_enter Tryz.func18, Tryz.ntmps18
        go_wp2_with fail
        go_ret2
        exact HE.out
      · have h3 : (rs.length : Int) ≤ b := by omega
        clear hn
        go_enter Tryz.func18, Tryz.ntmps18
        go_wp2_with fail
        go_ret2
        exact HE.out
set_option maxRecDepth 100000 in
set_option maxHeartbeats 8000000 in
theorem rleast_any (a b : Int) (F : Nat → Bool) (fl : List Int) (hF : ∀ i : Nat, hasL fl (i : Int) = F i) (vf vr vl : Value) (rs : List ByteArray) (ls : List Lk) (w : World) (ht : TpAt w vr vl rs ls) (hvf : IntsAt w vf fl) (hfl : fl.length ≤ 128) (hm : MayL rs.length ls) (hnr : rs.length ≤ 64) (hnl : ls.length ≤ 64) :
    Calls Tryz.prog 18 #[.agg #[vr, vl], .int .i64 a, .int .i64 b, vf] w (LeP w ls rs.length F a b) := by
  have HT := Lib.hid ht
  have HVF := Lib.hid hvf
  have HH := Lib.hid (fun (i : Int) W (h : IntsAt W vf fl) => rhas_any fl vf i W h (by omega))
  have HM := Lib.hid hm
  have HF := Lib.hid hF
  have HS0 := Lib.hid (fun known => lss_start w vr vl rs.length known)
  obtain ⟨ra, rcap, rfl⟩ := ht.rs.form
  obtain ⟨la, lcap, rfl⟩ := ht.ls.form
  clear ht hvf hm hF
  by_cases ha : InN rs.length a
  · by_cases hb : InN rs.length b
    · obtain ⟨A, hA, hAn⟩ := ha.nat
      obtain ⟨B, hB, hBn⟩ := hb.nat
      subst hA hB
      clear ha hb
      have hs0 := HS0.out (fun v => decide (v = A))
      rw [← set_one] at hs0
      have HS := Lib.hid hs0
      clear hs0
      have q0 : ¬ (A : Int) < 0 := by omega
      have q1 : ¬ (rs.length : Int) ≤ A := by omega
      have q2 : ¬ (B : Int) < 0 := by omega
      have q3 : ¬ (rs.length : Int) ≤ B := by omega
      have hm1 := make_cost rs.length (by omega)
      have hm2 := make_known rs.length (by omega)
      have f0 := (HS0.out (fun _ => false)).kn.fz A
      have f1 := (HS0.out (fun _ => false)).kn.cell hAn
      clear HS0
      go_enter Tryz.func18, Tryz.ntmps18
      go_wp2_with fail
      clear f0 f1 hm1 hm2
      go_loopg [13] rs.length (fun g u wr => LoR w (.slice ra rs.length rcap) (.slice la ls.length lcap) ls rs.length F A g u wr)
      case atStart => exact ⟨0, _, _, Nat.zero_le _, by omega, rfl, Bf.init rfl hAn rfl (fun _ => rfl), fun _ _ => rfl, HS.out⟩
      case round =>
        obtain ⟨k, cost, known, hk, hgk, rfl, hbf, hnz, hst⟩ := hrel
        have HBF := Lib.hid hbf
        have HNZ := Lib.hid hnz
        have HST := Lib.hid hst
        have k0 := hst.c0
        have k1 := hst.c1
        clear hbf hnz hst HS
        by_cases hlt : k < rs.length
        · go_wp2_with fail
          clear k0 k1
          go_loopg [51] ls.length (fun g u W => LoI w (.slice ra rs.length rcap) (.slice la ls.length lcap) ls rs.length F A k g u W)
          case atStart => exact ⟨0, cost, known, Nat.zero_le _, by omega, rfl, HBF.out, HNZ.out, HST.out⟩
          case round =>
            clear HBF HNZ HST
            obtain ⟨i, co, kn, hi, hgi, rfl, hbf, hnz, hst⟩ := hrel
            by_cases hli : i < ls.length
            · obtain ⟨l, hs⟩ : ∃ l, ls[i]? = some l := ⟨_, List.getElem?_eq_getElem hli⟩
              obtain ⟨bb, off, rfl, c0, c1, c2, c3⟩ := HT.out.ls.at hs hst.below
              obtain ⟨nm, fr, to, ds⟩ := l
              have hmm := HM.out i _ hs
              have hfr : InN rs.length fr := hmm.1
              have hto : InN rs.length to := hmm.2.1
              have hd0 : 0 ≤ ds := hmm.2.2.1
              clear hmm
              obtain ⟨U, rfl, hUn⟩ := hfr.nat
              obtain ⟨V, rfl, hVn⟩ := hto.nat
              clear hfr hto
              have hb1 := below_new wr (.cells #[.string nm, .int .i64 (U : Int), .int .i64 (V : Int), .int .u64 ds] 99)
              have hst1 := hst.step hb1
              have HA := Lib.hid (HH.out (i : Int) _ (HVF.out.step hst1.below))
              rw [HF.out i] at HA
              have HR1 := Lib.hid hst1
              have HL0 := Lib.hid hst.lt
              have hcu : 0 ≤ co U := by
                cases h : kn U with
                | true => exact ((hbf.come U hUn h).bd HM.out).2.1
                | false => have := hnz U h; omega
              have HSk := Lib.hid (fun h => hbf.skip hs h)
              have HRe := Lib.hid (fun cost' known' (hF : F i = false) hku h1 h2 => hbf.relax (cost' := cost') (known' := known') hs hF (u := U) (v := V) rfl rfl hUn hku h1 h2)
              have HNZ := Lib.hid hnz
              have HLB : Hid (LkB (wr.alloc (.cells #[.string nm, .int .i64 (U : Int), .int .i64 (V : Int), .int .u64 ds] 99)) 99 wr.heap.size ⟨nm, U, V, ds⟩) := Lib.hid (heap_alloc_new wr _)
              cases hf : F i with
              | true =>
                rw [hf] at HA
                have H3 : Hid (LoI w (.slice ra rs.length rcap) (.slice (some ⟨bb, off, none⟩) ls.length lcap) ls rs.length F A k (ls.length - (i + 1)) (.int .i64 ((i : Int) + 1)) (wr.alloc (.cells #[.string nm, .int .i64 (U : Int), .int .i64 (V : Int), .int .u64 ds] 99))) := Lib.hid ⟨i + 1, co, kn, by omega, rfl, by go_num, HSk.out (.inl hf), hnz, HR1.out⟩
                clear hs hbf hnz hst hst1 hb1 hf
                go_wp2_with fail
                refine HA.out.mono ?_
                rintro e w3 ⟨rfl, rfl⟩
                go_wp2_with fail
                go_roundg (ls.length - (i + 1))
                case measure => omega
                case rel => exact H3.out
              | false =>
                rw [hf] at HA
                have HFi := Lib.hid hf
                have kf := HR1.out.kn.cell hUn
                clear hs hbf hnz hst hst1 hb1 hf
                cases hku : kn U with
                | false =>
                  have H3 : Hid (LoI w (.slice ra rs.length rcap) (.slice (some ⟨bb, off, none⟩) ls.length lcap) ls rs.length F A k (ls.length - (i + 1)) (.int .i64 ((i : Int) + 1)) (wr.alloc (.cells #[.string nm, .int .i64 (U : Int), .int .i64 (V : Int), .int .u64 ds] 99))) := Lib.hid ⟨i + 1, co, kn, by omega, rfl, by go_num, HSk.out (.inr ⟨U, rfl, hku⟩), HNZ.out, HR1.out⟩
                  rw [hku] at kf
                  go_wp2_with fail
                  refine HA.out.mono ?_
                  rintro e w3 ⟨rfl, rfl⟩
                  go_wp2_with fail
                  go_roundg (ls.length - (i + 1))
                  case measure => omega
                  case rel => exact H3.out
                | true =>
                  rw [hku] at kf
                  go_wp2_with fail
                  refine HA.out.mono ?_
                  rintro e w3 ⟨rfl, rfl⟩
                  go_wp2_with fail
                  clear kf c0 c1 c2 c3 HA
                  have hI := HR1.out.step (Below.refl _ _).drew
                  have hB := (show LkB _ _ _ _ from HLB.out).step (Below.refl _ _).drew
                  have HAdd := Lib.hid (fun W => radd_any (co U) ds hcu hd0 W)
                  have kk : _ ∧ _ ∧ _ := ⟨hI.co.cell hUn, hB.cells.2.1, hB.cells.2.2.2⟩
                  clear HR1 HLB
                  obtain ⟨cc, hcc⟩ : ∃ cc, addI (co U) ds = cc := ⟨_, rfl⟩
                  have HCC := Lib.hid hcc
                  rw [hcc] at HAdd
                  clear hcc
                  go_region_held3 (fun w' => w'.cell? ⟨w.heap.size + 1, U, none⟩ = some (.int .u64 (co U)) ∧ w'.cell? ⟨wr.heap.size, 1, none⟩ = some (.int .i64 (U : Int)) ∧ w'.cell? ⟨wr.heap.size, 3, none⟩ = some (.int .u64 ds))
                    (first | exact kk | exact ⟨hI.co.cell hUn, hB.cells.2.1, hB.cells.2.2.2⟩ | go_keep)
                    (first | (go_at_call 64; refine (HAdd.out _).mono ?_; rintro e w4 ⟨rfl, rfl⟩))
                  generalize (wr.alloc (.cells #[.string nm, .int .i64 (U : Int), .int .i64 (V : Int), .int .u64 ds] 99)).drew = w4 at *
                  have HI4 := Lib.hid hI
                  have HB4 := Lib.hid hB
                  have hne : w.heap.size + 1 + 1 < wr.heap.size := HL0.out
                  have m0 := hI.kn.cell hVn
                  have m1 := hI.co.cell hVn
                  have m2 := hB.cells.2.2.1
                  have m3 := hI.co.fz V
                  have HI5 := Lib.hid (fun cost' h => hI.cost (v := V) (c := cc) cost' h)
                  have hI5 := hI.cost (v := V) (c := cc) (fun x => if x = V then cc else co x) (fun _ => rfl)
                  have m4 := hI5.kn.cell hVn
                  have m5 := hI5.kn.fz V
                  have m6 : (w4.setCell ⟨w.heap.size + 1, V, none⟩ (.int .u64 cc)).cell? ⟨wr.heap.size, 2, none⟩ = some (.int .i64 (V : Int)) := (World.cell?_setCell_other _ _ _ _ (by intro h; injection h with h; omega)).trans m2
                  clear hI hB hI5 kk HAdd HI5
                  cases hkv : kn V with
                  | false =>
                    rw [hkv] at m0 m4
                    have H3 : Hid (LoI w (.slice ra rs.length rcap) (.slice (some ⟨bb, off, none⟩) ls.length lcap) ls rs.length F A k (ls.length - (i + 1)) (.int .i64 ((i : Int) + 1)) ((w4.setCell ⟨w.heap.size + 1, V, none⟩ (.int .u64 cc)).setCell ⟨w.heap.size + 1 + 1, V, none⟩ (.bool true))) := Lib.hid ⟨i + 1, fun x => if x = V then cc else co x, fun x => kn x || decide (x = V), by omega, rfl, by go_num, HRe.out _ _ HFi.out hku (fun _ => rfl) (fun x => by rw [HCC.out]; by_cases hx : x = V <;> simp [hx, hkv]), (fun x hx => by
                      rw [Bool.or_eq_false_iff] at hx
                      have h2 := of_decide_eq_false hx.2
                      show (if x = V then cc else co x) = 0
                      rw [if_neg h2]
                      exact HNZ.out x hx.1), (HI4.out.cost (v := V) (c := cc) _ (fun _ => rfl)).know (v := V) _ (fun _ => rfl)⟩
                    clear HCC HRe HNZ HFi HSk
                    go_wp2_with fail
                    go_roundg (ls.length - (i + 1))
                    case measure => omega
                    case rel => exact H3.out
                  | true =>
                    rw [hkv] at m0 m4
                    by_cases hlc : cc < co V
                    · skip
                      have H3 : Hid (LoI w (.slice ra rs.length rcap) (.slice (some ⟨bb, off, none⟩) ls.length lcap) ls rs.length F A k (ls.length - (i + 1)) (.int .i64 ((i : Int) + 1)) ((w4.setCell ⟨w.heap.size + 1, V, none⟩ (.int .u64 cc)).setCell ⟨w.heap.size + 1 + 1, V, none⟩ (.bool true))) := Lib.hid ⟨i + 1, fun x => if x = V then cc else co x, fun x => kn x || decide (x = V), by omega, rfl, by go_num, HRe.out _ _ HFi.out hku (fun _ => rfl) (fun x => by rw [HCC.out]; by_cases hx : x = V <;> simp [hx, hlc]), (fun x hx => by
                        rw [Bool.or_eq_false_iff] at hx
                        have h2 := of_decide_eq_false hx.2
                        show (if x = V then cc else co x) = 0
                        rw [if_neg h2]
                        exact HNZ.out x hx.1), (HI4.out.cost (v := V) (c := cc) _ (fun _ => rfl)).know (v := V) _ (fun _ => rfl)⟩
                      clear HCC HRe HNZ HFi HSk
                      go_wp2_with fail
                      go_roundg (ls.length - (i + 1))
                      case measure => omega
                      case rel => exact H3.out
                    · skip
                      have H3 : Hid (LoI w (.slice ra rs.length rcap) (.slice (some ⟨bb, off, none⟩) ls.length lcap) ls rs.length F A k (ls.length - (i + 1)) (.int .i64 ((i : Int) + 1)) w4) := Lib.hid ⟨i + 1, co, kn, by omega, rfl, by go_num, HRe.out co kn HFi.out hku (fun x => by by_cases hx : x = V <;> simp [hx, hkv]) (fun x => by rw [HCC.out, if_neg (fun h => h.2.elim (fun h => by rw [hkv] at h; cases h) hlc)]), HNZ.out, HI4.out⟩
                      clear HCC HRe HNZ HFi HSk
                      go_wp2_with fail
                      go_roundg (ls.length - (i + 1))
                      case measure => omega
                      case rel => exact H3.out
            · obtain rfl : i = ls.length := by omega
              have HO : Hid (LoR w (.slice ra rs.length rcap) (.slice la ls.length lcap) ls rs.length F A (rs.length - (k + 1)) (.int .i64 ((k : Int) + 1)) wr) := Lib.hid ⟨k + 1, co, kn, by omega, rfl, by go_num, hbf.next HM.out, hnz, hst⟩
              clear hbf hnz hst
              go_wp2_with fail
              go_roundg (rs.length - (k + 1))
              case measure => omega
              case rel => exact HO.out
        · obtain rfl : k = rs.length := by omega
          have HTo := Lib.hid (HBF.out.done HM.out (Nat.le_succ _) hBn (HNZ.out B))
          have HI := Lib.hid (HST.out.step (Below.refl _ _).drew)
          have z0 := HST.out.co.cell hBn
          have z1 := HST.out.kn.cell hBn
          go_wp2_with fail
          go_quiet (fail)
          go_wp2_with fail
          go_ret2
          exact ⟨_, _, rfl, HTo.out, HST.out.below.trans ((below_drewN _ nq).mono HST.out.below.size)⟩
    · exact rleast_out a b F vf ra rcap la lcap rs ls w (by rintro ⟨-, h⟩; exact hb h) (fun d h => hb (h.bd HM.out).1)
  · exact rleast_out a b F vf ra rcap la lcap rs ls w (by rintro ⟨h, -⟩; exact ha h) (fun d h => ha h.ok)
end Go.Proofs.YtkijbiaenfeijaaGreatDoor

namespace Go.Proofs.YtkijbiaenfeijaaGreatDoor
open Go.RowKit Go.Extern.Stop Go.Stop Go.Extern

/-- On the way: the topology's box, the row of those that came. -/
structure RcS (w : World) (vr vl : Value) (came : List Int) (v : Value) (W : World) : Prop where
  c0 : W.cell? ⟨w.heap.size, 0, none⟩ = some vr
  c1 : W.cell? ⟨w.heap.size, 1, none⟩ = some vl
  own : W.ownsRow (w.heap.size + 1) 3 1 v came.length (encI came)
  below : Below w.heap.size w W
  lt : w.heap.size + 1 ≤ W.heap.size
theorem RcS.step {w : World} {vr vl : Value} {came : List Int} {v : Value} {W W' : World} (h : RcS w vr vl came v W) (hb : Below W.heap.size W W') : RcS w vr vl came v W' :=
  ⟨(hb.cell (p := ⟨w.heap.size, 0, none⟩) h.lt).trans h.c0, (hb.cell (p := ⟨w.heap.size, 1, none⟩) h.lt).trans h.c1, h.own.kept (grown_of_below hb) (by cases Value.ownBlock v <;> simp), h.below.trans (hb.mono h.below.size), Nat.le_trans h.lt hb.size⟩
theorem RcS.put {w : World} {vr vl : Value} {came came' : List Int} {v v' : Value} {W W' : World} (h : RcS w vr vl came v W) (hg : W.grownBy W' v.ownBlock) (hr : W'.ownsRow (w.heap.size + 1) 3 1 v' came'.length (encI came')) : RcS w vr vl came' v' W' := by
  have hne : some w.heap.size ≠ v.ownBlock := fun e => by have := (h.own.lt _ e.symm).1; omega
  have hb : Below w.heap.size w W' := h.below.grown hg h.below.size (fun k e => by have := (h.own.lt k e).1; omega)
  have hz : W.heap.size ≤ W'.heap.size := ((Below.refl (w.heap.size + 1) W).grown hg h.lt (fun k e => (h.own.lt k e).1)).size
  exact ⟨hg.cell h.c0 hne, hg.cell h.c1 hne, hr, hb, Nat.le_trans h.lt hz⟩
def RoR (w : World) (vr vl : Value) (ls : List Lk) (n : Nat) (F : Nat → Bool) (a : Int) (g : Nat) (u v : Value) (wr : World) : Prop :=
  ∃ (k : Nat) (came : List Int), k ≤ n ∧ g = n - k ∧ u = .int .i64 k ∧ Rf ls n F a k 0 came ∧ RcS w vr vl came v wr
def RiR (w : World) (vr vl : Value) (ls : List Lk) (n : Nat) (F : Nat → Bool) (a : Int) (k : Nat) (g : Nat) (u v : Value) (wr : World) : Prop :=
  ∃ (i : Nat) (came : List Int), i ≤ ls.length ∧ g = ls.length - i ∧ u = .int .i64 i ∧ Rf ls n F a k i came ∧ RcS w vr vl came v wr
def ReP (w : World) (ls : List Lk) (n : Nat) (F : Nat → Bool) (a : Int) (e : Ending) (w' : World) : Prop :=
  ∃ u came, e = .returned u ∧ IntsAt w' u (rofL came 128) ∧ (∀ v, v ∈ came ↔ Comes ls n F a v) ∧ Below w.heap.size w w'
theorem rcs_start (w : World) (vr vl : Value) (a : Int) : RcS w vr vl [a] (.slice (some ⟨w.heap.size + 1, 0, none⟩) 1 1) ((w.alloc (.cells #[vr, vl] 45)).alloc (.cells #[.int .i64 a] 3)) := by
  have hb1 := below_new w (.cells #[vr, vl] 45)
  have hb2 := below_new (w.alloc (.cells #[vr, vl] 45)) (.cells #[.int .i64 a] 3)
  obtain ⟨k0, k1⟩ := boxed_rtopo w vr vl
  have e1 : (w.alloc (.cells #[vr, vl] 45)).heap.size = w.heap.size + 1 := World.size_alloc _ _
  refine ⟨(hb2.cell (p := ⟨w.heap.size, 0, none⟩) (by simp)).trans k0, (hb2.cell (p := ⟨w.heap.size, 1, none⟩) (by simp)).trans k1, ?_, hb1.trans (hb2.mono hb1.size), by simp⟩
  have hn := heap_alloc_new (w.alloc (.cells #[vr, vl] 45)) (.cells #[.int .i64 a] 3)
  rw [e1] at hn
  exact ⟨rfl, .inr ⟨w.heap.size + 1, 1, #[.int .i64 a], rfl, Nat.le_refl _, hn, Nat.le_refl _, by unfold maxLen; omega, rfl, rfl⟩⟩
set_option maxRecDepth 100000 in
set_option maxHeartbeats 8000000 in
theorem rreach_any (a : Int) (F : Nat → Bool) (fl : List Int) (hF : ∀ i : Nat, hasL fl (i : Int) = F i) (vf vr vl : Value) (rs : List ByteArray) (ls : List Lk) (w : World) (ht : TpAt w vr vl rs ls) (hvf : IntsAt w vf fl) (hfl : fl.length ≤ 128) (hm : MayL rs.length ls) (hnr : rs.length ≤ 64) (hnl : ls.length ≤ 64) :
    Calls Tryz.prog 20 #[.agg #[vr, vl], .int .i64 a, vf] w (ReP w ls rs.length F a) := by
  have HT := Lib.hid ht
  have HVF := Lib.hid hvf
  have HS := Lib.hid (rcs_start w vr vl a)
  have HH := Lib.hid (fun v l (i : Int) W (h : IntsAt W v l) (hl : l.length ≤ 128) => rhas_any l v i W h (by omega))
  have HM := Lib.hid hm
  obtain ⟨ra, rcap, rfl⟩ := ht.rs.form
  obtain ⟨la, lcap, rfl⟩ := ht.ls.form
  clear ht hvf hm
  by_cases ha : InN rs.length a
  · have HIn := Lib.hid ha
    unfold InN at ha
    obtain ⟨h0, h1⟩ := ha
    have q0 : ¬ a < 0 := by omega
    have q1 : ¬ (rs.length : Int) ≤ a := by omega
    clear h0 h1
    go_enter Tryz.func20, Tryz.ntmps20
    go_wp2_with fail
    generalize (w.alloc (.cells #[.slice ra rs.length rcap, .slice la ls.length lcap] 45)).alloc (.cells #[.int .i64 a] 3) = w1 at *
    go_loopg [8, 7] rs.length (fun g u v wr => RoR w (.slice ra rs.length rcap) (.slice la ls.length lcap) ls rs.length F a g u v wr)
    case atStart => exact ⟨0, [a], Nat.zero_le _, by omega, rfl, Rf.init HIn.out, HS.out⟩
    case round =>
      obtain ⟨k, came, hk, hgk, rfl, hrf, hrc⟩ := hrel
      have HRF := Lib.hid hrf
      have HRC := Lib.hid hrc
      have k0 := hrc.c0
      have k1 := hrc.c1
      clear hrf hrc
      by_cases hlt : k < rs.length
      · go_wp2_with fail
        go_loopg [32, 7] ls.length (fun g u v W => RiR w (.slice ra rs.length rcap) (.slice la ls.length lcap) ls rs.length F a k g u v W)
        case atStart => exact ⟨0, came, Nat.zero_le _, by omega, rfl, HRF.out, HRC.out⟩
        case round =>
          obtain ⟨i, cm, hi, hgi, rfl, hrf, hrc⟩ := hrel
          have HRF2 := Lib.hid hrf
          by_cases hli : i < ls.length
          · obtain ⟨l, hs⟩ : ∃ l, ls[i]? = some l := ⟨_, List.getElem?_eq_getElem hli⟩
            obtain ⟨bb, off, rfl, c0, c1, c2, c3⟩ := HT.out.ls.at hs hrc.below
            have hb1 := below_new wr (.cells #[.string l.nm, .int .i64 l.fr, .int .i64 l.to, .int .u64 l.ds] 99)
            have hrc1 := hrc.step hb1
            have HL := Lib.hid (hrf.len HM.out)
            have hcl : cm.length ≤ 64 := by have := HL.out; omega
            have HA := Lib.hid (HH.out vf fl (i : Int) _ (HVF.out.step hrc1.below) hfl)
            have hic := IntsAt.own hrc1.own rfl
            have HB := Lib.hid (HH.out _ cm l.fr _ hic (by omega))
            have HC := Lib.hid (HH.out _ cm l.to _ hic (by omega))
            have hFi := hF i
            have HR1 := Lib.hid hrc1
            have HSk := Lib.hid (fun h => hrf.skip hs h)
            have HAd := Lib.hid (fun h1 h2 h3 => hrf.add hs h1 h2 h3)
            clear hs hrf hrc hrc1 hb1 hic k0 k1
            cases hf : F i with
            | true =>
              rw [hFi, hf] at HA
              have H3 : Hid (RiR w (.slice ra rs.length rcap) (.slice (some ⟨bb, off, none⟩) ls.length lcap) ls rs.length F a k (ls.length - (i + 1)) (.int .i64 ((i : Int) + 1)) u7 (wr.alloc (.cells #[.string l.nm, .int .i64 l.fr, .int .i64 l.to, .int .u64 l.ds] 99))) := Lib.hid ⟨i + 1, cm, by omega, rfl, by go_num, HSk.out (.inl hf), HR1.out⟩
              clear hFi hf HB HC
              go_wp2_with fail
              refine HA.out.mono ?_
              rintro e w3 ⟨rfl, rfl⟩
              go_wp2_with fail
              go_roundg (ls.length - (i + 1))
              case measure => omega
              case rel => exact H3.out
            | false =>
              rw [hFi, hf] at HA
              cases hfr : hasL cm l.fr with
              | false =>
                rw [hfr] at HB
                have H3 : Hid (RiR w (.slice ra rs.length rcap) (.slice (some ⟨bb, off, none⟩) ls.length lcap) ls rs.length F a k (ls.length - (i + 1)) (.int .i64 ((i : Int) + 1)) u7 (wr.alloc (.cells #[.string l.nm, .int .i64 l.fr, .int .i64 l.to, .int .u64 l.ds] 99))) := Lib.hid ⟨i + 1, cm, by omega, rfl, by go_num, HSk.out (.inr (.inl (fun h => by rw [(hasL_iff _ _).2 h] at hfr; cases hfr))), HR1.out⟩
                clear hFi hf HC hfr
                go_wp2_with fail
                refine HA.out.mono ?_
                rintro e w3 ⟨rfl, rfl⟩
                go_wp2_with fail
                refine HB.out.mono ?_
                rintro e w3 ⟨rfl, rfl⟩
                go_wp2_with fail
                go_roundg (ls.length - (i + 1))
                case measure => omega
                case rel => exact H3.out
              | true =>
                rw [hfr] at HB
                cases hto : hasL cm l.to with
                | true =>
                  rw [hto] at HC
                  have H3 : Hid (RiR w (.slice ra rs.length rcap) (.slice (some ⟨bb, off, none⟩) ls.length lcap) ls rs.length F a k (ls.length - (i + 1)) (.int .i64 ((i : Int) + 1)) u7 (wr.alloc (.cells #[.string l.nm, .int .i64 l.fr, .int .i64 l.to, .int .u64 l.ds] 99))) := Lib.hid ⟨i + 1, cm, by omega, rfl, by go_num, HSk.out (.inr (.inr ((hasL_iff _ _).1 hto))), HR1.out⟩
                  clear hFi hf hfr hto
                  go_wp2_with fail
                  refine HA.out.mono ?_
                  rintro e w3 ⟨rfl, rfl⟩
                  go_wp2_with fail
                  refine HB.out.mono ?_
                  rintro e w3 ⟨rfl, rfl⟩
                  go_wp2_with fail
                  refine HC.out.mono ?_
                  rintro e w3 ⟨rfl, rfl⟩
                  go_wp2_with fail
                  go_roundg (ls.length - (i + 1))
                  case measure => omega
                  case rel => exact H3.out
                | false =>
                  rw [hto] at HC
                  have HN := Lib.hid (HAd.out hf ((hasL_iff _ _).1 hfr) (fun h => by rw [(hasL_iff _ _).2 h] at hto; cases hto))
                  clear hFi hf hfr hto
                  go_wp2_with fail
                  refine HA.out.mono ?_
                  rintro e w3 ⟨rfl, rfl⟩
                  go_wp2_with fail
                  refine HB.out.mono ?_
                  rintro e w3 ⟨rfl, rfl⟩
                  go_wp2_with fail
                  refine HC.out.mono ?_
                  rintro e w3 ⟨rfl, rfl⟩
                  have HIB := Lib.hid (HR1.out.step (below_new _ (.cells #[.int .i64 l.to] 3)))
                  go_wp2_with (at_builtin; refine wpList_append_one _ rfl _ _ rfl (w.heap.size + 1) _ cm rfl HIB.out.own (wr.heap.size + 1) l.to rfl (int_at2 _ _ _) (by omega) HIB.out.lt ?_)
                  intro v4 w4 hown hgrow _
                  have H3 : Hid (RiR w (.slice ra rs.length rcap) (.slice (some ⟨bb, off, none⟩) ls.length lcap) ls rs.length F a k (ls.length - (i + 1)) (.int .i64 ((i : Int) + 1)) v4 w4) := Lib.hid ⟨i + 1, cm ++ [l.to], by omega, rfl, by go_num, HN.out, HIB.out.put hgrow (by rw [List.length_append]; exact hown)⟩
                  clear HIB hown hgrow
                  go_wp2_with fail
                  go_roundg (ls.length - (i + 1))
                  case measure => omega
                  case rel => exact H3.out
          · obtain rfl : i = ls.length := by omega
            have HO : Hid (RoR w (.slice ra rs.length rcap) (.slice la ls.length lcap) ls rs.length F a (rs.length - (k + 1)) (.int .i64 ((k : Int) + 1)) u7 wr) := Lib.hid ⟨k + 1, cm, by omega, rfl, by go_num, hrf.next, hrc⟩
            clear hrf hrc k0 k1
            go_wp2_with fail
            go_roundg (rs.length - (k + 1))
            case measure => omega
            case rel => exact HO.out
      · obtain rfl : k = rs.length := by omega
        have HD := Lib.hid (HRF.out.done HM.out (Nat.le_succ _))
        have HRo := Lib.hid (rof_any came u7 wr (IntsAt.own HRC.out.own rfl) (by have := HRF.out.len HM.out; omega))
        go_wp2_with fail
        refine HRo.out.mono ?_
        rintro e w3 ⟨y, rfl, hy, b3⟩
        have HY := Lib.hid (IntsAt.own hy rfl)
        clear hy
        go_wp2_with fail
        go_ret
        exact ⟨y, came, rfl, HY.out, HD.out, HRC.out.below.trans (b3.mono HRC.out.below.size)⟩
  · have HN : Hid (∀ v, v ∈ ([] : List Int) ↔ Comes ls rs.length F a v) := Lib.hid fun v => (Iff.intro (fun h => by cases h) (fun h => by obtain ⟨d, h⟩ := h; exact absurd h.ok ha))
    have hb := below_new w (.cells #[.slice ra rs.length rcap, .slice la ls.length lcap] 45)
    have HE : Hid (ReP w ls rs.length F a (.returned (.slice none 0 0)) (w.alloc (.cells #[.slice ra rs.length rcap, .slice la ls.length lcap] 45))) := Lib.hid ⟨_, [], rfl, .inl ⟨_, _, rfl, by decide⟩, HN.out, hb⟩
    obtain ⟨k0, k1⟩ := boxed_rtopo w (.slice ra rs.length rcap) (.slice la ls.length lcap)
    unfold InN at ha
    clear hb HN
    by_cases h0 : a < 0
    · clear ha
      go_enter Tryz.func20, Tryz.ntmps20
      go_wp2_with fail
      go_ret
      exact HE.out
    · have h1 : (rs.length : Int) ≤ a := by omega
      clear ha
      go_enter Tryz.func20, Tryz.ntmps20
      go_wp2_with fail
      go_ret
      exact HE.out
end Go.Proofs.YtkijbiaenfeijaaGreatDoor

namespace Go.Proofs.YtkijbiaenfeijaaGreatDoor
open Go.RowKit Go.Extern.Stop Go.Stop Go.Extern

/-- What the law keeps: its boxes, the topology's rows, the handle, the table. -/
structure WyS (w0 : World) (vr vl : Value) (rs : List ByteArray) (ls : List Lk) (fa fb : Nat) (W : World) : Prop where
  tb : TB w0 w0.heap.size vr vl rs ls W
  fl : SetAt W (w0.heap.size + 1) fa fb
  han : Handle W
  tab : TabB W
theorem WyS.step {w0 : World} {vr vl : Value} {rs : List ByteArray} {ls : List Lk} {fa fb : Nat} {W W' : World} (h : WyS w0 vr vl rs ls fa fb W) (hb : Below W.heap.size W W') : WyS w0 vr vl rs ls fa fb W' :=
  ⟨h.tb.step hb, h.fl.step hb, h.han.below hb, h.tab.below h.tab.lt hb⟩
theorem WyS.cells {w0 : World} {vr vl : Value} {rs : List ByteArray} {ls : List Lk} {fa fb : Nat} {W : World} (h : WyS w0 vr vl rs ls fa fb W) : W.cell? ⟨w0.heap.size, 0, none⟩ = some vr ∧ W.cell? ⟨w0.heap.size, 1, none⟩ = some vl ∧
    W.cell? ⟨w0.heap.size + 1, 0, none⟩ = some (.int .u64 (fa : Int)) ∧ W.cell? ⟨w0.heap.size + 1, 1, none⟩ = some (.int .u64 (fb : Int)) :=
  ⟨h.tb.c0, h.tb.c1, h.fl.cells.1, h.fl.cells.2.1⟩
theorem WyS.start {w : World} {vr vl : Value} {rs : List ByteArray} {ls : List Lk} (ht : TpAt w vr vl rs ls) (hg : Handle w) (htab : TabB w) (fa fb : Nat) :
    WyS w vr vl rs ls fa fb ((w.alloc (.cells #[vr, vl] 25)).alloc (.cells #[.int .u64 (fa : Int), .int .u64 (fb : Int)] 35)) := by
  have hT := (TB.start ht).step (below_new (w.alloc (.cells #[vr, vl] 25)) (.cells #[.int .u64 (fa : Int), .int .u64 (fb : Int)] 35))
  refine ⟨hT, ?_, hg.below hT.below, htab.below htab.lt hT.below⟩
  have := heap_alloc_new (w.alloc (.cells #[vr, vl] 25)) (.cells #[.int .u64 (fa : Int), .int .u64 (fb : Int)] 35)
  rwa [World.size_alloc] at this
theorem rof_came {came : List Int} {p q : Nat} {C : Int → Prop} (h1 : ∀ v, v ∈ came ↔ C v) (h2 : ∀ v, hasI p q v = true ↔ C v) : rofL came 128 = intsL p q := by
  rw [intsL_eq]
  unfold rofL
  refine List.filter_congr fun i hi => ?_
  have h0 := (firstN_mem.1 hi).1
  rw [Bool.eq_iff_iff, hasL_iff, h1, ← h2]
  unfold hasI
  simp [h0]
theorem told_comes {ls : List Lk} {n : Nat} {F : Nat → Bool} {a v d : Int} {o b : Bool} (h : Told ls n F a v d o) (hb : b = true ↔ Comes ls n F a v) : b = o := by
  rcases h with ⟨rfl, h⟩ | ⟨rfl, -, h⟩
  · exact hb.2 ⟨_, h.1⟩
  · rw [← Bool.not_eq_true]
    intro e
    obtain ⟨d', h'⟩ := hb.1 e
    exact h _ h'
set_option maxRecDepth 100000 in
set_option maxHeartbeats 20000000 in
theorem topoWays_any (a b : Int) (fa fb : Nat) (ua : U64 fa) (ub : U64 fb) (vr vl : Value) (rs : List ByteArray) (ls : List Lk) (w : World) (ht : TpAt w vr vl rs ls) (hds : ∀ (i : Nat) (l : Lk), ls[i]? = some l → 0 ≤ l.ds) (hg : Handle w) (htab : TabB w) :
    Calls Tryz.prog 4 #[.agg #[vr, vl], .int .i64 a, .int .i64 b, setV fa fb] w fun e w' => e = .returned (.bool true) ∧ Below w.heap.size w w' := by
  have HI := Lib.hid (WyS.start ht hg htab fa fb)
  have HAw := Lib.hid (fun W h1 h2 => awake11_any W h1 h2)
  have HMay := Lib.hid (fun W h => may11_any vr vl rs ls W h hds)
  have HLs := Lib.hid (fun W h => list_ints fa fb ua ub W h)
  clear ht hg htab hds
  go_enter Tryz.func4, Tryz.ntmps4
  go_wp2_with fail
  refine (HAw.out _ HI.out.han HI.out.tab).mono ?_
  rintro e w1 ⟨rfl, b1⟩
  have HI1 := Lib.hid (HI.out.step b1)
  clear b1 HI HAw
  obtain ⟨k0, k1, k2, k3⟩ := HI1.out.cells
  go_wp2_with fail
  refine (HMay.out _ HI1.out.tb.tp).mono ?_
  rintro e w2 ⟨m, rfl, hp, b2⟩
  have HI2 := Lib.hid (HI1.out.step b2)
  clear b2 HI1 HMay k0 k1 k2 k3
  cases m with
  | false =>
    clear hp
    go_wp2_with fail
    go_ret
    exact ⟨rfl, HI2.out.tb.below⟩
  | true =>
    have HG := Lib.hid (hp rfl).2
    clear hp
    have HLe := Lib.hid (fun W (h : TpAt W vr vl rs ls) (h2 : TabB W) => least_any a b fa fb ua ub vr vl rs ls W h HG.out.may HG.out.nr HG.out.nl h2)
    have HRe := Lib.hid (fun W (h : TpAt W vr vl rs ls) (h2 : TabB W) => reach_any a fa fb ua ub vr vl rs ls W h HG.out.may HG.out.nr HG.out.nl h2)
    have HTo := Lib.hid (fun W (h : TpAt W vr vl rs ls) => to11_any vr vl rs ls W h (by have := HG.out.nr; omega) (by have := HG.out.nl; omega))
    have hF : ∀ i : Nat, hasL (intsL fa fb) (i : Int) = hasB fa fb i := fun i => by rw [hasL_ints]; unfold hasI; simp
    have HRl := Lib.hid (fun vf u0 u1 W (h : TpAt W u0 u1 rs ls) (h2 : IntsAt W vf (intsL fa fb)) => rleast_any a b _ _ hF vf u0 u1 rs ls W h h2 (intsL_le _ _) HG.out.may HG.out.nr HG.out.nl)
    have HRr := Lib.hid (fun vf u0 u1 W (h : TpAt W u0 u1 rs ls) (h2 : IntsAt W vf (intsL fa fb)) => rreach_any a _ _ hF vf u0 u1 rs ls W h h2 (intsL_le _ _) HG.out.may HG.out.nr HG.out.nl)
    clear hF
    obtain ⟨k0, k1, k2, k3⟩ := HI2.out.cells
    go_wp2_with fail
    refine (HLs.out _ HI2.out.tab).mono ?_
    rintro e w3 ⟨vf, rfl, hf, b3⟩
    have HI3 := Lib.hid (HI2.out.step b3)
    have HF3 := Lib.hid hf
    clear b3 hf HI2 HLs k0 k1 k2 k3
    obtain ⟨k0, k1, k2, k3⟩ := HI3.out.cells
    go_wp2_with fail
    refine (HLe.out _ HI3.out.tb.tp HI3.out.tab).mono ?_
    rintro e w4 ⟨d, o, rfl, t1, b4⟩
    have HI4 := Lib.hid (HI3.out.step b4)
    have HF4 := Lib.hid (HF3.out.step b4)
    have T1 := Lib.hid t1
    clear b4 t1 HI3 HF3 HLe k0 k1 k2 k3
    obtain ⟨k0, k1, k2, k3⟩ := HI4.out.cells
    go_wp2_with fail
    refine (HTo.out _ HI4.out.tb.tp).mono ?_
    rintro e w5 ⟨u0, u1, rfl, tp5, b5⟩
    have HI5 := Lib.hid (HI4.out.step b5)
    have HF5 := Lib.hid (HF4.out.step b5)
    have TP5 := Lib.hid tp5
    clear b5 tp5 HI4 HF4 k0 k1 k2 k3
    go_wp2_with fail
    refine (HRl.out _ _ _ _ TP5.out HF5.out).mono ?_
    rintro e w6 ⟨d2, o2, rfl, t2, b6⟩
    obtain ⟨rfl, rfl⟩ := T1.out.one t2
    have HI6 := Lib.hid (HI5.out.step b6)
    have HF6 := Lib.hid (HF5.out.step b6)
    clear b6 t2 HI5 HF5 TP5 HRl
    obtain ⟨k0, k1, k2, k3⟩ := HI6.out.cells
    go_wp2_with fail
    refine (HTo.out _ HI6.out.tb.tp).mono ?_
    rintro e w7 ⟨u2, u3, rfl, tp7, b7⟩
    have HI7 := Lib.hid (HI6.out.step b7)
    have HF7 := Lib.hid (HF6.out.step b7)
    have TP7 := Lib.hid tp7
    clear b7 tp7 HI6 HF6 HTo k0 k1 k2 k3
    go_wp2_with fail
    refine (HRr.out _ _ _ _ TP7.out HF7.out).mono ?_
    rintro e w8 ⟨u, came, rfl, hu, hc, b8⟩
    have HI8 := Lib.hid (HI7.out.step b8)
    have HU8 := Lib.hid hu
    have HC := Lib.hid hc
    clear b8 hu hc HI7 HF7 TP7 HRr
    obtain ⟨k0, k1, k2, k3⟩ := HI8.out.cells
    go_wp2_with fail
    refine (HRe.out _ HI8.out.tb.tp HI8.out.tab).mono ?_
    rintro e w9 ⟨p, q, rfl, u1', u2', hr, b9⟩
    have HI9 := Lib.hid (HI8.out.step b9)
    have hu9 := HU8.out.step b9
    rw [rof_came HC.out hr] at hu9
    have HU9 := Lib.hid hu9
    have HIs := Lib.hid (is_any p q u1' u2' u w9 hu9 HI9.out.tab)
    have HO : Hid (hasL (intsL p q) b = o) := Lib.hid (by rw [hasL_ints]; exact told_comes T1.out (hr b))
    clear b9 hu9 hr HI8 HU8 HC HRe u1' u2' k0 k1 k2 k3
    go_wp2_with fail
    refine HIs.out.mono ?_
    rintro e w10 ⟨rfl, b10⟩
    have HI10 := Lib.hid (HI9.out.step b10)
    have HHs := Lib.hid (rhas_any (intsL p q) u b w10 (HU9.out.step b10) (by have := intsL_le p q; omega))
    rw [HO.out] at HHs
    clear b10 HIs HI9 HU9
    by_cases h0 : b < 0
    · go_wp2_with fail
      go_ret
      exact ⟨rfl, HI10.out.tb.below⟩
    · by_cases h1 : (127 : Int) < b
      · go_wp2_with fail
        go_ret
        exact ⟨rfl, HI10.out.tb.below⟩
      · go_wp2_with fail
        refine HHs.out.mono ?_
        rintro e w11 ⟨rfl, rfl⟩
        go_wp2_with fail
        go_ret
        exact ⟨rfl, HI10.out.tb.below⟩
end Go.Proofs.YtkijbiaenfeijaaGreatDoor

namespace Go.Proofs.YtkijbiaenfeijaaGreatDoor
open Go.ChangeShapes Go.WideShapes Go.ChangeAt Go.RowKit

set_option maxRecDepth 100000 in
theorem topoWays_lifted (os : Os) (started : os.Started) (H : Type) (enc : TypeId × Value → H) :
    ReturnsInHanded {} Tryz.checked os 4 .any (fun w args => (Rows.topoWaysSpec.pre enc Tryz.prog Tryz.f4 [] false w args ∧ laidMetH Tryz.prog loneH w) ∧ sizedMet enc Tryz.prog Tryz.f4 (OpenSpec.ofChange Rows.topoWaysSpec) false w args)
      (Rows.topoWaysSpec.post enc Tryz.prog Tryz.f4 false true false false) := by
  refine returnsInHanded_of_change_and (C := Tryz.checked) (X := fun w _ => laidMetH Tryz.prog loneH w) (fun _ _ _ hh h => h.of_heap hh) Tryz.own started (by kernel_rfl) Tryz.func4
    (ChangeSpec.witness_shaped (enc := enc) (C := Tryz.checked) (os := os) (X := fun w _ => laidMetH Tryz.prog loneH w) false (laidWorldT os) #[.agg #[.slice none 0 0, .slice none 0 0], .int .i64 0, .int .i64 0, .agg #[.int .u64 0, .int .u64 0]] 8 rfl (World.shaped_of_RefB (by kernel_rfl) (by kernel_rfl)) (by kernel_rfl) (by kernel_rfl) (by kernel_rfl) (laidWorldT_metH os _)) ?_
  intro W base args ds gs before hval0 hW _ _ hL _
  have hval : ∀ (j : Nat) t v, Tryz.f4.params[j]? = some t → args[j]? = some v → Value.okWide Tryz.prog W .any base t v := hval0
  have hW' := hW
  obtain ⟨p, q, hA0, hV, rfl, hfz, hnd⟩ := hW
  have hA : DataW.TrodAll enc Tryz.prog W 0 (fun _ => true) true Tryz.f4.params.toList args.toList ds p := hA0
  rw [Tryz.params4] at hA hval
  obtain ⟨v0, v1, v2, v3, d0, d1, d2, d3, p0, p1, p2, p3, rfl, rfl, rfl, h0, h1, h2, h3⟩ := trodAll_four hA
  obtain ⟨vr, vl, rs, ls, rfl, ht0, hd0⟩ := topo_of_trod h0
  obtain ⟨a, rfl, rfl, rfl, wa⟩ := open_int Tryz.underlying3 (hval 1 3 v1 rfl rfl) h1
  obtain ⟨b, rfl, rfl, rfl, wb⟩ := open_int Tryz.underlying3 (hval 2 3 v2 rfl rfl) h2
  obtain ⟨f, f', rfl, uf, uf'⟩ := set_of_trod h3
  refine (topoWays_any a b f f' uf uf' vr vl rs ls W ht0 hd0 (handle_of_laidH hL) (tab_of_laidH hL)).mono fun e W' ⟨he, hb⟩ => ?_
  subst he
  exact ⟨_, rfl, law_post (by kernel_rfl) rfl (by rw [Tryz.params4]; decide +kernel) hW' hb (by simp [Rows.topoWaysSpec]) (by simp [Rows.topoWaysSpec]) (by simp [Rows.topoWaysSpec])⟩

theorem topoWays_holds : Rows.TopoWaysSaid :=
  OpenClaim.holds_of_wide 4 Tryz.f4 rfl rfl rfl rfl rfl rfl rfl ⟨rfl, rfl, rfl, rfl, rfl⟩ rfl rfl rfl rfl rfl (by kernel_rfl) Tryz.func4 (by kernel_rfl)
    (of_decide_eq_true (by kernel_rfl)) (by unfold Func.isWrapper; rw [if_neg (of_decide_eq_false (by kernel_rfl))]; exact ⟨rfl, rfl⟩)
    (fun os started H enc _ => topoWays_lifted os started H enc)

theorem topoWays_card : Rows.TopoWaysCardSaid :=
  Claim7.holds_tied_plain_at .later [] [.data, .handle] true Rows.topoWaysCard.stood.harness true
    topoWays_holds (fun _ h => by cases h) (by kernel_rfl) (fun _ h => by cases h) topoWays_row_tie rfl ⟨rfl, rfl⟩ (by kernel_rfl) rfl
    (fun f fn hf hfn => by
      obtain rfl : f = 4 := Option.some.inj ((show Tryz.prog.funcNamed "fairlead/fairleadlaw11.TopoWays" = some 4 by kernel_rfl).symm.trans hf) |>.symm
      obtain rfl : fn = Tryz.f4 := (Option.some.inj (Tryz.func4.symm.trans hfn)).symm
      exact ⟨by kernel_rfl, fun j t ht => by
        have hk : ∀ t ∈ Tryz.f4.params.toList, Tryz.prog.wantsStandIn t = false := by rw [Tryz.params4]; decide +kernel
        exact hk t (by
          obtain ⟨hj, e⟩ := Array.getElem?_eq_some_iff.1 ht
          rw [← e]
          simp)⟩)
    (by kernel_rfl)
#print axioms topoWays_card
end Go.Proofs.YtkijbiaenfeijaaGreatDoor
