/-
  TopoFinds' law, its plain part: numbers of names, sets of links as lists; several rows of a call's own.
  TopoFinds' law, by contract.
  The statement TopoFinds, proved: for every topology, name and two routers, and in whatever memory, the law answers true and each argument reads afterwards as it did; what it lists of package-level variables is tied to the program's text.
-/
import Derived.Test.YtkijbiaenfeijaaGreatDoorGq
import Derived.Test.YtkijbiaenfeijaaGreatDoorGk
import Derived.Test.YtkijbiaenfeijaaGreatDoorGr
namespace Go.Proofs.YtkijbiaenfeijaaGreatDoor
open Go.RowKit Go.Extern.Stop Go.Stop Go.Extern

/-! ### Sets of links as lists -/
theorem filter_range {f g : Nat → Bool} {n N : Nat} (hn : n ≤ N) (h1 : ∀ j, j < n → f j = g j) (h2 : ∀ j, n ≤ j → f j = false) : (List.range N).filter f = (List.range n).filter g := by
  obtain ⟨d, rfl⟩ := Nat.le.dest hn
  rw [List.range_add, List.filter_append]
  have e1 : (List.range n).filter f = (List.range n).filter g := List.filter_congr fun j hj => h1 j (List.mem_range.1 hj)
  have e2 : ((List.range d).map (n + ·)).filter f = [] := by
    rw [List.filter_eq_nil_iff]
    intro j hj
    obtain ⟨k, -, rfl⟩ := List.mem_map.1 hj
    rw [h2 (n + k) (by omega)]
    simp
  rw [e1, e2, List.append_nil]
theorem ints_wh {P : Lk → Bool} {ls : List Lk} {p q : Nat} (hl : ls.length ≤ 128) (h : ∀ j, hasB p q j = (decide (j < 128) && (ls[j]?.map P).getD false)) : intsL p q = idxL P ls ls.length := by
  unfold intsL idxL
  rw [setL_eq]
  refine congrArg (List.map Int.ofNat) (filter_range hl (fun j hj => ?_) (fun j hj => ?_))
  · rw [h, decide_eq_true (by omega : j < 128), Bool.true_and]
  · rw [h, List.getElem?_eq_none hj]
    simp
theorem ints_whS (P : Lk → Bool) {ls : List Lk} (hl : ls.length ≤ 128) : intsL (whS P ls).1 (whS P ls).2 = idxL P ls ls.length := ints_wh hl (hasB_idx P ls)
theorem ints_both (P R : Lk → Bool) {ls : List Lk} (hl : ls.length ≤ 128) : intsL ((whS P ls).1 &&& (whS R ls).1) ((whS P ls).2 &&& (whS R ls).2) = idxL (fun l => P l && R l) ls ls.length := by
  refine ints_wh hl fun j => ?_
  rw [hasB_and]
  have e1 := hasB_idx P ls j
  have e2 := hasB_idx R ls j
  unfold whS
  rw [e1, e2]
  cases decide (j < 128) <;> cases ls[j]? <;> simp
theorem idxL_len (P : Lk → Bool) (ls : List Lk) (k : Nat) : (idxL P ls k).length ≤ k := by
  unfold idxL
  rw [List.length_map]
  exact Nat.le_trans (List.length_filter_le _ _) (by simp)

/-! ### The number of a name -/
theorem rise_all {xs : List ByteArray} (h : ∀ (i : Nat) (s t : ByteArray), xs[i]? = some s → xs[i + 1]? = some t → ltB s t = true) : ∀ (d i : Nat) (s t : ByteArray), xs[i]? = some s → xs[i + d + 1]? = some t → ltB s t = true
  | 0, i, s, t, hs, ht => h i s t hs ht
  | d + 1, i, s, t, hs, ht => by
    have hlt : i + (d + 1) + 1 < xs.length := (List.getElem?_eq_some_iff.1 ht).1
    obtain ⟨u, hu⟩ : ∃ u, xs[i + d + 1]? = some u := ⟨_, List.getElem?_eq_getElem (by omega)⟩
    exact ltB_trans (rise_all h d i s u hs hu) (h _ _ _ hu ht)
theorem rise_one {xs : List ByteArray} (h : ∀ (i : Nat) (s t : ByteArray), xs[i]? = some s → xs[i + 1]? = some t → ltB s t = true) {i j : Nat} {s : ByteArray} (hi : xs[i]? = some s) (hj : xs[j]? = some s) : i = j := by
  rcases Nat.lt_trichotomy i j with hlt | e | hlt
  · obtain ⟨d, rfl⟩ := Nat.le.dest (Nat.succ_le_of_lt hlt)
    have := rise_all h d i s s hi (by rw [← hj]; congr 1; omega)
    rw [ltB_irrefl] at this
    cases this
  · exact e
  · obtain ⟨d, rfl⟩ := Nat.le.dest (Nat.succ_le_of_lt hlt)
    have := rise_all h d j s s hj (by rw [← hi]; congr 1; omega)
    rw [ltB_irrefl] at this
    cases this
theorem beq_list {s t : ByteArray} : (s.toList == t.toList) = true ↔ s = t := by
  rw [Go.ByteArray.toList_eq, Go.ByteArray.toList_eq]
  constructor
  · intro h; exact bytes_ext (by simpa using h)
  · rintro rfl; simp
/-- On the way: the number of a name among the first so many; -1. -/
def CurL (xs : List ByteArray) (x : ByteArray) (i : Nat) (r : Int) : Prop :=
  (r = -1 ∧ ∀ j s, j < i → xs[j]? = some s → s ≠ x) ∨ ∃ j : Nat, j < i ∧ xs[j]? = some x ∧ r = j
theorem CurL.start (xs : List ByteArray) (x : ByteArray) : CurL xs x 0 (-1) := .inl ⟨rfl, fun _ _ hj => absurd hj (Nat.not_lt_zero _)⟩
theorem CurL.hit {xs : List ByteArray} {x s : ByteArray} {i : Nat} (hx : xs[i]? = some s) (h : (s.toList == x.toList) = true) : CurL xs x (i + 1) (i : Int) :=
  .inr ⟨i, Nat.lt_succ_self i, by rw [hx, beq_list.1 h], rfl⟩
theorem CurL.miss {xs : List ByteArray} {x s : ByteArray} {i : Nat} {r : Int} (h : CurL xs x i r) (hx : xs[i]? = some s) (hn : (s.toList == x.toList) = false) : CurL xs x (i + 1) r := by
  rcases h with ⟨rfl, h⟩ | ⟨j, hj, h1, rfl⟩
  · refine .inl ⟨rfl, fun j t hj ht => ?_⟩
    rcases Nat.lt_succ_iff_lt_or_eq.1 hj with hj | rfl
    · exact h j t hj ht
    · rintro rfl
      rw [hx] at ht
      injection ht with ht
      rw [ht, beq_list.2 rfl] at hn
      cases hn
  · exact .inr ⟨j, by omega, h1, rfl⟩
theorem CurL.index {xs : List ByteArray} {x : ByteArray} {r : Int} (h : CurL xs x xs.length r) (hr : ∀ (i : Nat) (s t : ByteArray), xs[i]? = some s → xs[i + 1]? = some t → ltB s t = true) : Lib.idxOfS xs x = r := by
  rcases h with ⟨rfl, h⟩ | ⟨j, hj, h1, rfl⟩
  · have := Lib.idxOfS_miss xs xs.length x (fun j hj => by
      rw [List.getD_eq_getElem?_getD, List.getElem?_eq_getElem hj]
      exact h j _ hj (List.getElem?_eq_getElem hj))
    rwa [List.take_length] at this
  · have := Lib.idxOfS_hit xs xs.length j x hj (Nat.le_refl _) (by rw [List.getD_eq_getElem?_getD, h1]; rfl) (fun k hk => by
      have hk2 : k < xs.length := by omega
      rw [List.getD_eq_getElem?_getD, List.getElem?_eq_getElem hk2]
      intro e
      have e : xs[k]? = some x := by rw [List.getElem?_eq_getElem hk2]; exact congrArg some e
      have := rise_one hr e h1
      omega)
    rwa [List.take_length] at this
theorem fstI_none {P : Lk → Bool} : ∀ (ls : List Lk) (k : Nat), (∀ (j : Nat) (l : Lk), ls[j]? = some l → P l = false) → fstI P ls k = -1
  | [], _, _ => rfl
  | l :: ls, k, h => by
    rw [fstI_miss (h 0 l rfl)]
    exact fstI_none ls (k + 1) fun j m hm => h (j + 1) m hm
theorem fstI_at {P : Lk → Bool} : ∀ (ls : List Lk) (k j : Nat) (l : Lk), ls[j]? = some l → P l = true → (∀ (i : Nat) (m : Lk), i < j → ls[i]? = some m → P m = false) → fstI P ls k = ((k + j : Nat) : Int)
  | [], _, _, _, h, _, _ => by simp at h
  | m :: ls, k, 0, l, h, hP, _ => by
    obtain rfl : m = l := by simpa using h
    exact fstI_hit hP
  | m :: ls, k, j + 1, l, h, hP, hn => by
    rw [fstI_miss (hn 0 m (Nat.succ_pos _) rfl), fstI_at ls (k + 1) j l h hP fun i m' hi hm => hn (i + 1) m' (Nat.succ_lt_succ hi) hm]
    congr 1
    omega
theorem CurL.first {ls : List Lk} {x : ByteArray} {r : Int} (h : CurL (ls.map (·.nm)) x ls.length r) (hr : ∀ (i : Nat) (l m : Lk), ls[i]? = some l → ls[i + 1]? = some m → ltB l.nm m.nm = true) : fstI (fun l => l.nm.toList == x.toList) ls 0 = r := by
  have hr' : ∀ (i : Nat) (s t : ByteArray), (ls.map (·.nm))[i]? = some s → (ls.map (·.nm))[i + 1]? = some t → ltB s t = true := by
    intro i s t hs ht
    rw [List.getElem?_map] at hs ht
    obtain ⟨l, hl, rfl⟩ := Option.map_eq_some_iff.1 hs
    obtain ⟨m, hm, rfl⟩ := Option.map_eq_some_iff.1 ht
    exact hr i l m hl hm
  have hm : ∀ {j : Nat} {l : Lk}, ls[j]? = some l → (ls.map (·.nm))[j]? = some l.nm := fun h => by rw [List.getElem?_map, h]; rfl
  rcases h with ⟨rfl, h⟩ | ⟨j, hj, h1, rfl⟩
  · refine fstI_none ls 0 fun j l hl => ?_
    have hj := (List.getElem?_eq_some_iff.1 hl).1
    rw [← Bool.not_eq_true]
    intro e
    exact h j _ hj (hm hl) (beq_list.1 e)
  · obtain ⟨l, hl⟩ : ∃ l, ls[j]? = some l := ⟨_, List.getElem?_eq_getElem hj⟩
    rw [hm hl] at h1
    injection h1 with h1
    have := fstI_at (P := fun l => l.nm.toList == x.toList) ls 0 j l hl (beq_list.2 h1) (fun i m hi hmi => by
      rw [← Bool.not_eq_true]
      intro e
      have e := beq_list.1 e
      have := rise_one hr' (i := i) (j := j) (s := x) (by rw [hm hmi, e]) (by rw [hm hl, h1])
      omega)
    simpa using this

/-! ### Several rows of a call's own -/
def Apart (v v' : Value) : Prop := v.ownBlock = none ∨ v.ownBlock ≠ v'.ownBlock
theorem Apart.symm {v v' : Value} (h : Apart v v') : Apart v' v := by
  unfold Apart at *
  rcases h with h | h
  · by_cases h2 : v'.ownBlock = none
    · exact .inl h2
    · exact .inr (by rw [h]; exact h2)
  · exact .inr (Ne.symm h)
structure Row3 (B : Nat) (W : World) (o n m : Value) (lo ln lm : List Int) : Prop where
  ro : W.ownsRow B 3 1 o lo.length (encI lo)
  rn : W.ownsRow B 3 1 n ln.length (encI ln)
  rm : W.ownsRow B 3 1 m lm.length (encI lm)
  on : Apart o n
  nm : Apart n m
  mo : Apart m o
theorem Row3.nil (B : Nat) (W : World) : Row3 B W (.slice none 0 0) (.slice none 0 0) (.slice none 0 0) [] [] [] :=
  ⟨World.ownsRow_nil _ _ _ _, World.ownsRow_nil _ _ _ _, World.ownsRow_nil _ _ _ _, .inl rfl, .inl rfl, .inl rfl⟩
theorem Row3.turn {B : Nat} {W : World} {o n m : Value} {lo ln lm : List Int} (h : Row3 B W o n m lo ln lm) : Row3 B W n m o ln lm lo := ⟨h.rn, h.rm, h.ro, h.nm, h.mo, h.on⟩
theorem Row3.alloc {B : Nat} {W : World} {o n m : Value} {lo ln lm : List Int} (h : Row3 B W o n m lo ln lm) (ob : Obj) : Row3 B (W.alloc ob) o n m lo ln lm :=
  ⟨h.ro.alloc ob, h.rn.alloc ob, h.rm.alloc ob, h.on, h.nm, h.mo⟩
theorem apart_new {B n : Nat} {W : World} {v v' u : Value} {xs : List Value} (ha : Apart v u) (hu : W.ownsRow B 3 1 u n xs) (h : v'.ownBlock = v.ownBlock ∨ v'.ownBlock = some W.heap.size) : Apart v' u := by
  rcases h with h | h
  · unfold Apart; rw [h]; exact ha
  · refine .inr fun e => ?_
    rw [h] at e
    have := (hu.lt _ e.symm).2
    omega
theorem Row3.put {B : Nat} {W W' : World} {o n m o' : Value} {lo ln lm lo' : List Int} (h : Row3 B W o n m lo ln lm) (hg : W.grownBy W' o.ownBlock) (hr : W'.ownsRow B 3 1 o' lo'.length (encI lo')) (hb : o'.ownBlock = o.ownBlock ∨ o'.ownBlock = some W.heap.size) : Row3 B W' o' n m lo' ln lm :=
  ⟨hr, h.rn.kept hg h.on.symm, h.rm.kept hg h.mo, apart_new h.on h.rn hb, h.nm, (apart_new h.mo.symm h.rm hb).symm⟩
theorem wpList_append_one {ops : Array Oper} {rest : List Oper} {o : Oper} {a : Act} {Q : Exit → Act → World → Prop} (w : World) (hgd : o.guard = none) (s x : Operand) (ho : o.op = .call { callee := .builtin .append, args := #[s, x], argTypes := #[28, 28] })
    (base : Nat) (v : Value) (l : List Int) (hs : a.eval s = v) (hown : w.ownsRow base 3 1 v l.length (encI l)) (b : Nat) (c : Int) (hx : a.eval x = .slice (some ⟨b, 0, none⟩) 1 1) (hc : w.cell? ⟨b, 0, none⟩ = some (.int .i64 c)) (hn : l.length + 1 ≤ 1000000) (hbase : base ≤ w.heap.size)
    (h : ∀ v' w', w'.ownsRow base 3 1 v' (l ++ [c]).length (encI (l ++ [c])) → w.grownBy w' v.ownBlock → (v'.ownBlock = v.ownBlock ∨ v'.ownBlock = some w.heap.size) → wpList Tryz.prog ops Q rest (a.put o.dst v') w') : wpList Tryz.prog ops Q (o :: rest) a w := by
  obtain ⟨i0, hi, hz0, hz1, hz2⟩ := info_parts infoInt
  refine wpList_plain hgd fun K hK => ?_
  obtain ⟨v', w', h1, h2, h3, -, h4⟩ := run_append_own_at (P := Tryz.prog) w base 28 o.type 3 i0 (.int .i64 0) 1 8 Tryz.underlying28 hi hz0 hz1 hz2 rfl (by decide) v l.length (encI l) hown ⟨b, 0, none⟩ 1 1 (encI [c]) (by simp [encI]) (by
      intro j u hu
      rcases j with _ | j
      · obtain rfl : Value.int .i64 c = u := by simpa [encI] using hu
        exact hc
      · simp [encI] at hu) (encI_one [c]) (by unfold maxLen; omega) (by omega) hbase
  unfold Oper.wp execOp
  simp only [ho, resolve, invoke, builtin, Sem.run_bind, Sem.run_pure, Result.andThen_ok, List.map_toArray, List.map_cons, List.map_nil, hs, hx, h1]
  exact hK _ _ (h v' w' (by rw [encI_snoc, List.length_append]; exact h2) h3 h4)
theorem int_at (W : World) (c : Int) : (W.alloc (.cells #[.int .i64 c] 3)).cell? ⟨W.heap.size, 0, none⟩ = some (.int .i64 c) := by
  rw [Lib.cell_of_heap (heap_alloc_new W _)]; rfl
theorem int_at2 (W : World) (ob : Obj) (c : Int) : ((W.alloc ob).alloc (.cells #[.int .i64 c] 3)).cell? ⟨W.heap.size + 1, 0, none⟩ = some (.int .i64 c) := by
  have := int_at (W.alloc ob) c
  rwa [World.size_alloc] at this
end Go.Proofs.YtkijbiaenfeijaaGreatDoor

namespace Go.Proofs.YtkijbiaenfeijaaGreatDoor
open Go.RowKit Go.Extern.Stop Go.Stop Go.Extern

def Fn1 (rs : List ByteArray) (x : ByteArray) (w1 : World) (g : Nat) (u r : Value) (wr : World) : Prop :=
  ∃ (i : Nat) (c : Int), i ≤ rs.length ∧ g = rs.length - i ∧ u = .int .i64 i ∧ r = .int .i64 c ∧ CurL rs x i c ∧ w1 = wr
def Fn2 (ls : List Lk) (x : ByteArray) (a b : Int) (w1 : World) (g : Nat) (u r o n m : Value) (wr : World) : Prop :=
  ∃ (i : Nat) (c : Int), i ≤ ls.length ∧ g = ls.length - i ∧ u = .int .i64 i ∧ r = .int .i64 c ∧ CurL (ls.map (·.nm)) x i c ∧
    Row3 w1.heap.size wr o n m (idxL (frB a) ls i) (idxL (toB b) ls i) (idxL (fun l => frB a l && toB b l) ls i) ∧ Below w1.heap.size w1 wr
/-- In a round: the three rows, the link's box. -/
structure In2 (w2 W : World) (o n m : Value) (lo ln lm : List Int) (C : Nat) (l : Lk) : Prop where
  r3 : Row3 w2.heap.size W o n m lo ln lm
  bx : LkB W 31 C l
  co : o.ownBlock ≠ some C
  cn : n.ownBlock ≠ some C
  cm : m.ownBlock ≠ some C
  bw : Below w2.heap.size w2 W
theorem In2.turn {w2 W : World} {o n m : Value} {lo ln lm : List Int} {C : Nat} {l : Lk} (h : In2 w2 W o n m lo ln lm C l) : In2 w2 W n m o ln lm lo C l := ⟨h.r3.turn, h.bx, h.cn, h.cm, h.co, h.bw⟩
theorem In2.alloc {w2 W : World} {o n m : Value} {lo ln lm : List Int} {C : Nat} {l : Lk} (h : In2 w2 W o n m lo ln lm C l) (ob : Obj) : In2 w2 (W.alloc ob) o n m lo ln lm C l :=
  ⟨h.r3.alloc ob, h.bx.step (below_new W ob), h.co, h.cn, h.cm, h.bw.trans ((below_new W ob).mono h.bw.size)⟩
theorem In2.start {w2 W : World} {o n m : Value} {lo ln lm : List Int} (h : Row3 w2.heap.size W o n m lo ln lm) (hb : Below w2.heap.size w2 W) (l : Lk) :
    In2 w2 (W.alloc (.cells #[.string l.nm, .int .i64 l.fr, .int .i64 l.to, .int .u64 l.ds] 31)) o n m lo ln lm W.heap.size l :=
  ⟨h.alloc _, heap_alloc_new W _, fun e => absurd (h.ro.lt _ e).2 (Nat.lt_irrefl _), fun e => absurd (h.rn.lt _ e).2 (Nat.lt_irrefl _), fun e => absurd (h.rm.lt _ e).2 (Nat.lt_irrefl _), hb.trans ((below_new W _).mono hb.size)⟩
theorem In2.put {w2 W W' : World} {o n m o' : Value} {lo ln lm lo' : List Int} {C : Nat} {l : Lk} (h : In2 w2 W o n m lo ln lm C l) (hg : W.grownBy W' o.ownBlock) (hr : W'.ownsRow w2.heap.size 3 1 o' lo'.length (encI lo')) (hb : o'.ownBlock = o.ownBlock ∨ o'.ownBlock = some W.heap.size) : In2 w2 W' o' n m lo' ln lm C l :=
  ⟨h.r3.put hg hr hb, (hg.block _ (hlt h.bx) (Ne.symm h.co)).trans h.bx, by
    rcases hb with hb | hb
    · rw [hb]; exact h.co
    · rw [hb]
      intro e
      injection e with e
      have := hlt h.bx
      omega, h.cn, h.cm, h.bw.grown hg h.bw.size (fun k e => (h.r3.ro.lt k e).1)⟩
/-- Behind the rounds. -/
structure FnE (w : World) (vr vl : Value) (rs : List ByteArray) (ls : List Lk) (o n m : Value) (lo ln lm : List Int) (W : World) : Prop where
  aw : AwS w w.heap.size vr vl rs ls W
  io : IntsAt W o lo
  jn : IntsAt W n ln
  im : IntsAt W m lm
theorem FnE.step {w : World} {vr vl : Value} {rs : List ByteArray} {ls : List Lk} {o n m : Value} {lo ln lm : List Int} {W W' : World} (h : FnE w vr vl rs ls o n m lo ln lm W) (hb : Below W.heap.size W W') : FnE w vr vl rs ls o n m lo ln lm W' :=
  ⟨h.aw.step hb, h.io.step hb, h.jn.step hb, h.im.step hb⟩
set_option maxRecDepth 100000 in
set_option maxHeartbeats 20000000 in
theorem topoFinds_any (x : ByteArray) (_ : x.size ≤ maxLen) (a b : Int) (vr vl : Value) (rs : List ByteArray) (ls : List Lk) (w : World) (ht : TpAt w vr vl rs ls) (hds : ∀ (i : Nat) (l : Lk), ls[i]? = some l → 0 ≤ l.ds) (hg : Handle w) (htab : TabB w) :
    Calls Tryz.prog 3 #[.agg #[vr, vl], .string x, .int .i64 a, .int .i64 b] w fun e w' => e = .returned (.bool true) ∧ Below w.heap.size w w' := by
  have hT := TB.start ht
  have HI : Hid (AwS w w.heap.size vr vl rs ls (w.alloc (.cells #[vr, vl] 25))) := Lib.hid ⟨hT, hg.below hT.below, htab.below htab.lt hT.below⟩
  have HAw := Lib.hid (fun W h1 h2 => awake11_any W h1 h2)
  have HMay := Lib.hid (fun W h => may11_any vr vl rs ls W h hds)
  clear hT ht hg htab hds
  go_enter Tryz.func3, Tryz.ntmps3
  go_wp2_with fail
  refine (HAw.out _ HI.out.han HI.out.tab).mono ?_
  rintro e w1 ⟨rfl, b1⟩
  have HI1 := Lib.hid (HI.out.step b1)
  clear b1 HI HAw
  have k0 := HI1.out.tb.c0
  have k1 := HI1.out.tb.c1
  go_wp2_with fail
  refine (HMay.out _ HI1.out.tb.tp).mono ?_
  rintro e w2 ⟨m, rfl, hp, b2⟩
  have HI2 := Lib.hid (HI1.out.step b2)
  clear b2 HI1 HMay k0 k1
  cases m with
  | false =>
    clear hp
    go_wp2_with fail
    go_ret
    exact ⟨rfl, HI2.out.tb.below⟩
  | true =>
    have HG := Lib.hid (hp rfl).2
    have HNr := Lib.hid HG.out.nr
    have HNl := Lib.hid HG.out.nl
    clear hp
    by_cases h60 : (60 : Int) < x.size
    · go_wp2_with fail
      go_ret
      exact ⟨rfl, HI2.out.tb.below⟩
    · obtain ⟨ra, rcap, rfl⟩ := HI2.out.tb.tp.rs.form
      obtain ⟨la, lcap, rfl⟩ := HI2.out.tb.tp.ls.form
      have k0 := HI2.out.tb.c0
      have k1 := HI2.out.tb.c1
      go_wp2_with fail
      clear h60
      go_loopg [31, 9] rs.length (fun g u r wr => Fn1 rs x w2 g u r wr)
      case atStart => exact ⟨0, -1, Nat.zero_le _, by omega, rfl, rfl, CurL.start _ _, rfl⟩
      case round =>
        obtain ⟨i, c, hi, hgi, rfl, rfl, hc, rfl⟩ := hrel
        have hnr := HNr.out
        by_cases hlt : i < rs.length
        · obtain ⟨s, hs⟩ : ∃ s, rs[i]? = some s := ⟨_, List.getElem?_eq_getElem hlt⟩
          obtain ⟨bb, off, rfl, c0⟩ := HI2.out.tb.tp.rs.at hs (Below.refl _ _)
          cases hq : (s.toList == x.toList) with
          | true =>
            have H3 : Hid (Fn1 rs x w2 (rs.length - (i + 1)) (.int .i64 ((i : Int) + 1)) (.int .i64 (i : Int)) w2) := Lib.hid ⟨i + 1, i, by omega, rfl, by go_num, rfl, CurL.hit hs hq, rfl⟩
            clear hc hs
            go_wp2_with fail
            go_roundg (rs.length - (i + 1))
            case measure => omega
            case rel => exact H3.out
          | false =>
            have H3 : Hid (Fn1 rs x w2 (rs.length - (i + 1)) (.int .i64 ((i : Int) + 1)) (.int .i64 c) w2) := Lib.hid ⟨i + 1, c, by omega, rfl, by go_num, rfl, hc.miss hs hq, rfl⟩
            clear hc hs
            go_wp2_with fail
            go_roundg (rs.length - (i + 1))
            case measure => omega
            case rel => exact H3.out
        · obtain rfl : i = rs.length := by omega
          have HR := Lib.hid (hc.index HG.out.rr)
          have hnl := HNl.out
          have hnl := HNl.out
          have hnl := HNl.out
          clear hc hi hlt hgi
          go_wp2_with fail
          go_loopg [44, 10, 13, 14, 15] ls.length (fun g u r o n m W => Fn2 ls x a b w2 g u r o n m W)
          case atStart => exact ⟨0, -1, Nat.zero_le _, by omega, rfl, rfl, CurL.start _ _, Row3.nil _ _, Below.refl _ _⟩
          case round =>
            obtain ⟨i, c2, hi, hgi, rfl, rfl, hc, hr3, hb⟩ := hrel
            by_cases hlt : i < ls.length
            · obtain ⟨l, hs⟩ : ∃ l, ls[i]? = some l := ⟨_, List.getElem?_eq_getElem hlt⟩
              obtain ⟨bb, off, rfl, c0, c1, c2', c3⟩ := HI2.out.tb.tp.ls.at hs hb
              have hs2 : (ls.map (·.nm))[i]? = some l.nm := by rw [List.getElem?_map, hs]; rfl
              have hEa := idxL_succ (P := frB a) hs
              have hEb := idxL_succ (P := toB b) hs
              have hEc := idxL_succ (P := fun l => frB a l && toB b l) hs
              have hla := idxL_len (frB a) ls i
              have hlb := idxL_len (toB b) ls i
              have hlc := idxL_len (fun l => frB a l && toB b l) ls i
              obtain ⟨lo, hlo⟩ : ∃ lo, idxL (frB a) ls i = lo := ⟨_, rfl⟩
              obtain ⟨ln, hln⟩ : ∃ ln, idxL (toB b) ls i = ln := ⟨_, rfl⟩
              obtain ⟨lm, hlm⟩ : ∃ lm, idxL (fun l => frB a l && toB b l) ls i = lm := ⟨_, rfl⟩
              rw [hlo] at hr3 hEa hla
              rw [hln] at hr3 hEb hlb
              rw [hlm] at hr3 hEc hlc
              have HIn := Lib.hid (In2.start hr3 hb l)
              have HZ := Lib.hid hb.size
              have HC := Lib.hid hc
              clear hlo hln hlm hr3 hb hc hs
              cases hq : (l.nm.toList == x.toList) <;> cases hf : (l.fr == a) <;> cases ht : (l.to == b)
              · have HC2 := Lib.hid (HC.out.miss hs2 hq)
                replace hEa : idxL (frB a) ls (i + 1) = lo := by rw [hEa]; simp [frB, hf]
                replace hEb : idxL (toB b) ls (i + 1) = ln := by rw [hEb]; simp [toB, ht]
                replace hEc : idxL (fun l => frB a l && toB b l) ls (i + 1) = lm := by rw [hEc]; simp [frB, toB, hf, ht]
                have HE := Lib.hid (And.intro hEa (And.intro hEb hEc))
                clear hEa hEb hEc hs2 HC
                have H3 : Hid (Fn2 ls x a b w2 (ls.length - (i + 1)) (.int .i64 ((i : Int) + 1)) (.int .i64 c2) u13 u14 u15 (wr.alloc (.cells #[.string l.nm, .int .i64 l.fr, .int .i64 l.to, .int .u64 l.ds] 31))) := Lib.hid ⟨i + 1, _, by omega, rfl, by go_num, rfl, HC2.out, by rw [HE.out.1, HE.out.2.1, HE.out.2.2]; exact HIn.out.r3, HIn.out.bw⟩
                clear HE HC2 HIn
                go_wp2_with fail
                go_roundg (ls.length - (i + 1))
                case measure => omega
                case rel => exact H3.out
              · have HC2 := Lib.hid (HC.out.miss hs2 hq)
                replace hEa : idxL (frB a) ls (i + 1) = lo := by rw [hEa]; simp [frB, hf]
                replace hEb : idxL (toB b) ls (i + 1) = ln ++ [(i : Int)] := by rw [hEb]; simp [toB, ht]
                replace hEc : idxL (fun l => frB a l && toB b l) ls (i + 1) = lm := by rw [hEc]; simp [frB, toB, hf, ht]
                have HE := Lib.hid (And.intro hEa (And.intro hEb hEc))
                clear hEa hEb hEc hs2 HC
                go_wp2_with (at_builtin; refine wpList_append_one _ rfl _ _ rfl w2.heap.size _ ln rfl (HIn.out.turn.alloc (.cells #[.int .i64 (i : Int)] 3)).r3.ro (wr.heap.size + 1) (i : Int) rfl (int_at2 _ _ _) (by omega) (HIn.out.alloc (.cells #[.int .i64 (i : Int)] 3)).bw.size ?_)
                intro v4 w4 hown hgrow hblk
                have HIn4 := Lib.hid ((HIn.out.turn.alloc (.cells #[.int .i64 (i : Int)] 3)).put (lo' := ln ++ [(i : Int)]) hgrow (by rw [List.length_append]; exact hown) (by simpa only [World.size_alloc] using hblk))
                replace HIn4 := Lib.hid HIn4.out.turn.turn
                clear hown hgrow hblk
                obtain ⟨d0, d1, d2, d3⟩ := HIn4.out.bx.cells
                have H3 : Hid (Fn2 ls x a b w2 (ls.length - (i + 1)) (.int .i64 ((i : Int) + 1)) (.int .i64 c2) u13 v4 u15 w4) := Lib.hid ⟨i + 1, _, by omega, rfl, by go_num, rfl, HC2.out, by rw [HE.out.1, HE.out.2.1, HE.out.2.2]; exact HIn4.out.r3, HIn4.out.bw⟩
                clear HE HC2 HIn
                go_wp2_with fail
                go_roundg (ls.length - (i + 1))
                case measure => omega
                case rel => exact H3.out
              · have HC2 := Lib.hid (HC.out.miss hs2 hq)
                replace hEa : idxL (frB a) ls (i + 1) = lo ++ [(i : Int)] := by rw [hEa]; simp [frB, hf]
                replace hEb : idxL (toB b) ls (i + 1) = ln := by rw [hEb]; simp [toB, ht]
                replace hEc : idxL (fun l => frB a l && toB b l) ls (i + 1) = lm := by rw [hEc]; simp [frB, toB, hf, ht]
                have HE := Lib.hid (And.intro hEa (And.intro hEb hEc))
                clear hEa hEb hEc hs2 HC
                go_wp2_with (at_builtin; refine wpList_append_one _ rfl _ _ rfl w2.heap.size _ lo rfl (HIn.out.alloc (.cells #[.int .i64 (i : Int)] 3)).r3.ro (wr.heap.size + 1) (i : Int) rfl (int_at2 _ _ _) (by omega) (HIn.out.alloc (.cells #[.int .i64 (i : Int)] 3)).bw.size ?_)
                intro v4 w4 hown hgrow hblk
                have HIn4 := Lib.hid ((HIn.out.alloc (.cells #[.int .i64 (i : Int)] 3)).put (lo' := lo ++ [(i : Int)]) hgrow (by rw [List.length_append]; exact hown) (by simpa only [World.size_alloc] using hblk))
                clear hown hgrow hblk
                obtain ⟨d0, d1, d2, d3⟩ := HIn4.out.bx.cells
                have H3 : Hid (Fn2 ls x a b w2 (ls.length - (i + 1)) (.int .i64 ((i : Int) + 1)) (.int .i64 c2) v4 u14 u15 w4) := Lib.hid ⟨i + 1, _, by omega, rfl, by go_num, rfl, HC2.out, by rw [HE.out.1, HE.out.2.1, HE.out.2.2]; exact HIn4.out.r3, HIn4.out.bw⟩
                clear HE HC2 HIn
                go_wp2_with fail
                go_roundg (ls.length - (i + 1))
                case measure => omega
                case rel => exact H3.out
              · have HC2 := Lib.hid (HC.out.miss hs2 hq)
                replace hEa : idxL (frB a) ls (i + 1) = lo ++ [(i : Int)] := by rw [hEa]; simp [frB, hf]
                replace hEb : idxL (toB b) ls (i + 1) = ln ++ [(i : Int)] := by rw [hEb]; simp [toB, ht]
                replace hEc : idxL (fun l => frB a l && toB b l) ls (i + 1) = lm ++ [(i : Int)] := by rw [hEc]; simp [frB, toB, hf, ht]
                have HE := Lib.hid (And.intro hEa (And.intro hEb hEc))
                clear hEa hEb hEc hs2 HC
                go_wp2_with (at_builtin; refine wpList_append_one _ rfl _ _ rfl w2.heap.size _ lo rfl (HIn.out.alloc (.cells #[.int .i64 (i : Int)] 3)).r3.ro (wr.heap.size + 1) (i : Int) rfl (int_at2 _ _ _) (by omega) (HIn.out.alloc (.cells #[.int .i64 (i : Int)] 3)).bw.size ?_)
                intro v4 w4 hown hgrow hblk
                have HIn4 := Lib.hid ((HIn.out.alloc (.cells #[.int .i64 (i : Int)] 3)).put (lo' := lo ++ [(i : Int)]) hgrow (by rw [List.length_append]; exact hown) (by simpa only [World.size_alloc] using hblk))
                clear hown hgrow hblk
                obtain ⟨d0, d1, d2, d3⟩ := HIn4.out.bx.cells
                go_wp2_with (at_builtin; refine wpList_append_one _ rfl _ _ rfl w2.heap.size _ ln rfl (HIn4.out.turn.alloc (.cells #[.int .i64 (i : Int)] 3)).r3.ro w4.heap.size (i : Int) rfl (int_at _ _) (by omega) (HIn4.out.alloc (.cells #[.int .i64 (i : Int)] 3)).bw.size ?_)
                intro v5 w5 hown hgrow hblk
                have HIn5 := Lib.hid ((HIn4.out.turn.alloc (.cells #[.int .i64 (i : Int)] 3)).put (lo' := ln ++ [(i : Int)]) hgrow (by rw [List.length_append]; exact hown) (by simpa only [World.size_alloc] using hblk))
                replace HIn5 := Lib.hid HIn5.out.turn.turn
                clear hown hgrow hblk
                obtain ⟨d0, d1, d2, d3⟩ := HIn5.out.bx.cells
                go_wp2_with (at_builtin; refine wpList_append_one _ rfl _ _ rfl w2.heap.size _ lm rfl (HIn5.out.turn.turn.alloc (.cells #[.int .i64 (i : Int)] 3)).r3.ro w5.heap.size (i : Int) rfl (int_at _ _) (by omega) (HIn5.out.alloc (.cells #[.int .i64 (i : Int)] 3)).bw.size ?_)
                intro v6 w6 hown hgrow hblk
                have HIn6 := Lib.hid ((HIn5.out.turn.turn.alloc (.cells #[.int .i64 (i : Int)] 3)).put (lo' := lm ++ [(i : Int)]) hgrow (by rw [List.length_append]; exact hown) (by simpa only [World.size_alloc] using hblk))
                replace HIn6 := Lib.hid HIn6.out.turn
                clear hown hgrow hblk
                obtain ⟨d0, d1, d2, d3⟩ := HIn6.out.bx.cells
                have H3 : Hid (Fn2 ls x a b w2 (ls.length - (i + 1)) (.int .i64 ((i : Int) + 1)) (.int .i64 c2) v4 v5 v6 w6) := Lib.hid ⟨i + 1, _, by omega, rfl, by go_num, rfl, HC2.out, by rw [HE.out.1, HE.out.2.1, HE.out.2.2]; exact HIn6.out.r3, HIn6.out.bw⟩
                clear HE HC2 HIn
                go_wp2_with fail
                go_roundg (ls.length - (i + 1))
                case measure => omega
                case rel => exact H3.out
              · have HC2 := Lib.hid (CurL.hit hs2 hq)
                replace hEa : idxL (frB a) ls (i + 1) = lo := by rw [hEa]; simp [frB, hf]
                replace hEb : idxL (toB b) ls (i + 1) = ln := by rw [hEb]; simp [toB, ht]
                replace hEc : idxL (fun l => frB a l && toB b l) ls (i + 1) = lm := by rw [hEc]; simp [frB, toB, hf, ht]
                have HE := Lib.hid (And.intro hEa (And.intro hEb hEc))
                clear hEa hEb hEc hs2 HC
                have H3 : Hid (Fn2 ls x a b w2 (ls.length - (i + 1)) (.int .i64 ((i : Int) + 1)) (.int .i64 (i : Int)) u13 u14 u15 (wr.alloc (.cells #[.string l.nm, .int .i64 l.fr, .int .i64 l.to, .int .u64 l.ds] 31))) := Lib.hid ⟨i + 1, _, by omega, rfl, by go_num, rfl, HC2.out, by rw [HE.out.1, HE.out.2.1, HE.out.2.2]; exact HIn.out.r3, HIn.out.bw⟩
                clear HE HC2 HIn
                go_wp2_with fail
                go_roundg (ls.length - (i + 1))
                case measure => omega
                case rel => exact H3.out
              · have HC2 := Lib.hid (CurL.hit hs2 hq)
                replace hEa : idxL (frB a) ls (i + 1) = lo := by rw [hEa]; simp [frB, hf]
                replace hEb : idxL (toB b) ls (i + 1) = ln ++ [(i : Int)] := by rw [hEb]; simp [toB, ht]
                replace hEc : idxL (fun l => frB a l && toB b l) ls (i + 1) = lm := by rw [hEc]; simp [frB, toB, hf, ht]
                have HE := Lib.hid (And.intro hEa (And.intro hEb hEc))
                clear hEa hEb hEc hs2 HC
                go_wp2_with (at_builtin; refine wpList_append_one _ rfl _ _ rfl w2.heap.size _ ln rfl (HIn.out.turn.alloc (.cells #[.int .i64 (i : Int)] 3)).r3.ro (wr.heap.size + 1) (i : Int) rfl (int_at2 _ _ _) (by omega) (HIn.out.alloc (.cells #[.int .i64 (i : Int)] 3)).bw.size ?_)
                intro v4 w4 hown hgrow hblk
                have HIn4 := Lib.hid ((HIn.out.turn.alloc (.cells #[.int .i64 (i : Int)] 3)).put (lo' := ln ++ [(i : Int)]) hgrow (by rw [List.length_append]; exact hown) (by simpa only [World.size_alloc] using hblk))
                replace HIn4 := Lib.hid HIn4.out.turn.turn
                clear hown hgrow hblk
                obtain ⟨d0, d1, d2, d3⟩ := HIn4.out.bx.cells
                have H3 : Hid (Fn2 ls x a b w2 (ls.length - (i + 1)) (.int .i64 ((i : Int) + 1)) (.int .i64 (i : Int)) u13 v4 u15 w4) := Lib.hid ⟨i + 1, _, by omega, rfl, by go_num, rfl, HC2.out, by rw [HE.out.1, HE.out.2.1, HE.out.2.2]; exact HIn4.out.r3, HIn4.out.bw⟩
                clear HE HC2 HIn
                go_wp2_with fail
                go_roundg (ls.length - (i + 1))
                case measure => omega
                case rel => exact H3.out
              · have HC2 := Lib.hid (CurL.hit hs2 hq)
                replace hEa : idxL (frB a) ls (i + 1) = lo ++ [(i : Int)] := by rw [hEa]; simp [frB, hf]
                replace hEb : idxL (toB b) ls (i + 1) = ln := by rw [hEb]; simp [toB, ht]
                replace hEc : idxL (fun l => frB a l && toB b l) ls (i + 1) = lm := by rw [hEc]; simp [frB, toB, hf, ht]
                have HE := Lib.hid (And.intro hEa (And.intro hEb hEc))
                clear hEa hEb hEc hs2 HC
                go_wp2_with (at_builtin; refine wpList_append_one _ rfl _ _ rfl w2.heap.size _ lo rfl (HIn.out.alloc (.cells #[.int .i64 (i : Int)] 3)).r3.ro (wr.heap.size + 1) (i : Int) rfl (int_at2 _ _ _) (by omega) (HIn.out.alloc (.cells #[.int .i64 (i : Int)] 3)).bw.size ?_)
                intro v4 w4 hown hgrow hblk
                have HIn4 := Lib.hid ((HIn.out.alloc (.cells #[.int .i64 (i : Int)] 3)).put (lo' := lo ++ [(i : Int)]) hgrow (by rw [List.length_append]; exact hown) (by simpa only [World.size_alloc] using hblk))
                clear hown hgrow hblk
                obtain ⟨d0, d1, d2, d3⟩ := HIn4.out.bx.cells
                have H3 : Hid (Fn2 ls x a b w2 (ls.length - (i + 1)) (.int .i64 ((i : Int) + 1)) (.int .i64 (i : Int)) v4 u14 u15 w4) := Lib.hid ⟨i + 1, _, by omega, rfl, by go_num, rfl, HC2.out, by rw [HE.out.1, HE.out.2.1, HE.out.2.2]; exact HIn4.out.r3, HIn4.out.bw⟩
                clear HE HC2 HIn
                go_wp2_with fail
                go_roundg (ls.length - (i + 1))
                case measure => omega
                case rel => exact H3.out
              · have HC2 := Lib.hid (CurL.hit hs2 hq)
                replace hEa : idxL (frB a) ls (i + 1) = lo ++ [(i : Int)] := by rw [hEa]; simp [frB, hf]
                replace hEb : idxL (toB b) ls (i + 1) = ln ++ [(i : Int)] := by rw [hEb]; simp [toB, ht]
                replace hEc : idxL (fun l => frB a l && toB b l) ls (i + 1) = lm ++ [(i : Int)] := by rw [hEc]; simp [frB, toB, hf, ht]
                have HE := Lib.hid (And.intro hEa (And.intro hEb hEc))
                clear hEa hEb hEc hs2 HC
                go_wp2_with (at_builtin; refine wpList_append_one _ rfl _ _ rfl w2.heap.size _ lo rfl (HIn.out.alloc (.cells #[.int .i64 (i : Int)] 3)).r3.ro (wr.heap.size + 1) (i : Int) rfl (int_at2 _ _ _) (by omega) (HIn.out.alloc (.cells #[.int .i64 (i : Int)] 3)).bw.size ?_)
                intro v4 w4 hown hgrow hblk
                have HIn4 := Lib.hid ((HIn.out.alloc (.cells #[.int .i64 (i : Int)] 3)).put (lo' := lo ++ [(i : Int)]) hgrow (by rw [List.length_append]; exact hown) (by simpa only [World.size_alloc] using hblk))
                clear hown hgrow hblk
                obtain ⟨d0, d1, d2, d3⟩ := HIn4.out.bx.cells
                go_wp2_with (at_builtin; refine wpList_append_one _ rfl _ _ rfl w2.heap.size _ ln rfl (HIn4.out.turn.alloc (.cells #[.int .i64 (i : Int)] 3)).r3.ro w4.heap.size (i : Int) rfl (int_at _ _) (by omega) (HIn4.out.alloc (.cells #[.int .i64 (i : Int)] 3)).bw.size ?_)
                intro v5 w5 hown hgrow hblk
                have HIn5 := Lib.hid ((HIn4.out.turn.alloc (.cells #[.int .i64 (i : Int)] 3)).put (lo' := ln ++ [(i : Int)]) hgrow (by rw [List.length_append]; exact hown) (by simpa only [World.size_alloc] using hblk))
                replace HIn5 := Lib.hid HIn5.out.turn.turn
                clear hown hgrow hblk
                obtain ⟨d0, d1, d2, d3⟩ := HIn5.out.bx.cells
                go_wp2_with (at_builtin; refine wpList_append_one _ rfl _ _ rfl w2.heap.size _ lm rfl (HIn5.out.turn.turn.alloc (.cells #[.int .i64 (i : Int)] 3)).r3.ro w5.heap.size (i : Int) rfl (int_at _ _) (by omega) (HIn5.out.alloc (.cells #[.int .i64 (i : Int)] 3)).bw.size ?_)
                intro v6 w6 hown hgrow hblk
                have HIn6 := Lib.hid ((HIn5.out.turn.turn.alloc (.cells #[.int .i64 (i : Int)] 3)).put (lo' := lm ++ [(i : Int)]) hgrow (by rw [List.length_append]; exact hown) (by simpa only [World.size_alloc] using hblk))
                replace HIn6 := Lib.hid HIn6.out.turn
                clear hown hgrow hblk
                obtain ⟨d0, d1, d2, d3⟩ := HIn6.out.bx.cells
                have H3 : Hid (Fn2 ls x a b w2 (ls.length - (i + 1)) (.int .i64 ((i : Int) + 1)) (.int .i64 (i : Int)) v4 v5 v6 w6) := Lib.hid ⟨i + 1, _, by omega, rfl, by go_num, rfl, HC2.out, by rw [HE.out.1, HE.out.2.1, HE.out.2.2]; exact HIn6.out.r3, HIn6.out.bw⟩
                clear HE HC2 HIn
                go_wp2_with fail
                go_roundg (ls.length - (i + 1))
                case measure => omega
                case rel => exact H3.out
            · obtain rfl : i = ls.length := by omega
              have HR2 := Lib.hid (hc.first HG.out.rl)
              have h128 : ls.length ≤ 128 := by omega
              have HFE : Hid (FnE w (.slice ra rs.length rcap) (.slice la ls.length lcap) rs ls u13 u14 u15 (intsL (whS (frB a) ls).1 (whS (frB a) ls).2) (intsL (whS (toB b) ls).1 (whS (toB b) ls).2) (intsL ((whS (frB a) ls).1 &&& (whS (toB b) ls).1) ((whS (frB a) ls).2 &&& (whS (toB b) ls).2)) wr) := Lib.hid ⟨HI2.out.step hb, by rw [ints_whS _ h128]; exact IntsAt.own hr3.ro rfl, by rw [ints_whS _ h128]; exact IntsAt.own hr3.rn rfl, by rw [ints_both _ _ h128]; exact IntsAt.own hr3.rm rfl⟩
              have HRo := Lib.hid (fun W (h : TpAt W (.slice ra rs.length rcap) (.slice la ls.length lcap) rs ls) => router_any x _ _ rs ls W h (by omega))
              rw [HR.out] at HRo
              have HLk := Lib.hid (fun W (h : TpAt W (.slice ra rs.length rcap) (.slice la ls.length lcap) rs ls) => link_any x _ _ rs ls W h (by omega))
              rw [HR2.out] at HLk
              have HOu := Lib.hid (fun W (h : TpAt W (.slice ra rs.length rcap) (.slice la ls.length lcap) rs ls) => tOut_any a _ _ rs ls W h (by omega))
              have HIn := Lib.hid (fun W (h : TpAt W (.slice ra rs.length rcap) (.slice la ls.length lcap) rs ls) => tIn_any b _ _ rs ls W h (by omega))
              have HBt := Lib.hid (fun W (h : TpAt W (.slice ra rs.length rcap) (.slice la ls.length lcap) rs ls) => between_any a b _ _ rs ls W h (by omega))
              obtain ⟨p1, p2⟩ := whS_u64 (frB a) ls
              obtain ⟨p3, p4⟩ := whS_u64 (toB b) ls
              have HI1 := Lib.hid (fun W v (h : IntsAt W v (intsL (whS (frB a) ls).1 (whS (frB a) ls).2)) (h2 : TabB W) => is_any _ _ p1 p2 v W h h2)
              have HI3 := Lib.hid (fun W v (h : IntsAt W v (intsL (whS (toB b) ls).1 (whS (toB b) ls).2)) (h2 : TabB W) => is_any _ _ p3 p4 v W h h2)
              have HI4 := Lib.hid (fun W v (h : IntsAt W v (intsL ((whS (frB a) ls).1 &&& (whS (toB b) ls).1) ((whS (frB a) ls).2 &&& (whS (toB b) ls).2))) (h2 : TabB W) => is_any _ _ (p1.and _) (p2.and _) v W h h2)
              clear p1 p2 p3 p4 hr3 hc hb hlt hi hgi h128 HR HR2 k0 k1
              generalize (whS (frB a) ls).1 &&& (whS (toB b) ls).1 = z1 at *
              generalize (whS (frB a) ls).2 &&& (whS (toB b) ls).2 = z2 at *
              generalize (whS (frB a) ls).1 = x1 at *
              generalize (whS (frB a) ls).2 = x2 at *
              generalize (whS (toB b) ls).1 = y1 at *
              generalize (whS (toB b) ls).2 = y2 at *
              have k0 := HFE.out.aw.tb.c0
              have k1 := HFE.out.aw.tb.c1
              go_wp2_with fail
              refine (HRo.out _ HFE.out.aw.tb.tp).mono ?_
              rintro e w20 ⟨rfl, bb⟩
              have HFE0 := Lib.hid (HFE.out.step bb)
              clear bb HRo HFE k0 k1
              have k0 := HFE0.out.aw.tb.c0
              have k1 := HFE0.out.aw.tb.c1
              go_wp2_with fail
              refine (HLk.out _ HFE0.out.aw.tb.tp).mono ?_
              rintro e w21 ⟨rfl, bb⟩
              have HFE1 := Lib.hid (HFE0.out.step bb)
              clear bb HLk HFE0 k0 k1
              have k0 := HFE1.out.aw.tb.c0
              have k1 := HFE1.out.aw.tb.c1
              go_wp2_with fail
              refine (HOu.out _ HFE1.out.aw.tb.tp).mono ?_
              rintro e w22 ⟨rfl, bb⟩
              have HFE2 := Lib.hid (HFE1.out.step bb)
              clear bb HOu HFE1 k0 k1
              have k0 := HFE2.out.aw.tb.c0
              have k1 := HFE2.out.aw.tb.c1
              go_wp2_with fail
              refine (HI1.out _ _ HFE2.out.io HFE2.out.aw.tab).mono ?_
              rintro e w23 ⟨rfl, bb⟩
              have HFE3 := Lib.hid (HFE2.out.step bb)
              clear bb HI1 HFE2 k0 k1
              have k0 := HFE3.out.aw.tb.c0
              have k1 := HFE3.out.aw.tb.c1
              go_wp2_with fail
              refine (HIn.out _ HFE3.out.aw.tb.tp).mono ?_
              rintro e w24 ⟨rfl, bb⟩
              have HFE4 := Lib.hid (HFE3.out.step bb)
              clear bb HIn HFE3 k0 k1
              have k0 := HFE4.out.aw.tb.c0
              have k1 := HFE4.out.aw.tb.c1
              go_wp2_with fail
              refine (HI3.out _ _ HFE4.out.jn HFE4.out.aw.tab).mono ?_
              rintro e w25 ⟨rfl, bb⟩
              have HFE5 := Lib.hid (HFE4.out.step bb)
              clear bb HI3 HFE4 k0 k1
              have k0 := HFE5.out.aw.tb.c0
              have k1 := HFE5.out.aw.tb.c1
              go_wp2_with fail
              refine (HBt.out _ HFE5.out.aw.tb.tp).mono ?_
              rintro e w26 ⟨rfl, bb⟩
              have HFE6 := Lib.hid (HFE5.out.step bb)
              clear bb HBt HFE5 k0 k1
              have k0 := HFE6.out.aw.tb.c0
              have k1 := HFE6.out.aw.tb.c1
              go_wp2_with fail
              refine (HI4.out _ _ HFE6.out.im HFE6.out.aw.tab).mono ?_
              rintro e w27 ⟨rfl, bb⟩
              have HFE7 := Lib.hid (HFE6.out.step bb)
              clear bb HI4 HFE6 k0 k1
              have k0 := HFE7.out.aw.tb.c0
              have k1 := HFE7.out.aw.tb.c1
              go_wp2_with fail
              go_ret
              exact ⟨rfl, HFE7.out.aw.tb.below⟩
end Go.Proofs.YtkijbiaenfeijaaGreatDoor

namespace Go.Proofs.YtkijbiaenfeijaaGreatDoor
open Go.ChangeShapes Go.WideShapes Go.ChangeAt Go.RowKit

set_option maxRecDepth 100000 in
theorem topoFinds_lifted (os : Os) (started : os.Started) (H : Type) (enc : TypeId × Value → H) :
    ReturnsInHanded {} Tryz.checked os 3 .any (fun w args => (Rows.topoFindsSpec.pre enc Tryz.prog Tryz.f3 [] false w args ∧ laidMetH Tryz.prog loneH w) ∧ sizedMet enc Tryz.prog Tryz.f3 (OpenSpec.ofChange Rows.topoFindsSpec) false w args)
      (Rows.topoFindsSpec.post enc Tryz.prog Tryz.f3 false true false false) := by
  refine returnsInHanded_of_change_and (C := Tryz.checked) (X := fun w _ => laidMetH Tryz.prog loneH w) (fun _ _ _ hh h => h.of_heap hh) Tryz.own started (by kernel_rfl) Tryz.func3
    (ChangeSpec.witness_shaped (enc := enc) (C := Tryz.checked) (os := os) (X := fun w _ => laidMetH Tryz.prog loneH w) false (laidWorldT os) #[.agg #[.slice none 0 0, .slice none 0 0], .string ByteArray.empty, .int .i64 0, .int .i64 0] 8 rfl (World.shaped_of_RefB (by kernel_rfl) (by kernel_rfl)) (by kernel_rfl) (by kernel_rfl) (by kernel_rfl) (laidWorldT_metH os _)) ?_
  intro W base args ds gs before hval0 hW _ _ hL _
  have hval : ∀ (j : Nat) t v, Tryz.f3.params[j]? = some t → args[j]? = some v → Value.okWide Tryz.prog W .any base t v := hval0
  have hW' := hW
  obtain ⟨p, q, hA0, hV, rfl, hfz, hnd⟩ := hW
  have hA : DataW.TrodAll enc Tryz.prog W 0 (fun _ => true) true Tryz.f3.params.toList args.toList ds p := hA0
  rw [Tryz.params3] at hA hval
  obtain ⟨v0, v1, v2, v3, d0, d1, d2, d3, p0, p1, p2, p3, rfl, rfl, rfl, h0, h1, h2, h3⟩ := trodAll_four hA
  obtain ⟨vr, vl, rs, ls, rfl, ht0, hd0⟩ := topo_of_trod h0
  obtain ⟨s, rfl, rfl, rfl, ws⟩ := Go.ChangeMaps.open_string Tryz.underlying9 (hval 1 9 v1 rfl rfl) h1
  obtain ⟨a, rfl, rfl, rfl, wa⟩ := open_int Tryz.underlying3 (hval 2 3 v2 rfl rfl) h2
  obtain ⟨b, rfl, rfl, rfl, wb⟩ := open_int Tryz.underlying3 (hval 3 3 v3 rfl rfl) h3
  refine (topoFinds_any s ws a b vr vl rs ls W ht0 hd0 (handle_of_laidH hL) (tab_of_laidH hL)).mono fun e W' ⟨he, hb⟩ => ?_
  subst he
  exact ⟨_, rfl, law_post (by kernel_rfl) rfl (by rw [Tryz.params3]; decide +kernel) hW' hb (by simp [Rows.topoFindsSpec]) (by simp [Rows.topoFindsSpec]) (by simp [Rows.topoFindsSpec])⟩

theorem topoFinds_holds : Rows.TopoFindsSaid :=
  OpenClaim.holds_of_wide 3 Tryz.f3 rfl rfl rfl rfl rfl rfl rfl ⟨rfl, rfl, rfl, rfl, rfl⟩ rfl rfl rfl rfl rfl (by kernel_rfl) Tryz.func3 (by kernel_rfl)
    (of_decide_eq_true (by kernel_rfl)) (by unfold Func.isWrapper; rw [if_neg (of_decide_eq_false (by kernel_rfl))]; exact ⟨rfl, rfl⟩)
    (fun os started H enc _ => topoFinds_lifted os started H enc)

theorem topoFinds_card : Rows.TopoFindsCardSaid :=
  Claim7.holds_tied_plain_at .later [] [.data, .handle] true Rows.topoFindsCard.stood.harness true
    topoFinds_holds (fun _ h => by cases h) (by kernel_rfl) (fun _ h => by cases h) topoFinds_row_tie rfl ⟨rfl, rfl⟩ (by kernel_rfl) rfl
    (fun f fn hf hfn => by
      obtain rfl : f = 3 := Option.some.inj ((show Tryz.prog.funcNamed "fairlead/fairleadlaw11.TopoFinds" = some 3 by kernel_rfl).symm.trans hf) |>.symm
      obtain rfl : fn = Tryz.f3 := (Option.some.inj (Tryz.func3.symm.trans hfn)).symm
      exact ⟨by kernel_rfl, fun j t ht => by
        have hk : ∀ t ∈ Tryz.f3.params.toList, Tryz.prog.wantsStandIn t = false := by rw [Tryz.params3]; decide +kernel
        exact hk t (by
          obtain ⟨hj, e⟩ := Array.getElem?_eq_some_iff.1 ht
          rw [← e]
          simp)⟩)
    (by kernel_rfl)
#print axioms topoFinds_card
end Go.Proofs.YtkijbiaenfeijaaGreatDoor
