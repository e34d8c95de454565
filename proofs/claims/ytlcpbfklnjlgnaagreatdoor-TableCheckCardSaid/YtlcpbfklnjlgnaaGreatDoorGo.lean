/-
  Package topo by contracts, fifth part: Least, plain: how many links are left, what the search keeps; a heap abides turns of blocks that are no cells.
  Package topo by contracts, sixth part: Least, its walk.
-/
import Derived.Test.YtlcpbfklnjlgnaaGreatDoorGn
import Derived.Test.YtlcpbfklnjlgnaaGreatDoorGg
import Derived.Test.YtlcpbfklnjlgnaaGreatDoorGm
namespace Go.Proofs.YtlcpbfklnjlgnaaGreatDoor
open Go.RowKit Go.Extern.Stop Go.Stop Go.Extern Go.Shelf

theorem part_len {α : Type} (P Q : α → Bool) : ∀ l : List α, (l.filter P).length = (l.filter fun x => P x && Q x).length + (l.filter fun x => P x && !Q x).length
  | [] => rfl
  | x :: l => by
    have ih := part_len P Q l
    rw [List.filter_cons, List.filter_cons, List.filter_cons]
    cases P x <;> cases Q x <;> simp <;> omega
theorem range_filt (p : Nat → Bool) (m k : Nat) (hm : m ≤ k) (h : ∀ j, m ≤ j → p j = false) : ((List.range k).filter p).length = ((List.range m).filter p).length := by
  obtain ⟨d, rfl⟩ : ∃ d, k = m + d := ⟨k - m, by omega⟩
  rw [List.range_add, List.filter_append, List.length_append]
  have : ((List.range d).map fun x => m + x).filter p = [] := by
    rw [List.filter_eq_nil_iff]
    intro x hx
    obtain ⟨y, -, rfl⟩ := List.mem_map.1 hx
    rw [h _ (by omega)]
    decide
  rw [this]
  rfl
def outN (ls : List Lk) (F : Nat → Bool) (L : Int → Bool) (i : Nat) : Bool := !F i && (ls[i]?.map fun l => L l.fr).getD false
/-- How many links that did not fail begin at those that are left. -/
def remL (ls : List Lk) (F : Nat → Bool) (L : Int → Bool) : Nat := ((List.range ls.length).filter (outN ls F L)).length
theorem remL_le (ls : List Lk) (F : Nat → Bool) (L : Int → Bool) : remL ls F L ≤ ls.length := by
  unfold remL
  have := List.length_filter_le (outN ls F L) (List.range ls.length)
  simpa using this
theorem remL_split (ls : List Lk) (F : Nat → Bool) (L L' : Int → Bool) (r : Int) (hr : L r = true) (hL : ∀ v, L' v = (L v && decide (v ≠ r))) :
    remL ls F L = ((List.range ls.length).filter fun i => !F i && (ls[i]?.map (frB r)).getD false).length + remL ls F L' := by
  unfold remL
  rw [part_len (outN ls F L) (fun i => (ls[i]?.map (frB r)).getD false)]
  congr 2
  · apply List.filter_congr
    intro i _
    unfold outN
    cases ls[i]? with
    | none => simp
    | some l =>
      simp only [Option.map_some, Option.getD_some]
      by_cases h : l.fr = r
      · simp [frB, h, hr]
      · simp [frB, beq_eq_false_iff_ne.2 h]
  · apply List.filter_congr
    intro i _
    unfold outN
    cases ls[i]? with
    | none => simp
    | some l =>
      simp only [Option.map_some, Option.getD_some]
      rw [hL]
      by_cases h : l.fr = r
      · simp [frB, h]
      · simp [frB, h]
/-- The words of the links that begin at a router, those that failed aside. -/
def outW (ls : List Lk) (r : Int) (fa fb : Nat) : Nat × Nat := (lessN (whS (frB r) ls).1 fa, lessN (whS (frB r) ls).2 fb)
theorem has_out {ls : List Lk} {r : Int} {fa fb : Nat} (ua : U64 fa) (ub : U64 fb) (j : Nat) : hasB (outW ls r fa fb).1 (outW ls r fa fb).2 j = (decide (j < 128) && (ls[j]?.map (frB r)).getD false && !hasB fa fb j) := by
  obtain ⟨u1, u2⟩ := whS_u64 (frB r) ls
  unfold outW
  rw [hasB_less u1 u2 ua ub]
  unfold whS
  rw [hasB_idx]
theorem out_link {ls : List Lk} {r : Int} {fa fb : Nat} (ua : U64 fa) (ub : U64 fb) {j : Nat} (h : hasB (outW ls r fa fb).1 (outW ls r fa fb).2 j = true) : ∃ l, ls[j]? = some l ∧ l.fr = r ∧ hasB fa fb j = false := by
  rw [has_out ua ub] at h
  simp only [Bool.and_eq_true, Bool.not_eq_true'] at h
  obtain ⟨⟨_, h1⟩, h2⟩ := h
  cases hl : ls[j]? with
  | none => rw [hl] at h1; simp at h1
  | some l => rw [hl] at h1; exact ⟨l, rfl, by simpa [frB] using h1, h2⟩
theorem out_len {ls : List Lk} {r : Int} {fa fb : Nat} (ua : U64 fa) (ub : U64 fb) (hl : ls.length ≤ 128) : (listM (outW ls r fa fb).1 (outW ls r fa fb).2).length = ((List.range ls.length).filter fun i => !hasB fa fb i && (ls[i]?.map (frB r)).getD false).length := by
  have h1 : (listM (outW ls r fa fb).1 (outW ls r fa fb).2).length = (setL (outW ls r fa fb).1 (outW ls r fa fb).2).length := by
    rw [← listN_val, List.length_map, ← listM_val, List.length_map]
  rw [h1, setL_eq, range_filt _ ls.length 128 hl (fun j hj => by rw [has_out ua ub, List.getElem?_eq_none hj]; simp)]
  congr 1
  apply List.filter_congr
  intro i hi
  have := List.mem_range.1 hi
  rw [has_out ua ub]
  cases hasB fa fb i <;> simp <;> omega
theorem hasI_without {a b : Nat} (ha : U64 a) (hb : U64 b) {r : Int} (hr : 0 ≤ r ∧ r < 128) (v : Int) : hasI (lessN a (oneW r).1) (lessN b (oneW r).2) v = (hasI a b v && decide (v ≠ r)) := by
  unfold hasI
  rw [hasB_less ha hb (oneW_u64 r).1 (oneW_u64 r).2, hasB_one, Bool.eq_iff_iff]
  simp only [Bool.and_eq_true, decide_eq_true_eq, Bool.not_eq_true', Bool.and_eq_false_iff, decide_eq_false_iff_not]
  constructor
  · rintro ⟨h0, h1, h2⟩
    refine ⟨⟨h0, h1⟩, fun e => ?_⟩
    rcases h2 with h2 | h2
    · exact h2 (by omega)
    · by_cases hj : v.toNat < 128
      · exact h2 hj
      · rw [hasB_ge _ _ (by omega)] at h1; cases h1
  · rintro ⟨⟨h0, h1⟩, h2⟩
    exact ⟨h0, h1, .inl (by omega)⟩

section
variable {ls : List Lk} {n : Nat} {F : Nat → Bool} {a to : Int}
/-- Between two rounds of the search. -/
structure LeI (ls : List Lk) (n : Nat) (F : Nat → Bool) (a to : Int) (a1 b1 : Nat) (q : List (E Int)) : Prop where
  u1 : U64 a1
  u2 : U64 b1
  sub : ∀ v, hasI a1 b1 v = true → InN n v
  dij : Dij ls n F a (fun u => hasI a1 b1 u = true) (fun _ => True) q
  goal : InN n to → hasI a1 b1 to = true
theorem LeI.init (hn : n ≤ 128) (a to : Int) : LeI ls n F a to (ofS (firstN (min (n : Int) 128).toNat)).1 (ofS (firstN (min (n : Int) 128).toNat)).2 [⟨0, 0, a⟩] := by
  have h := has_routers n hn
  refine ⟨(ofS_u64 _).1, (ofS_u64 _).2, fun v hv => ?_, Dij.init _ (fun u => ?_) _ rfl rfl, fun ht => ?_⟩
  · rw [h] at hv; exact of_decide_eq_true hv
  · rw [h]; exact decide_eq_true_iff
  · rw [h]; exact decide_eq_true ht
theorem LeI.skip {a1 b1 : Nat} {e : E Int} {q : List (E Int)} (h : LeI ls n F a to a1 b1 (e :: q)) (hx : hasI a1 b1 e.x = false) : LeI ls n F a to a1 b1 q :=
  ⟨h.u1, h.u2, h.sub, h.dij.skip (by rw [hx]; decide), h.goal⟩
theorem LeI.none (hm : MayL n ls) {a1 b1 : Nat} (h : LeI ls n F a to a1 b1 []) : Told ls n F a to 0 false := .inr ⟨rfl, rfl, h.dij.none hm h.goal⟩
theorem LeI.hit (hm : MayL n ls) {a1 b1 : Nat} {e : E Int} {q : List (E Int)} (h : LeI ls n F a to a1 b1 (e :: q)) (hs : Sorted (e :: q)) (hx : hasI a1 b1 e.x = true) (he : e.x = to) : Told ls n F a to e.c true := by
  refine .inl ⟨rfl, ?_⟩
  rw [← he]
  exact h.dij.pop hm hs hx
/-- On the way through the links of one. -/
structure LnI (ls : List Lk) (n : Nat) (F : Nat → Bool) (a to : Int) (a2 b2 : Nat) (r c : Int) (pre : List Nat) (q : List (E Int)) : Prop where
  u1 : U64 a2
  u2 : U64 b2
  sub : ∀ v, hasI a2 b2 v = true → InN n v
  best : Best ls n F a r c
  dij : Dij ls n F a (fun u => hasI a2 b2 u = true) (fun i => (∀ l, ls[i]? = some l → l.fr ≠ r) ∨ i ∈ pre) q
  goal : InN n to → hasI a2 b2 to = true
theorem LeI.mark (hm : MayL n ls) (hn : n ≤ 128) {a1 b1 : Nat} {e : E Int} {q : List (E Int)} (h : LeI ls n F a to a1 b1 (e :: q)) (hs : Sorted (e :: q)) (hx : hasI a1 b1 e.x = true) (he : e.x ≠ to) :
    LnI ls n F a to (lessN a1 (oneW e.x).1) (lessN b1 (oneW e.x).2) e.x e.c [] q := by
  have hr := h.sub _ hx
  have hr' : 0 ≤ e.x ∧ e.x < 128 := by unfold InN at hr; omega
  refine ⟨U64.less _ h.u1, U64.less _ h.u2, fun v hv => ?_, h.dij.pop hm hs hx, ?_, fun ht => ?_⟩
  · rw [hasI_without h.u1 h.u2 hr', Bool.and_eq_true] at hv
    exact h.sub v hv.1
  · refine (h.dij.mark hm hs hx (L' := fun u => hasI (lessN a1 (oneW e.x).1) (lessN b1 (oneW e.x).2) u = true) fun u => ?_).kless fun i hi => ?_
    · rw [hasI_without h.u1 h.u2 hr', Bool.and_eq_true, decide_eq_true_eq]
    · rcases hi with hi | hi
      · exact hi
      · cases hi
  · rw [hasI_without h.u1 h.u2 hr', Bool.and_eq_true]
    exact ⟨h.goal ht, by simpa using fun e' => he e'.symm⟩
theorem LnI.put {a2 b2 : Nat} {r c : Int} {pre : List Nat} {q q' : List (E Int)} (h : LnI ls n F a to a2 b2 r c pre q) {j : Nat} {l : Lk} (hj : ls[j]? = some l) (hF : F j = false) (hfr : l.fr = r)
    {e : E Int} (hx : e.x = l.to) (hc : e.c = addI c l.ds) (hq : ∀ y, y ∈ q' ↔ y = e ∨ y ∈ q) : LnI ls n F a to a2 b2 r c (pre ++ [j]) q' := by
  refine ⟨h.u1, h.u2, h.sub, h.best, h.dij.put h.best hj hF hfr hx hc hq fun i hi => ?_, h.goal⟩
  rcases hi with hi | hi
  · exact .inl (.inl hi)
  · rcases List.mem_append.1 hi with hi | hi
    · exact .inl (.inr hi)
    · exact .inr (List.mem_singleton.1 hi)
theorem LnI.done {a2 b2 : Nat} {r c : Int} {pre : List Nat} {q : List (E Int)} (h : LnI ls n F a to a2 b2 r c pre q) (hp : ∀ i l, ls[i]? = some l → F i = false → l.fr = r → i ∈ pre) : LeI ls n F a to a2 b2 q := by
  refine ⟨h.u1, h.u2, h.sub, h.dij.all fun i l hi hF => ?_, h.goal⟩
  by_cases hr : l.fr = r
  · exact .inr (hp i l hi hF hr)
  · refine .inl fun l' hl' => ?_
    rw [hi] at hl'
    injection hl' with hl'
    rwa [← hl']
end
theorem out_all {ls : List Lk} {r : Int} {fa fb : Nat} (ua : U64 fa) (ub : U64 fb) (hl : ls.length ≤ 128) (i : Nat) (l : Lk) (hi : ls[i]? = some l) (hF : hasB fa fb i = false) (hfr : l.fr = r) : i ∈ ((listM (outW ls r fa fb).1 (outW ls r fa fb).2).map (·.1)).map (·.1) := by
  rw [listM_val, listN_val, setL_mem, has_out ua ub, hi, hF]
  have := (List.getElem?_eq_some_iff.1 hi).1
  simp [frB, hfr]
  omega

theorem sorted_cut {α : Type} (c : Int) : ∀ {q : List (E α)}, Sorted q → ∃ k, k ≤ q.length ∧ (∀ y ∈ q.take k, y.c ≤ c) ∧ (∀ y ∈ q.drop k, c < y.c)
  | [], _ => ⟨0, Nat.le_refl _, (fun _ h => by cases h), (fun _ h => by cases h)⟩
  | a :: q, h => by
    have h' := h
    unfold Sorted at h'
    rw [List.pairwise_cons] at h'
    by_cases hc : c < a.c
    · refine ⟨0, Nat.zero_le _, (fun _ h => by cases h), fun y hy => ?_⟩
      rcases List.mem_cons.1 hy with rfl | hy
      · exact hc
      · have := h'.1 y hy
        unfold E.lt at this
        omega
    · obtain ⟨k, hk, h1, h2⟩ := sorted_cut c (q := q) h'.2
      refine ⟨k + 1, Nat.succ_le_succ hk, fun y hy => ?_, h2⟩
      rcases List.mem_cons.1 hy with rfl | hy
      · omega
      · exact h1 y hy
theorem mem_put {α : Type} (q : List α) (k : Nat) (e y : α) : y ∈ q.take k ++ e :: q.drop k ↔ y = e ∨ y ∈ q := by
  rw [List.mem_append, List.mem_cons]
  conv => rhs; rw [← List.take_append_drop k q, List.mem_append]
  constructor
  · rintro (h | h | h)
    · exact .inr (.inl h)
    · exact .inl h
    · exact .inr (.inr h)
  · rintro (h | h | h)
    · exact .inr (.inl h)
    · exact .inl h
    · exact .inr (.inr h)
theorem len_put {α : Type} (q : List α) (k : Nat) (e : α) : (q.take k ++ e :: q.drop k).length = q.length + 1 := by
  rw [List.length_append, List.length_cons, List.length_take, List.length_drop]; omega

/-! ### A heap abides turns of blocks that are no cells -/
theorem TreeAt.own {α : Type} {enc : α → Value} {T : TypeId} {B : Nat} {X Y : World} {row : Option Nat} (hg : X.grownBy Y row) (hr : ∀ r, row = some r → ∃ o : Obj, X.heap[r]? = some o ∧ o.isCells = false) :
    ∀ {t : Tr α} {p : Option Addr}, TreeAt enc T B X p t → TreeAt enc T B Y p t
  | .nil, _, h => h
  | .node _ _ _ _, _, ⟨b, pl, pr, e, hb, hi, hl, hr'⟩ => ⟨b, pl, pr, e, hb, blk_kept hi rfl hg hr, hl.own hg hr, hr'.own hg hr⟩
theorem HpAt.own {α : Type} {enc : α → Value} {TI TH : TypeId} {B : Nat} {X Y : World} {row : Option Nat} {q : List (E α)} {n : Int} (h : HpAt enc TI TH B X q n) (hg : X.grownBy Y row) (hr : ∀ r, row = some r → ∃ o : Obj, X.heap[r]? = some o ∧ o.isCells = false) : HpAt enc TI TH B Y q n := by
  obtain ⟨p, t, h0, h1, h2⟩ := h
  exact ⟨p, t, blk_kept h0 rfl hg hr, h1.own hg hr, h2⟩
theorem HpAt.sorted {α : Type} {enc : α → Value} {TI TH : TypeId} {B : Nat} {w : World} {q : List (E α)} {n : Int} (h : HpAt enc TI TH B w q n) : Sorted q := by
  obtain ⟨p, t, -, -, h2, -⟩ := h
  exact h2.sorted
theorem HpAt.far {α : Type} {enc : α → Value} {TI TH : TypeId} {B : Nat} {w : World} {q : List (E α)} {n : Int} (h : HpAt enc TI TH B w q n) {b : Nat} (hb : b < B) (i : Nat) (u : Value) : HpAt enc TI TH B (w.setCell ⟨b, i, none⟩ u) q n :=
  h.step fun c hc _ => heap_setCell_other _ _ _ _ (by show c ≠ b; omega)
theorem HpAt.keeps {α : Type} {enc : α → Value} {TI TH : TypeId} {B : Nat} {w w' : World} {q : List (E α)} {n : Int} (h : HpAt enc TI TH B w q n) (hg : w.grownBy w' (some B)) : KeepsOthers w w' := by
  obtain ⟨p, t, h0, -⟩ := h
  refine KeepsOthers.of_grownBy hg fun j o e ho => ?_
  injection e with e
  subst e
  rw [h0] at ho
  injection ho with ho
  subst ho
  rfl
/-- What the call keeps all the way: its boxes of the topology and of the failed links. -/
structure LS (w : World) (vr vl : Value) (fa fb : Nat) (W : World) : Prop where
  topo : W.heap[w.heap.size]? = some (.cells #[vr, vl] 25 (0, 0))
  fl : SetAt W (w.heap.size + 1) fa fb
  below : Below w.heap.size w W
theorem LS.lt {w : World} {vr vl : Value} {fa fb : Nat} {W : World} (h : LS w vr vl fa fb W) : w.heap.size + 1 < W.heap.size := h.fl.lt
theorem LS.step {w : World} {vr vl : Value} {fa fb : Nat} {W W' : World} (h : LS w vr vl fa fb W) (hb : Below W.heap.size W W') : LS w vr vl fa fb W' :=
  ⟨(hb.block _ (Array.getElem?_eq_some_iff.1 h.topo).1).trans h.topo, h.fl.step hb, h.below.trans (hb.mono h.below.size)⟩
theorem LS.far {w : World} {vr vl : Value} {fa fb : Nat} {W : World} (h : LS w vr vl fa fb W) {b : Nat} (hb : w.heap.size + 1 < b) (i : Nat) (u : Value) : LS w vr vl fa fb (W.setCell ⟨b, i, none⟩ u) :=
  ⟨(heap_setCell_other _ _ _ _ (by show w.heap.size ≠ b; omega)).trans h.topo, h.fl.far (by omega) _ _, h.below.setCell (p := ⟨b, i, none⟩) (by show _ ≤ b; omega) _⟩
theorem LS.grown {w : World} {vr vl : Value} {fa fb : Nat} {W W' : World} (h : LS w vr vl fa fb W) {H : Nat} (hH : w.heap.size + 1 < H) (hg : W.grownBy W' (some H)) : LS w vr vl fa fb W' :=
  ⟨(hg.block _ (Array.getElem?_eq_some_iff.1 h.topo).1 (fun e => by injection e; omega)).trans h.topo, (hg.block _ h.fl.lt (fun e => by injection e; omega)).trans h.fl, h.below.grown hg h.below.size (fun k e => by cases e; omega)⟩
theorem LS.cells {w : World} {vr vl : Value} {fa fb : Nat} {W : World} (h : LS w vr vl fa fb W) : W.cell? ⟨w.heap.size, 0, none⟩ = some vr ∧ W.cell? ⟨w.heap.size, 1, none⟩ = some vl :=
  ⟨by rw [Lib.cell_of_heap h.topo]; rfl, by rw [Lib.cell_of_heap h.topo]; rfl⟩
theorem LS.own {w : World} {vr vl : Value} {fa fb S : Nat} (hS : w.heap.size ≤ S) {β : Type} : OwnFrom S (fun (_ : β) W => LS w vr vl fa fb W) := fun s X Y row hs hg hr =>
  ⟨blk_kept hs.topo rfl hg (fun r e => (hr r e).2), hs.fl.own hg (fun r e => (hr r e).2), ownFrom_below (β := β) (Nat.le_refl _) hS s X Y row hs.below hg hr⟩
theorem LS.start (w : World) (vr vl : Value) (fa fb : Nat) : LS w vr vl fa fb ((w.alloc (.cells #[vr, vl] 25)).alloc (.cells #[.int .u64 (fa : Int), .int .u64 (fb : Int)] 56)) := by
  refine ⟨(heap_alloc_old _ _ (by simp)).trans (heap_alloc_new w _), ?_, (below_new w _).trans ((below_new _ _).mono (below_new w _).size)⟩
  have := heap_alloc_new (w.alloc (.cells #[vr, vl] 25)) (.cells #[.int .u64 (fa : Int), .int .u64 (fb : Int)] 56)
  rwa [World.size_alloc] at this
theorem SetAt.grown {W W' : World} {b x y H : Nat} (h : SetAt W b x y) (hb : b ≠ H) (hg : W.grownBy W' (some H)) : SetAt W' b x y := (hg.block _ h.lt (fun e => by injection e with e; exact hb e)).trans h
end Go.Proofs.YtlcpbfklnjlgnaaGreatDoor

namespace Go.Proofs.YtlcpbfklnjlgnaaGreatDoor
open Go.RowKit Go.Extern.Stop Go.Stop Go.Extern Go.Shelf
attribute [local go_sem] Oper.semAt_some

/-- Between two rounds: those that are left, and the row of what may come next. -/
def LeR (w : World) (vr vl : Value) (ls : List Lk) (n fa fb : Nat) (a to : Int) (Lb k : Nat) (Ds : List Nat) (W : World) : Prop :=
  ∃ (a1 b1 : Nat) (q : List (E Int)) (m : Int), LeI ls n (hasB fa fb) a to a1 b1 q ∧ k = q.length + remL ls (hasB fa fb) (hasI a1 b1) ∧ k ≤ 65 ∧ m + (remL ls (hasB fa fb) (hasI a1 b1) : Nat) ≤ 65 ∧ HpAt hencI 184 155 (Lb + 1) W q m ∧ SetAt W Lb a1 b1 ∧ LS w vr vl fa fb W ∧ MarksAt Ds w.heap.size W

theorem LksAt.blt {w : World} {a : Option Addr} {n cap : Nat} {ls : List Lk} (h : LksAt w (.slice a n cap) ls) {i : Nat} {l : Lk} (hi : ls[i]? = some l) {b off : Nat} (ha : a = some ⟨b, off, none⟩) : b < w.heap.size := by
  rcases h with ⟨a, cap, -, rfl⟩ | ⟨b', off', cap, e, hlt, -⟩
  · simp at hi
  · injection e with e
    rw [ha] at e
    injection e with e
    injection e with e
    omega
set_option maxRecDepth 100000 in
set_option maxHeartbeats 8000000 in
theorem least_any (a to : Int) (fa fb : Nat) (ua : U64 fa) (ub : U64 fb) (vr vl : Value) (rs : List ByteArray) (ls : List Lk) (w : World) (ht : TpAt w vr vl rs ls) (hm : MayL rs.length ls) (hn : rs.length ≤ 64) (hl : ls.length ≤ 64) (htab : TabB w) :
    Calls Tryz.prog 61 #[.agg #[vr, vl], .int .i64 a, .int .i64 to, setV fa fb] w fun e w' => ∃ d o, e = .returned (.tuple #[.int .u64 d, .bool o]) ∧ Told ls rs.length (hasB fa fb) a to d o ∧ Below w.heap.size w w' := by
  refine (callsIn_wide (n := 3)).1 ?_
  have h1 : 1 ≤ 3 := by omega
  obtain ⟨la, lcap, rfl⟩ := ht.ls.form
  have HT := Lib.hid ht
  have HR0 := Lib.hid (LS.start w vr (.slice la ls.length lcap) fa fb)
  have HI0 := Lib.hid (LeI.init (ls := ls) (F := hasB fa fb) (show rs.length ≤ 128 by omega) a to)
  clear ht
  refine callsIn_of_wp_marks Tryz.func61 rfl trivial ?_ rfl
  simp only [Tryz.ntmps61, List.size_toArray, List.length_cons, List.length_nil, Nat.reduceAdd, Nat.reduceSub, Array.replicate_succ, Array.replicate_zero, List.push_toArray, List.append_toArray, List.nil_append, List.cons_append]
  obtain ⟨k0, k1⟩ := HR0.out.cells
  gi_wp2
  refine ⟨trivial, ?_⟩
  gi_at_call 94
  refine (callsIn_wide.2 (routers_any vr (.slice la ls.length lcap) rs ls _ (HT.out.step HR0.out.below) (by omega))).mono ?_
  rintro e w2 ⟨rfl, b2⟩
  have hR2 := HR0.out.step b2
  clear b2 HR0 k0 k1
  generalize (ofS (firstN (min (rs.length : Int) 128).toNat)).1 = p0 at *
  generalize (ofS (firstN (min (rs.length : Int) 128).toNat)).2 = q0 at *
  have hb3 := below_new w2 (.cells #[.int .u64 (p0 : Int), .int .u64 (q0 : Int)] 56)
  have hR3 := hR2.step hb3
  have hS3 := boxed_set w2 p0 q0
  have e3 : (w2.alloc (.cells #[.int .u64 (p0 : Int), .int .u64 (q0 : Int)] 56)).heap.size = w2.heap.size + 1 := World.size_alloc _ _
  have hb4 := below_new (w2.alloc (.cells #[.int .u64 (p0 : Int), .int .u64 (q0 : Int)] 56)) (.cells #[.pointer none, .int .i64 0, .int .u64 0] 155)
  have hR4 := hR3.step hb4
  have hS4 := hS3.step hb4
  have hH4 := heap_new (w2.alloc (.cells #[.int .u64 (p0 : Int), .int .u64 (q0 : Int)] 56)) hencI 184 155
  rw [e3] at hH4
  have HP := Lib.hid (putI_any (B := w2.heap.size + 1) (q := []) (n := 0) 0 a 0 _ hH4 (by decide) (by decide) (fun y hy => by cases hy) (fun y hy => by cases hy))
  have HL2 : Hid (w.heap.size + 1 < w2.heap.size) := Lib.hid hR2.lt
  have HR4 := Lib.hid hR4
  have HS4 := Lib.hid hS4
  clear hR2 hb3 hR3 hS3 e3 hb4 hR4 hS4 hH4
  generalize hLb : w2.heap.size = Lb at *
  gi_wp2
  refine ⟨trivial, ?_⟩
  gi_at_call 95
  refine (callsIn_wide.2 HP.out).mono ?_
  rintro e w5 ⟨⟨v5, rfl⟩, h5, g5⟩
  have HR5 := Lib.hid (HR4.out.grown (by have := HL2.out; omega) g5)
  have HS5 := Lib.hid (HS4.out.grown (by omega) g5)
  have HH5 : Hid (HpAt hencI 184 155 (Lb + 1) w5 [⟨0, 0, a⟩] 1) := Lib.hid h5
  have HRem := Lib.hid (remL_le ls (hasB fa fb) (hasI p0 q0))
  clear h5 g5 HR4 HS4 HP
  gi_wp2
  refine wpIn_loop_ghost_k (fun k A W => ∃ (Ds : List Nat) (u12 u13 u14 u15 u16 u17 u18 u19 u20 u21 u22 u23 u24 u25 u26 u27 u28 u29 u30 u31 u32 u33 u34 u35 u36 u37 u38 u39 u40 u41 u42 u43 u44 u45 u46 u47 u48 u49 u50 u51 u52 u53 u54 u55 u56 u57 u58 u59 : Value), LeR w vr (.slice la ls.length lcap) ls rs.length fa fb a to Lb k Ds W ∧
    A = { tmps := #[.agg #[vr, .slice la ls.length lcap], .int .i64 a, .int .i64 to, setV fa fb, .pointer (some ⟨w.heap.size, 0, none⟩), undef, undef, .pointer (some ⟨w.heap.size + 1, 0, none⟩), .int .u64 0, .bool false, .pointer (some ⟨Lb, 0, none⟩), .pointer (some ⟨Lb + 1, 0, none⟩), u12, u13, u14, u15, u16, u17, u18, u19, u20, u21, u22, u23, u24, u25, u26, u27, u28, u29, u30, u31, u32, u33, u34, u35, u36, u37, u38, u39, u40, u41, u42, u43, u44, u45, u46, u47, u48, u49, u50, u51, u52, u53, u54, u55, u56, u57, u58, u59], defers := marks Ds }) (1 + remL ls (hasB fa fb) (hasI p0 q0)) ⟨[], _, _, _, _, _, _, _, _, _, _, _, _, _, _, _, _, _, _, _, _, _, _, _, _, _, _, _, _, _, _, _, _, _, _, _, _, _, _, _, _, _, _, _, _, _, _, _, _, ⟨p0, q0, _, _, HI0.out, rfl, by have := HRem.out; omega, by have := HRem.out; omega, HH5.out, HS5.out, HR5.out, MarksAt.nil _ _⟩, rfl⟩ ?_
  clear HI0 HS5 HR5 HH5 HRem
  rintro gk A W ⟨Ds, u12, u13, u14, u15, u16, u17, u18, u19, u20, u21, u22, u23, u24, u25, u26, u27, u28, u29, u30, u31, u32, u33, u34, u35, u36, u37, u38, u39, u40, u41, u42, u43, u44, u45, u46, u47, u48, u49, u50, u51, u52, u53, u54, u55, u56, u57, u58, u59, ⟨a1, b1, q, m, hI, hgk, hk65, hm65, hH, hS, hR, hMk⟩, rfl⟩ J K hJ hK
  have HJ := Lib.hid hJ
  have HK := Lib.hid hK
  have HG := Lib.hid hgk
  have HG2 := Lib.hid hk65
  have HG3 := Lib.hid hm65
  have HM := Lib.hid hMk
  have HR := Lib.hid hR
  have HS := Lib.hid hS
  have HH := Lib.hid hH
  have HLen := Lib.hid (lenI_any W hH)
  clear hJ hK hgk hk65 hm65 hMk hR hS hH
  cases q with
  | nil =>
    have HF := Lib.hid (hI.none hm)
    clear hI
    gi_wp2
    refine ⟨trivial, ?_⟩
    gi_at_call 96
    refine (callsIn_wide.2 HLen.out).mono ?_
    rintro e w6 ⟨rfl, rfl⟩
    gi_wp2
    refine leaves_marks (B := w.heap.size) Ds _ HM.out fun w' hsh => ⟨.tuple #[.int .u64 0, .bool false], ?_, 0, false, rfl, HF.out, HR.out.below.trans hsh.below⟩
    simp [results, Tryz.f61, go_sem]
  | cons e q =>
    have hpos : (0 : Int) < ((e :: q).length : Int) := by rw [List.length_cons]; omega
    have HI := Lib.hid hI
    have hql : q.length ≤ 1000 := by have h1 := HG.out; have h2 := HG2.out; rw [List.length_cons] at h1; omega
    have HT2 := Lib.hid (takeI_some W HH.out hql)
    have HSo := Lib.hid HH.out.sorted
    clear hI hql
    generalize hlen : ((e :: q).length : Int) = z at *
    clear hlen
    gi_wp2
    refine ⟨trivial, ?_⟩
    gi_at_call 96
    refine (callsIn_wide.2 HLen.out).mono ?_
    rintro e' w6 ⟨rfl, rfl⟩
    gi_wp2
    refine ⟨trivial, ?_⟩
    gi_at_call 97
    refine (callsIn_wide.2 HT2.out).mono ?_
    rintro e' w7 ⟨rfl, ⟨m7, hm7, h7⟩, g7⟩
    have hR7 := HR.out.grown (by have := HL2.out; omega) g7
    have hS7 := HS.out.grown (by omega) g7
    have hM7 := HM.out.keep (HH.out.keeps g7)
    have hb8 := below_new w7 (.cells #[.int .u64 e.c] 54)
    have hR8 := hR7.step hb8
    have hS8 := hS7.step hb8
    have hM8 := hM7.keep (KeepsOthers.alloc _ (.cells #[.int .u64 e.c] 54))
    have hH8 := h7.below hb8
    have hd8 : (w7.alloc (.cells #[.int .u64 e.c] 54)).heap[w7.heap.size]? = some (.cells #[.int .u64 e.c] 54 (0, 0)) := heap_alloc_new w7 _
    have hd7 : Hid (Lb + 1 < w7.heap.size) := Lib.hid h7.lt
    obtain ⟨l0, l1, -⟩ := hS8.cells
    have HHas := Lib.hid (fun W => has_any a1 b1 e.x HI.out.u1 HI.out.u2 W)
    have HR8 := Lib.hid hR8
    have HS8 := Lib.hid hS8
    have HM8 := Lib.hid hM8
    have HH8 := Lib.hid hH8
    have HD8 := Lib.hid hd8
    have HM7 := Lib.hid hm7
    clear g7 h7 hR7 hS7 hM7 hb8 hR8 hS8 hM8 hH8 hd8 hm7 HLen HT2 HR HS HM HH hpos
    gi_wp2
    refine ⟨trivial, ?_⟩
    gi_at_call 34
    refine (callsIn_wide.2 (HHas.out _)).mono ?_
    rintro e' w9 ⟨rfl, b9⟩
    have hR9 := HR8.out.step b9
    have hS9 := HS8.out.step b9
    have hM9 := HM8.out.keep (keeps_below b9)
    have hH9 := HH8.out.below b9
    have hd9 := (b9.block _ (Array.getElem?_eq_some_iff.1 HD8.out).1).trans HD8.out
    clear b9 HR8 HS8 HM8 HH8 HD8 HHas l0 l1
    by_cases hin : hasI a1 b1 e.x = true
    · have HIn := Lib.hid hin
      rw [hin]
      by_cases het : e.x = to
      · have HF := Lib.hid (HI.out.hit hm HSo.out hin het)
        have dc : w9.cell? ⟨w7.heap.size, 0, none⟩ = some (.int .u64 e.c) := by rw [Lib.cell_of_heap hd9]; rfl
        have HR9 := Lib.hid hR9
        have HM9 := Lib.hid hM9
        have hte : (e.x == to) = true := by simpa using het
        clear hin hR9 hS9 hM9 hH9 hd9 het
        gi_wp2
        refine leaves_marks (B := w.heap.size) Ds _ HM9.out fun w' hsh => ⟨.tuple #[.int .u64 e.c, .bool true], ?_, e.c, true, rfl, HF.out, HR9.out.below.trans hsh.below⟩
        simp [results, Tryz.f61, go_sem]
      · have HLn := Lib.hid (HI.out.mark hm (by omega) HSo.out hin het)
        have hr' := HI.out.sub _ hin
        have hr2 : 0 ≤ e.x ∧ e.x < 128 := by unfold InN at hr'; omega
        have HWo := Lib.hid (fun W => without_any a1 b1 e.x HI.out.u1 HI.out.u2 W)
        have HSp := Lib.hid (remL_split ls (hasB fa fb) (hasI a1 b1) (hasI (lessN a1 (oneW e.x).1) (lessN b1 (oneW e.x).2)) e.x hin (fun v => hasI_without HI.out.u1 HI.out.u2 hr2 v))
        have hte : (e.x == to) = false := by simpa using het
        generalize lessN a1 (oneW e.x).1 = a2 at *
        generalize lessN b1 (oneW e.x).2 = b2 at *
        obtain ⟨l0, l1, -⟩ := hS9.cells
        have HR9 := Lib.hid hR9
        have HS9 := Lib.hid hS9
        have HM9 := Lib.hid hM9
        have HH9 := Lib.hid hH9
        have HD9 := Lib.hid hd9
        clear hr' hr2 hin het hR9 hS9 hM9 hH9 hd9 HI HSo HIn
        gi_wp2
        refine ⟨trivial, ?_⟩
        gi_at_call 98
        refine (callsIn_wide.2 (HWo.out _)).mono ?_
        rintro e' wA ⟨rfl, bA⟩
        have hRA := HR9.out.step bA
        have hSA := HS9.out.step bA
        have hMA := HM9.out.keep (keeps_below bA)
        have hHA := HH9.out.below bA
        have hdA := (bA.block _ (Array.getElem?_eq_some_iff.1 HD9.out).1).trans HD9.out
        obtain ⟨l0, l1, lf⟩ := hSA.cells
        have l2 := lf 0
        have l3 := lf 1
        have hRB := (hRA.far (b := Lb) HL2.out 0 (.int .u64 (a2 : Int))).far (b := Lb) HL2.out 1 (.int .u64 (b2 : Int))
        have hSB := hSA.put a2 b2
        have hMB := (hMA.keep (KeepsOthers.setCell _ ⟨Lb, 0, none⟩ (.int .u64 (a2 : Int)))).keep (KeepsOthers.setCell _ ⟨Lb, 1, none⟩ (.int .u64 (b2 : Int)))
        have hHB := (hHA.far (b := Lb) (by omega) 0 (.int .u64 (a2 : Int))).far (b := Lb) (by omega) 1 (.int .u64 (b2 : Int))
        have hdB : ((wA.setCell ⟨Lb, 0, none⟩ (.int .u64 (a2 : Int))).setCell ⟨Lb, 1, none⟩ (.int .u64 (b2 : Int))).heap[w7.heap.size]? = some (.cells #[.int .u64 e.c] 54 (0, 0)) :=
          ((heap_setCell_other _ _ _ _ (by show w7.heap.size ≠ Lb; have := hd7.out; omega)).trans (heap_setCell_other _ _ _ _ (by show w7.heap.size ≠ Lb; have := hd7.out; omega))).trans hdA
        have HRB := Lib.hid hRB
        have HSB := Lib.hid hSB
        have HMB := Lib.hid hMB
        have HHB := Lib.hid hHB
        have HDB := Lib.hid hdB
        clear bA hRA hSA hMA hHA hdA lf hRB hSB hMB hHB hdB HR9 HS9 HM9 HH9 HD9 HWo
        gi_wp2
        clear l0 l1 l2 l3
        have hRC := HRB.out.step (Below.refl _ _).drew
        have hSC := HSB.out.step (Below.refl _ _).drew
        have hMC := HMB.out.keep (KeepsOthers.drew _)
        have hHC := HHB.out.below (Below.refl _ _).drew
        have hdC : ((wA.setCell ⟨Lb, 0, none⟩ (.int .u64 (a2 : Int))).setCell ⟨Lb, 1, none⟩ (.int .u64 (b2 : Int))).drew.heap[w7.heap.size]? = some (.cells #[.int .u64 e.c] 54 (0, 0)) := HDB.out
        clear HRB HSB HMB HHB HDB
        refine region_P (fun X => X.cell? ⟨w.heap.size, 0, none⟩ = some vr ∧ X.cell? ⟨w.heap.size, 1, none⟩ = some (.slice la ls.length lcap) ∧ X.cell? ⟨w.heap.size + 1, 0, none⟩ = some (.int .u64 (fa : Int)) ∧ X.cell? ⟨w.heap.size + 1, 1, none⟩ = some (.int .u64 (fb : Int))) (by kernel_rfl) ?_
        generalize ((wA.setCell ⟨Lb, 0, none⟩ (.int .u64 (a2 : Int))).setCell ⟨Lb, 1, none⟩ (.int .u64 (b2 : Int))).drew = wC at *
        have hS0 : (fun X : World => X.cell? ⟨w.heap.size, 0, none⟩ = some vr ∧ X.cell? ⟨w.heap.size, 1, none⟩ = some (.slice la ls.length lcap) ∧ X.cell? ⟨w.heap.size + 1, 0, none⟩ = some (.int .u64 (fa : Int)) ∧ X.cell? ⟨w.heap.size + 1, 1, none⟩ = some (.int .u64 (fb : Int))) wC := ⟨hRC.cells.1, hRC.cells.2, hRC.fl.cells.1, hRC.fl.cells.2.1⟩
        refine wpH_take (i := 0) (v := .agg #[vr, .slice la ls.length lcap]) (by kernel_rfl) rfl (by kernel_rfl) (by kernel_rfl) (by kernel_rfl) (fun _ _ _ h => h) (Or.inl ⟨by rfl, ?_⟩) (fun _ => rfl) hS0 ?_
        · rintro w' ⟨s0, s1, s2, s3⟩
          go_simp
        try simp only [Act.put]
        refine wpH_take (i := 1) (v := .int .i64 e.x) (by kernel_rfl) rfl (by kernel_rfl) (by kernel_rfl) (by kernel_rfl) (fun _ _ _ h => h) (Or.inl ⟨by rfl, ?_⟩) (fun _ => rfl) hS0 ?_
        · rintro w' -
          go_simp
        try simp only [Act.put]
        refine wpH_take (i := 3) (v := .agg #[.int .u64 (fa : Int), .int .u64 (fb : Int)]) (by kernel_rfl) rfl (by kernel_rfl) (by kernel_rfl) (by kernel_rfl) (fun _ _ _ h => h) (Or.inl ⟨by rfl, ?_⟩) (fun _ => rfl) hS0 ?_
        · rintro w' ⟨s0, s1, s2, s3⟩
          go_simp
        try simp only [Act.put]
        refine wpH_one (i := 2) (by kernel_rfl) rfl ?_
        intro KK hKK
        go_simp
        refine ⟨trivial, ?_⟩
        refine (callsIn_wide.2 (tOut_any e.x vr (.slice la ls.length lcap) rs ls _ (HT.out.step hRC.below) (by omega))).mono ?_
        rintro e' wD ⟨rfl, bD⟩
        have hRD := hRC.step bD
        have hSD := hSC.step bD
        have hMD := hMC.keep (keeps_below bD)
        have hHD := hHC.below bD
        have hdD := (bD.block _ (Array.getElem?_eq_some_iff.1 hdC).1).trans hdC
        refine hKK _ _ ⟨⟨hRD.cells.1, hRD.cells.2, hRD.fl.cells.1, hRD.fl.cells.2.1⟩, ?_⟩
        clear hKK hS0 bD hRC hSC hMC hHC hdC
        try simp only [Act.put]
        obtain ⟨c, d, hcd⟩ : ∃ c d, whS (frB e.x) ls = (c, d) := ⟨_, _, rfl⟩
        obtain ⟨uc, ud⟩ := whS_u64 (frB e.x) ls
        have hlv : outW ls e.x fa fb = (lessN c fa, lessN d fb) := by unfold outW; rw [hcd]
        rw [hcd] at uc ud ⊢
        refine wpH_one (i := 4) (by kernel_rfl) rfl ?_
        intro KK hKK
        go_simp
        refine ⟨trivial, ?_⟩
        refine (callsIn_wide.2 (less_any c d fa fb uc ud ua ub _)).mono ?_
        rintro e' wE ⟨rfl, bE⟩
        have hRE := hRD.step bE
        have hSE := hSD.step bE
        have hME := hMD.keep (keeps_below bE)
        have hHE := hHD.below bE
        have hdE := (bE.block _ (Array.getElem?_eq_some_iff.1 hdD).1).trans hdD
        refine hKK _ _ ⟨⟨hRE.cells.1, hRE.cells.2, hRE.fl.cells.1, hRE.fl.cells.2.1⟩, ?_⟩
        clear hKK bE hRD hSD hMD hHD hdD
        try simp only [Act.put]
        have ue : U64 (lessN c fa) := U64.less _ uc
        have uf : U64 (lessN d fb) := U64.less _ ud
        generalize lessN c fa = e1 at *
        generalize lessN d fb = e2 at *
        refine wpH_one (i := 5) (by kernel_rfl) rfl ?_
        intro KK hKK
        go_simp
        refine ⟨trivial, ?_⟩
        refine (callsIn_wide.2 (all_any e1 e2 _)).mono ?_
        rintro e' wF ⟨rfl, rfl⟩
        have hbF := below_new wE (.cells #[.int .u64 (e1 : Int), .int .u64 (e2 : Int)] 56)
        have hR := hRE.step hbF
        have hS := hSE.step hbF
        have hM := hME.keep (KeepsOthers.alloc _ (.cells #[.int .u64 (e1 : Int), .int .u64 (e2 : Int)] 56))
        have hH := hHE.below hbF
        have hd := (hbF.block _ (Array.getElem?_eq_some_iff.1 hdE).1).trans hdE
        have hA := boxed_set wE e1 e2
        have hT := htab.below htab.lt hR.below
        refine hKK _ _ ⟨⟨hR.cells.1, hR.cells.2, hR.fl.cells.1, hR.fl.cells.2.1⟩, ?_⟩
        clear hKK hbF hRE hSE hME hHE hdE
        try simp only [Act.put]
        refine wpH_done (by kernel_rfl) ?_ _
        dsimp only [noP]
        have HR0 : Hid (w.heap.size ≤ (wE.alloc (.cells #[.int .u64 (e1 : Int), .int .u64 (e2 : Int)] 56)).heap.size) := Lib.hid hR.below.size
        have HLV := Lib.hid hlv
        have HCnt := Lib.hid (out_len (ls := ls) (r := e.x) ua ub (by omega))
        rw [hlv] at HCnt
        clear hlv hcd
        generalize wE.alloc (.cells #[.int .u64 (e1 : Int), .int .u64 (e2 : Int)] 56) = W0 at *
        gi_wp2
        refine wpIn_rangeFunc_ownF rfl h1 (gf := 126) (lb := #[.pointer (some ⟨wE.heap.size, 0, none⟩)]) rfl trivial (enters_of Tryz.func126 (by kernel_rfl) rfl)
          (all1_stopsM 2 (by omega) wE.heap.size w.heap.size e1 e2 ue uf _ hA hT htab.lt) belowK_t (belowK_b hR.below.size) (Below.refl _ _) (fun _ => rfl)
          (fun pre X => ((LS w vr (.slice la ls.length lcap) fa fb X ∧ SetAt X Lb a2 b2) ∧ X.heap[w7.heap.size]? = some (.cells #[.int .u64 e.c] 54 (0, 0))) ∧ (∃ q2, LnI ls rs.length (hasB fa fb) a to a2 b2 e.x e.c ((pre.map (·.1)).map (·.1)) q2 ∧ q2.length = q.length + pre.length ∧ HpAt hencI 184 155 (Lb + 1) X q2 (m7 + pre.length)) ∧ MarksAt Ds w.heap.size X)
          (fun _ _ _ => False)
          (OwnFrom.and (OwnFrom.and (OwnFrom.and (LS.own hR.below.size) (fun s X Y row hs hg hr => hs.own hg (fun r e => (hr r e).2))) (fun s X Y row hs hg hr => blk_kept hs rfl hg (fun r e => (hr r e).2))) (OwnFrom.and (fun s X Y row hs hg hr => by obtain ⟨q2, hf, hf2, hs⟩ := hs; exact ⟨q2, hf, hf2, hs.own hg (fun r e => (hr r e).2)⟩) (marks_own Ds w.heap.size _ hM.lt)))
          (fun _ _ _ _ _ hs _ _ => hs)
          ⟨⟨⟨hR, hS⟩, hd⟩, ⟨q, HLn.out, rfl, by simpa using hH⟩, hM⟩
          ?a1 ?assign ?body ?done ?stop
        case assign =>
          intro l x W K hK
          gi_wp2
          exact hK
        case body =>
          rintro l pre x X ⟨⟨⟨hR, hS⟩, hd⟩, ⟨q2, hLn, hq2, hH⟩, hMk⟩ hlt
          obtain ⟨lk, hlk, hfr, hF⟩ := out_link (ls := ls) (r := e.x) ua ub (j := x.1.1) (by rw [HLV.out]; exact x.2)
          obtain ⟨lb, loff, rfl, c0, c1, c2, c3⟩ := HT.out.ls.at hlk hR.below
          have HLb := Lib.hid (HT.out.ls.blt hlk rfl)
          obtain ⟨hfrN, htoN, hds0, hdsm⟩ := hm _ _ hlk
          obtain ⟨hcN, hc0, hcm⟩ := hLn.best.1.bd hm
          obtain ⟨kk, hkk, hcut1, hcut2⟩ := sorted_cut (addI e.c lk.ds) hH.sorted
          have hxb : ((x.1.1 : Nat) : Int) < ls.length := by have := (List.getElem?_eq_some_iff.1 hlk).1; omega
          have hq2l : q2.length ≤ 1000 := by have h1 := HG.out; have h2 := HG2.out; rw [List.length_cons] at h1; omega
          have hm2 : m7 + (pre.length : Int) ≤ 1000000 := by have h1 := HG3.out; have h2 := HM7.out; omega
          have HLn2 := Lib.hid (hLn.put hlk hF hfr (e := ⟨addI e.c lk.ds, m7 + pre.length, lk.to⟩) rfl rfl (mem_put q2 kk _))
          have HPut := Lib.hid (fun W' (h : HpAt hencI 184 155 (Lb + 1) W' q2 (m7 + pre.length)) => putI_any (B := Lb + 1) (addI e.c lk.ds) lk.to kk W' h hm2 hq2l hcut1 hcut2)
          have HAdd := Lib.hid (fun W' => add_any e.c lk.ds hc0 hds0 W')
          have hdc : X.cell? ⟨w7.heap.size, 0, none⟩ = some (.int .u64 e.c) := by rw [Lib.cell_of_heap hd]; rfl
          have HQ2 := Lib.hid hq2
          have HKK := Lib.hid hkk
          clear hlk hfr hF hfrN htoN hds0 hdsm hcN hc0 hcm hkk hcut1 hcut2 hq2l hm2 hLn hq2 HLn hlt
          generalize addI e.c lk.ds = cc at *
          gi_wp2
          clear c0 c1
          refine region_P (fun X : World => X.cell? ⟨w7.heap.size, 0, none⟩ = some (.int .u64 e.c) ∧ X.cell? ⟨w.heap.size, 1, none⟩ = some (.slice (some ⟨lb, loff, none⟩) ls.length lcap) ∧ X.cell? ⟨lb, loff + x.1.1 * 4 + 2, none⟩ = some (.int .i64 lk.to) ∧ X.cell? ⟨lb, loff + x.1.1 * 4 + 3, none⟩ = some (.int .u64 lk.ds)) (by kernel_rfl) ?_
          have hS0 : (fun X : World => X.cell? ⟨w7.heap.size, 0, none⟩ = some (.int .u64 e.c) ∧ X.cell? ⟨w.heap.size, 1, none⟩ = some (.slice (some ⟨lb, loff, none⟩) ls.length lcap) ∧ X.cell? ⟨lb, loff + x.1.1 * 4 + 2, none⟩ = some (.int .i64 lk.to) ∧ X.cell? ⟨lb, loff + x.1.1 * 4 + 3, none⟩ = some (.int .u64 lk.ds)) X.drew := ⟨hdc, hR.cells.2, c2, c3⟩
          refine wpH_take (i := 0) (v := .int .u64 e.c) (by kernel_rfl) rfl (by kernel_rfl) (by kernel_rfl) (by kernel_rfl) (fun _ _ _ h => h) (Or.inl ⟨by rfl, ?_⟩) (fun _ => rfl) hS0 ?_
          · rintro w' ⟨s0, s1, s2, s3⟩
            go_simp
          try simp only [Act.put]
          refine wpH_take (i := 1) (v := .pointer (some ⟨w.heap.size, 1, none⟩)) (by kernel_rfl) rfl (by kernel_rfl) (by kernel_rfl) (by kernel_rfl) (fun _ _ _ h => h) (Or.inl ⟨by rfl, ?_⟩) (fun _ => rfl) hS0 ?_
          · rintro w' -
            go_simp
          try simp only [Act.put]
          refine wpH_take (i := 2) (v := .slice (some ⟨lb, loff, none⟩) ls.length lcap) (by kernel_rfl) rfl (by kernel_rfl) (by kernel_rfl) (by kernel_rfl) (fun _ _ _ h => h) (Or.inl ⟨by rfl, ?_⟩) (fun _ => rfl) hS0 ?_
          · rintro w' ⟨s0, s1, s2, s3⟩
            go_simp
          try simp only [Act.put]
          refine wpH_take (i := 3) (v := .int .i64 ((x.1.1 : Nat) : Int)) (by kernel_rfl) rfl (by kernel_rfl) (by kernel_rfl) (by kernel_rfl) (fun _ _ _ h => h) (Or.inl ⟨by rfl, ?_⟩) (fun _ => rfl) hS0 ?_
          · rintro w' -
            go_simp
          try simp only [Act.put]
          refine wpH_take (i := 4) (v := .pointer (some ⟨lb, loff + x.1.1 * 4, none⟩)) (by kernel_rfl) rfl (by kernel_rfl) (by kernel_rfl) (by kernel_rfl) (fun _ _ _ h => h) (Or.inl ⟨by rfl, ?_⟩) (fun _ => rfl) hS0 ?_
          · rintro w' -
            go_simp
          try simp only [Act.put]
          refine wpH_take (i := 5) (v := .pointer (some ⟨lb, loff + x.1.1 * 4 + 3, none⟩)) (by kernel_rfl) rfl (by kernel_rfl) (by kernel_rfl) (by kernel_rfl) (fun _ _ _ h => h) (Or.inl ⟨by rfl, ?_⟩) (fun _ => rfl) hS0 ?_
          · rintro w' -
            go_simp
          try simp only [Act.put]
          refine wpH_take (i := 6) (v := .int .u64 lk.ds) (by kernel_rfl) rfl (by kernel_rfl) (by kernel_rfl) (by kernel_rfl) (fun _ _ _ h => h) (Or.inl ⟨by rfl, ?_⟩) (fun _ => rfl) hS0 ?_
          · rintro w' ⟨s0, s1, s2, s3⟩
            go_simp
          try simp only [Act.put]
          refine wpH_take (i := 8) (v := .pointer (some ⟨w.heap.size, 1, none⟩)) (by kernel_rfl) rfl (by kernel_rfl) (by kernel_rfl) (by kernel_rfl) (fun _ _ _ h => h) (Or.inl ⟨by rfl, ?_⟩) (fun _ => rfl) hS0 ?_
          · rintro w' -
            go_simp
          try simp only [Act.put]
          refine wpH_take (i := 9) (v := .slice (some ⟨lb, loff, none⟩) ls.length lcap) (by kernel_rfl) rfl (by kernel_rfl) (by kernel_rfl) (by kernel_rfl) (fun _ _ _ h => h) (Or.inl ⟨by rfl, ?_⟩) (fun _ => rfl) hS0 ?_
          · rintro w' ⟨s0, s1, s2, s3⟩
            go_simp
          try simp only [Act.put]
          refine wpH_take (i := 10) (v := .int .i64 ((x.1.1 : Nat) : Int)) (by kernel_rfl) rfl (by kernel_rfl) (by kernel_rfl) (by kernel_rfl) (fun _ _ _ h => h) (Or.inl ⟨by rfl, ?_⟩) (fun _ => rfl) hS0 ?_
          · rintro w' -
            go_simp
          try simp only [Act.put]
          refine wpH_take (i := 11) (v := .pointer (some ⟨lb, loff + x.1.1 * 4, none⟩)) (by kernel_rfl) rfl (by kernel_rfl) (by kernel_rfl) (by kernel_rfl) (fun _ _ _ h => h) (Or.inl ⟨by rfl, ?_⟩) (fun _ => rfl) hS0 ?_
          · rintro w' -
            go_simp
          try simp only [Act.put]
          refine wpH_take (i := 12) (v := .pointer (some ⟨lb, loff + x.1.1 * 4 + 2, none⟩)) (by kernel_rfl) rfl (by kernel_rfl) (by kernel_rfl) (by kernel_rfl) (fun _ _ _ h => h) (Or.inl ⟨by rfl, ?_⟩) (fun _ => rfl) hS0 ?_
          · rintro w' -
            go_simp
          try simp only [Act.put]
          refine wpH_take (i := 13) (v := .int .i64 lk.to) (by kernel_rfl) rfl (by kernel_rfl) (by kernel_rfl) (by kernel_rfl) (fun _ _ _ h => h) (Or.inl ⟨by rfl, ?_⟩) (fun _ => rfl) hS0 ?_
          · rintro w' ⟨s0, s1, s2, s3⟩
            go_simp
          try simp only [Act.put]
          refine wpH_one (i := 7) (by kernel_rfl) rfl ?_
          intro KK hKK
          go_simp
          refine ⟨trivial, ?_⟩
          refine (CallsIn.inRound l (callsIn_wide.2 (HAdd.out _))).mono ?_
          rintro e' w3 ⟨rfl, rfl⟩
          refine hKK _ _ ⟨hS0, ?_⟩
          clear hKK
          try simp only [Act.put]
          refine wpH_one (i := 14) (by kernel_rfl) rfl ?_
          intro KK hKK
          go_simp
          refine ⟨trivial, ?_⟩
          refine (CallsIn.inRound l (callsIn_wide.2 (HPut.out _ (hH.below (Below.refl _ _).drew)))).mono ?_
          rintro e' w4 ⟨⟨v4, rfl⟩, h4, g4⟩
          have hR4 := (hR.step (Below.refl _ _).drew).grown (by have := HL2.out; omega) g4
          have hS4 := (hS.step (Below.refl _ _).drew).grown (by omega) g4
          have hd4 : w4.heap[w7.heap.size]? = some (.cells #[.int .u64 e.c] 54 (0, 0)) := (g4.block _ (Array.getElem?_eq_some_iff.1 hd).1 (fun h => by injection h with h; have := hd7.out; omega)).trans hd
          have hbX : Below w.heap.size X w4 := ((Below.refl _ X).drew).grown g4 hR.below.size (fun k h => by cases h; have := HL2.out; omega)
          have hkX : KeepsOthers X w4 := (KeepsOthers.drew X).trans ((hH.below (Below.refl _ _).drew).keeps g4)
          have hlb : lb < w.heap.size := HLb.out
          refine hKK _ _ ⟨⟨by rw [Lib.cell_of_heap hd4]; rfl, hR4.cells.2, (hbX.cell (p := ⟨lb, _, none⟩) hlb).trans c2, (hbX.cell (p := ⟨lb, _, none⟩) hlb).trans c3⟩, ?_⟩
          clear hKK
          refine wpH_done (by kernel_rfl) ?_ _
          dsimp only [noP]
          refine ⟨hkX, hbX, ⟨⟨hR4, hS4⟩, hd4⟩, ⟨_, by rw [List.map_append, List.map_append]; exact HLn2.out, ?_, ?_⟩, hMk.keep hkX⟩
          · rw [len_put, HQ2.out, List.length_append]; rfl
          · rw [List.length_append, List.length_singleton, Int.natCast_add, ← Int.add_assoc]; exact h4
        case done =>
          rintro D xs X hD rfl ⟨⟨⟨hR, hS⟩, hd⟩, ⟨q2, hLn, hq2, hH⟩, hMk⟩ hK
          have hMc := hMk.cons hM.lt hD (Nat.le_trans HR0.out hD) hK
          have hLe := hLn.done (fun i l hi hF hfr => by have := out_all (ls := ls) ua ub (by omega) i l hi hF hfr; rw [HLV.out] at this; exact this)
          have HRR := Lib.hid hR
          have HSS := Lib.hid hS
          have HHH := Lib.hid hH
          have HMC := Lib.hid hMc
          have HLe := Lib.hid hLe
          have HQ2 := Lib.hid hq2
          clear hR hS hd hLn hq2 hH hMk hMc hLe hK
          gi_wp2
          refine HK.out _ _ (Handed.intro (q2.length + remL ls (hasB fa fb) (hasI a2 b2)) ?_ (HJ.out _ _ _ ⟨D :: Ds, _, _, _, _, _, _, _, _, _, _, _, _, _, _, _, _, _, _, _, _, _, _, _, _, _, _, _, _, _, _, _, _, _, _, _, _, _, _, _, _, _, _, _, _, _, _, _, _, ⟨a2, b2, q2, _, HLe.out, rfl, ?_, ?_, HHH.out, HSS.out, HRR.out, HMC.out⟩, rfl⟩))
          · have h1 := HG.out; have h2 := HSp.out; have h3 := HCnt.out; have h4 := HQ2.out; rw [List.length_cons] at h1; omega
          · have h0 := HG2.out; have h1 := HG.out; have h2 := HSp.out; have h3 := HCnt.out; have h4 := HQ2.out; rw [List.length_cons] at h1; omega
          · have h0 := HG3.out; have h1 := HM7.out; have h2 := HSp.out; have h3 := HCnt.out; omega
        case stop =>
          rintro D c' pre X _ _ h _
          exact h.elim
    · have hin' : hasI a1 b1 e.x = false := by simpa using hin
      rw [hin']
      have HI2 := Lib.hid (HI.out.skip hin')
      have HH9 := Lib.hid hH9
      have HS9 := Lib.hid hS9
      have HR9 := Lib.hid hR9
      have HM9 := Lib.hid hM9
      clear hin hin' hR9 hS9 hM9 hH9 hd9
      gi_wp2
      refine HK.out _ _ (Handed.intro (q.length + remL ls (hasB fa fb) (hasI a1 b1)) (by have h1 := HG.out; rw [List.length_cons] at h1; omega) (HJ.out _ _ _ ⟨Ds, _, _, _, _, _, _, _, _, _, _, _, _, _, _, _, _, _, _, _, _, _, _, _, _, _, _, _, _, _, _, _, _, _, _, _, _, _, _, _, _, _, _, _, _, _, _, _, _, ⟨a1, b1, q, m7, HI2.out, rfl, by have h1 := HG.out; have h2 := HG2.out; rw [List.length_cons] at h1; omega, by have h1 := HG3.out; have h2 := HM7.out; omega, HH9.out, HS9.out, HR9.out, HM9.out⟩, rfl⟩))
end Go.Proofs.YtlcpbfklnjlgnaaGreatDoor
