/-
  Package topo by contracts, third part: Reach.
  Package topo by contracts, fourth part: Reach, its walk.
-/
import Derived.Test.YtlcpbfklnjlgnaaGreatDoorGl
import Derived.Test.YtlcpbfklnjlgnaaGreatDoorGm
namespace Go.Proofs.YtlcpbfklnjlgnaaGreatDoor
open Go.RowKit Go.Extern.Stop Go.Stop Go.Extern Go.Shelf
attribute [local go_sem] Oper.semAt_some

/-! ### Plain -/
theorem filter_lt {α : Type} {P Q : α → Bool} : ∀ {l : List α}, (∀ x ∈ l, P x = true → Q x = true) → (∃ x ∈ l, Q x = true ∧ P x = false) → (l.filter P).length < (l.filter Q).length
  | [], _, h => by obtain ⟨x, hx, _⟩ := h; cases hx
  | y :: l, hi, h => by
    have hle : ∀ {l : List α}, (∀ x ∈ l, P x = true → Q x = true) → (l.filter P).length ≤ (l.filter Q).length := by
      intro l
      induction l with
      | nil => intro _; exact Nat.le_refl _
      | cons z l ih =>
        intro hz
        have i := ih fun x hx => hz x (List.mem_cons_of_mem _ hx)
        have hq := hz z (List.mem_cons_self ..)
        rw [List.filter_cons, List.filter_cons]
        cases hp : P z with
        | true => rw [if_pos rfl, hq hp, if_pos rfl]; simpa using i
        | false =>
          rw [if_neg (by decide)]
          split
          · simp; omega
          · exact i
    have hi' := fun x hx => hi x (List.mem_cons_of_mem y hx)
    have hy := hi y (List.mem_cons_self ..)
    rw [List.filter_cons, List.filter_cons]
    obtain ⟨x, hx, h1, h2⟩ := h
    rcases List.mem_cons.1 hx with rfl | hx
    · rw [h1, h2, if_pos rfl, if_neg (by decide)]
      have := hle hi'
      simp; omega
    · have i := filter_lt hi' ⟨x, hx, h1, h2⟩
      cases hp : P y with
      | true => rw [if_pos rfl, hy hp, if_pos rfl]; simpa using i
      | false =>
        rw [if_neg (by decide)]
        split
        · simp; omega
        · exact i
theorem setL_lt_of {a b c d : Nat} (ha : U64 a) (hb : U64 b) (hc : U64 c) (hd : U64 d) (h : ∀ j, hasB a b j = true → hasB c d j = true) (hne : ¬ (c = a ∧ d = b)) : (setL a b).length < (setL c d).length := by
  rw [setL_eq, setL_eq]
  refine filter_lt (fun x _ => h x) (Classical.byContradiction fun hn => hne (set_ext hc hd ha hb fun j => ?_))
  by_cases hj : j < 128
  · cases h1 : hasB a b j with
    | true => exact h j h1
    | false =>
      cases h2 : hasB c d j with
      | false => rfl
      | true => exact absurd ⟨j, List.mem_range.2 hj, h2, h1⟩ hn
  · rw [hasB_ge _ _ (by omega), hasB_ge _ _ (by omega)]
theorem setL_le (a b : Nat) : (setL a b).length ≤ 128 := by
  rw [setL_eq]
  have := List.length_filter_le (hasB a b) (List.range 128)
  simpa using this
section
variable {ls : List Lk} {n : Nat} {F : Nat → Bool} {a : Int}
/-- A set of some to which one comes, the first among them. -/
structure ReI (ls : List Lk) (n : Nat) (F : Nat → Bool) (a : Int) (p q : Nat) : Prop where
  up : U64 p
  uq : U64 q
  come : ∀ v, hasI p q v = true → Comes ls n F a v
  start : InN n a → hasI p q a = true
/-- On the way to the next one: links looked at. -/
structure MoI (ls : List Lk) (n : Nat) (F : Nat → Bool) (a : Int) (p q : Nat) (pre : List N128) (x y : Nat) : Prop where
  ux : U64 x
  uy : U64 y
  ext : ∀ j, hasB p q j = true → hasB x y j = true
  come : ∀ v, hasI x y v = true → Comes ls n F a v
  hit : ∀ k ∈ pre, ∀ l, ls[k.1]? = some l → hasI x y l.to = true
theorem MoI.start {p q : Nat} (h : ReI ls n F a p q) : MoI ls n F a p q [] p q := ⟨h.up, h.uq, fun _ h => h, h.come, fun _ h => by cases h⟩
theorem hasI_or (x y c d : Nat) (v : Int) : hasI (x ||| c) (y ||| d) v = (hasI x y v || hasI c d v) := by unfold hasI; rw [hasB_or]; cases decide (0 ≤ v) <;> simp
theorem hasI_one (i v : Int) : hasI (oneW i).1 (oneW i).2 v = (decide (0 ≤ v ∧ v < 128) && decide (v = i)) := by
  unfold hasI
  rw [hasB_one, Bool.eq_iff_iff]
  simp
  omega
theorem MoI.next (hm : MayL n ls) (hn : n ≤ 128) {p q : Nat} {pre : List N128} {x y : Nat} (h : MoI ls n F a p q pre x y) {k : N128} {l : Lk} (hk : ls[k.1]? = some l) (hF : F k.1 = false) (hfr : hasI p q l.fr = true) (hp : ∀ v, hasI p q v = true → Comes ls n F a v) :
    MoI ls n F a p q (pre ++ [k]) (x ||| (oneW l.to).1) (y ||| (oneW l.to).2) := by
  obtain ⟨_, hto, _⟩ := hm _ _ hk
  unfold InN at hto
  refine ⟨h.ux.or (oneW_u64 _).1, h.uy.or (oneW_u64 _).2, fun j hj => by rw [hasB_or, h.ext j hj]; rfl, fun v hv => ?_, fun k' hk' l' hl' => ?_⟩
  · rw [hasI_or, Bool.or_eq_true] at hv
    rcases hv with hv | hv
    · exact h.come v hv
    · rw [hasI_one] at hv
      simp at hv
      rw [hv.2]
      obtain ⟨d, hd⟩ := hp _ hfr
      exact ⟨_, .go hd hk hF rfl⟩
  · rw [hasI_or, Bool.or_eq_true]
    rcases List.mem_append.1 hk' with hk' | hk'
    · exact .inl (h.hit k' hk' l' hl')
    · obtain rfl := List.mem_singleton.1 hk'
      rw [hk] at hl'
      injection hl' with hl'
      subst hl'
      right
      rw [hasI_one]
      simp
      omega
/-- The words of the links that leave a set, those that failed aside. -/
def lvW (ls : List Lk) (p q fa fb : Nat) : Nat × Nat := (lessN (whS (fun l => hasI p q l.fr) ls).1 fa, lessN (whS (fun l => hasI p q l.fr) ls).2 fb)
theorem has_lv {p q fa fb : Nat} (ua : U64 fa) (ub : U64 fb) (j : Nat) : hasB (lvW ls p q fa fb).1 (lvW ls p q fa fb).2 j = (decide (j < 128) && (ls[j]?.map fun l => hasI p q l.fr).getD false && !hasB fa fb j) := by
  obtain ⟨u1, u2⟩ := whS_u64 (fun l => hasI p q l.fr) ls
  unfold lvW
  rw [hasB_less u1 u2 ua ub]
  unfold whS
  rw [hasB_idx]
theorem listN_mem {x y : Nat} {k : N128} (h : k ∈ listN x y) : hasB x y k.1 = true := by
  rw [← setL_mem, ← listN_val]
  exact List.mem_map.2 ⟨k, h, rfl⟩
theorem mem_listN {x y j : Nat} (h : hasB x y j = true) : ∃ k ∈ listN x y, k.1 = j := by
  rw [← setL_mem, ← listN_val] at h
  obtain ⟨k, hk, e⟩ := List.mem_map.1 h
  exact ⟨k, hk, e⟩
theorem lv_link {p q fa fb : Nat} (ua : U64 fa) (ub : U64 fb) {j : Nat} (h : hasB (lvW ls p q fa fb).1 (lvW ls p q fa fb).2 j = true) : ∃ l, ls[j]? = some l ∧ hasI p q l.fr = true ∧ hasB fa fb j = false := by
  have := h
  rw [has_lv ua ub] at this
  simp only [Bool.and_eq_true, Bool.not_eq_true'] at this
  obtain ⟨⟨_, h1⟩, h2⟩ := this
  cases hl : ls[j]? with
  | none => rw [hl] at h1; simp at h1
  | some l => rw [hl] at h1; exact ⟨l, rfl, by simpa using h1, h2⟩
theorem ReI.done (hl : ls.length ≤ 128) {p q fa fb : Nat} (ua : U64 fa) (ub : U64 fb) (h : ReI ls n (hasB fa fb) a p q) (hM : MoI ls n (hasB fa fb) a p q (listN (lvW ls p q fa fb).1 (lvW ls p q fa fb).2) p q) (v : Int) : hasI p q v = true ↔ Comes ls n (hasB fa fb) a v := by
  refine ⟨h.come v, fun hv => ?_⟩
  refine comes_closed (S := fun v => hasI p q v = true) h.start (fun i l hi hF hfr => ?_) hv
  have hlt := (List.getElem?_eq_some_iff.1 hi).1
  obtain ⟨k, hk, e⟩ := mem_listN (x := (lvW ls p q fa fb).1) (y := (lvW ls p q fa fb).2) (j := i) (by
    rw [has_lv ua ub, hi, hF]
    simp [hfr]
    omega)
  exact hM.hit k hk l (by rw [e]; exact hi)
theorem ReI.next {p q x y : Nat} {pre : List N128} (h : ReI ls n F a p q) (hM : MoI ls n F a p q pre x y) : ReI ls n F a x y := by
  refine ⟨hM.ux, hM.uy, hM.come, fun ha => ?_⟩
  have := h.start ha
  unfold hasI at this ⊢
  rw [Bool.and_eq_true] at this ⊢
  exact ⟨this.1, hM.ext _ this.2⟩
theorem ReI.init {n : Nat} (hn : n ≤ 128) : ReI ls n F a ((ofS (firstN (min (n : Int) 128).toNat)).1 &&& (ofS [a]).1) ((ofS (firstN (min (n : Int) 128).toNat)).2 &&& (ofS [a]).2) := by
  have hand : ∀ v, hasI ((ofS (firstN (min (n : Int) 128).toNat)).1 &&& (ofS [a]).1) ((ofS (firstN (min (n : Int) 128).toNat)).2 &&& (ofS [a]).2) v = (decide (InN n v) && decide (v = a)) := by
    intro v
    have h1 := has_routers n hn v
    unfold hasI at h1 ⊢
    rw [hasB_and, ← h1, hasB_ofS [a], Bool.eq_iff_iff]
    simp only [Bool.and_eq_true, decide_eq_true_eq, List.any_cons, List.any_nil, Bool.or_false]
    constructor
    · rintro ⟨h0, h2, h3, h4⟩
      exact ⟨⟨h0, h2⟩, by omega⟩
    · rintro ⟨⟨h0, h2⟩, rfl⟩
      refine ⟨h0, h2, ?_, by omega⟩
      by_cases hj : v.toNat < 128
      · exact hj
      · rw [hasB_ge _ _ (by omega)] at h2; cases h2
  refine ⟨(ofS_u64 _).1.and _, (ofS_u64 _).2.and _, fun v hv => ?_, fun ha => ?_⟩
  · rw [hand] at hv
    simp only [Bool.and_eq_true, decide_eq_true_eq] at hv
    obtain ⟨h1, rfl⟩ := hv
    exact ⟨0, .nil h1⟩
  · rw [hand]
    simp [ha]
end
end Go.Proofs.YtlcpbfklnjlgnaaGreatDoor

namespace Go.Proofs.YtlcpbfklnjlgnaaGreatDoor
open Go.RowKit Go.Extern.Stop Go.Stop Go.Extern Go.Shelf
attribute [local go_sem] Oper.semAt_some

/-- What the call keeps all the way: its boxes of the topology, of the failed links, of the result. -/
structure RS (w : World) (vr vl : Value) (fa fb : Nat) (W : World) : Prop where
  topo : W.heap[w.heap.size]? = some (.cells #[vr, vl] 25 (0, 0))
  fl : SetAt W (w.heap.size + 1) fa fb
  res : SetAt W (w.heap.size + 1 + 1) 0 0
  below : Below w.heap.size w W
theorem RS.lt {w : World} {vr vl : Value} {fa fb : Nat} {W : World} (h : RS w vr vl fa fb W) : w.heap.size + 1 + 1 < W.heap.size := (Array.getElem?_eq_some_iff.1 h.res).1
theorem RS.step {w : World} {vr vl : Value} {fa fb : Nat} {W W' : World} (h : RS w vr vl fa fb W) (hb : Below W.heap.size W W') : RS w vr vl fa fb W' :=
  ⟨(hb.block _ (Array.getElem?_eq_some_iff.1 h.topo).1).trans h.topo, h.fl.step hb, h.res.step hb, h.below.trans (hb.mono h.below.size)⟩
theorem RS.far {w : World} {vr vl : Value} {fa fb : Nat} {W : World} (h : RS w vr vl fa fb W) {b : Nat} (hb : w.heap.size + 1 + 1 < b) (i : Nat) (u : Value) : RS w vr vl fa fb (W.setCell ⟨b, i, none⟩ u) :=
  ⟨(heap_setCell_other _ _ _ _ (by show w.heap.size ≠ b; omega)).trans h.topo, h.fl.far (by omega) _ _, h.res.far (by omega) _ _, h.below.setCell (p := ⟨b, i, none⟩) (by show _ ≤ b; omega) _⟩
theorem RS.cells {w : World} {vr vl : Value} {fa fb : Nat} {W : World} (h : RS w vr vl fa fb W) : W.cell? ⟨w.heap.size, 0, none⟩ = some vr ∧ W.cell? ⟨w.heap.size, 1, none⟩ = some vl :=
  ⟨by rw [Lib.cell_of_heap h.topo]; rfl, by rw [Lib.cell_of_heap h.topo]; rfl⟩
theorem RS.own {w : World} {vr vl : Value} {fa fb S : Nat} (hS : w.heap.size ≤ S) {β : Type} : OwnFrom S (fun (_ : β) W => RS w vr vl fa fb W) := fun s X Y row hs hg hr =>
  ⟨blk_kept hs.topo rfl hg (fun r e => (hr r e).2), hs.fl.own hg (fun r e => (hr r e).2), hs.res.own hg (fun r e => (hr r e).2), ownFrom_below (β := β) (Nat.le_refl _) hS s X Y row hs.below hg hr⟩
theorem RS.start (w : World) (vr vl : Value) (fa fb : Nat) : RS w vr vl fa fb (((w.alloc (.cells #[vr, vl] 25)).alloc (.cells #[.int .u64 (fa : Int), .int .u64 (fb : Int)] 56)).alloc (.cells #[.int .u64 0, .int .u64 0] 56)) := by
  refine ⟨?_, ?_, ?_, ?_⟩
  · exact ((heap_alloc_old _ _ (by simp; omega)).trans (heap_alloc_old _ _ (by simp))).trans (heap_alloc_new w _)
  · have := heap_alloc_new (w.alloc (.cells #[vr, vl] 25)) (.cells #[.int .u64 (fa : Int), .int .u64 (fb : Int)] 56)
    rw [World.size_alloc] at this
    exact (heap_alloc_old _ _ (by simp)).trans this
  · have := heap_alloc_new ((w.alloc (.cells #[vr, vl] 25)).alloc (.cells #[.int .u64 (fa : Int), .int .u64 (fb : Int)] 56)) (.cells #[.int .u64 0, .int .u64 0] 56)
    rwa [World.size_alloc, World.size_alloc] at this
  · exact ((below_new w _).trans ((below_new _ _).mono (below_new w _).size)).trans ((below_new _ _).mono (by simp; omega))

/-- Between two rounds: what has been reached. -/
def ReR (w : World) (vr vl : Value) (ls : List Lk) (n fa fb : Nat) (a : Int) (Rb k : Nat) (Ds : List Nat) (W : World) : Prop :=
  ∃ p q, ReI ls n (hasB fa fb) a p q ∧ k = 128 - (setL p q).length ∧ SetAt W Rb p q ∧ RS w vr vl fa fb W ∧ MarksAt Ds w.heap.size W
end Go.Proofs.YtlcpbfklnjlgnaaGreatDoor
