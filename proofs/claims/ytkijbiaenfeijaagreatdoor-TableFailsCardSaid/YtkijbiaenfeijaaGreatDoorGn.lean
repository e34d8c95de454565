/-
  Package topo by contracts, third part: Reach.
  Package topo by contracts, fourth part: Reach, its walk.
-/
import Derived.Test.YtkijbiaenfeijaaGreatDoorGl
import Derived.Test.YtkijbiaenfeijaaGreatDoorGm
namespace Go.Proofs.YtkijbiaenfeijaaGreatDoor
open Go.RowKit Go.Extern.Stop Go.Stop Go.Extern Go.Shelf
attribute [local go_sem] Oper.semAt_some

/-! ### Plain -/
theorem filter_lt {α : Type} {P Q : α → Bool} : ∀ {l : List α}, (∀ x ∈ l, P x = true → Q x = true) → (∃ x ∈ l, Q x = true ∧ P x = false) → (l.filter P).length < (l.filter Q).length
  | [], _, h => by obtain ⟨x, hx, _⟩ := h; cases hx
  | y :: l, hi, h => by
    have hle : ∀ {l : List α}, (∀ x ∈ l, P x = true → Q x = true) → (l.filter P).length ≤ (l.filter Q).length := by
      intro l
      induction l with
      | nil => intro _; exact Nat.le_refl _
      | cons z l ih =>
        intro hz
        have i := ih fun x hx => hz x (List.mem_cons_of_mem _ hx)
        have hq := hz z (List.mem_cons_self ..)
        rw [List.filter_cons, List.filter_cons]
        cases hp : P z with
        | true => rw [if_pos rfl, hq hp, if_pos rfl]; simpa using i
        | false =>
          rw [if_neg (by decide)]
          split
          · simp; omega
          · exact i
    have hi' := fun x hx => hi x (List.mem_cons_of_mem y hx)
    have hy := hi y (List.mem_cons_self ..)
    rw [List.filter_cons, List.filter_cons]
    obtain ⟨x, hx, h1, h2⟩ := h
    rcases List.mem_cons.1 hx with rfl | hx
    · rw [h1, h2, if_pos rfl, if_neg (by decide)]
      have := hle hi'
      simp; omega
    · have i := filter_lt hi' ⟨x, hx, h1, h2⟩
      cases hp : P y with
      | true => rw [if_pos rfl, hy hp, if_pos rfl]; simpa using i
      | false =>
        rw [if_neg (by decide)]
        split
        · simp; omega
        · exact i
theorem setL_lt_of {a b c d : Nat} (ha : U64 a) (hb : U64 b) (hc : U64 c) (hd : U64 d) (h : ∀ j, hasB a b j = true → hasB c d j = true) (hne : ¬ (c = a ∧ d = b)) : (setL a b).length < (setL c d).length := by
  rw [setL_eq, setL_eq]
  refine filter_lt (fun x _ => h x) (Classical.byContradiction fun hn => hne (set_ext hc hd ha hb fun j => ?_))
  by_cases hj : j < 128
  · cases h1 : hasB a b j with
    | true => exact h j h1
    | false =>
      cases h2 : hasB c d j with
      | false => rfl
      | true => exact absurd ⟨j, List.mem_range.2 hj, h2, h1⟩ hn
  · rw [hasB_ge _ _ (by omega), hasB_ge _ _ (by omega)]
theorem setL_le (a b : Nat) : (setL a b).length ≤ 128 := by
  rw [setL_eq]
  have := List.length_filter_le (hasB a b) (List.range 128)
  simpa using this
section
variable {ls : List Lk} {n : Nat} {F : Nat → Bool} {a : Int}
/-- A set of some to which one comes, the first among them. -/
structure ReI (ls : List Lk) (n : Nat) (F : Nat → Bool) (a : Int) (p q : Nat) : Prop where
  up : U64 p
  uq : U64 q
  come : ∀ v, hasI p q v = true → Comes ls n F a v
  start : InN n a → hasI p q a = true
/-- On the way to the next one: links looked at. -/
structure MoI (ls : List Lk) (n : Nat) (F : Nat → Bool) (a : Int) (p q : Nat) (pre : List N128) (x y : Nat) : Prop where
  ux : U64 x
  uy : U64 y
  ext : ∀ j, hasB p q j = true → hasB x y j = true
  come : ∀ v, hasI x y v = true → Comes ls n F a v
  hit : ∀ k ∈ pre, ∀ l, ls[k.1]? = some l → hasI x y l.to = true
theorem MoI.start {p q : Nat} (h : ReI ls n F a p q) : MoI ls n F a p q [] p q := ⟨h.up, h.uq, fun _ h => h, h.come, fun _ h => by cases h⟩
theorem hasI_or (x y c d : Nat) (v : Int) : hasI (x ||| c) (y ||| d) v = (hasI x y v || hasI c d v) := by unfold hasI; rw [hasB_or]; cases decide (0 ≤ v) <;> simp
theorem hasI_one (i v : Int) : hasI (oneW i).1 (oneW i).2 v = (decide (0 ≤ v ∧ v < 128) && decide (v = i)) := by
  unfold hasI
  rw [hasB_one, Bool.eq_iff_iff]
  simp
  omega
theorem MoI.next (hm : MayL n ls) (hn : n ≤ 128) {p q : Nat} {pre : List N128} {x y : Nat} (h : MoI ls n F a p q pre x y) {k : N128} {l : Lk} (hk : ls[k.1]? = some l) (hF : F k.1 = false) (hfr : hasI p q l.fr = true) (hp : ∀ v, hasI p q v = true → Comes ls n F a v) :
    MoI ls n F a p q (pre ++ [k]) (x ||| (oneW l.to).1) (y ||| (oneW l.to).2) := by
  obtain ⟨_, hto, _⟩ := hm _ _ hk
  unfold InN at hto
  refine ⟨h.ux.or (oneW_u64 _).1, h.uy.or (oneW_u64 _).2, fun j hj => by rw [hasB_or, h.ext j hj]; rfl, fun v hv => ?_, fun k' hk' l' hl' => ?_⟩
  · rw [hasI_or, Bool.or_eq_true] at hv
    rcases hv with hv | hv
    · exact h.come v hv
    · rw [hasI_one] at hv
      simp at hv
      rw [hv.2]
      obtain ⟨d, hd⟩ := hp _ hfr
      exact ⟨_, .go hd hk hF rfl⟩
  · rw [hasI_or, Bool.or_eq_true]
    rcases List.mem_append.1 hk' with hk' | hk'
    · exact .inl (h.hit k' hk' l' hl')
    · obtain rfl := List.mem_singleton.1 hk'
      rw [hk] at hl'
      injection hl' with hl'
      subst hl'
      right
      rw [hasI_one]
      simp
      omega
/-- The words of the links that leave a set, those that failed aside. -/
def lvW (ls : List Lk) (p q fa fb : Nat) : Nat × Nat := (lessN (whS (fun l => hasI p q l.fr) ls).1 fa, lessN (whS (fun l => hasI p q l.fr) ls).2 fb)
theorem has_lv {p q fa fb : Nat} (ua : U64 fa) (ub : U64 fb) (j : Nat) : hasB (lvW ls p q fa fb).1 (lvW ls p q fa fb).2 j = (decide (j < 128) && (ls[j]?.map fun l => hasI p q l.fr).getD false && !hasB fa fb j) := by
  obtain ⟨u1, u2⟩ := whS_u64 (fun l => hasI p q l.fr) ls
  unfold lvW
  rw [hasB_less u1 u2 ua ub]
  unfold whS
  rw [hasB_idx]
theorem listN_mem {x y : Nat} {k : N128} (h : k ∈ listN x y) : hasB x y k.1 = true := by
  rw [← setL_mem, ← listN_val]
  exact List.mem_map.2 ⟨k, h, rfl⟩
theorem mem_listN {x y j : Nat} (h : hasB x y j = true) : ∃ k ∈ listN x y, k.1 = j := by
  rw [← setL_mem, ← listN_val] at h
  obtain ⟨k, hk, e⟩ := List.mem_map.1 h
  exact ⟨k, hk, e⟩
theorem lv_link {p q fa fb : Nat} (ua : U64 fa) (ub : U64 fb) {j : Nat} (h : hasB (lvW ls p q fa fb).1 (lvW ls p q fa fb).2 j = true) : ∃ l, ls[j]? = some l ∧ hasI p q l.fr = true ∧ hasB fa fb j = false := by
  have := h
  rw [has_lv ua ub] at this
  simp only [Bool.and_eq_true, Bool.not_eq_true'] at this
  obtain ⟨⟨_, h1⟩, h2⟩ := this
  cases hl : ls[j]? with
  | none => rw [hl] at h1; simp at h1
  | some l => rw [hl] at h1; exact ⟨l, rfl, by simpa using h1, h2⟩
theorem ReI.done (hl : ls.length ≤ 128) {p q fa fb : Nat} (ua : U64 fa) (ub : U64 fb) (h : ReI ls n (hasB fa fb) a p q) (hM : MoI ls n (hasB fa fb) a p q (listN (lvW ls p q fa fb).1 (lvW ls p q fa fb).2) p q) (v : Int) : hasI p q v = true ↔ Comes ls n (hasB fa fb) a v := by
  refine ⟨h.come v, fun hv => ?_⟩
  refine comes_closed (S := fun v => hasI p q v = true) h.start (fun i l hi hF hfr => ?_) hv
  have hlt := (List.getElem?_eq_some_iff.1 hi).1
  obtain ⟨k, hk, e⟩ := mem_listN (x := (lvW ls p q fa fb).1) (y := (lvW ls p q fa fb).2) (j := i) (by
    rw [has_lv ua ub, hi, hF]
    simp [hfr]
    omega)
  exact hM.hit k hk l (by rw [e]; exact hi)
theorem ReI.next {p q x y : Nat} {pre : List N128} (h : ReI ls n F a p q) (hM : MoI ls n F a p q pre x y) : ReI ls n F a x y := by
  refine ⟨hM.ux, hM.uy, hM.come, fun ha => ?_⟩
  have := h.start ha
  unfold hasI at this ⊢
  rw [Bool.and_eq_true] at this ⊢
  exact ⟨this.1, hM.ext _ this.2⟩
theorem ReI.init {n : Nat} (hn : n ≤ 128) : ReI ls n F a ((ofS (firstN (min (n : Int) 128).toNat)).1 &&& (ofS [a]).1) ((ofS (firstN (min (n : Int) 128).toNat)).2 &&& (ofS [a]).2) := by
  have hand : ∀ v, hasI ((ofS (firstN (min (n : Int) 128).toNat)).1 &&& (ofS [a]).1) ((ofS (firstN (min (n : Int) 128).toNat)).2 &&& (ofS [a]).2) v = (decide (InN n v) && decide (v = a)) := by
    intro v
    have h1 := has_routers n hn v
    unfold hasI at h1 ⊢
    rw [hasB_and, ← h1, hasB_ofS [a], Bool.eq_iff_iff]
    simp only [Bool.and_eq_true, decide_eq_true_eq, List.any_cons, List.any_nil, Bool.or_false]
    constructor
    · rintro ⟨h0, h2, h3, h4⟩
      exact ⟨⟨h0, h2⟩, by omega⟩
    · rintro ⟨⟨h0, h2⟩, rfl⟩
      refine ⟨h0, h2, ?_, by omega⟩
      by_cases hj : v.toNat < 128
      · exact hj
      · rw [hasB_ge _ _ (by omega)] at h2; cases h2
  refine ⟨(ofS_u64 _).1.and _, (ofS_u64 _).2.and _, fun v hv => ?_, fun ha => ?_⟩
  · rw [hand] at hv
    simp only [Bool.and_eq_true, decide_eq_true_eq] at hv
    obtain ⟨h1, rfl⟩ := hv
    exact ⟨0, .nil h1⟩
  · rw [hand]
    simp [ha]
end

set_option maxHeartbeats 1000000 in
theorem reach1_any (l : Lk) (p q : Nat) (hp : U64 p) (hq : U64 q) (C : Nat) (w : World) (hs : SetAt w C p q) :
    Calls Tryz.prog 66 #[lkV l, .pointer (some ⟨C, 0, none⟩)] w fun e w' => e = .returned (.bool (hasI p q l.fr)) ∧ Below w.heap.size w w' := by
  have hb := below_new w (.cells #[.string l.nm, .int .i64 l.fr, .int .i64 l.to, .int .u64 l.ds] 31)
  obtain ⟨k0, k1, -⟩ := (hs.step hb).cells
  have HB := Lib.hid hb
  have HH := Lib.hid (fun W => has_any p q l.fr hp hq W)
  clear hb hs
  go_enter Tryz.func66, Tryz.ntmps66
  go_wp2_with fail
  refine (HH.out _).mono ?_
  rintro e w2 ⟨rfl, b2⟩
  go_wp2_with fail
  go_ret
  exact ⟨rfl, HB.out.trans (b2.mono HB.out.size)⟩
end Go.Proofs.YtkijbiaenfeijaaGreatDoor

namespace Go.Proofs.YtkijbiaenfeijaaGreatDoor
open Go.RowKit Go.Extern.Stop Go.Stop Go.Extern Go.Shelf
attribute [local go_sem] Oper.semAt_some

/-- What the call keeps all the way: its boxes of the topology, of the failed links, of the result. -/
structure RS (w : World) (vr vl : Value) (fa fb : Nat) (W : World) : Prop where
  topo : W.heap[w.heap.size]? = some (.cells #[vr, vl] 25 (0, 0))
  fl : SetAt W (w.heap.size + 1) fa fb
  res : SetAt W (w.heap.size + 1 + 1) 0 0
  below : Below w.heap.size w W
theorem RS.lt {w : World} {vr vl : Value} {fa fb : Nat} {W : World} (h : RS w vr vl fa fb W) : w.heap.size + 1 + 1 < W.heap.size := (Array.getElem?_eq_some_iff.1 h.res).1
theorem RS.step {w : World} {vr vl : Value} {fa fb : Nat} {W W' : World} (h : RS w vr vl fa fb W) (hb : Below W.heap.size W W') : RS w vr vl fa fb W' :=
  ⟨(hb.block _ (Array.getElem?_eq_some_iff.1 h.topo).1).trans h.topo, h.fl.step hb, h.res.step hb, h.below.trans (hb.mono h.below.size)⟩
theorem RS.far {w : World} {vr vl : Value} {fa fb : Nat} {W : World} (h : RS w vr vl fa fb W) {b : Nat} (hb : w.heap.size + 1 + 1 < b) (i : Nat) (u : Value) : RS w vr vl fa fb (W.setCell ⟨b, i, none⟩ u) :=
  ⟨(heap_setCell_other _ _ _ _ (by show w.heap.size ≠ b; omega)).trans h.topo, h.fl.far (by omega) _ _, h.res.far (by omega) _ _, h.below.setCell (p := ⟨b, i, none⟩) (by show _ ≤ b; omega) _⟩
theorem RS.cells {w : World} {vr vl : Value} {fa fb : Nat} {W : World} (h : RS w vr vl fa fb W) : W.cell? ⟨w.heap.size, 0, none⟩ = some vr ∧ W.cell? ⟨w.heap.size, 1, none⟩ = some vl :=
  ⟨by rw [Lib.cell_of_heap h.topo]; rfl, by rw [Lib.cell_of_heap h.topo]; rfl⟩
theorem RS.own {w : World} {vr vl : Value} {fa fb S : Nat} (hS : w.heap.size ≤ S) {β : Type} : OwnFrom S (fun (_ : β) W => RS w vr vl fa fb W) := fun s X Y row hs hg hr =>
  ⟨blk_kept hs.topo rfl hg (fun r e => (hr r e).2), hs.fl.own hg (fun r e => (hr r e).2), hs.res.own hg (fun r e => (hr r e).2), ownFrom_below (β := β) (Nat.le_refl _) hS s X Y row hs.below hg hr⟩
theorem RS.start (w : World) (vr vl : Value) (fa fb : Nat) : RS w vr vl fa fb (((w.alloc (.cells #[vr, vl] 25)).alloc (.cells #[.int .u64 (fa : Int), .int .u64 (fb : Int)] 35)).alloc (.cells #[.int .u64 0, .int .u64 0] 35)) := by
  refine ⟨?_, ?_, ?_, ?_⟩
  · exact ((heap_alloc_old _ _ (by simp; omega)).trans (heap_alloc_old _ _ (by simp))).trans (heap_alloc_new w _)
  · have := heap_alloc_new (w.alloc (.cells #[vr, vl] 25)) (.cells #[.int .u64 (fa : Int), .int .u64 (fb : Int)] 35)
    rw [World.size_alloc] at this
    exact (heap_alloc_old _ _ (by simp)).trans this
  · have := heap_alloc_new ((w.alloc (.cells #[vr, vl] 25)).alloc (.cells #[.int .u64 (fa : Int), .int .u64 (fb : Int)] 35)) (.cells #[.int .u64 0, .int .u64 0] 35)
    rwa [World.size_alloc, World.size_alloc] at this
  · exact ((below_new w _).trans ((below_new _ _).mono (below_new w _).size)).trans ((below_new _ _).mono (by simp; omega))

/-- Between two rounds: what has been reached. -/
def ReR (w : World) (vr vl : Value) (ls : List Lk) (n fa fb : Nat) (a : Int) (Rb k : Nat) (Ds : List Nat) (W : World) : Prop :=
  ∃ p q, ReI ls n (hasB fa fb) a p q ∧ k = 128 - (setL p q).length ∧ SetAt W Rb p q ∧ RS w vr vl fa fb W ∧ MarksAt Ds w.heap.size W
set_option maxRecDepth 100000 in
set_option maxHeartbeats 8000000 in
theorem reach_any (a : Int) (fa fb : Nat) (ua : U64 fa) (ub : U64 fb) (vr vl : Value) (rs : List ByteArray) (ls : List Lk) (w : World) (ht : TpAt w vr vl rs ls) (hm : MayL rs.length ls) (hn : rs.length ≤ 64) (hl : ls.length ≤ 64) (htab : TabB w) :
    Calls Tryz.prog 21 #[.agg #[vr, vl], .int .i64 a, setV fa fb] w fun e w' => ∃ p q, e = .returned (setV p q) ∧ U64 p ∧ U64 q ∧ (∀ v, hasI p q v = true ↔ Comes ls rs.length (hasB fa fb) a v) ∧ Below w.heap.size w w' := by
  refine (callsIn_wide (n := 3)).1 ?_
  have h1 : 1 ≤ 3 := by omega
  obtain ⟨la, lcap, rfl⟩ := ht.ls.form
  have HT := Lib.hid ht
  have HR0 := Lib.hid (RS.start w vr (.slice la ls.length lcap) fa fb)
  have HI0 := Lib.hid (ReI.init (ls := ls) (F := hasB fa fb) (a := a) (show rs.length ≤ 128 by omega))
  clear ht
  refine callsIn_of_wp_marks Tryz.func21 rfl trivial ?_ rfl
  simp only [Tryz.ntmps21, List.size_toArray, List.length_cons, List.length_nil, Nat.reduceAdd, Nat.reduceSub, Array.replicate_succ, Array.replicate_zero, List.push_toArray, List.append_toArray, List.nil_append, List.cons_append]
  obtain ⟨k0, k1⟩ := HR0.out.cells
  gi_wp2
  refine ⟨trivial, ?_⟩
  gi_at_call 58
  refine (callsIn_wide.2 (routers_any vr (.slice la ls.length lcap) rs ls _ (HT.out.step HR0.out.below) (by omega))).mono ?_
  rintro e w2 ⟨rfl, b2⟩
  have hR2 := HR0.out.step b2
  have hb3 := below_new w2 (.cells #[.int .i64 a] 3)
  have hR3 := hR2.step hb3
  have HB23 := Lib.hid hb3
  have HO := Lib.hid (of_any [a] _ _ (ints_new w2 a) (by simp))
  have HR3 := Lib.hid hR3
  clear b2 hR2 hb3 hR3 k0 k1 HR0
  gi_wp2
  refine ⟨trivial, ?_⟩
  gi_at_call 39
  refine (callsIn_wide.2 HO.out).mono ?_
  rintro e w4 ⟨rfl, b4⟩
  have HR4 := Lib.hid (HR3.out.step b4)
  have HA := Lib.hid (fun W => and_any _ _ _ _ (ofS_u64 (firstN (min (rs.length : Int) 128).toNat)).1 (ofS_u64 (firstN (min (rs.length : Int) 128).toNat)).2 (ofS_u64 [a]).1 (ofS_u64 [a]).2 W)
  clear b4 HR3 HO HB23
  gi_wp2
  refine ⟨trivial, ?_⟩
  gi_at_call 56
  refine (callsIn_wide.2 (HA.out _)).mono ?_
  rintro e w5 ⟨rfl, b5⟩
  have hR5 := HR4.out.step b5
  clear b5 HR4 HA
  generalize (ofS (firstN (min (rs.length : Int) 128).toNat)).1 &&& (ofS [a]).1 = p0 at *
  generalize (ofS (firstN (min (rs.length : Int) 128).toNat)).2 &&& (ofS [a]).2 = q0 at *
  have HR6 := Lib.hid (hR5.step (below_new w5 (.cells #[.int .u64 (p0 : Int), .int .u64 (q0 : Int)] 35)))
  have HS6 := Lib.hid (boxed_set w5 p0 q0)
  have HL6 : Hid (w.heap.size + 1 + 1 < w5.heap.size) := Lib.hid hR5.lt
  clear hR5
  gi_wp2
  refine wpIn_loop_ghost_k (fun k A W => ∃ (Ds : List Nat) (u8 u9 u10 u11 u12 u13 u14 u15 u16 u17 u18 u19 u20 u21 u22 u23 u24 u25 u26 u27 u28 u29 u30 u31 u32 u33 u34 u35 u36 u37 u38 : Value), ReR w vr (.slice la ls.length lcap) ls rs.length fa fb a w5.heap.size k Ds W ∧
    A = { tmps := #[.agg #[vr, .slice la ls.length lcap], .int .i64 a, setV fa fb, .pointer (some ⟨w.heap.size, 0, none⟩), undef, .pointer (some ⟨w.heap.size + 1, 0, none⟩), .pointer (some ⟨w.heap.size + 1 + 1, 0, none⟩), .pointer (some ⟨w5.heap.size, 0, none⟩), u8, u9, u10, u11, u12, u13, u14, u15, u16, u17, u18, u19, u20, u21, u22, u23, u24, u25, u26, u27, u28, u29, u30, u31, u32, u33, u34, u35, u36, u37, u38], defers := marks Ds }) (128 - (setL p0 q0).length) ⟨[], _, _, _, _, _, _, _, _, _, _, _, _, _, _, _, _, _, _, _, _, _, _, _, _, _, _, _, _, _, _, _, ⟨p0, q0, HI0.out, rfl, HS6.out, HR6.out, MarksAt.nil _ _⟩, rfl⟩ ?_
  clear HI0 HS6 HR6
  rintro gk A W ⟨Ds, u8, u9, u10, u11, u12, u13, u14, u15, u16, u17, u18, u19, u20, u21, u22, u23, u24, u25, u26, u27, u28, u29, u30, u31, u32, u33, u34, u35, u36, u37, u38, ⟨p, q, hI, hgk, hs, hR, hMk⟩, rfl⟩ J K hJ hK
  have HI := Lib.hid hI
  have HG := Lib.hid hgk
  have HJ := Lib.hid hJ
  have HK := Lib.hid hK
  have HM := Lib.hid hMk
  have HR := Lib.hid hR
  have HS := Lib.hid hs
  have HW := Lib.hid (where_tpReach1 (fun l => hasI p q l.fr) (.pointer (some ⟨w5.heap.size, 0, none⟩)) vr (.slice la ls.length lcap) ls W (HT.out.step hR.below).ls (by omega) (fun l W' hb => reach1_any l p q hI.up hI.uq w5.heap.size W' (hs.step hb)))
  obtain ⟨k0, k1⟩ := hR.cells
  obtain ⟨c, d, hcd⟩ : ∃ c d, whS (fun l => hasI p q l.fr) ls = (c, d) := ⟨_, _, rfl⟩
  rw [hcd] at HW
  obtain ⟨uc, ud⟩ := whS_u64 (fun l => hasI p q l.fr) ls
  have hlv : lvW ls p q fa fb = (lessN c fa, lessN d fb) := by unfold lvW; rw [hcd]
  rw [hcd] at uc ud
  have HLV := Lib.hid hlv
  clear hI hgk hJ hK hMk hR hs hcd hlv
  gi_wp2
  refine ⟨trivial, ?_⟩
  gi_at_call 53
  refine (callsIn_wide.2 HW.out).mono ?_
  rintro e w6 ⟨rfl, b6⟩
  have hR6 := HR.out.step b6
  have hS6 := HS.out.step b6
  have hM6 := HM.out.keep (keeps_below b6)
  clear b6 HR HS HM HW k0 k1
  have hb7 := below_new w6 (.cells #[.int .u64 (c : Int), .int .u64 (d : Int)] 35)
  have hR7 := hR6.step hb7
  have hS7 := hS6.step hb7
  have hM7 := hM6.keep (KeepsOthers.alloc _ (.cells #[.int .u64 (c : Int), .int .u64 (d : Int)] 35))
  have hL7 := boxed_set w6 c d
  obtain ⟨r0, r1, -⟩ := hS7.cells
  have e7 : (w6.alloc (.cells #[.int .u64 (c : Int), .int .u64 (d : Int)] 35)).heap.size = w6.heap.size + 1 := World.size_alloc _ _
  have hb8 := below_new (w6.alloc (.cells #[.int .u64 (c : Int), .int .u64 (d : Int)] 35)) (.cells #[.int .u64 (p : Int), .int .u64 (q : Int)] 35)
  have hR8 := hR7.step hb8
  have hS8 := hS7.step hb8
  have hM8 := hM7.keep (KeepsOthers.alloc _ (.cells #[.int .u64 (p : Int), .int .u64 (q : Int)] 35))
  have hL8 := hL7.step hb8
  have hX8 := boxed_set (w6.alloc (.cells #[.int .u64 (c : Int), .int .u64 (d : Int)] 35)) p q
  rw [e7] at hX8
  obtain ⟨l0, l1, -⟩ := hL8.cells
  obtain ⟨f0, f1, -⟩ := hR8.fl.cells
  have HLess := Lib.hid (fun W => less_any c d fa fb uc ud ua ub W)
  have HR8 := Lib.hid hR8
  have HS8 := Lib.hid hS8
  have HM8 := Lib.hid hM8
  have HX8 := Lib.hid hX8
  have HRL := Lib.hid hR6.lt
  have HR5 := Lib.hid hS6.lt
  clear hb7 hR6 hS6 hM6 hR7 hS7 hM7 hL7 e7 hb8 hR8 hS8 hM8 hL8 hX8
  gi_wp2
  refine ⟨trivial, ?_⟩
  gi_at_call 63
  refine (callsIn_wide.2 (HLess.out _)).mono ?_
  rintro e w9 ⟨rfl, b9⟩
  have hR9 := HR8.out.step b9
  have hS9 := HS8.out.step b9
  have hM9 := HM8.out.keep (keeps_below b9)
  have hX9 := HX8.out.step b9
  clear b9 HR8 HS8 HM8 HX8 HLess l0 l1 f0 f1 r0 r1
  have ue : U64 (lessN c fa) := U64.less _ uc
  have uf : U64 (lessN d fb) := U64.less _ ud
  generalize lessN c fa = e1 at *
  generalize lessN d fb = e2 at *
  gi_wp2_with (refine ⟨trivial, ?_⟩; gi_at_call 57; refine (callsIn_wide.2 (all_any e1 e2 _)).mono ?_; rintro e w' ⟨rfl, rfl⟩)
  have hbA := below_new w9 (.cells #[.int .u64 (e1 : Int), .int .u64 (e2 : Int)] 35)
  have hR := hR9.step hbA
  have hS := hS9.step hbA
  have hM := hM9.keep (KeepsOthers.alloc _ (.cells #[.int .u64 (e1 : Int), .int .u64 (e2 : Int)] 35))
  have hX := hX9.step hbA
  have hA := boxed_set w9 e1 e2
  have hT := htab.below htab.lt hR.below
  have HRb : Hid (w5.heap.size < w6.heap.size) := Lib.hid HR5.out
  clear hbA hR9 hS9 hM9 hX9
  have HR0 : Hid (w.heap.size ≤ (w9.alloc (.cells #[.int .u64 (e1 : Int), .int .u64 (e2 : Int)] 35)).heap.size) := Lib.hid hR.below.size
  generalize w9.alloc (.cells #[.int .u64 (e1 : Int), .int .u64 (e2 : Int)] 35) = W0 at *
  refine wpIn_rangeFunc_ownF rfl h1 (gf := 98) (lb := #[.pointer (some ⟨w9.heap.size, 0, none⟩)]) rfl trivial (enters_of Tryz.func98 (by kernel_rfl) rfl)
    (all1_stopsM 2 (by omega) w9.heap.size w.heap.size e1 e2 ue uf _ hA hT htab.lt) belowK_t (belowK_b hR.below.size) (Below.refl _ _) (fun _ => rfl)
    (fun pre X => (RS w vr (.slice la ls.length lcap) fa fb X ∧ SetAt X w5.heap.size p q) ∧ (∃ x y, MoI ls rs.length (hasB fa fb) a p q (pre.map (·.1)) x y ∧ SetAt X (w6.heap.size + 1) x y) ∧ MarksAt Ds w.heap.size X)
    (fun _ _ _ => False)
    (OwnFrom.and (OwnFrom.and (RS.own hR.below.size) (fun s X Y row hs hg hr => hs.own hg (fun r e => (hr r e).2))) (OwnFrom.and (fun s X Y row hs hg hr => by obtain ⟨x, y, hf, hs⟩ := hs; exact ⟨x, y, hf, hs.own hg (fun r e => (hr r e).2)⟩) (marks_own Ds w.heap.size _ hM.lt)))
    (fun _ _ _ _ _ hs _ _ => hs)
    ⟨⟨hR, hS⟩, ⟨p, q, MoI.start HI.out, hX⟩, hM⟩
    ?a1 ?assign ?body ?done ?stop
  case assign =>
    intro l x W K hK
    gi_wp2
    exact hK
  case body =>
    rintro l pre x X ⟨⟨hR, hS⟩, ⟨x1, y1, hMo, hX⟩, hMk⟩ _
    obtain ⟨lk, hlk, hfr, hF⟩ := lv_link (ls := ls) (p := p) (q := q) ua ub (j := x.1.1) (by rw [HLV.out]; exact x.2)
    have hMn := hMo.next hm (by omega) hlk hF hfr HI.out.come
    obtain ⟨lb, loff, rfl, c0, c1, c2, c3⟩ := HT.out.ls.at hlk hR.below
    obtain ⟨k0, k1⟩ := hR.cells
    obtain ⟨x0, x1', xf⟩ := hX.cells
    have HWt := Lib.hid (fun W' => with_any x1 y1 lk.to hMo.ux hMo.uy W')
    have hxb : ((x.1.1 : Nat) : Int) < ls.length := by have := (List.getElem?_eq_some_iff.1 hlk).1; omega
    have HMn := Lib.hid hMn
    have HR' := Lib.hid hR
    have HS' := Lib.hid hS
    have HX' := Lib.hid hX
    have HMk := Lib.hid hMk
    have hmx : Tryz.prog.follows .mixedOrders = true := by kernel_rfl
    clear hMn hMo hR hS hX hMk xf
    generalize x1 ||| (oneW lk.to).1 = x2 at *
    generalize y1 ||| (oneW lk.to).2 = y2 at *
    gi_wp2
    gi_region_with_o (refine ⟨trivial, ?_⟩; gi_at_call 67; refine (CallsIn.inRound l (callsIn_wide.2 (HWt.out _))).mono ?_; rintro e w3 ⟨rfl, b3⟩; have b' : Below X.heap.size X w3 := (Below.refl X.heap.size X).drew.trans b3; have hX3 := HX'.out.step b'; obtain ⟨n0, n1, nf⟩ := hX3.cells; have n2 := nf 0; have n3 := nf 1)
    all_goals gi_wp2
    all_goals exact ⟨((keeps_below b').trans (KeepsOthers.setCell _ _ _)).trans (KeepsOthers.setCell _ _ _),
      ((b'.mono HR'.out.below.size).setCell (p := ⟨w6.heap.size + 1, 0, none⟩) (by show _ ≤ w6.heap.size + 1; have := HRL.out; omega) _).setCell (p := ⟨w6.heap.size + 1, 1, none⟩) (by show _ ≤ w6.heap.size + 1; have := HRL.out; omega) _,
      ⟨((HR'.out.step b').far (by have := HRL.out; omega) _ _).far (by have := HRL.out; omega) _ _, ((HS'.out.step b').far (by have := HRb.out; omega) _ _).far (by have := HRb.out; omega) _ _⟩,
      ⟨x2, y2, by rw [List.map_append]; exact HMn.out, hX3.put _ _⟩, ((HMk.out.keep (keeps_below b')).keep (KeepsOthers.setCell _ _ _)).keep (KeepsOthers.setCell _ _ _)⟩
  case done =>
    rintro D xs X hD rfl ⟨⟨hR, hS⟩, ⟨x, y, hMo, hX⟩, hMk⟩ hK
    rw [listM_val] at hMo
    have hMc := hMk.cons hM.lt hD (Nat.le_trans HR0.out hD) hK
    obtain ⟨x0, x1, -⟩ := hX.cells
    obtain ⟨s0, s1, sf⟩ := hS.cells
    have s2 := sf 0
    have s3 := sf 1
    have heq := eq_set x y p q
    by_cases hxy : x = p ∧ y = q
    · obtain ⟨rfl, rfl⟩ := hxy
      have hq : ((x : Int) == x && (y : Int) == y) = true := by simp
      rw [hq] at heq
      obtain ⟨r0, r1, rf⟩ := hR.res.cells
      have r2 := rf 0
      have r3 := rf 1
      have HRR := Lib.hid hR
      have HMC := Lib.hid hMc
      have HFin := Lib.hid (fun v => ReI.done (a := a) (n := rs.length) (ls := ls) (by omega) ua ub HI.out (by rw [HLV.out]; exact hMo) v)
      have HUP := Lib.hid HI.out.up
      have HUQ := Lib.hid HI.out.uq
      clear hR hS hX hMk hMc hMo rf sf hK hq HI
      gi_wp2
      refine leaves_marks (B := w.heap.size) (D :: Ds) _ ((HMC.out.keep (KeepsOthers.setCell _ _ _)).keep (KeepsOthers.setCell _ _ _)) fun w' hsh => ⟨setV x y, ?_, x, y, rfl, HUP.out, HUQ.out, HFin.out, ?_⟩
      · have d1 := (HRR.out.res.put x y).cells
        have q0 := hsh.cell _ _ d1.1
        have q1 := hsh.cell _ _ d1.2.1
        simp [results, Tryz.f21, go_sem, q0, q1]
      · exact ((HRR.out.below.setCell (p := ⟨w.heap.size + 1 + 1, 0, none⟩) (by show _ ≤ w.heap.size + 1 + 1; omega) _).setCell (p := ⟨w.heap.size + 1 + 1, 1, none⟩) (by show _ ≤ w.heap.size + 1 + 1; omega) _).trans hsh.below
    · have hq : ((x : Int) == p && (y : Int) == q) = false := by
        rw [Bool.eq_false_iff]
        intro h
        simp at h
        omega
      rw [hq] at heq
      have HRR := Lib.hid hR
      have HMC := Lib.hid hMc
      have HSS := Lib.hid hS
      have HN := Lib.hid (HI.out.next hMo)
      have HLt := Lib.hid (setL_lt_of HI.out.up HI.out.uq hMo.ux hMo.uy hMo.ext hxy)
      have HLe := Lib.hid (setL_le x y)
      clear hR hS hX hMk hMc hMo sf hK hq HI hxy
      gi_wp2
      refine HK.out _ _ (Handed.intro (128 - (setL x y).length) (by have := HLt.out; have := HLe.out; have := HG.out; omega) (HJ.out _ _ _ ⟨D :: Ds, _, _, _, _, _, _, _, _, _, _, _, _, _, _, _, _, _, _, _, _, _, _, _, _, _, _, _, _, _, _, _, ⟨x, y, HN.out, rfl, HSS.out.put x y, (HRR.out.far HL6.out _ _).far HL6.out _ _, (HMC.out.keep (KeepsOthers.setCell _ _ _)).keep (KeepsOthers.setCell _ _ _)⟩, rfl⟩))
  case stop =>
    rintro D c' pre X _ _ h _
    exact h.elim
end Go.Proofs.YtkijbiaenfeijaaGreatDoor
