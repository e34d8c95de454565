/-
  Package pds by contracts: a rule that fits, done to what stands.
-/
import Derived.Test.YtjanbhodikhdeaaDoorPdK
import Derived.Test.YtjanbhodikhdeaaDoorBackI
import Derived.Test.YtjanbhodikhdeaaDoorRegIn
import Derived.Test.YtjanbhodikhdeaaDoorScanF
namespace Go.Proofs.YtjanbhodikhdeaaDoor
open Go.RowKit Go.Extern.Stop Go.Stop Go.Extern Go.Shelf
attribute [local go_sem] Oper.semAt_some

section
variable {F : Fence} {n : Nat} {P : Program} {ops : Array Oper} {Q : Exit → Act → World → Prop} {md : Region.Mode} {S : World → Prop}
/-- Either of two may come up. -/
theorem wpH_two {i i' : Nat} {oi oi' : Oper} {fuel : Nat} {listed : Array Bool} {a : Act} {w : World} (hr : Region.ready md ops listed = [i, i']) (hi : ops[i]? = some oi) (hi' : ops[i']? = some oi')
    (h : ∀ K : Act → World → Prop, (∀ a' w', (S w' ∧ wpH F n P md ops Q S fuel (listed.setIfInBounds i true) a' w') → K a' w') → if Region.wanted oi (yielded ops a.tmps) = true then Oper.wpIn F n P oi a w K Q else (∀ f, oi.about P w a.eval = some f → F.fn f) ∧ K (a.put oi.dst undef) w)
    (h' : ∀ K : Act → World → Prop, (∀ a' w', (S w' ∧ wpH F n P md ops Q S fuel (listed.setIfInBounds i' true) a' w') → K a' w') → if Region.wanted oi' (yielded ops a.tmps) = true then Oper.wpIn F n P oi' a w K Q else (∀ f, oi'.about P w a.eval = some f → F.fn f) ∧ K (a.put oi'.dst undef) w) :
    wpH F n P md ops Q S (fuel + 1) listed a w :=
  ⟨fun h0 => (by rw [hr] at h0; cases h0), fun j hj => by
    rw [hr] at hj
    rcases List.mem_cons.1 hj with rfl | hj
    · exact wpOpIn_step hi h
    · obtain rfl := List.mem_singleton.1 hj
      exact wpOpIn_step hi' h'⟩
end
/-- append of one number at a step of a region that draws its order, inside a fence. -/
theorem step_append_oneIn {F : Fence} {n0 : Nat} {ops : Array Oper} {o : Oper} {a : Act} {K : Act → World → Prop} {Q : Exit → Act → World → Prop} {E : Prop} (w : World) (hgd : o.guard = none) (s x : Operand) (ho : o.op = .call { callee := .builtin .append, args := #[s, x], argTypes := #[25, 25] })
    (base : Nat) (v : Value) (n : Nat) (xs : List Value) (hs : a.eval s = v) (hown : w.ownsRow base 3 1 v n xs) (b : Nat) (z : Int) (hx : a.eval x = .slice (some ⟨b, 0, none⟩) 1 1) (hc : w.heap[b]? = some (.cells #[.int .i64 z] 3 (0, 0))) (hn : n ≤ 1000000) (hbase : base ≤ w.heap.size)
    (h : ∀ g cap w', w'.ownsRow base 3 1 (.slice (some ⟨g, 0, none⟩) (n + 1) cap) (n + 1) (xs ++ [.int .i64 z]) → w.grownBy w' v.ownBlock → (v.ownBlock = some g ∨ g = w.heap.size) → K (a.put o.dst (.slice (some ⟨g, 0, none⟩) (n + 1) cap)) w') :
    if Region.wanted o (yielded ops a.tmps) = true then Oper.wpIn F n0 Tryd.prog o a w K Q else E := by
  have hw : Region.wanted o (yielded ops a.tmps) = true := by simp [Region.wanted, hgd]
  rw [if_pos hw]
  obtain ⟨i0, hi, hz0, hz1, hz2⟩ := info_parts infoInt
  obtain ⟨g, cap, w', h1, h2, h3, h4, -⟩ := run_append_lies (P := Tryd.prog) w 25 o.type base 3 i0 (.int .i64 0) 1 8 Tryd.underlying25 hi hz0 hz1 hz2 rfl (by decide) v n xs hown ⟨b, 0, none⟩ 1 1 [.int .i64 z] rfl (World.news_of_block (cs := #[.int .i64 z]) hc) (by simp [Value.oneCell']) (by decide) (by unfold maxLen; omega) (by omega) hbase _ rfl
  unfold Oper.wpIn
  refine ⟨?_, ?_⟩
  · simp [Oper.about, ho, resolve, Target.leads, Sem.run_pure]
  · rw [Oper.semAt_plain F _ _ (by rw [ho]; intro c hc'; cases hc')]
    simp [execOp, ho, resolve, invoke, builtin, hs, hx, h1, Result.andThen]
    exact h _ _ _ h2 h3 h4

/-- On the way through a rule's push. -/
structure DoI (B : Nat) (w : World) (M Pb X : Nat) (to : Int) (v v' : Value) (n : Nat) (xs : List Value) (W : World) : Prop where
  st : W.heap[Pb]? = some (.cells #[.int .i64 to, v'] 56 (0, 0))
  px : W.heap[X]? = some (.cells #[.pointer (some ⟨Pb, 0, none⟩)] 77 (0, 0))
  own : W.ownsRow B 3 1 v' n xs
  ob : v'.ownBlock = v.ownBlock ∨ ∀ q, v'.ownBlock = some q → M ≤ q
  sz : M ≤ W.heap.size
  kp : Keeps (fun q => q = Pb ∨ v.ownBlock = some q) w W
theorem IntsAt.stepB {B : Nat} {w w' : World} {a : Option Addr} {n c : Nat} {l : List Int} (h : IntsAt w (.slice a n c) l) (hb : Below B w w') (ha : ∀ ad, a = some ad → 0 < l.length → ad.block < B) : IntsAt w' (.slice a n c) l := by
  rcases h with ⟨a', c', e, hl⟩ | ⟨b, off, c', e, hlt, hc⟩
  · exact .inl ⟨a', c', e, hl⟩
  · have e2 := e
    injection e2 with e2
    by_cases hl0 : 0 < l.length
    case neg => exact .inl ⟨a, c, by injection e with _ e3 e4; rw [e3, show l.length = 0 by omega], List.eq_nil_of_length_eq_zero (by omega)⟩
    have hB := ha _ e2 hl0
    exact .inr ⟨b, off, c', e, Nat.lt_of_lt_of_le hlt hb.size, fun i c hi => (hb.cell (p := ⟨b, off + i, none⟩) hB).trans (hc i c hi)⟩
theorem Lies.put {D : Nat → Prop} {m : Nat} (hD : ∀ q, D q → q < m) (W : World) (l : Nat) (o' : Obj) (hl : m ≤ l) : Lies D W (W.putObj l o') :=
  ⟨(grownBy_putObj' W l o').size, fun q hq hlt => (grownBy_putObj' W l o').block q hlt (fun e => by injection e with e; have := hD q hq; omega)⟩
/-- What it abides: a turn of what is no cells, from the loop's own blocks on. -/
theorem DoI.turn {B : Nat} {w : World} {M Pb X : Nat} {to : Int} {v v' : Value} {n : Nat} {xs : List Value} {W Y : World} {row : Option Nat} {B' : Nat} (h : DoI B w M Pb X to v v' n xs W) (hB : w.heap.size ≤ B') (hg : W.grownBy Y row) (hr : ∀ r, row = some r → B' ≤ r ∧ ∃ o : Obj, W.heap[r]? = some o ∧ o.isCells = false) : DoI B w M Pb X to v v' n xs Y := by
  have hk : ∀ {q : Nat} {o : Obj}, W.heap[q]? = some o → o.isCells = true → Y.heap[q]? = some o := fun {q} {o} hq ho => (hg.block q (blt hq) (fun e => by
    obtain ⟨_, o', h1, h2⟩ := hr q e.symm
    rw [hq] at h1
    obtain rfl := Option.some.inj h1
    rw [ho] at h2
    cases h2)).trans hq
  have ho : W.ownsRow B 3 1 v' n xs → Y.ownsRow B 3 1 v' n xs := fun ho => by
    rcases ho.2 with ⟨e0, -⟩ | ⟨g, cap, cur, e0, -, hh, -⟩
    · exact ho.kept hg (.inl (by rw [e0]; rfl))
    · refine ho.kept hg (.inr fun e => ?_)
      rw [e0] at e
      obtain ⟨_, o', h1, h2⟩ := hr g e.symm
      rw [hh] at h1
      obtain rfl := Option.some.inj h1
      cases h2
  exact ⟨hk h.st rfl, hk h.px rfl, ho h.own, h.ob, Nat.le_trans h.sz hg.size, ⟨hg.os.trans h.kp.os, hg.tape.trans h.kp.tape, hg.output.trans h.kp.output, Nat.le_trans h.kp.size hg.size, fun k hlt hD => (hg.block k (Nat.lt_of_lt_of_le hlt h.kp.size) (fun e => by have := (hr k e.symm).1; omega)).trans (h.kp.block k hlt hD)⟩⟩
theorem _root_.Go.World.ownsRow.own_ne' {w : World} {B : Nat} {e e' : TypeId} {sz n b : Nat} {v : Value} {xs : List Value} {cs : Array Value} (h : w.ownsRow B e sz v n xs) (hb : w.heap[b]? = some (.cells cs e' (0, 0))) (hne : e' ≠ e) : v.ownBlock ≠ some b := by
  intro hv
  rcases h.2 with ⟨rfl, -⟩ | ⟨g, cap, cur, rfl, -, h1, -⟩
  · cases hv
  · have e2 : g = b := by injection hv
    subst e2
    rw [hb] at h1
    injection h1 with h1
    injection h1 with _ h1
    exact hne h1
theorem grown_set (w : World) (B i : Nat) (u : Value) : w.grownBy (w.setCell ⟨B, i, none⟩ u) (some B) :=
  ⟨rfl, rfl, rfl, by rw [World.size_setCell]; exact Nat.le_refl _, fun k _ hne => heap_setCell_other w ⟨B, i, none⟩ k u (fun e => hne (by rw [e]))⟩
theorem own_cells {w : World} {B : Nat} {e : TypeId} {sz n : Nat} {v : Value} {xs : List Value} (h : w.ownsRow B e sz v n xs) {j : Nat} {o : Obj} (hv : v.ownBlock = some j) (hj : w.heap[j]? = some o) : o.isCells = true := by
  rcases h.2 with ⟨rfl, -⟩ | ⟨g, cap, cur, rfl, -, h1, -⟩
  · cases hv
  · have e2 : g = j := by injection hv
    subst e2
    rw [hj] at h1
    obtain rfl := Option.some.inj h1
    rfl
theorem encI_snoc' (l m : List Int) : encI (l ++ m) = encI l ++ encI m := by unfold encI; rw [List.map_append]
/-- Fewer of a row's own. -/
theorem ownsRow_shorter {w : World} {B : Nat} {e : TypeId} {g n m cap : Nat} {xs ys : List Value} (h : w.ownsRow B e 1 (.slice (some ⟨g, 0, none⟩) n cap) n (xs ++ ys)) (hm : xs.length = m) : w.ownsRow B e 1 (.slice (some ⟨g, 0, none⟩) m cap) m xs := by
  refine ⟨by omega, ?_⟩
  have hl := h.1
  rw [List.length_append] at hl
  rcases h.2 with ⟨h0, -⟩ | ⟨g', cap', cur, e0, hB, hh, hle, hmx, hsz, hx⟩
  · cases h0
  · injection e0 with e1 e2 e3
    injection e1 with e1
    injection e1 with e1
    subst e1 e3
    refine .inr ⟨g, cap, cur, rfl, hB, hh, by omega, hmx, hsz, ?_⟩
    have := congrArg (List.take m) hx
    rw [List.take_take, List.take_left' hm] at this
    rw [← this]
    congr 1
    omega
def DoP (B : Nat) (w : World) (Pb : Nat) (to : Int) (v : Value) (l : List Int) (n : Nat) (e : Ending) (w' : World) : Prop :=
  e = .returned (.tuple #[]) ∧ ∃ v', w'.heap[Pb]? = some (.cells #[.int .i64 to, v'] 56 (0, 0)) ∧ w'.ownsRow B 3 1 v' n (encI l) ∧ (v'.ownBlock = v.ownBlock ∨ ∀ q, v'.ownBlock = some q → w.heap.size ≤ q) ∧ Keeps (fun q => q = Pb ∨ v.ownBlock = some q) w w'
set_option maxRecDepth 100000 in
set_option maxHeartbeats 8000000 in
theorem do21_any (B : Nat) (w : World) (hB : B ≤ w.heap.size) (Pb : Nat) (hPb : Pb < w.heap.size) (s : Int) (g cap : Nat) (t : Int) (st : List Int) (hP : w.heap[Pb]? = some (.cells #[.int .i64 s, .slice (some ⟨g, 0, none⟩) (st.length + 1) cap] 56 (0, 0)))
    (hown : w.ownsRow B 3 1 (.slice (some ⟨g, 0, none⟩) (st.length + 1) cap) (st.length + 1) (encI (t :: st).reverse)) (hl : st.length ≤ 100000)
    (r : Ru) (pa : Option Addr) (pc : Nat) (hp : IntsAt w (.slice pa r.push.length pc) r.push) (hpl : r.push.length ≤ 100000) (hpa : ∀ ad, pa = some ad → 0 < r.push.length → ad.block < B) (hBP : B ≤ Pb) :
    Calls Tryd.prog 26 #[.pointer (some ⟨Pb, 0, none⟩), ruV r pa pc] w (DoP B w Pb r.to (.slice (some ⟨g, 0, none⟩) (st.length + 1) cap) (r.push ++ st).reverse (st.length + r.push.length)) := by
  obtain ⟨fr, top, to, push, cost⟩ := r
  replace hp : IntsAt w (.slice pa push.length pc) push := hp
  replace hpl : push.length ≤ 100000 := hpl
  show Calls Tryd.prog 26 #[.pointer (some ⟨Pb, 0, none⟩), .agg #[.int .i64 fr, .int .i64 top, .int .i64 to, .slice pa push.length pc, .int .u64 cost]] w (DoP B w Pb to (.slice (some ⟨g, 0, none⟩) (st.length + 1) cap) (push ++ st).reverse (st.length + push.length))
  obtain ⟨L, HLr⟩ : ∃ L, Hid ((push ++ st).reverse = L) := ⟨_, Lib.hid rfl⟩
  rw [HLr.out]
  obtain ⟨h0, h1, hb⟩ := two_boxes w 77 46 #[.pointer (some ⟨Pb, 0, none⟩)] #[.int .i64 fr, .int .i64 top, .int .i64 to, .slice pa push.length pc, .int .u64 cost]
  have hz : ((w.alloc (.cells #[.pointer (some ⟨Pb, 0, none⟩)] 77)).alloc (.cells #[.int .i64 fr, .int .i64 top, .int .i64 to, .slice pa push.length pc, .int .u64 cost] 46)).heap.size = w.heap.size + 2 := by rw [World.size_alloc, World.size_alloc]
  have x0 : ((w.alloc (.cells #[.pointer (some ⟨Pb, 0, none⟩)] 77)).alloc (.cells #[.int .i64 fr, .int .i64 top, .int .i64 to, .slice pa push.length pc, .int .u64 cost] 46)).cell? ⟨w.heap.size, 0, none⟩ = some (.pointer (some ⟨Pb, 0, none⟩)) := by rw [Lib.cell_of_heap h0]; rfl
  obtain ⟨j0, j1, j2, j3, j4⟩ := cells5 h1
  have hP1 := blk hP hb
  obtain ⟨p0, p1⟩ := cells2 hP1
  have pf0 : ((w.alloc (.cells #[.pointer (some ⟨Pb, 0, none⟩)] 77)).alloc (.cells #[.int .i64 fr, .int .i64 top, .int .i64 to, .slice pa push.length pc, .int .u64 cost] 46)).frozen? ⟨Pb, 0, none⟩ = false := by unfold World.frozen?; rw [hP1]; simp
  have HOwn := Lib.hid hown
  have HPu := Lib.hid hp
  have HPa := Lib.hid hpa
  clear hown hp hpa
  refine (callsIn_wide (n := 3)).1 ?_
  have hn1 : 1 ≤ 3 := by omega
  refine callsIn_of_wp_marks Tryd.func26 rfl trivial ?_ rfl
  simp only [Tryd.ntmps26, List.size_toArray, List.length_cons, List.length_nil, Nat.reduceAdd, Nat.reduceSub, Array.replicate_succ, Array.replicate_zero, List.push_toArray, List.append_toArray, List.nil_append, List.cons_append]
  gi_wp2
  have hPs := heap_setCell_same w Pb 0 _ _ (.int .i64 to) hP
  have hOs := HOwn.out.kept (grown_set w Pb 0 (.int .i64 to)) (.inr fun e => HOwn.out.own_ne' hP (by decide) e)
  have hKs : Keeps (fun q => q = Pb ∨ (Value.slice (some ⟨g, 0, none⟩) (st.length + 1) cap).ownBlock = some q) w (w.setCell ⟨Pb, 0, none⟩ (.int .i64 to)) := (Keeps.refl _ w).setCell (q := ⟨Pb, 0, none⟩) (.inr (.inl rfl)) _
  have hZs : (w.setCell ⟨Pb, 0, none⟩ (.int .i64 to)).heap.size = w.heap.size := World.size_setCell _ _ _
  clear h0 h1 hb hz x0 j0 j1 j2 j3 j4 hP1 p0 p1 pf0
  generalize w.setCell ⟨Pb, 0, none⟩ (.int .i64 to) = w1 at *
  obtain ⟨g0, g1, hb⟩ := two_boxes w1 77 46 #[.pointer (some ⟨Pb, 0, none⟩)] #[.int .i64 fr, .int .i64 top, .int .i64 to, .slice pa push.length pc, .int .u64 cost]
  have gz : ((w1.alloc (.cells #[.pointer (some ⟨Pb, 0, none⟩)] 77)).alloc (.cells #[.int .i64 fr, .int .i64 top, .int .i64 to, .slice pa push.length pc, .int .u64 cost] 46)).heap.size = w.heap.size + 2 := by rw [World.size_alloc, World.size_alloc, hZs]
  rw [hZs] at g0 g1
  have gP := blk hPs hb
  have gO := hOs.kept (grown_of_below hb) (by cases (Value.slice (some ⟨g, 0, none⟩) (st.length + 1) cap).ownBlock <;> simp)
  have gK := hKs.trans (Keeps.of_below hb)
  clear hPs hOs hKs hZs hb
  generalize (w1.alloc (.cells #[.pointer (some ⟨Pb, 0, none⟩)] 77)).alloc (.cells #[.int .i64 fr, .int .i64 top, .int .i64 to, .slice pa push.length pc, .int .u64 cost] 46) = w2 at *
  have GZ := Lib.hid gz
  clear gz
  replace gP : w2.heap[Pb]? = some (.cells #[.int .i64 to, .slice (some ⟨g, 0, none⟩) (st.length + 1) cap] 56 (0, 0)) := gP
  refine region_P (fun X => X.cell? ⟨w.heap.size, 0, none⟩ = some (.pointer (some ⟨Pb, 0, none⟩))) (by kernel_rfl) ?_
  have hS0 : (fun X : World => X.cell? ⟨w.heap.size, 0, none⟩ = some (.pointer (some ⟨Pb, 0, none⟩))) w2.drew := by show w2.drew.cell? _ = _; rw [show w2.drew.cell? ⟨w.heap.size, 0, none⟩ = w2.cell? ⟨w.heap.size, 0, none⟩ from rfl, Lib.cell_of_heap g0]; rfl
  refine wpH_take (i := 0) (v := .pointer (some ⟨Pb, 0, none⟩)) (by kernel_rfl) rfl (by kernel_rfl) (by kernel_rfl) (by kernel_rfl) (fun _ _ _ h => h) (Or.inl ⟨by rfl, ?_⟩) (fun _ => rfl) hS0 ?_
  · rintro w' s0
    go_simp
  try simp only [Act.put]
  refine wpH_take (i := 1) (v := .pointer (some ⟨Pb, 0, none⟩)) (by kernel_rfl) rfl (by kernel_rfl) (by kernel_rfl) (by kernel_rfl) (fun _ _ _ h => h) (Or.inl ⟨by rfl, ?_⟩) (fun _ => rfl) hS0 ?_
  · rintro w' s0
    go_simp
  try simp only [Act.put]
  refine wpH_take (i := 5) (v := .pointer (some ⟨Pb, 0, none⟩)) (by kernel_rfl) rfl (by kernel_rfl) (by kernel_rfl) (by kernel_rfl) (fun _ _ _ h => h) (Or.inl ⟨by rfl, ?_⟩) (fun _ => rfl) hS0 ?_
  · rintro w' s0
    go_simp
  try simp only [Act.put]
  refine wpH_take (i := 2) (v := .pointer (some ⟨Pb, 0, none⟩)) (by kernel_rfl) rfl (by kernel_rfl) (by kernel_rfl) (by kernel_rfl) (fun _ _ _ h => h) (Or.inl ⟨by rfl, ?_⟩) (fun _ => rfl) hS0 ?_
  · rintro w' s0
    go_simp
  try simp only [Act.put]
  refine wpH_take (i := 3) (v := .pointer (some ⟨Pb, 1, none⟩)) (by kernel_rfl) rfl (by kernel_rfl) (by kernel_rfl) (by kernel_rfl) (fun _ _ _ h => h) (Or.inl ⟨by rfl, ?_⟩) (fun _ => rfl) hS0 ?_
  · rintro w' s0
    go_simp
  try simp only [Act.put]
  refine wpH_take (i := 6) (v := .pointer (some ⟨Pb, 0, none⟩)) (by kernel_rfl) rfl (by kernel_rfl) (by kernel_rfl) (by kernel_rfl) (fun _ _ _ h => h) (Or.inl ⟨by rfl, ?_⟩) (fun _ => rfl) hS0 ?_
  · rintro w' s0
    go_simp
  try simp only [Act.put]
  refine wpH_take (i := 7) (v := .pointer (some ⟨Pb, 1, none⟩)) (by kernel_rfl) rfl (by kernel_rfl) (by kernel_rfl) (by kernel_rfl) (fun _ _ _ h => h) (Or.inl ⟨by rfl, ?_⟩) (fun _ => rfl) hS0 ?_
  · rintro w' s0
    go_simp
  try simp only [Act.put]
  have c1 : w2.cell? ⟨Pb, 1, none⟩ = some (.slice (some ⟨g, 0, none⟩) (st.length + 1) cap) := (cells2 gP).2
  have hcap : st.length + 1 ≤ cap := by
    rcases gO.2 with ⟨e, -⟩ | ⟨_, _, _, e, _, _, h, -⟩
    · cases e
    · injection e with _ _ e
      subst e
      exact h
  have hsub : ((st.length : Int) + 1) - 1 = (st.length : Int) := by omega
  have hyl : (st.length : Int) ≤ 100000 := by omega
  have hwr : IntKind.i64.wrap (st.length : Int) = (st.length : Int) := by rw [IntKind.wrap_i64]; omega
  have hyc : (st.length : Int) ≤ (cap : Int) := by omega
  have cf1 : w2.frozen? ⟨Pb, 1, none⟩ = false := by unfold World.frozen?; rw [gP]; simp
  have gP3 := heap_setCell_same w2 Pb 1 _ _ (.slice (some ⟨g, 0, none⟩) st.length cap) gP
  have hS1 : (fun X : World => X.cell? ⟨w.heap.size, 0, none⟩ = some (.pointer (some ⟨Pb, 0, none⟩))) (w2.setCell ⟨Pb, 1, none⟩ (.slice (some ⟨g, 0, none⟩) st.length cap)).drew := by
    show (w2.setCell ⟨Pb, 1, none⟩ (.slice (some ⟨g, 0, none⟩) st.length cap)).cell? ⟨w.heap.size, 0, none⟩ = _
    rw [World.cell?_setCell_other _ _ _ _ (by intro e; injection e with e; omega)]
    exact hS0
  refine wpH_two (i := 4) (i' := 8) (by kernel_rfl) rfl rfl ?twoA ?twoB
  case' twoA =>
    intro KK hKK
    go_simp
    refine hKK _ _ ⟨hS0, ?_⟩
    clear hKK
    refine wpH_one (i := 8) (by kernel_rfl) rfl ?_
    intro KK hKK
    go_simp
    refine hKK _ _ ⟨hS0, ?_⟩
    clear hKK
    refine wpH_one (i := 9) (by kernel_rfl) rfl ?_
    intro KK hKK
    go_simp
    refine hKK _ _ ⟨hS0, ?_⟩
    clear hKK
    refine wpH_one (i := 10) (by kernel_rfl) rfl ?_
    intro KK hKK
    go_simp
    refine hKK _ _ ⟨hS0, ?_⟩
    clear hKK
    refine wpH_one (i := 11) (by kernel_rfl) rfl ?_
    intro KK hKK
    go_simp
    refine hKK _ _ ⟨hS0, ?_⟩
    clear hKK
    refine wpH_one (i := 12) (by kernel_rfl) rfl ?_
    intro KK hKK
    go_simp
    refine hKK _ _ ⟨hS0, ?_⟩
    clear hKK
    refine wpH_one (i := 13) (by kernel_rfl) rfl ?_
    intro KK hKK
    go_simp
    refine hKK _ _ ⟨hS0, ?_⟩
    clear hKK
  case' twoB =>
    intro KK hKK
    go_simp
    refine hKK _ _ ⟨hS0, ?_⟩
    clear hKK
    refine wpH_take (i := 9) (v := .int .i64 (Nat.cast st.length + 1)) (by kernel_rfl) rfl (by kernel_rfl) (by kernel_rfl) (by kernel_rfl) (fun _ _ _ h => h) (Or.inl ⟨by rfl, ?_⟩) (fun _ => rfl) hS0 ?_
    · rintro w' s0
      go_simp
    try simp only [Act.put]
    refine wpH_take (i := 10) (v := .int .i64 (Nat.cast st.length)) (by kernel_rfl) rfl (by kernel_rfl) (by kernel_rfl) (by kernel_rfl) (fun _ _ _ h => h) (Or.inl ⟨by rfl, ?_⟩) (fun _ => rfl) hS0 ?_
    · rintro w' s0
      go_simp
    try simp only [Act.put]
    refine wpH_one (i := 4) (by kernel_rfl) rfl ?_
    intro KK hKK
    go_simp
    refine hKK _ _ ⟨hS0, ?_⟩
    clear hKK
    refine wpH_one (i := 11) (by kernel_rfl) rfl ?_
    intro KK hKK
    go_simp
    refine hKK _ _ ⟨hS0, ?_⟩
    clear hKK
    refine wpH_one (i := 12) (by kernel_rfl) rfl ?_
    intro KK hKK
    go_simp
    refine hKK _ _ ⟨hS0, ?_⟩
    clear hKK
    refine wpH_one (i := 13) (by kernel_rfl) rfl ?_
    intro KK hKK
    go_simp
    refine hKK _ _ ⟨hS0, ?_⟩
    clear hKK
  all_goals
    refine wpH_one (i := 14) (by kernel_rfl) rfl ?_
    intro KK hKK
    go_simp
    refine hKK _ _ ⟨hS1, ?_⟩
    clear hKK
    refine wpH_done (by kernel_rfl) ?_ _
    dsimp only [noP]
    have i0 : (w2.setCell ⟨Pb, 1, none⟩ (.slice (some ⟨g, 0, none⟩) st.length cap)).drew.heap[w.heap.size]? = some (.cells #[.pointer (some ⟨Pb, 0, none⟩)] 77 (0, 0)) := (heap_setCell_other w2 ⟨Pb, 1, none⟩ w.heap.size _ (by show w.heap.size ≠ Pb; omega)).trans g0
    have i1 : (w2.setCell ⟨Pb, 1, none⟩ (.slice (some ⟨g, 0, none⟩) st.length cap)).drew.heap[w.heap.size + 1]? = some (.cells #[.int .i64 fr, .int .i64 top, .int .i64 to, .slice pa push.length pc, .int .u64 cost] 46 (0, 0)) := (heap_setCell_other w2 ⟨Pb, 1, none⟩ (w.heap.size + 1) _ (by show w.heap.size + 1 ≠ Pb; omega)).trans g1
    have iP : (w2.setCell ⟨Pb, 1, none⟩ (.slice (some ⟨g, 0, none⟩) st.length cap)).drew.heap[Pb]? = some (.cells #[.int .i64 to, .slice (some ⟨g, 0, none⟩) st.length cap] 56 (0, 0)) := gP3
    have iO : (w2.setCell ⟨Pb, 1, none⟩ (.slice (some ⟨g, 0, none⟩) st.length cap)).drew.ownsRow B 3 1 (.slice (some ⟨g, 0, none⟩) st.length cap) st.length (encI st.reverse) := by
      have h1 := (gO.kept (grown_set w2 Pb 1 (.slice (some ⟨g, 0, none⟩) st.length cap)) (.inr fun e => gO.own_ne' gP (by decide) e)).kept (grown_of_below (Below.refl _ _).drew) (by cases (Value.slice (some ⟨g, 0, none⟩) (st.length + 1) cap).ownBlock <;> simp)
      rw [List.reverse_cons, show encI (st.reverse ++ [t]) = encI st.reverse ++ encI [t] by unfold encI; rw [List.map_append]] at h1
      exact ownsRow_shorter h1 (by rw [encI_length, List.length_reverse])
    have iK : Keeps (fun q => q = Pb ∨ (Value.slice (some ⟨g, 0, none⟩) (st.length + 1) cap).ownBlock = some q) w (w2.setCell ⟨Pb, 1, none⟩ (.slice (some ⟨g, 0, none⟩) st.length cap)).drew := (gK.setCell (q := ⟨Pb, 1, none⟩) (.inr (.inl rfl)) _).drew
    have iZ : (w2.setCell ⟨Pb, 1, none⟩ (.slice (some ⟨g, 0, none⟩) st.length cap)).drew.heap.size = w.heap.size + 2 := by show (w2.setCell _ _).heap.size = _; rw [World.size_setCell]; exact GZ.out
    have gOB : Hid (∀ q, (Value.slice (some ⟨g, 0, none⟩) (st.length + 1) cap).ownBlock = some q → B ≤ q ∧ True) := Lib.hid (fun q e => ⟨(gO.lt q e).1, trivial⟩)
    clear c1 cf1 gP3 g0 g1 gP gO gK GZ hS0 hS1
    generalize (w2.setCell ⟨Pb, 1, none⟩ (.slice (some ⟨g, 0, none⟩) st.length cap)).drew = w3 at *
    have HIZ := Lib.hid iZ
    clear iZ
    obtain ⟨j0, j1, j2, j3, j4⟩ := cells5 i1
    gi_wp2_with (refine ⟨trivial, ?_⟩; gi_at_call 37; refine (callsIn_wide.2 (backI_any _ _ _ _)).mono ?_; rintro e w' ⟨rfl, rfl⟩)
    rw [HIZ.out]
    have hb4 := sbelow_new w3 (.cells #[.slice pa push.length pc] 25)
    have hz4 : (w3.alloc (.cells #[.slice pa push.length pc] 25)).heap.size = w.heap.size + 3 := by rw [World.size_alloc, HIZ.out]
    have hN := heap_alloc_new w3 (.cells #[.slice pa push.length pc] 25)
    rw [HIZ.out] at hN
    have k0 := blk i0 hb4
    have kP := blk iP hb4
    have kO := iO.kept (grown_of_below hb4) (by cases (Value.slice (some ⟨g, 0, none⟩) st.length cap).ownBlock <;> simp)
    have kK := iK.trans (Keeps.of_below hb4)
    have hgB : B ≤ g := (gOB.out g rfl).1
    have hgw : g < w.heap.size := (HOwn.out.lt g rfl).2
    clear i0 i1 iP iO iK hb4 j0 j1 j2 j3 j4
    generalize w3.alloc (.cells #[.slice pa push.length pc] 25) = w4 at *
    have hDB : ∀ q, (q = Pb ∨ (Value.slice (some ⟨g, 0, none⟩) (st.length + 1) cap).ownBlock = some q) → B ≤ q := by
      rintro q (rfl | e)
      · exact hBP
      · have e' : g = q := by injection e
        omega
    have hBw : Below B w w4 := kK.below hB hDB
    have hpu4 : IntsAt w4 (.slice pa push.length pc) push := HPu.out.stepB hBw HPa.out
    have hBs : w4.cell? ⟨w.heap.size + 2, 0, none⟩ = some (.slice pa push.length pc) := by rw [Lib.cell_of_heap hN]; rfl
    have HD : ∀ q, (q = w.heap.size + 2 ∨ q < B) → q < w4.heap.size := fun q hq => by rcases hq with rfl | hq <;> omega
    refine wpIn_rangeFunc_ownG rfl hn1 (gf := 44) (lb := #[.pointer (some ⟨w.heap.size + 2, 0, none⟩)]) rfl trivial (enters_of Tryd.func44 (by kernel_rfl) rfl)
      (back1_stops 2 (by omega) (fun q => q = w.heap.size + 2 ∨ q < B) (w.heap.size + 2) pa pc push (by omega) (.inl rfl) (fun ad e h => .inr (HPa.out ad e h)) w4 hBs hpu4)
      (fun h k => Lies.trans h k) (fun W l o o' hl _ _ _ => Lies.put HD W l o' hl) (Below.refl _ _) (fun _ => rfl)
      (fun pre W => ∃ v', DoI B w w4.heap.size Pb w.heap.size to (.slice (some ⟨g, 0, none⟩) (st.length + 1) cap) v' (st.length + pre.length) (encI (st.reverse ++ pre.map (·.2))) W)
      (fun _ _ _ => False)
      (fun pre X Y row ⟨v', h⟩ hg hr => ⟨v', h.turn (by omega) hg hr⟩)
      (fun _ _ _ _ _ hs _ _ => hs)
      ⟨_, kP, k0, by simpa using kO, .inl rfl, Nat.le_refl _, kK⟩
      (fun x => { tmps := #[.pointer (some ⟨Pb, 0, none⟩), .agg #[.int .i64 fr, .int .i64 top, .int .i64 to, .slice pa push.length pc, .int .u64 cost], .pointer (some ⟨w.heap.size, 0, none⟩), .pointer (some ⟨w.heap.size + 1, 0, none⟩), undef, .int .i64 x.2, .pointer (some ⟨Pb, 0, none⟩), .pointer (some ⟨w.heap.size + 1, 2, none⟩), .int .i64 to, .pointer (some ⟨Pb, 0, none⟩), .pointer (some ⟨Pb, 0, none⟩), .pointer (some ⟨Pb, 0, none⟩), .pointer (some ⟨Pb, 0, none⟩), .pointer (some ⟨Pb, 0, none⟩), .pointer (some ⟨Pb, 1, none⟩), .slice (some ⟨g, 0, none⟩) (st.length + 1) cap, .pointer (some ⟨Pb, 0, none⟩), .pointer (some ⟨Pb, 0, none⟩), .pointer (some ⟨Pb, 1, none⟩), .slice (some ⟨g, 0, none⟩) (st.length + 1) cap, .int .i64 (Nat.cast st.length + 1), .int .i64 (Nat.cast st.length), .slice (some ⟨g, 0, none⟩) st.length cap, .pointer (some ⟨Pb, 0, none⟩), .pointer (some ⟨Pb, 1, none⟩), .pointer (some ⟨w.heap.size + 1, 3, none⟩), .slice pa push.length pc, .func (.func 44) #[] #[.pointer (some ⟨w.heap.size + 2, 0, none⟩)], .int .i64 x.1, .int .i64 x.2, undef, undef, undef, undef, undef, undef, undef, undef, undef, undef], defers := [] }) ?assign ?body ?done ?stop
    case assign =>
      intro l x W K hK
      gi_wp2
      exact hK
    case body =>
      rintro l pre x W ⟨v', hI⟩ hlt
      obtain ⟨va', vc', rfl⟩ := row_slice hI.own
      have hv1 : W.cell? ⟨Pb, 1, none⟩ = some (.slice va' (st.length + pre.length) vc') := (cells2 hI.st).2
      have hnb := hI.own.own_ne' hI.st (by decide)
      have hnx := hI.own.own_ne' hI.px (by decide)
      have HI := Lib.hid hI
      have hplt : Pb < W.heap.size := blt hI.st
      have hsd : W.drew.ownsRow B 3 1 (.slice va' (st.length + pre.length) vc') (st.length + pre.length) (encI (st.reverse ++ pre.map (·.2))) := hI.own.kept (grown_of_below (Below.refl _ _).drew) (by cases (Value.slice va' (st.length + pre.length) vc').ownBlock <;> simp)
      have HO6 := Lib.hid (hsd.alloc (.cells #[.int .i64 x.2] 3))
      have hb6 := sbelow_new W.drew (.cells #[.int .i64 x.2] 3)
      have HN6 := Lib.hid (heap_alloc_new W.drew (.cells #[.int .i64 x.2] 3))
      have hP6 := blk (show W.drew.heap[Pb]? = _ from hI.st) hb6
      have hX6 := blk (show W.drew.heap[w.heap.size]? = _ from hI.px) hb6
      have hv6 := (cells2 hP6).2
      have HP6 := Lib.hid hP6
      have HX6 := Lib.hid hX6
      have HB6 := Lib.hid hb6
      have hnl : st.length + pre.length ≤ 1000000 := by omega
      have hS0 : (fun X : World => X.cell? ⟨w.heap.size, 0, none⟩ = some (.pointer (some ⟨Pb, 0, none⟩))) W.drew := by show W.drew.cell? _ = _; rw [show W.drew.cell? ⟨w.heap.size, 0, none⟩ = W.cell? ⟨w.heap.size, 0, none⟩ from rfl, Lib.cell_of_heap hI.px]; rfl
      have hS6 : (fun X : World => X.cell? ⟨w.heap.size, 0, none⟩ = some (.pointer (some ⟨Pb, 0, none⟩))) (W.drew.alloc (.cells #[.int .i64 x.2] 3)) := by show (W.drew.alloc (.cells #[.int .i64 x.2] 3)).cell? _ = _; rw [Lib.cell_of_heap hX6]; rfl
      clear hI hsd hb6 hP6 hX6
      gi_wp2
      refine region_P (fun X => X.cell? ⟨w.heap.size, 0, none⟩ = some (.pointer (some ⟨Pb, 0, none⟩))) (by kernel_rfl) ?_
      refine wpH_take (i := 0) (v := .pointer (some ⟨Pb, 0, none⟩)) (by kernel_rfl) rfl (by kernel_rfl) (by kernel_rfl) (by kernel_rfl) (fun _ _ _ h => h) (Or.inl ⟨by rfl, ?_⟩) (fun _ => rfl) hS0 ?_
      · rintro w' s0
        go_simp
      try simp only [Act.put]
      refine wpH_take (i := 1) (v := .pointer (some ⟨Pb, 0, none⟩)) (by kernel_rfl) rfl (by kernel_rfl) (by kernel_rfl) (by kernel_rfl) (fun _ _ _ h => h) (Or.inl ⟨by rfl, ?_⟩) (fun _ => rfl) hS0 ?_
      · rintro w' s0
        go_simp
      try simp only [Act.put]
      refine wpH_take (i := 2) (v := .pointer (some ⟨Pb, 0, none⟩)) (by kernel_rfl) rfl (by kernel_rfl) (by kernel_rfl) (by kernel_rfl) (fun _ _ _ h => h) (Or.inl ⟨by rfl, ?_⟩) (fun _ => rfl) hS0 ?_
      · rintro w' s0
        go_simp
      try simp only [Act.put]
      refine wpH_take (i := 3) (v := .pointer (some ⟨Pb, 1, none⟩)) (by kernel_rfl) rfl (by kernel_rfl) (by kernel_rfl) (by kernel_rfl) (fun _ _ _ h => h) (Or.inl ⟨by rfl, ?_⟩) (fun _ => rfl) hS0 ?_
      · rintro w' s0
        go_simp
      try simp only [Act.put]
      refine wpH_take (i := 5) (v := .int .i64 x.2) (by kernel_rfl) rfl (by kernel_rfl) (by kernel_rfl) (by kernel_rfl) (fun _ _ _ h => h) (Or.inl ⟨by rfl, ?_⟩) (fun _ => rfl) hS0 ?_
      · rintro w' s0
        go_simp
      try simp only [Act.put]
      refine wpH_two (i := 4) (i' := 6) (by kernel_rfl) rfl rfl ?_ ?_
      all_goals
        intro KK hKK
        go_simp
        first
        | (refine hKK _ _ ⟨hS0, ?_⟩; clear hKK; refine wpH_one (i := 6) (by kernel_rfl) rfl ?_; intro KK hKK; go_simp; refine hKK _ _ ⟨hS6, ?_⟩; clear hKK)
        | (refine hKK _ _ ⟨hS6, ?_⟩; clear hKK; refine wpH_one (i := 4) (by kernel_rfl) rfl ?_; intro KK hKK; go_simp; refine hKK _ _ ⟨hS6, ?_⟩; clear hKK)
        refine wpH_one (i := 7) (by kernel_rfl) rfl ?_
        intro KK hKK
        refine step_append_oneIn _ (by rfl) _ _ (by rfl) B (.slice va' (st.length + pre.length) vc') (st.length + pre.length) _ (by rfl) HO6.out W.drew.heap.size x.2 (by rfl) HN6.out hnl (Nat.le_trans hB (Nat.le_trans HI.out.kp.size HB6.out.size)) ?_
        intro g7 c7 w7 hown7 hgrow7 hat7
        have hP7 : w7.heap[Pb]? = some (.cells #[.int .i64 to, .slice va' (st.length + pre.length) vc'] 56 (0, 0)) := (hgrow7.block _ (blt HP6.out) (fun e => hnb e.symm)).trans HP6.out
        have hX7 : w7.heap[w.heap.size]? = some (.cells #[.pointer (some ⟨Pb, 0, none⟩)] 77 (0, 0)) := (hgrow7.block _ (blt HX6.out) (fun e => hnx e.symm)).trans HX6.out
        have hS7 : (fun X : World => X.cell? ⟨w.heap.size, 0, none⟩ = some (.pointer (some ⟨Pb, 0, none⟩))) w7 := by show w7.cell? _ = _; rw [Lib.cell_of_heap hX7]; rfl
        have hS8 : (fun X : World => X.cell? ⟨w.heap.size, 0, none⟩ = some (.pointer (some ⟨Pb, 0, none⟩))) (w7.setCell ⟨Pb, 1, none⟩ (.slice (some ⟨g7, 0, none⟩) (st.length + pre.length + 1) c7)) := by
          show (w7.setCell _ _).cell? _ = _
          rw [World.cell?_setCell_other _ _ _ _ (by intro e; injection e with e; omega)]
          exact hS7
        have c71 := (cells2 hP7).2
        have cf7 : w7.frozen? ⟨Pb, 1, none⟩ = false := by unfold World.frozen?; rw [hP7]; simp
        refine hKK _ _ ⟨hS7, ?_⟩
        clear hKK
        try simp only [Act.put]
        refine wpH_one (i := 8) (by kernel_rfl) rfl ?_
        intro KK hKK
        go_simp
        refine hKK _ _ ⟨hS7, ?_⟩
        clear hKK
        refine wpH_one (i := 9) (by kernel_rfl) rfl ?_
        intro KK hKK
        go_simp
        refine hKK _ _ ⟨hS7, ?_⟩
        clear hKK
        refine wpH_one (i := 10) (by kernel_rfl) rfl ?_
        intro KK hKK
        go_simp
        refine hKK _ _ ⟨hS8, ?_⟩
        clear hKK
        refine wpH_done (by kernel_rfl) ?_ _
        dsimp only [noP]
        have hc6 : ∀ {j : Nat} {o : Obj}, (Value.slice va' (st.length + pre.length) vc').ownBlock = some j → (W.drew.alloc (.cells #[.int .i64 x.2] 3)).heap[j]? = some o → o.isCells = true := fun hv hj => own_cells HO6.out hv hj
        have hw : ∀ k, k < W.heap.size → k ≠ Pb → (Value.slice va' (st.length + pre.length) vc').ownBlock ≠ some k → (w7.setCell ⟨Pb, 1, none⟩ (.slice (some ⟨g7, 0, none⟩) (st.length + pre.length + 1) c7)).heap[k]? = W.heap[k]? := fun k hk hne hno =>
          ((heap_setCell_other w7 ⟨Pb, 1, none⟩ k _ hne).trans (hgrow7.block k (Nat.lt_of_lt_of_le hk HB6.out.size) (fun e => hno e.symm))).trans (HB6.out.block k hk)
        have hzz : W.heap.size ≤ (w7.setCell ⟨Pb, 1, none⟩ (.slice (some ⟨g7, 0, none⟩) (st.length + pre.length + 1) c7)).heap.size := by rw [World.size_setCell]; exact Nat.le_trans HB6.out.size hgrow7.size
        have hob : ∀ k, (Value.slice va' (st.length + pre.length) vc').ownBlock = some k → (k = g ∨ w4.heap.size ≤ k) := fun k e => by
          rcases HI.out.ob with h | h
          · rw [e] at h
            have : k = g := by injection h
            exact .inl this
          · exact .inr (h k e)
        have hg7 : (Value.slice (some ⟨g7, 0, none⟩) (st.length + pre.length + 1) c7).ownBlock = some g7 := rfl
        refine ⟨⟨hzz, fun k o _ h0 ho => ?_⟩, ⟨hzz, fun q hq hlt2 => ?_⟩, _, heap_setCell_same w7 Pb 1 _ _ _ hP7, (heap_setCell_other w7 ⟨Pb, 1, none⟩ w.heap.size _ (by show w.heap.size ≠ Pb; omega)).trans hX7, ?_, ?_, ?_, ?_⟩
        · refine (hw k (blt h0) ?_ ?_).trans h0
          · rintro rfl
            rw [HI.out.st] at h0
            obtain rfl := Option.some.inj h0
            cases ho
          · intro e
            have h6 := hc6 e ((HB6.out.block k (blt h0)).trans h0)
            rw [ho] at h6
            cases h6
        · refine hw q hlt2 ?_ ?_
          · rintro rfl
            rcases hq with e | e <;> omega
          · intro e
            have h1 := (HO6.out.lt q e).1
            rcases hob q e with e2 | e2
            · rcases hq with e | e <;> omega
            · rcases hq with e | e <;> omega
        · have h8 := hown7.kept (grown_set w7 Pb 1 (.slice (some ⟨g7, 0, none⟩) (st.length + pre.length + 1) c7)) (.inr fun e => hown7.own_ne' hP7 (by decide) e)
          rw [List.length_append, List.length_singleton, List.map_append, ← List.append_assoc, show encI (st.reverse ++ pre.map (·.2) ++ [x].map (·.2)) = encI (st.reverse ++ pre.map (·.2)) ++ [.int .i64 x.2] by rw [encI_snoc']; rfl]
          exact h8
        · rw [hg7]
          rcases hat7 with e | e
          · rcases HI.out.ob with h | h
            · exact .inl (e.symm.trans h)
            · exact .inr fun q e2 => by injection e2 with e2; rw [← e2]; exact h _ e
          · exact .inr fun q e2 => by injection e2 with e2; rw [← e2, e]; exact Nat.le_trans HI.out.sz HB6.out.size
        · exact Nat.le_trans HI.out.sz hzz
        · refine ⟨hgrow7.os.trans (HB6.out.os.trans HI.out.kp.os), hgrow7.tape.trans (HB6.out.tape.trans HI.out.kp.tape), hgrow7.output.trans (HB6.out.output.trans HI.out.kp.output), Nat.le_trans HI.out.kp.size hzz, fun k hk hD => ?_⟩
          refine (hw k (Nat.lt_of_lt_of_le hk HI.out.kp.size) (fun e => hD (.inl e)) (fun e => ?_)).trans (HI.out.kp.block k hk hD)
          rcases hob k e with e2 | e2
          · exact hD (.inr (by rw [e2]; rfl))
          · omega
    case done =>
      rintro Dd xs W hD rfl ⟨v', hI⟩ hK
      gi_wp2
      refine ⟨by simp, .inl ⟨_, _, rfl, run_takeDeferred hK, ?_⟩⟩
      have h := hI.turn (B' := w4.heap.size) (by omega) (grownBy_putObj' W Dd (.deferred none)) (fun r e => by cases e; exact ⟨hD, _, hK, rfl⟩)
      refine ⟨_, results_none rfl _ _ _, rfl, v', h.st, ?_, ?_, h.kp⟩
      · have ho := h.own
        rw [backL_len, backL_vals] at ho
        rw [← HLr.out, List.reverse_append]
        exact ho
      · rcases h.ob with e | e
        · exact .inl e
        · exact .inr fun q hq => by have := e q hq; omega
    case stop =>
      rintro Dd c pre W _ _ h _
      exact h.elim
end Go.Proofs.YtjanbhodikhdeaaDoor
