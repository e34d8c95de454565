/-
  Chapter 21's law: a system as the document's.
-/
import Derived.Test.YtjanbhodikhdeaaDoorPdC
import Derived.Test.YtjanbhodikhdeaaDoorSurvA
import Derived.Test.YtjanbhodikhdeaaDoorReg
import Derived.Test.YtjanbhodikhdeaaDoorWords
namespace Go.Proofs.YtjanbhodikhdeaaDoor
open Go.RowKit Go.Extern.Stop Go.Stop Go.Extern

theorem infoFRule : (Tryd.prog.info? 73).map (fun i => (i.zero, i.size, i.bytes)) = some (some (.agg #[.int .i64 0, .int .i64 0, .int .i64 0, .slice none 0 0, .int .u64 0]), 5, 56) := by kernel_rfl
/-- The cells of rules, each with the slice of its push. -/
def ruC : List Ru → List Value → List Value
  | r :: l, u :: us => .int .i64 r.fr :: .int .i64 r.top :: .int .i64 r.to :: u :: .int .u64 r.cost :: ruC l us
  | _, _ => []
theorem ruC_snoc : ∀ (l : List Ru) (us : List Value) (r : Ru) (u : Value), l.length = us.length → ruC (l ++ [r]) (us ++ [u]) = ruC l us ++ [.int .i64 r.fr, .int .i64 r.top, .int .i64 r.to, u, .int .u64 r.cost]
  | [], [], _, _, _ => rfl
  | _ :: l, _ :: us, r, u, h => by
    show _ :: _ :: _ :: _ :: _ :: ruC (l ++ [r]) (us ++ [u]) = _
    rw [ruC_snoc l us r u (by simpa using h)]; rfl
  | [], _ :: _, _, _, h => by simp at h
  | _ :: _, [], _, _, h => by simp at h
theorem ruC_at : ∀ {l : List Ru} {us : List Value} {k : Nat} {r : Ru} {u : Value}, l[k]? = some r → us[k]? = some u → (ruC l us)[k * 5]? = some (.int .i64 r.fr) ∧ (ruC l us)[k * 5 + 1]? = some (.int .i64 r.top) ∧ (ruC l us)[k * 5 + 2]? = some (.int .i64 r.to) ∧ (ruC l us)[k * 5 + 3]? = some u ∧ (ruC l us)[k * 5 + 4]? = some (.int .u64 r.cost)
  | [], _, _, _, _, h, _ => by simp at h
  | _ :: _, [], _, _, _, _, h => by simp at h
  | a :: l, b :: us, 0, p, u, h, h' => by
    obtain rfl : a = p := by simpa using h
    obtain rfl : b = u := by simpa using h'
    exact ⟨rfl, rfl, rfl, rfl, rfl⟩
  | a :: l, b :: us, k + 1, p, u, h, h' => by
    have := ruC_at (l := l) (us := us) (k := k) (r := p) (u := u) (by simpa using h) (by simpa using h')
    rw [show (k + 1) * 5 = k * 5 + 5 by omega, show k * 5 + 5 + 1 = k * 5 + 1 + 5 by omega, show k * 5 + 5 + 2 = k * 5 + 2 + 5 by omega, show k * 5 + 5 + 3 = k * 5 + 3 + 5 by omega, show k * 5 + 5 + 4 = k * 5 + 4 + 5 by omega]
    exact this
/-- Rules in rows of the call's own. -/
structure RuO (T : TypeId) (B : Nat) (v : Value) (l : List Ru) (us : List Value) (W : World) : Prop where
  len : us.length = l.length
  own : W.ownsRow B T 5 v l.length (ruC l us)
  ps : ∀ (k : Nat) (r : Ru) (u : Value), l[k]? = some r → us[k]? = some u → W.ownsRow B 3 1 u r.push.length (encI r.push)
theorem RuO.surv {T : TypeId} {B : Nat} {v : Value} {l : List Ru} {us : List Value} {W W' : World} {E : TypeId} (h : RuO T B v l us W) (hs : Surv B E W W') (h1 : T ≠ E) (h2 : 3 ≠ E) : RuO T B v l us W' :=
  ⟨h.len, ownsRow_surv h.own hs h1, fun k p u hp hu => ownsRow_surv (h.ps k p u hp hu) hs h2⟩
theorem RuO.step {T : TypeId} {B : Nat} {v : Value} {l : List Ru} {us : List Value} {W W' : World} (h : RuO T B v l us W) (hb : Below W.heap.size W W') : RuO T B v l us W' :=
  ⟨h.len, h.own.kept (grown_of_below hb) (by cases v.ownBlock <;> simp), fun k p u hp hu => (h.ps k p u hp hu).kept (grown_of_below hb) (by cases u.ownBlock <;> simp)⟩
theorem row_slice {w : World} {B : Nat} {e : TypeId} {sz n : Nat} {v : Value} {xs : List Value} (h : w.ownsRow B e sz v n xs) : ∃ a cap, v = .slice a n cap := by
  rcases h.2 with ⟨rfl, h0⟩ | ⟨g, cap, cur, rfl, -⟩
  · exact ⟨none, 0, by rw [h0]⟩
  · exact ⟨_, cap, rfl⟩
/-- One rule more behind. -/
theorem RuO.more {T : TypeId} (hT : 3 ≠ T) {B : Nat} {v : Value} {l : List Ru} {us : List Value} {W W' : World} {r : Ru} {y v' : Value} (h : RuO T B v l us W) (hp : W.ownsRow B 3 1 y r.push.length (encI r.push)) (hg : W.grownBy W' v.ownBlock)
    (hown : W'.ownsRow B T 5 v' (l.length + 1) (ruC l us ++ [.int .i64 r.fr, .int .i64 r.top, .int .i64 r.to, y, .int .u64 r.cost])) : RuO T B v' (l ++ [r]) (us ++ [y]) W' := by
  have hs : Surv B T W W' := Surv.grown h.own hg
  refine ⟨by simp [h.len], ?_, ?_⟩
  · rw [ruC_snoc _ _ _ _ h.len.symm, List.length_append]
    exact hown
  · intro k q u hq hu
    rcases Nat.lt_or_ge k l.length with hk | hk
    · rw [List.getElem?_append_left hk] at hq
      rw [List.getElem?_append_left (by rw [h.len]; exact hk)] at hu
      exact ownsRow_surv (h.ps k q u hq hu) hs hT
    · rw [List.getElem?_append_right hk] at hq
      rw [List.getElem?_append_right (by rw [h.len]; exact hk), h.len] at hu
      obtain ⟨j, hj⟩ : ∃ j, j = k - l.length := ⟨_, rfl⟩
      rw [← hj] at hq hu
      cases j with
      | zero =>
        simp only [List.getElem?_cons_zero, Option.some.injEq] at hq hu
        subst hq hu
        exact ownsRow_surv hp hs hT
      | succ j => simp at hq
theorem RuO.rusAt {T : TypeId} {B : Nat} {v : Value} {l : List Ru} {us : List Value} {W : World} (h : RuO T B v l us W) : RusAt W v l := by
  rcases h.own.2 with ⟨rfl, h0⟩ | ⟨g, cap, cur, rfl, -, hg, hle, -, hsz, hx⟩
  · exact .inl ⟨none, 0, rfl, List.eq_nil_of_length_eq_zero h0⟩
  · refine .inr ⟨g, 0, cap, rfl, blt hg, fun i p hi => ?_⟩
    have hil := (List.getElem?_eq_some_iff.1 hi).1
    obtain ⟨u, hu⟩ : ∃ u, us[i]? = some u := ⟨_, List.getElem?_eq_getElem (by rw [h.len]; exact hil)⟩
    obtain ⟨k0, k1, k2, k3, k4⟩ := ruC_at hi hu
    have ho := h.ps i p u hi hu
    obtain ⟨oa, oc, rfl⟩ := row_slice ho
    rw [← hx] at k0 k1 k2 k3 k4
    rw [List.getElem?_take, if_pos (by omega)] at k0 k1 k2 k3 k4
    refine ⟨oa, oc, ?_, ?_, ?_, ?_, ?_, IntsAt.own ho rfl⟩
    · rw [Lib.cell_of_heap hg]; simpa using k0
    · rw [Lib.cell_of_heap hg]; simpa using k1
    · rw [Lib.cell_of_heap hg]; simpa using k2
    · rw [Lib.cell_of_heap hg]; simpa using k3
    · rw [Lib.cell_of_heap hg]; simpa using k4

/-! ### To -/
/-- On the way through the rules. -/
structure ToS (w0 : World) (S L : Int) (v0 vL : Value) (l : List Ru) (us : List Value) (W : World) : Prop where
  src : W.heap[w0.heap.size]? = some (.cells #[.int .i64 S, .int .i64 L, v0] 24 (0, 0))
  res : W.heap[w0.heap.size + 1]? = some (.cells #[.int .i64 0, .int .i64 0, .slice none 0 0] 53 (0, 0))
  out : W.heap[w0.heap.size + 2]? = some (.cells #[.int .i64 S, .int .i64 L, vL] 53 (0, 0))
  rs : RuO 73 (w0.heap.size + 3) vL l us W
  below : Below w0.heap.size w0 W
section
variable {w0 : World} {S L : Int} {v0 vL : Value} {l : List Ru} {us : List Value} {W W' : World}
theorem ToS.step (h : ToS w0 S L v0 vL l us W) (hb : Below W.heap.size W W') : ToS w0 S L v0 vL l us W' := ⟨blk h.src hb, blk h.res hb, blk h.out hb, h.rs.step hb, h.below.trans (hb.mono h.below.size)⟩
theorem ToS.list (h : ToS w0 S L v0 vL l us W) : ∃ a c, vL = .slice a l.length c := row_slice h.rs.own
theorem ToS.lt3 (h : ToS w0 S L v0 vL l us W) : w0.heap.size + 3 ≤ W.heap.size := blt h.out
theorem ToS.lt3' (h : ToS w0 S L v0 vL l us W) : w0.heap.size + 3 ≤ W.heap.size := h.lt3
theorem ToS.start (w0 : World) (S L : Int) (v0 : Value) : ToS w0 S L v0 (.slice none 0 0) [] [] (((w0.alloc (.cells #[.int .i64 S, .int .i64 L, v0] 24)).alloc (.cells #[.int .i64 0, .int .i64 0, .slice none 0 0] 53)).alloc (.cells #[.int .i64 S, .int .i64 L, .slice none 0 0] 53)) := by
  have b1 := sbelow_new w0 (.cells #[.int .i64 S, .int .i64 L, v0] 24)
  have h1 := heap_alloc_new w0 (.cells #[.int .i64 S, .int .i64 L, v0] 24)
  have z1 : (w0.alloc (.cells #[.int .i64 S, .int .i64 L, v0] 24)).heap.size = w0.heap.size + 1 := World.size_alloc _ _
  generalize w0.alloc (.cells #[.int .i64 S, .int .i64 L, v0] 24) = w1 at *
  have b2 := sbelow_new w1 (.cells #[.int .i64 0, .int .i64 0, .slice none 0 0] 53)
  have h2 := heap_alloc_new w1 (.cells #[.int .i64 0, .int .i64 0, .slice none 0 0] 53)
  have z2 : (w1.alloc (.cells #[.int .i64 0, .int .i64 0, .slice none 0 0] 53)).heap.size = w1.heap.size + 1 := World.size_alloc _ _
  generalize w1.alloc (.cells #[.int .i64 0, .int .i64 0, .slice none 0 0] 53) = w2 at *
  have b3 := sbelow_new w2 (.cells #[.int .i64 S, .int .i64 L, .slice none 0 0] 53)
  have h3 := heap_alloc_new w2 (.cells #[.int .i64 S, .int .i64 L, .slice none 0 0] 53)
  have z3 : w2.heap.size = w0.heap.size + 2 := by omega
  rw [z1] at h2
  rw [z3] at h3
  exact ⟨blk (blk h1 b2) b3, blk h2 b3, h3, ⟨rfl, World.ownsRow_nil _ _ _ _, fun k p u hp => by simp at hp⟩, (b1.trans (b2.mono (by omega))).trans (b3.mono (by omega))⟩
/-- One rule more, and its place stored. -/
theorem ToS.push {W1 : World} {r : Ru} {y v' : Value} (h : ToS w0 S L v0 vL l us W) (hp : W.ownsRow (w0.heap.size + 3) 3 1 y r.push.length (encI r.push)) (hg : W.grownBy W1 vL.ownBlock)
    (hown : W1.ownsRow (w0.heap.size + 3) 73 5 v' (l.length + 1) (ruC l us ++ [.int .i64 r.fr, .int .i64 r.top, .int .i64 r.to, y, .int .u64 r.cost])) :
    ToS w0 S L v0 v' (l ++ [r]) (us ++ [y]) (W1.setCell ⟨w0.heap.size + 2, 2, none⟩ v') := by
  have hne : ∀ q, q < w0.heap.size + 3 → vL.ownBlock ≠ some q := fun q hq e => by have := (h.rs.own.lt q e).1; omega
  have g : ∀ {q : Nat} {o : Obj}, q < w0.heap.size + 3 → W.heap[q]? = some o → W1.heap[q]? = some o := fun {q} {o} hq hh => (hg.block q (blt hh) (fun e => hne q hq e.symm)).trans hh
  have s : ∀ {q : Nat} {o : Obj}, q ≠ w0.heap.size + 2 → W1.heap[q]? = some o → (W1.setCell ⟨w0.heap.size + 2, 2, none⟩ v').heap[q]? = some o := fun {q} {o} hq hh => (heap_setCell_other W1 ⟨w0.heap.size + 2, 2, none⟩ q v' hq).trans hh
  refine ⟨s (by omega) (g (by omega) h.src), s (by omega) (g (by omega) h.res), heap_setCell_same _ _ _ _ _ _ (g (by omega) h.out), ?_, ?_⟩
  · have hm := h.rs.more (T := 73) (by decide) hp hg hown
    exact hm.surv (E := 0) (Surv.setCell (q := ⟨w0.heap.size + 2, 2, none⟩) (by show w0.heap.size + 2 < w0.heap.size + 3; omega) v') (by decide) (by decide)
  · exact (h.below.grown hg h.below.size (fun q e => by have := (h.rs.own.lt q e).1; omega)).setCell (p := ⟨w0.heap.size + 2, 2, none⟩) (by show w0.heap.size ≤ w0.heap.size + 2; omega) _
end
def ToP (S L : Int) (rs : List Ru) (w : World) (e : Ending) (w' : World) : Prop := ∃ a c us, e = .returned (sysV S L (.slice a rs.length c)) ∧ RuO 73 w.heap.size (.slice a rs.length c) rs us w' ∧ Below w.heap.size w w'
set_option maxRecDepth 100000 in
set_option maxHeartbeats 8000000 in
theorem to21_any (S L : Int) (v : Value) (rs : List Ru) (w : World) (hv : RusAt w v rs) (hl : rs.length ≤ 10000) (hs : Short rs 100000) :
    Calls Tryd.prog 20 #[sysV S L v] w (ToP S L rs w) := by
  obtain ⟨i0, hi, hz0, hz1, hz2⟩ := info_parts infoFRule
  obtain ⟨va, vc, rfl⟩ := hv.form
  have HV := Lib.hid hv
  have HSh := Lib.hid hs
  have hT := ToS.start w S L (.slice va rs.length vc)
  have HT := Lib.hid hT
  clear hv hs hT
  go_enter Tryd.func20, Tryd.ntmps20
  go_wp2_with fail
  generalize ((w.alloc (.cells #[.int .i64 S, .int .i64 L, .slice va rs.length vc] 24)).alloc (.cells #[.int .i64 0, .int .i64 0, .slice none 0 0] 53)).alloc (.cells #[.int .i64 S, .int .i64 L, .slice none 0 0] 53) = w3 at *
  go_loopg [14] rs.length (fun g u wr => ∃ (i : Nat) (vL : Value) (us : List Value), i ≤ rs.length ∧ g = rs.length - i ∧ u = .int .i64 i ∧ ToS w S L (.slice va rs.length vc) vL (rs.take i) us wr)
  case atStart => exact ⟨0, _, _, Nat.zero_le _, by omega, rfl, by rw [List.take_zero]; exact HT.out⟩
  case round =>
    obtain ⟨i, vL, us, hi', hgi, rfl, hst⟩ := hrel
    by_cases hlt : i < rs.length
    · obtain ⟨r, hr⟩ : ∃ r, rs[i]? = some r := ⟨_, List.getElem?_eq_getElem hlt⟩
      obtain ⟨b, off, pa, pc, rfl, k0, k1, k2, k3, k4, hp⟩ := HV.out.at hr hst.below
      have hpl := HSh.out i r hr
      have htake : rs.take (i + 1) = rs.take i ++ [r] := by rw [List.take_add_one, hr]; rfl
      have hlen : (rs.take i).length = i := by rw [List.length_take]; omega
      obtain ⟨fr, top, to, push, cost⟩ := r
      replace hp : IntsAt wr (.slice pa push.length pc) push := hp
      replace hpl : push.length ≤ 100000 := hpl
      replace k0 : wr.cell? ⟨b, off + i * 5, none⟩ = some (.int .i64 fr) := k0
      replace k1 : wr.cell? ⟨b, off + i * 5 + 1, none⟩ = some (.int .i64 top) := k1
      replace k2 : wr.cell? ⟨b, off + i * 5 + 2, none⟩ = some (.int .i64 to) := k2
      replace k3 : wr.cell? ⟨b, off + i * 5 + 3, none⟩ = some (.slice pa push.length pc) := k3
      replace k4 : wr.cell? ⟨b, off + i * 5 + 4, none⟩ = some (.int .u64 cost) := k4
      have hn := heap_alloc_new wr (.cells #[.int .i64 fr, .int .i64 top, .int .i64 to, .slice pa push.length pc, .int .u64 cost] 46)
      have hb5 := sbelow_new wr (.cells #[.int .i64 fr, .int .i64 top, .int .i64 to, .slice pa push.length pc, .int .u64 cost] 46)
      have hst5 := hst.step hb5
      have hp5 := hp.step hb5
      obtain ⟨la, lc, rfl⟩ := hst.list
      rw [hlen] at *
      have HTk := Lib.hid htake
      clear hr hst hp htake
      go_wp2_with fail
      generalize wr.alloc (.cells #[.int .i64 fr, .int .i64 top, .int .i64 to, .slice pa push.length pc, .int .u64 cost] 46) = w5 at *
      have hbd := (Below.refl w5.heap.size w5).drew
      have hd5 := hst5.step hbd
      have hpd := hp5.step hbd
      refine region_T (fun W' : World => W'.cell? ⟨w.heap.size + 2, 2, none⟩ = some (.slice la i lc) ∧ W'.cell? ⟨wr.heap.size, 0, none⟩ = some (.int .i64 fr) ∧ W'.cell? ⟨wr.heap.size, 1, none⟩ = some (.int .i64 top) ∧ W'.cell? ⟨wr.heap.size, 2, none⟩ = some (.int .i64 to) ∧ W'.cell? ⟨wr.heap.size, 3, none⟩ = some (.slice pa push.length pc) ∧ W'.cell? ⟨wr.heap.size, 4, none⟩ = some (.int .u64 cost)) 16 (by kernel_rfl) ?_
      have mkS : ∀ W', Below w5.heap.size w5 W' → W'.cell? ⟨w.heap.size + 2, 2, none⟩ = some (.slice la i lc) ∧ W'.cell? ⟨wr.heap.size, 0, none⟩ = some (.int .i64 fr) ∧ W'.cell? ⟨wr.heap.size, 1, none⟩ = some (.int .i64 top) ∧ W'.cell? ⟨wr.heap.size, 2, none⟩ = some (.int .i64 to) ∧ W'.cell? ⟨wr.heap.size, 3, none⟩ = some (.slice pa push.length pc) ∧ W'.cell? ⟨wr.heap.size, 4, none⟩ = some (.int .u64 cost) := fun W' hb =>
        ⟨(cells3 (hst5.step hb).out).2.2, cells5 (blk hn hb)⟩
      have hS0 : (fun W' : World => W'.cell? ⟨w.heap.size + 2, 2, none⟩ = some (.slice la i lc) ∧ W'.cell? ⟨wr.heap.size, 0, none⟩ = some (.int .i64 fr) ∧ W'.cell? ⟨wr.heap.size, 1, none⟩ = some (.int .i64 top) ∧ W'.cell? ⟨wr.heap.size, 2, none⟩ = some (.int .i64 to) ∧ W'.cell? ⟨wr.heap.size, 3, none⟩ = some (.slice pa push.length pc) ∧ W'.cell? ⟨wr.heap.size, 4, none⟩ = some (.int .u64 cost)) w5.drew := mkS _ hbd
      refine wpT_take (i := 0) (v := .pointer (some ⟨w.heap.size + 2, 2, none⟩)) rfl (by kernel_rfl) (by kernel_rfl) (by kernel_rfl) (by kernel_rfl) (by kernel_rfl) (by kernel_rfl) (by kernel_rfl) (by kernel_rfl) (fun _ _ _ h => h) (Or.inl ⟨by rfl, ?_⟩) hS0 ?_
      · rintro w' ⟨s0, s1, s2, s3, s4, s5⟩
        go_simp
      try simp only [Act.put]
      refine wpT_take (i := 1) (v := .slice la i lc) rfl (by kernel_rfl) (by kernel_rfl) (by kernel_rfl) (by kernel_rfl) (by kernel_rfl) (by kernel_rfl) (by kernel_rfl) (by kernel_rfl) (fun _ _ _ h => h) (Or.inl ⟨by rfl, ?_⟩) hS0 ?_
      · rintro w' ⟨s0, s1, s2, s3, s4, s5⟩
        go_simp
      try simp only [Act.put]
      refine wpT_take (i := 2) (v := .pointer (some ⟨wr.heap.size, 0, none⟩)) rfl (by kernel_rfl) (by kernel_rfl) (by kernel_rfl) (by kernel_rfl) (by kernel_rfl) (by kernel_rfl) (by kernel_rfl) (by kernel_rfl) (fun _ _ _ h => h) (Or.inl ⟨by rfl, ?_⟩) hS0 ?_
      · rintro w' ⟨s0, s1, s2, s3, s4, s5⟩
        go_simp
      try simp only [Act.put]
      refine wpT_take (i := 3) (v := .int .i64 fr) rfl (by kernel_rfl) (by kernel_rfl) (by kernel_rfl) (by kernel_rfl) (by kernel_rfl) (by kernel_rfl) (by kernel_rfl) (by kernel_rfl) (fun _ _ _ h => h) (Or.inl ⟨by rfl, ?_⟩) hS0 ?_
      · rintro w' ⟨s0, s1, s2, s3, s4, s5⟩
        go_simp
      try simp only [Act.put]
      refine wpT_take (i := 4) (v := .pointer (some ⟨wr.heap.size, 1, none⟩)) rfl (by kernel_rfl) (by kernel_rfl) (by kernel_rfl) (by kernel_rfl) (by kernel_rfl) (by kernel_rfl) (by kernel_rfl) (by kernel_rfl) (fun _ _ _ h => h) (Or.inl ⟨by rfl, ?_⟩) hS0 ?_
      · rintro w' ⟨s0, s1, s2, s3, s4, s5⟩
        go_simp
      try simp only [Act.put]
      refine wpT_take (i := 5) (v := .int .i64 top) rfl (by kernel_rfl) (by kernel_rfl) (by kernel_rfl) (by kernel_rfl) (by kernel_rfl) (by kernel_rfl) (by kernel_rfl) (by kernel_rfl) (fun _ _ _ h => h) (Or.inl ⟨by rfl, ?_⟩) hS0 ?_
      · rintro w' ⟨s0, s1, s2, s3, s4, s5⟩
        go_simp
      try simp only [Act.put]
      refine wpT_take (i := 6) (v := .pointer (some ⟨wr.heap.size, 2, none⟩)) rfl (by kernel_rfl) (by kernel_rfl) (by kernel_rfl) (by kernel_rfl) (by kernel_rfl) (by kernel_rfl) (by kernel_rfl) (by kernel_rfl) (fun _ _ _ h => h) (Or.inl ⟨by rfl, ?_⟩) hS0 ?_
      · rintro w' ⟨s0, s1, s2, s3, s4, s5⟩
        go_simp
      try simp only [Act.put]
      refine wpT_take (i := 7) (v := .int .i64 to) rfl (by kernel_rfl) (by kernel_rfl) (by kernel_rfl) (by kernel_rfl) (by kernel_rfl) (by kernel_rfl) (by kernel_rfl) (by kernel_rfl) (fun _ _ _ h => h) (Or.inl ⟨by rfl, ?_⟩) hS0 ?_
      · rintro w' ⟨s0, s1, s2, s3, s4, s5⟩
        go_simp
      try simp only [Act.put]
      refine wpT_take (i := 9) (v := .pointer (some ⟨wr.heap.size, 3, none⟩)) rfl (by kernel_rfl) (by kernel_rfl) (by kernel_rfl) (by kernel_rfl) (by kernel_rfl) (by kernel_rfl) (by kernel_rfl) (by kernel_rfl) (fun _ _ _ h => h) (Or.inl ⟨by rfl, ?_⟩) hS0 ?_
      · rintro w' ⟨s0, s1, s2, s3, s4, s5⟩
        go_simp
      try simp only [Act.put]
      refine wpT_take (i := 10) (v := .slice pa push.length pc) rfl (by kernel_rfl) (by kernel_rfl) (by kernel_rfl) (by kernel_rfl) (by kernel_rfl) (by kernel_rfl) (by kernel_rfl) (by kernel_rfl) (fun _ _ _ h => h) (Or.inl ⟨by rfl, ?_⟩) hS0 ?_
      · rintro w' ⟨s0, s1, s2, s3, s4, s5⟩
        go_simp
      try simp only [Act.put]
      refine wpT_take (i := 12) (v := .pointer (some ⟨wr.heap.size, 4, none⟩)) rfl (by kernel_rfl) (by kernel_rfl) (by kernel_rfl) (by kernel_rfl) (by kernel_rfl) (by kernel_rfl) (by kernel_rfl) (by kernel_rfl) (fun _ _ _ h => h) (Or.inl ⟨by rfl, ?_⟩) hS0 ?_
      · rintro w' ⟨s0, s1, s2, s3, s4, s5⟩
        go_simp
      try simp only [Act.put]
      refine wpT_take (i := 13) (v := .int .u64 cost) rfl (by kernel_rfl) (by kernel_rfl) (by kernel_rfl) (by kernel_rfl) (by kernel_rfl) (by kernel_rfl) (by kernel_rfl) (by kernel_rfl) (fun _ _ _ h => h) (Or.inl ⟨by rfl, ?_⟩) hS0 ?_
      · rintro w' ⟨s0, s1, s2, s3, s4, s5⟩
        go_simp
      try simp only [Act.put]
      refine wpT_one (i := 8) (by kernel_rfl) rfl ?_
      intro KK hKK
      go_simp
      have hb6 := hbd.trans ((sbelow_new w5.drew (.cells #[] 3)).mono hbd.size)
      refine hKK _ _ ⟨fun _ => mkS _ hb6, ?_⟩
      clear hKK
      try simp only [Act.put]
      have hlt3 := hst5.lt3
      have hE : (w5.drew.alloc (.cells #[] 3)).ownsRow (w.heap.size + 3) 3 1 (.slice (some ⟨w5.drew.heap.size, 0, none⟩) 0 0) 0 [] := World.ownsRow_made _ #[] 0 hlt3 (by unfold maxLen; omega) rfl
      refine wpT_one (i := 11) (by kernel_rfl) rfl ?_
      intro KK hKK
      refine step_append_ints _ (by rfl) _ _ (by rfl) (w.heap.size + 3) _ 0 [] (by rfl) hE _ push (by rfl) (hp5.step hb6) (by omega) (Nat.le_trans hlt3 hb6.size) ?_
      intro vP w7 hownP hgrowP
      have hb7 : Below w5.heap.size w5 w7 := hb6.grown hgrowP hb6.size (fun q e => by cases e; exact Nat.le_refl _)
      rw [Nat.zero_add, List.nil_append] at hownP
      obtain ⟨qa, qc, rfl⟩ := row_slice hownP
      refine hKK _ _ ⟨fun _ => mkS _ hb7, ?_⟩
      clear hKK hE hgrowP
      try simp only [Act.put]
      refine wpT_take (i := 14) (v := .agg #[.int .i64 fr, .int .i64 top, .int .i64 to, .slice qa push.length qc, .int .u64 cost]) rfl (by kernel_rfl) (by kernel_rfl) (by kernel_rfl) (by kernel_rfl) (by kernel_rfl) (by kernel_rfl) (by kernel_rfl) (by kernel_rfl) (fun _ _ _ h => h) (Or.inl ⟨by rfl, ?_⟩) (mkS _ hb7) ?_
      · rintro w' -
        go_simp
      try simp only [Act.put]
      refine wpT_one (i := 15) (by kernel_rfl) rfl ?_
      intro KK hKK
      go_simp
      have hb8 := hb7.trans ((sbelow_new w7 (.cells #[.int .i64 fr, .int .i64 top, .int .i64 to, .slice qa push.length qc, .int .u64 cost] 73)).mono hb7.size)
      have hN8 := heap_alloc_new w7 (.cells #[.int .i64 fr, .int .i64 top, .int .i64 to, .slice qa push.length qc, .int .u64 cost] 73)
      have hP8 := hownP.alloc (.cells #[.int .i64 fr, .int .i64 top, .int .i64 to, .slice qa push.length qc, .int .u64 cost] 73)
      refine hKK _ _ ⟨fun _ => mkS _ hb8, ?_⟩
      clear hKK hS0
      try simp only [Act.put]
      refine wpT_tail 16 3 rfl rfl (by kernel_rfl) (by kernel_rfl) ?_
      have hst8 := hst5.step hb8
      have hown8 := hst8.rs.own
      have hlen2 : (rs.take i).length = i := by rw [List.length_take]; omega
      rw [hlen2] at hown8
      simp only [List.drop_succ_cons, List.drop_zero]
      refine wpList_append_lies _ rfl _ _ 51 rfl (w.heap.size + 3) 73 i0 (.agg #[.int .i64 0, .int .i64 0, .int .i64 0, .slice none 0 0, .int .u64 0]) 5 56 Tryd.underlying51 hi hz0 hz1 hz2 rfl (by decide) _ _ _ rfl hown8 ⟨w7.heap.size, 0, none⟩ 1 1 [.int .i64 fr, .int .i64 top, .int .i64 to, .slice qa push.length qc, .int .u64 cost] rfl rfl (World.news_of_block hN8) ?ones (by decide) ?len ?bytes hst8.lt3' _ rfl ?main6
      case ones => intro y hy; simp only [List.mem_cons, List.not_mem_nil, or_false] at hy; rcases hy with rfl | rfl | rfl | rfl | rfl <;> rfl
      case len => unfold maxLen; omega
      case bytes => omega
      intro g cap w9 hown9 hgrow9 hat9 hlt9
      have hst9 := hst8.push (r := ⟨fr, top, to, push, cost⟩) hP8 hgrow9 (by rw [hlen2]; exact hown9)
      have hrow : (Value.slice la i lc).ownBlock ≠ some (w.heap.size + 2) := fun e => by have := (hown8.lt _ e).1; omega
      have hout9 : w9.heap[w.heap.size + 2]? = some (.cells #[.int .i64 S, .int .i64 L, .slice la i lc] 53 (0, 0)) := (hgrow9.block _ (blt hst8.out) (fun e => hrow e.symm)).trans hst8.out
      have d3 := (cells3 hout9).2.2
      have df : w9.frozen? ⟨w.heap.size + 2, 2, none⟩ = false := by unfold World.frozen?; rw [hout9]; simp
      rw [← HTk.out] at hst9
      have HST9 := Lib.hid hst9
      clear hst9 hown9 hgrow9 hat9 hlt9 hst8 hd5 hst5 hp5 hpd hP8 hN8 hown8 hb8 hb7 hb6 hbd hrow mkS hn hb5 hownP hout9
      go_wp2_with fail
      go_roundg (rs.length - (i + 1))
      case measure => omega
      case rel => exact ⟨i + 1, _, _, by omega, rfl, by go_num, HST9.out⟩
    · obtain rfl : i = rs.length := by omega
      rw [List.take_length] at hst
      obtain ⟨la, lc, rfl⟩ := hst.list
      obtain ⟨s0, s1, s2⟩ := cells3 hst.out
      have hres := hst.res
      obtain ⟨r0, r1, r2⟩ := cells3 hres
      have rf0 : wr.frozen? ⟨w.heap.size + 1, 0, none⟩ = false := by unfold World.frozen?; rw [hres]; simp
      have rf1 : wr.frozen? ⟨w.heap.size + 1, 1, none⟩ = false := by unfold World.frozen?; rw [hres]; simp
      have rf2 : wr.frozen? ⟨w.heap.size + 1, 2, none⟩ = false := by unfold World.frozen?; rw [hres]; simp
      have hend : ToP S L rs w (.returned (sysV S L (.slice la rs.length lc))) (((wr.setCell ⟨w.heap.size + 1, 0, none⟩ (.int .i64 S)).setCell ⟨w.heap.size + 1, 1, none⟩ (.int .i64 L)).setCell ⟨w.heap.size + 1, 2, none⟩ (.slice la rs.length lc)) := by
        refine ⟨la, lc, us, rfl, ?_, ?_⟩
        · have h1 := hst.rs.surv (E := 0) (((Surv.setCell (B := w.heap.size + 3) (T := 0) (w := wr) (q := ⟨w.heap.size + 1, 0, none⟩) (by show w.heap.size + 1 < w.heap.size + 3; omega) (.int .i64 S)).trans (Surv.setCell (q := ⟨w.heap.size + 1, 1, none⟩) (by show w.heap.size + 1 < w.heap.size + 3; omega) (.int .i64 L))).trans (Surv.setCell (q := ⟨w.heap.size + 1, 2, none⟩) (by show w.heap.size + 1 < w.heap.size + 3; omega) (.slice la rs.length lc))) (by decide) (by decide)
          exact ⟨h1.len, ownsRow_lower h1.own (by omega), fun k r u hr hu => ownsRow_lower (h1.ps k r u hr hu) (by omega)⟩
        · exact ((hst.below.setCell (p := ⟨w.heap.size + 1, 0, none⟩) (Nat.le_succ _) _).setCell (p := ⟨w.heap.size + 1, 1, none⟩) (Nat.le_succ _) _).setCell (p := ⟨w.heap.size + 1, 2, none⟩) (Nat.le_succ _) _
      have hq : (((wr.setCell ⟨w.heap.size + 1, 0, none⟩ (.int .i64 S)).setCell ⟨w.heap.size + 1, 1, none⟩ (.int .i64 L)).setCell ⟨w.heap.size + 1, 2, none⟩ (.slice la rs.length lc)).heap[w.heap.size + 1]? = some (.cells #[.int .i64 S, .int .i64 L, .slice la rs.length lc] 53 (0, 0)) :=
        heap_setCell_same _ _ _ _ _ _ (heap_setCell_same _ _ _ _ _ _ (heap_setCell_same _ _ _ _ _ _ hres))
      obtain ⟨q0, q1, q2⟩ := cells3 hq
      have HEND := Lib.hid hend
      clear hend hq hst hres
      go_wp2_with fail
      refine bodyPost_ret (v := sysV S L (.slice la rs.length lc)) (by simp [results, Tryd.results20, go_sem, q0, q1, q2]) rfl HEND.out
end Go.Proofs.YtjanbhodikhdeaaDoor
