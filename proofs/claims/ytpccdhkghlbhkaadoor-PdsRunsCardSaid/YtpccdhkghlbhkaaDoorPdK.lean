/-
  The document's own Done of chapter 21, by contract.
-/
import Derived.Test.YtpccdhkghlbhkaaDoorPdJ
namespace Go.Proofs.YtpccdhkghlbhkaaDoor
open Go.RowKit Go.Extern.Stop Go.Stop Go.Extern

def DnP (s : Int) (l : List Int) (n : Nat) (w : World) (e : Ending) (w' : World) : Prop := ∃ a c, e = .returned (cfV s (.slice a n c)) ∧ w'.ownsRow w.heap.size 3 1 (.slice a n c) n (encI l) ∧ Below w.heap.size w w'
theorem four_boxes (w : World) (T0 T1 T2 T3 : TypeId) (c0 c1 c2 c3 : Array Value) :
    ∃ W, W = (((w.alloc (.cells c0 T0)).alloc (.cells c1 T1)).alloc (.cells c2 T2)).alloc (.cells c3 T3) ∧ W.heap.size = w.heap.size + 4 ∧ W.heap[w.heap.size]? = some (.cells c0 T0 (0, 0)) ∧ W.heap[w.heap.size + 1]? = some (.cells c1 T1 (0, 0)) ∧ W.heap[w.heap.size + 2]? = some (.cells c2 T2 (0, 0)) ∧ W.heap[w.heap.size + 3]? = some (.cells c3 T3 (0, 0)) ∧ Below w.heap.size w W := by
  obtain ⟨h0, h1, hb⟩ := two_boxes w T0 T1 c0 c1
  have hz : ((w.alloc (.cells c0 T0)).alloc (.cells c1 T1)).heap.size = w.heap.size + 2 := by rw [World.size_alloc, World.size_alloc]
  generalize (w.alloc (.cells c0 T0)).alloc (.cells c1 T1) = w2 at *
  obtain ⟨h2, h3, hb2⟩ := two_boxes w2 T2 T3 c2 c3
  have hz2 : ((w2.alloc (.cells c2 T2)).alloc (.cells c3 T3)).heap.size = w2.heap.size + 2 := by rw [World.size_alloc, World.size_alloc]
  rw [hz] at h2 h3
  exact ⟨_, rfl, by omega, blk h0 hb2, blk h1 hb2, h2, h3, hb.trans (hb2.mono hb.size)⟩
theorem tail_at {w : World} {b off cap : Nat} {t : Int} {st : List Int} (h : IntsC w (.slice (some ⟨b, off, none⟩) (st.length + 1) cap) (t :: st)) :
    IntsAt w (.slice (some ⟨b, (if cap = 1 then off else off + 1), none⟩) st.length (cap - 1)) st := by
  obtain ⟨b', off', cap', e, -, -, -, h1, h2⟩ := h.form
  simp only [Value.slice.injEq, Option.some.injEq, Addr.mk.injEq] at e
  obtain ⟨⟨rfl, rfl, -⟩, -, rfl⟩ := e
  by_cases hc : cap = 1
  · rw [if_pos hc, h1 hc]
    exact .inl ⟨_, _, rfl, rfl⟩
  · rw [if_neg hc]
    exact h2
set_option maxRecDepth 100000 in
set_option maxHeartbeats 8000000 in
theorem done21_any (s t : Int) (st : List Int) (v : Value) (r : Ru) (pa : Option Addr) (pc : Nat) (w : World) (hv : IntsC w v (t :: st)) (hl : st.length ≤ 100000) (hp : IntsAt w (.slice pa r.push.length pc) r.push) (hpl : r.push.length ≤ 100000) :
    Calls Tryd.prog 39 #[ruV r pa pc, cfV s v] w (DnP r.to (r.push ++ st) (r.push.length + st.length) w) := by
  obtain ⟨fr, top, to, push, cost⟩ := r
  replace hp : IntsAt w (.slice pa push.length pc) push := hp
  replace hpl : push.length ≤ 100000 := hpl
  obtain ⟨b, off, cap, rfl, hcap, hbl, hcell, hc1, -⟩ := hv.form
  obtain ⟨n, HN⟩ : ∃ n, Hid (st.length = n) := ⟨_, Lib.hid rfl⟩
  obtain ⟨m, HM⟩ : ∃ m, Hid (push.length = m) := ⟨_, Lib.hid rfl⟩
  have hv' := hv
  rw [HN.out] at hv' hcap hl
  rw [HM.out] at hp hpl
  show Calls Tryd.prog 39 #[.agg #[.int .i64 fr, .int .i64 top, .int .i64 to, .slice pa push.length pc, .int .u64 cost], .agg #[.int .i64 s, .slice (some ⟨b, off, none⟩) (st.length + 1) cap]] w (DnP to (push ++ st) (push.length + st.length) w)
  rw [HN.out, HM.out]
  obtain ⟨W4, hW4, hz4, h0, h1, h2, h3, hb⟩ := four_boxes w 44 46 46 46 #[.int .i64 fr, .int .i64 top, .int .i64 to, .slice pa m pc, .int .u64 cost] #[.int .i64 s, .slice (some ⟨b, off, none⟩) (n + 1) cap] #[.int .i64 0, .slice none 0 0] #[.int .i64 to, .slice none 0 0]
  have hp4 := hp.step hb
  have hs4 := tail_at hv
  rw [HN.out] at hs4
  have HTL := Lib.hid hs4
  obtain ⟨j0, j1, j2, j3, j4⟩ := cells5 h0
  obtain ⟨k0, k1⟩ := cells2 h1
  obtain ⟨o0, o1⟩ := cells2 h3
  have of0 : W4.frozen? ⟨w.heap.size + 3, 0, none⟩ = false := by unfold World.frozen?; rw [h3]; simp
  have of1 : W4.frozen? ⟨w.heap.size + 3, 1, none⟩ = false := by unfold World.frozen?; rw [h3]; simp
  have HW4 := Lib.hid hW4
  have HZ4 := Lib.hid hz4
  clear hW4 hz4 hv hv' hp hcell hc1
  go_enter Tryd.func39, Tryd.ntmps39
  go_upto_region 2 with (fail)
  rw [← HW4.out]
  clear HW4
  have HRow : Hid (∀ (q : Nat) (W : World), W.heap[q]? = some (.cells #[.int .i64 to, .slice none 0 0] 46 (0, 0)) → W.frozen? ⟨q, 1, none⟩ = false) := Lib.hid (fun q W h => by unfold World.frozen?; rw [h]; simp)
  go_wp2_with (at_builtin; refine wpList_append_ints _ rfl _ _ rfl (w.heap.size + 4) (.slice none 0 0) 0 [] rfl (World.ownsRow_nil _ _ _ _) _ push rfl hp4 (by rw [HM.out]; omega) (Nat.le_of_eq HZ4.out.symm) ?_; intro vP w5 hown5 hgrow5; rw [Nat.zero_add, List.nil_append, HM.out] at hown5; obtain ⟨qa, qc, rfl⟩ := row_slice hown5; have hb5 : Below W4.heap.size W4 w5 := (Below.refl _ _).grown hgrow5 (Nat.le_refl _) (fun q e => by cases e); have g3 := blk h3 hb5; have e0 := (cells2 g3).1; have e1 := (cells2 g3).2; have ef := HRow.out _ _ g3)
  have g1 := blk h1 hb5
  have g2 := blk h2 hb5
  clear h0 h1 h2 h3 hp4 hs4 j0 j1 j2 j3 j4 k0 k1 o0 o1 of0 of1 hgrow5
  have g3s := heap_setCell_same w5 (w.heap.size + 3) 1 _ _ (.slice qa m qc) g3
  have g1s : (w5.setCell ⟨w.heap.size + 3, 1, none⟩ (.slice qa m qc)).heap[w.heap.size + 1]? = _ := (heap_setCell_other w5 ⟨w.heap.size + 3, 1, none⟩ (w.heap.size + 1) (.slice qa m qc) (by show w.heap.size + 1 ≠ w.heap.size + 3; omega)).trans g1
  have g2s : (w5.setCell ⟨w.heap.size + 3, 1, none⟩ (.slice qa m qc)).heap[w.heap.size + 2]? = _ := (heap_setCell_other w5 ⟨w.heap.size + 3, 1, none⟩ (w.heap.size + 2) (.slice qa m qc) (by show w.heap.size + 2 ≠ w.heap.size + 3; omega)).trans g2
  have own6 := ownsRow_surv hown5 (Surv.setCell (T := 0) (q := ⟨w.heap.size + 3, 1, none⟩) (by show w.heap.size + 3 < w.heap.size + 4; omega) (.slice qa m qc)) (by decide)
  have hb6 : Below w.heap.size w (w5.setCell ⟨w.heap.size + 3, 1, none⟩ (.slice qa m qc)) := (hb.trans (hb5.mono hb.size)).setCell (p := ⟨w.heap.size + 3, 1, none⟩) (by show w.heap.size ≤ w.heap.size + 3; omega) _
  have hz6 : w.heap.size + 4 ≤ (w5.setCell ⟨w.heap.size + 3, 1, none⟩ (.slice qa m qc)).heap.size := by rw [World.size_setCell]; exact Nat.le_trans (Nat.le_of_eq HZ4.out.symm) hb5.size
  clear g1 g2 g3 e0 e1 ef hown5 hb5 hb HRow
  generalize w5.setCell ⟨w.heap.size + 3, 1, none⟩ (.slice qa m qc) = w6 at *
  have hbd := (Below.refl w6.heap.size w6).drew
  have hs6 := HTL.out.step hb6
  have hone1 : (1 : Int) ≤ ((n + 1 : Nat) : Int) := by omega
  have hone2 : (n : Int) + 1 ≤ (cap : Int) := by omega
  refine region_T (fun W' : World => W'.cell? ⟨w.heap.size + 3, 1, none⟩ = some (.slice qa m qc) ∧ W'.cell? ⟨w.heap.size + 1, 1, none⟩ = some (.slice (some ⟨b, off, none⟩) (n + 1) cap)) 5 (by kernel_rfl) ?_
  have mkS : ∀ W', Below w6.heap.size w6 W' → W'.cell? ⟨w.heap.size + 3, 1, none⟩ = some (.slice qa m qc) ∧ W'.cell? ⟨w.heap.size + 1, 1, none⟩ = some (.slice (some ⟨b, off, none⟩) (n + 1) cap) := fun W' hb => ⟨(cells2 (blk g3s hb)).2, (cells2 (blk g1s hb)).2⟩
  refine wpT_take (i := 0) (v := .pointer (some ⟨w.heap.size + 3, 1, none⟩)) rfl (by kernel_rfl) (by kernel_rfl) (by kernel_rfl) (by kernel_rfl) (by kernel_rfl) (by kernel_rfl) (by kernel_rfl) (by kernel_rfl) (fun _ _ _ h => h) (Or.inl ⟨by rfl, ?_⟩) (mkS _ hbd) ?_
  · rintro w' ⟨s0, s1⟩
    go_simp
  try simp only [Act.put]
  refine wpT_take (i := 1) (v := .slice qa m qc) rfl (by kernel_rfl) (by kernel_rfl) (by kernel_rfl) (by kernel_rfl) (by kernel_rfl) (by kernel_rfl) (by kernel_rfl) (by kernel_rfl) (fun _ _ _ h => h) (Or.inl ⟨by rfl, ?_⟩) (mkS _ hbd) ?_
  · rintro w' ⟨s0, s1⟩
    go_simp
  try simp only [Act.put]
  refine wpT_take (i := 2) (v := .pointer (some ⟨w.heap.size + 1, 1, none⟩)) rfl (by kernel_rfl) (by kernel_rfl) (by kernel_rfl) (by kernel_rfl) (by kernel_rfl) (by kernel_rfl) (by kernel_rfl) (by kernel_rfl) (fun _ _ _ h => h) (Or.inl ⟨by rfl, ?_⟩) (mkS _ hbd) ?_
  · rintro w' ⟨s0, s1⟩
    go_simp
  try simp only [Act.put]
  refine wpT_take (i := 3) (v := .slice (some ⟨b, off, none⟩) (n + 1) cap) rfl (by kernel_rfl) (by kernel_rfl) (by kernel_rfl) (by kernel_rfl) (by kernel_rfl) (by kernel_rfl) (by kernel_rfl) (by kernel_rfl) (fun _ _ _ h => h) (Or.inl ⟨by rfl, ?_⟩) (mkS _ hbd) ?_
  · rintro w' ⟨s0, s1⟩
    go_simp
  try simp only [Act.put]
  refine wpT_take (i := 4) (v := .slice (some ⟨b, (if cap = 1 then off else off + 1), none⟩) n (cap - 1)) rfl (by kernel_rfl) (by kernel_rfl) (by kernel_rfl) (by kernel_rfl) (by kernel_rfl) (by kernel_rfl) (by kernel_rfl) (by kernel_rfl) (fun _ _ _ h => h) (Or.inl ⟨by rfl, ?_⟩) (mkS _ hbd) ?_
  · rintro w' ⟨s0, s1⟩
    by_cases hcp : cap = 1
    · have hn0 : n = 0 := by omega
      have h11 : (1 : Int) ≤ (n : Int) + 1 := by omega
      have hcp2 : cap - 1 = 0 := by omega
      simp only [hcp, if_true]
      go_simp
    · have h11 : (1 : Int) ≤ (n : Int) + 1 := by omega
      simp only [hcp, if_false]
      go_simp
  try simp only [Act.put]
  clear HTL
  generalize (if cap = 1 then off else off + 1) = off1 at *
  refine wpT_tail 5 3 rfl rfl (by kernel_rfl) (by kernel_rfl) ?_
  simp only [List.drop_succ_cons, List.drop_zero]
  have own6d := own6.kept (grown_of_below hbd) (by cases (Value.slice qa m qc).ownBlock <;> simp)
  refine wpList_append_ints _ rfl _ _ rfl (w.heap.size + 4) (.slice qa m qc) m (encI push) rfl own6d _ st rfl (hs6.step hbd) (by rw [HN.out]; omega) (Nat.le_trans hz6 hbd.size) ?_
  intro v7 w7 own7 hgrow7
  rw [HN.out] at own7
  obtain ⟨za, zc, rfl⟩ := row_slice own7
  have hne : ∀ q, q < w.heap.size + 4 → (Value.slice qa m qc).ownBlock ≠ some q := fun q hq e => by have := (own6d.lt q e).1; omega
  have hb7 : Below w.heap.size w w7 := (hb6.trans (hbd.mono hb6.size)).grown hgrow7 (hb6.trans (hbd.mono hb6.size)).size (fun q e => by have := (own6d.lt q e).1; omega)
  have g3t : w7.heap[w.heap.size + 3]? = some (.cells #[.int .i64 to, .slice qa m qc] 46 (0, 0)) := (hgrow7.block _ (blt (blk g3s hbd)) (fun e => hne _ (by omega) e.symm)).trans (blk g3s hbd)
  have g2t : w7.heap[w.heap.size + 2]? = some (.cells #[.int .i64 0, .slice none 0 0] 46 (0, 0)) := (hgrow7.block _ (blt (blk g2s hbd)) (fun e => hne _ (by omega) e.symm)).trans (blk g2s hbd)
  have e0 := (cells2 g3t).1
  have e1 := (cells2 g3t).2
  have ef : w7.frozen? ⟨w.heap.size + 3, 1, none⟩ = false := by unfold World.frozen?; rw [g3t]; simp
  have g3u := heap_setCell_same w7 (w.heap.size + 3) 1 _ _ (.slice za (m + n) zc) g3t
  have g2u : (w7.setCell ⟨w.heap.size + 3, 1, none⟩ (.slice za (m + n) zc)).heap[w.heap.size + 2]? = _ := (heap_setCell_other w7 ⟨w.heap.size + 3, 1, none⟩ (w.heap.size + 2) (.slice za (m + n) zc) (by show w.heap.size + 2 ≠ w.heap.size + 3; omega)).trans g2t
  have hb8 := hb7.setCell (p := ⟨w.heap.size + 3, 1, none⟩) (by show w.heap.size ≤ w.heap.size + 3; omega) (.slice za (m + n) zc)
  have own8 := ownsRow_surv own7 (Surv.setCell (T := 0) (q := ⟨w.heap.size + 3, 1, none⟩) (by show w.heap.size + 3 < w.heap.size + 4; omega) (.slice za (m + n) zc)) (by decide)
  clear own7 hgrow7 g3t g2t hb7 hne own6d own6 g3s g2s g1s hs6 hbd hb6 hz6 mkS
  go_upto_region 4 with (fail)
  generalize w7.setCell ⟨w.heap.size + 3, 1, none⟩ (.slice za (m + n) zc) = w8 at *
  clear e0 e1 ef
  obtain ⟨c0, c1⟩ := cells2 (show w8.heap[w.heap.size + 3]? = some (.cells #[.int .i64 to, .slice za (m + n) zc] 46 (0, 0)) from g3u)
  obtain ⟨d0, d1⟩ := cells2 g2u
  have df0 : w8.frozen? ⟨w.heap.size + 2, 0, none⟩ = false := by unfold World.frozen?; rw [g2u]; simp
  have df1 : w8.frozen? ⟨w.heap.size + 2, 1, none⟩ = false := by unfold World.frozen?; rw [g2u]; simp
  have hend : DnP to (push ++ st) (m + n) w (.returned (cfV to (.slice za (m + n) zc))) ((w8.setCell ⟨w.heap.size + 2, 0, none⟩ (.int .i64 to)).setCell ⟨w.heap.size + 2, 1, none⟩ (.slice za (m + n) zc)) := by
    refine ⟨za, zc, rfl, ?_, (hb8.setCell (p := ⟨w.heap.size + 2, 0, none⟩) (by show w.heap.size ≤ w.heap.size + 2; omega) _).setCell (p := ⟨w.heap.size + 2, 1, none⟩) (by show w.heap.size ≤ w.heap.size + 2; omega) _⟩
    have hs : Surv (w.heap.size + 4) 0 w8 ((w8.setCell ⟨w.heap.size + 2, 0, none⟩ (.int .i64 to)).setCell ⟨w.heap.size + 2, 1, none⟩ (.slice za (m + n) zc)) :=
      (Surv.setCell (q := ⟨w.heap.size + 2, 0, none⟩) (by show w.heap.size + 2 < w.heap.size + 4; omega) _).trans (Surv.setCell (q := ⟨w.heap.size + 2, 1, none⟩) (by show w.heap.size + 2 < w.heap.size + 4; omega) _)
    have h := ownsRow_lower (ownsRow_surv own8 hs (by decide)) (show w.heap.size ≤ w.heap.size + 4 by omega)
    rw [show encI (push ++ st) = encI push ++ encI st by unfold encI; rw [List.map_append]]
    exact h
  obtain ⟨q0, q1⟩ := cells2 (heap_setCell_same _ _ 1 _ _ (.slice za (m + n) zc) (heap_setCell_same _ _ 0 _ _ (.int .i64 to) g2u))
  have HEND := Lib.hid hend
  clear hend g2u g3u hb8 own8
  go_wp2_with fail
  refine bodyPost_ret (v := cfV to (.slice za (m + n) zc)) (by simp [results, Tryd.results39, go_sem, q0, q1]) rfl HEND.out
end Go.Proofs.YtpccdhkghlbhkaaDoor
