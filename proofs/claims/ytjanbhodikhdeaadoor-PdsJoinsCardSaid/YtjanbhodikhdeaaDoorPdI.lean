/-
  Package pds by contracts: a configuration with its stack turned about; whether a rule can be done, by the program and by the document; the document's own Same.
-/
import Derived.Test.YtjanbhodikhdeaaDoorPdH
import Derived.Deep.QuietTactic
namespace Go.Proofs.YtjanbhodikhdeaaDoor
open Go.RowKit Go.Extern.Stop Go.Stop Go.Extern

def TuP (s : Int) (l : List Int) (w : World) (e : Ending) (w' : World) : Prop := ∃ a c, e = .returned (cfV s (.slice a l.length c)) ∧ w'.ownsRow (w.heap.size + 2) 3 1 (.slice a l.length c) l.length (encI l.reverse) ∧ Below w.heap.size w w'
set_option maxRecDepth 100000 in
set_option maxHeartbeats 8000000 in
theorem stand_any (s : Int) (l : List Int) (v : Value) (w : World) (hv : IntsAt w v l) (hl : l.length ≤ 1000000) :
    Calls Tryd.prog 21 #[cfV s v] w (TuP s l w) := by
  obtain ⟨va, vc, rfl⟩ := hv.form
  obtain ⟨hp, hr, hb⟩ := two_new w 27 56 (.int .i64 s) (.slice va l.length vc) (.int .i64 0) (.slice none 0 0)
  have hv2 := hv.step hb
  clear hv
  go_enter Tryd.func21, Tryd.ntmps21
  go_wp2_with fail
  have hz2 : ((w.alloc (.cells #[.int .i64 s, .slice va l.length vc] 27)).alloc (.cells #[.int .i64 0, .slice none 0 0] 56)).heap.size = w.heap.size + 2 := by rw [World.size_alloc, World.size_alloc]
  generalize (w.alloc (.cells #[.int .i64 s, .slice va l.length vc] 27)).alloc (.cells #[.int .i64 0, .slice none 0 0] 56) = w5 at *
  have HZ2 := Lib.hid hz2
  clear hz2
  have hbd := (Below.refl w5.heap.size w5).drew
  have HTU := Lib.hid (turned_any l _ _ (hv2.step hbd) hl)
  refine region_T (fun W' : World => W'.cell? ⟨w.heap.size, 0, none⟩ = some (.int .i64 s) ∧ W'.cell? ⟨w.heap.size, 1, none⟩ = some (.slice va l.length vc)) 6 (by kernel_rfl) ?_
  have mkS : ∀ W', Below w5.heap.size w5 W' → W'.cell? ⟨w.heap.size, 0, none⟩ = some (.int .i64 s) ∧ W'.cell? ⟨w.heap.size, 1, none⟩ = some (.slice va l.length vc) := fun W' hb => cells2 (blk hp hb)
  refine wpT_take (i := 0) (v := .pointer (some ⟨w.heap.size, 0, none⟩)) rfl (by kernel_rfl) (by kernel_rfl) (by kernel_rfl) (by kernel_rfl) (by kernel_rfl) (by kernel_rfl) (by kernel_rfl) (by kernel_rfl) (fun _ _ _ h => h) (Or.inl ⟨by rfl, ?_⟩) (mkS _ hbd) ?_
  · rintro w' ⟨s0, s1⟩
    go_simp
  try simp only [Act.put]
  refine wpT_take (i := 1) (v := .int .i64 s) rfl (by kernel_rfl) (by kernel_rfl) (by kernel_rfl) (by kernel_rfl) (by kernel_rfl) (by kernel_rfl) (by kernel_rfl) (by kernel_rfl) (fun _ _ _ h => h) (Or.inl ⟨by rfl, ?_⟩) (mkS _ hbd) ?_
  · rintro w' ⟨s0, s1⟩
    go_simp
  try simp only [Act.put]
  refine wpT_take (i := 2) (v := .pointer (some ⟨w.heap.size, 1, none⟩)) rfl (by kernel_rfl) (by kernel_rfl) (by kernel_rfl) (by kernel_rfl) (by kernel_rfl) (by kernel_rfl) (by kernel_rfl) (by kernel_rfl) (fun _ _ _ h => h) (Or.inl ⟨by rfl, ?_⟩) (mkS _ hbd) ?_
  · rintro w' ⟨s0, s1⟩
    go_simp
  try simp only [Act.put]
  refine wpT_take (i := 3) (v := .slice va l.length vc) rfl (by kernel_rfl) (by kernel_rfl) (by kernel_rfl) (by kernel_rfl) (by kernel_rfl) (by kernel_rfl) (by kernel_rfl) (by kernel_rfl) (fun _ _ _ h => h) (Or.inl ⟨by rfl, ?_⟩) (mkS _ hbd) ?_
  · rintro w' ⟨s0, s1⟩
    go_simp
  try simp only [Act.put]
  refine wpT_one (i := 4) (by kernel_rfl) rfl ?_
  intro KK hKK
  go_simp
  refine HTU.out.mono ?_
  rintro e w7 ⟨qa, qc, rfl, hown, b7⟩
  have hb7 := hbd.trans b7
  refine hKK _ _ ⟨fun _ => mkS _ hb7, ?_⟩
  clear hKK
  try simp only [Act.put]
  refine wpT_take (i := 5) (v := .agg #[.int .i64 s, .slice qa l.length qc]) rfl (by kernel_rfl) (by kernel_rfl) (by kernel_rfl) (by kernel_rfl) (by kernel_rfl) (by kernel_rfl) (by kernel_rfl) (by kernel_rfl) (fun _ _ _ h => h) (Or.inl ⟨by rfl, ?_⟩) (mkS _ hb7) ?_
  · rintro w' ⟨s0, s1⟩
    go_simp
  try simp only [Act.put]
  refine wpT_tail 6 1 rfl rfl (by kernel_rfl) (by kernel_rfl) ?_
  simp only [List.drop_succ_cons, List.drop_zero]
  have hr7 := blk hr hb7
  obtain ⟨r0, r1⟩ := cells2 hr7
  have rf0 : w7.frozen? ⟨w.heap.size + 1, 0, none⟩ = false := by unfold World.frozen?; rw [hr7]; simp
  have rf1 : w7.frozen? ⟨w.heap.size + 1, 1, none⟩ = false := by unfold World.frozen?; rw [hr7]; simp
  have hend : TuP s l w (.returned (cfV s (.slice qa l.length qc))) ((w7.setCell ⟨w.heap.size + 1, 0, none⟩ (.int .i64 s)).setCell ⟨w.heap.size + 1, 1, none⟩ (.slice qa l.length qc)) := by
    refine ⟨qa, qc, rfl, ?_, ?_⟩
    · have hs : Surv (w.heap.size + 2) 0 w7 ((w7.setCell ⟨w.heap.size + 1, 0, none⟩ (.int .i64 s)).setCell ⟨w.heap.size + 1, 1, none⟩ (.slice qa l.length qc)) :=
        (Surv.setCell (q := ⟨w.heap.size + 1, 0, none⟩) (by show w.heap.size + 1 < w.heap.size + 2; omega) _).trans (Surv.setCell (q := ⟨w.heap.size + 1, 1, none⟩) (by show w.heap.size + 1 < w.heap.size + 2; omega) _)
      exact ownsRow_surv (ownsRow_lower hown (Nat.le_of_eq HZ2.out.symm)) hs (by decide)
    · exact ((hb.trans (hb7.mono hb.size)).setCell (p := ⟨w.heap.size + 1, 0, none⟩) (Nat.le_succ _) _).setCell (p := ⟨w.heap.size + 1, 1, none⟩) (Nat.le_succ _) _
  obtain ⟨q0, q1⟩ := cells2 (heap_setCell_same _ _ 1 _ _ (.slice qa l.length qc) (heap_setCell_same _ _ 0 _ _ (.int .i64 s) hr7))
  have HEND := Lib.hid hend
  clear hend hr7 hr hp mkS hb7 b7 hbd hown hv2 hb HTU
  go_wp2_with fail
  refine bodyPost_ret (v := cfV s (.slice qa l.length qc)) (by simp [results, Tryd.results21, go_sem, q0, q1]) rfl HEND.out
set_option maxRecDepth 100000 in
set_option maxHeartbeats 8000000 in
theorem config_any (s : Int) (l : List Int) (v : Value) (w : World) (hv : IntsAt w v l) (hl : l.length ≤ 1000000) :
    Calls Tryd.prog 23 #[cfV s v] w (TuP s l w) := by
  obtain ⟨va, vc, rfl⟩ := hv.form
  obtain ⟨hp, hr, hb⟩ := two_new w 56 27 (.int .i64 s) (.slice va l.length vc) (.int .i64 0) (.slice none 0 0)
  have hv2 := hv.step hb
  clear hv
  go_enter Tryd.func23, Tryd.ntmps23
  go_wp2_with fail
  have hz2 : ((w.alloc (.cells #[.int .i64 s, .slice va l.length vc] 56)).alloc (.cells #[.int .i64 0, .slice none 0 0] 27)).heap.size = w.heap.size + 2 := by rw [World.size_alloc, World.size_alloc]
  generalize (w.alloc (.cells #[.int .i64 s, .slice va l.length vc] 56)).alloc (.cells #[.int .i64 0, .slice none 0 0] 27) = w5 at *
  have HZ2 := Lib.hid hz2
  clear hz2
  have hbd := (Below.refl w5.heap.size w5).drew
  have HTU := Lib.hid (turned_any l _ _ (hv2.step hbd) hl)
  refine region_T (fun W' : World => W'.cell? ⟨w.heap.size, 0, none⟩ = some (.int .i64 s) ∧ W'.cell? ⟨w.heap.size, 1, none⟩ = some (.slice va l.length vc)) 6 (by kernel_rfl) ?_
  have mkS : ∀ W', Below w5.heap.size w5 W' → W'.cell? ⟨w.heap.size, 0, none⟩ = some (.int .i64 s) ∧ W'.cell? ⟨w.heap.size, 1, none⟩ = some (.slice va l.length vc) := fun W' hb => cells2 (blk hp hb)
  refine wpT_take (i := 0) (v := .pointer (some ⟨w.heap.size, 0, none⟩)) rfl (by kernel_rfl) (by kernel_rfl) (by kernel_rfl) (by kernel_rfl) (by kernel_rfl) (by kernel_rfl) (by kernel_rfl) (by kernel_rfl) (fun _ _ _ h => h) (Or.inl ⟨by rfl, ?_⟩) (mkS _ hbd) ?_
  · rintro w' ⟨s0, s1⟩
    go_simp
  try simp only [Act.put]
  refine wpT_take (i := 1) (v := .int .i64 s) rfl (by kernel_rfl) (by kernel_rfl) (by kernel_rfl) (by kernel_rfl) (by kernel_rfl) (by kernel_rfl) (by kernel_rfl) (by kernel_rfl) (fun _ _ _ h => h) (Or.inl ⟨by rfl, ?_⟩) (mkS _ hbd) ?_
  · rintro w' ⟨s0, s1⟩
    go_simp
  try simp only [Act.put]
  refine wpT_take (i := 2) (v := .pointer (some ⟨w.heap.size, 1, none⟩)) rfl (by kernel_rfl) (by kernel_rfl) (by kernel_rfl) (by kernel_rfl) (by kernel_rfl) (by kernel_rfl) (by kernel_rfl) (by kernel_rfl) (fun _ _ _ h => h) (Or.inl ⟨by rfl, ?_⟩) (mkS _ hbd) ?_
  · rintro w' ⟨s0, s1⟩
    go_simp
  try simp only [Act.put]
  refine wpT_take (i := 3) (v := .slice va l.length vc) rfl (by kernel_rfl) (by kernel_rfl) (by kernel_rfl) (by kernel_rfl) (by kernel_rfl) (by kernel_rfl) (by kernel_rfl) (by kernel_rfl) (fun _ _ _ h => h) (Or.inl ⟨by rfl, ?_⟩) (mkS _ hbd) ?_
  · rintro w' ⟨s0, s1⟩
    go_simp
  try simp only [Act.put]
  refine wpT_one (i := 4) (by kernel_rfl) rfl ?_
  intro KK hKK
  go_simp
  refine HTU.out.mono ?_
  rintro e w7 ⟨qa, qc, rfl, hown, b7⟩
  have hb7 := hbd.trans b7
  refine hKK _ _ ⟨fun _ => mkS _ hb7, ?_⟩
  clear hKK
  try simp only [Act.put]
  refine wpT_take (i := 5) (v := .agg #[.int .i64 s, .slice qa l.length qc]) rfl (by kernel_rfl) (by kernel_rfl) (by kernel_rfl) (by kernel_rfl) (by kernel_rfl) (by kernel_rfl) (by kernel_rfl) (by kernel_rfl) (fun _ _ _ h => h) (Or.inl ⟨by rfl, ?_⟩) (mkS _ hb7) ?_
  · rintro w' ⟨s0, s1⟩
    go_simp
  try simp only [Act.put]
  refine wpT_tail 6 1 rfl rfl (by kernel_rfl) (by kernel_rfl) ?_
  simp only [List.drop_succ_cons, List.drop_zero]
  have hr7 := blk hr hb7
  obtain ⟨r0, r1⟩ := cells2 hr7
  have rf0 : w7.frozen? ⟨w.heap.size + 1, 0, none⟩ = false := by unfold World.frozen?; rw [hr7]; simp
  have rf1 : w7.frozen? ⟨w.heap.size + 1, 1, none⟩ = false := by unfold World.frozen?; rw [hr7]; simp
  have hend : TuP s l w (.returned (cfV s (.slice qa l.length qc))) ((w7.setCell ⟨w.heap.size + 1, 0, none⟩ (.int .i64 s)).setCell ⟨w.heap.size + 1, 1, none⟩ (.slice qa l.length qc)) := by
    refine ⟨qa, qc, rfl, ?_, ?_⟩
    · have hs : Surv (w.heap.size + 2) 0 w7 ((w7.setCell ⟨w.heap.size + 1, 0, none⟩ (.int .i64 s)).setCell ⟨w.heap.size + 1, 1, none⟩ (.slice qa l.length qc)) :=
        (Surv.setCell (q := ⟨w.heap.size + 1, 0, none⟩) (by show w.heap.size + 1 < w.heap.size + 2; omega) _).trans (Surv.setCell (q := ⟨w.heap.size + 1, 1, none⟩) (by show w.heap.size + 1 < w.heap.size + 2; omega) _)
      exact ownsRow_surv (ownsRow_lower hown (Nat.le_of_eq HZ2.out.symm)) hs (by decide)
    · exact ((hb.trans (hb7.mono hb.size)).setCell (p := ⟨w.heap.size + 1, 0, none⟩) (Nat.le_succ _) _).setCell (p := ⟨w.heap.size + 1, 1, none⟩) (Nat.le_succ _) _
  obtain ⟨q0, q1⟩ := cells2 (heap_setCell_same _ _ 1 _ _ (.slice qa l.length qc) (heap_setCell_same _ _ 0 _ _ (.int .i64 s) hr7))
  have HEND := Lib.hid hend
  clear hend hr7 hr hp mkS hb7 b7 hbd hown hv2 hb HTU
  go_wp2_with fail
  refine bodyPost_ret (v := cfV s (.slice qa l.length qc)) (by simp [results, Tryd.results23, go_sem, q0, q1]) rfl HEND.out

/-! ### Can a rule be done? -/
theorem two_boxes (w : World) (T T' : TypeId) (c0 c1 : Array Value) :
    ((w.alloc (.cells c0 T)).alloc (.cells c1 T')).heap[w.heap.size]? = some (.cells c0 T (0, 0)) ∧ ((w.alloc (.cells c0 T)).alloc (.cells c1 T')).heap[w.heap.size + 1]? = some (.cells c1 T' (0, 0)) ∧
    Below w.heap.size w ((w.alloc (.cells c0 T)).alloc (.cells c1 T')) := by
  have b1 := sbelow_new w (.cells c0 T)
  have h1 := heap_alloc_new w (.cells c0 T)
  have z1' : (w.alloc (.cells c0 T)).heap.size = w.heap.size + 1 := World.size_alloc _ _
  generalize w.alloc (.cells c0 T) = w1 at *
  have b2 := sbelow_new w1 (.cells c1 T')
  have h2 := heap_alloc_new w1 (.cells c1 T')
  rw [z1'] at h2
  exact ⟨blk h1 b2, h2, b1.trans (b2.mono (by omega))⟩
set_option maxRecDepth 100000 in
set_option maxHeartbeats 8000000 in
theorem fits_any (s : Int) (z : List Int) (v : Value) (r : Ru) (pa : Option Addr) (pc : Nat) (w : World) (hv : IntsAt w v z) (hl : z.length ≤ 1000000) :
    Calls Tryd.prog 25 #[cfV s v, ruV r pa pc] w fun e w' => e = .returned (.bool (fitsB r (s, z.reverse))) ∧ Below w.heap.size w w' := by
  obtain ⟨va, vc, rfl⟩ := hv.form
  obtain ⟨fr, top, to, push, cost⟩ := r
  obtain ⟨h0, h1, hb⟩ := two_boxes w 56 46 #[.int .i64 s, .slice va z.length vc] #[.int .i64 fr, .int .i64 top, .int .i64 to, .slice pa push.length pc, .int .u64 cost]
  have hv2 := hv.step hb
  have HB := Lib.hid hb
  obtain ⟨k0, k1⟩ := cells2 h0
  obtain ⟨j0, j1, j2, j3, j4⟩ := cells5 h1
  rcases List.eq_nil_or_concat z with rfl | ⟨y, t, rfl⟩
  · clear hv h0 h1 hb hv2
    go_enter Tryd.func25, Tryd.ntmps25
    go_wp2_with fail
    go_quiet (fail)
    go_wp2_with fail
    go_ret
    exact ⟨rfl, HB.out.trans ((bel_drewN _ nq).mono HB.out.size)⟩
  · have hz : (y.concat t).length = y.length + 1 := by simp
    have hR : fitsB ⟨fr, top, to, push, cost⟩ (s, (y.concat t).reverse) = (decide (s = fr) && decide (t = top)) := by simp [fitsB, List.concat_eq_append]
    have hat : (y.concat t)[y.length]? = some t := by rw [List.concat_eq_append, List.getElem?_append_right (Nat.le_refl _), Nat.sub_self]; rfl
    rw [hz] at hl hv hv2 k1 HB h0 ⊢
    obtain ⟨b, off, rfl, hcell⟩ := hv2.at hat (Below.refl _ _)
    rw [hR]
    have e1 : ((y.length + 1 : Nat) : Int) - 1 = (y.length : Int) := by omega
    have hyl : (y.length : Int) ≤ 1000000 := by omega
    have hyl2 : y.length ≤ 1000000 := by omega
    clear hv h0 h1 hb hv2 hR hat hz hl
    by_cases hs : s = fr
    · subst hs
      by_cases ht : t = top
      · subst ht
        go_enter Tryd.func25, Tryd.ntmps25
        go_wp2_with fail
        go_quiet (fail)
        go_wp2_with fail
        go_ret
        exact ⟨by simp, HB.out.trans ((bel_drewN _ nq).mono HB.out.size)⟩
      · have ht' : (t == top) = false := by simp [ht]
        have HT := Lib.hid ht
        go_enter Tryd.func25, Tryd.ntmps25
        go_wp2_with fail
        go_quiet (fail)
        go_wp2_with fail
        go_ret
        exact ⟨by simp [HT.out], HB.out.trans ((bel_drewN _ nq).mono HB.out.size)⟩
    · have hs' : (s == fr) = false := by simp [hs]
      have HS := Lib.hid hs
      go_enter Tryd.func25, Tryd.ntmps25
      go_wp2_with fail
      go_quiet (fail)
      go_wp2_with fail
      go_ret
      exact ⟨by simp [HS.out], HB.out.trans ((bel_drewN _ nq).mono HB.out.size)⟩
end Go.Proofs.YtjanbhodikhdeaaDoor
