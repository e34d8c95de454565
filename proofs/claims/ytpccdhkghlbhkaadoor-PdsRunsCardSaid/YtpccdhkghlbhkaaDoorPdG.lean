/-
  Chapter 21's law: whether a system is gone through; a configuration as the document's; whether two are the same, by the program and by the document.
-/
import Derived.Test.YtpccdhkghlbhkaaDoorPdF
import Derived.Test.YtpccdhkghlbhkaaDoorIntS
namespace Go.Proofs.YtpccdhkghlbhkaaDoor
open Go.RowKit Go.Extern.Stop Go.Stop Go.Extern

/-! ### Light -/
def LiP (P : Prop) (w : World) (e : Ending) (w' : World) : Prop := ∃ b : Bool, e = .returned (.bool b) ∧ (b = true → P) ∧ Below w.heap.size w w'
set_option maxRecDepth 100000 in
set_option maxHeartbeats 8000000 in
theorem light21_any (S L : Int) (v : Value) (rs : List Ru) (most : Nat) (hmost : most ≤ 1000000) (w : World) (hv : RusAt w v rs) :
    Calls Tryd.prog 8 #[sysV S L v, .int .i64 (most : Int)] w (LiP (rs.length ≤ most ∧ Short rs 10) w) := by
  obtain ⟨va, vc, rfl⟩ := hv.form
  have HV := Lib.hid hv
  have hS := SyS.start w 24 S L (.slice va rs.length vc)
  have HS := Lib.hid hS
  obtain ⟨s0, s1, s2⟩ := cells3 hS.bx
  clear hv hS
  by_cases hm : rs.length ≤ most
  · have hm' : ¬ (most : Int) < (rs.length : Int) := by omega
    have HM := Lib.hid hm
    go_enter Tryd.func8, Tryd.ntmps8
    go_wp2_with fail
    generalize w.alloc (.cells #[.int .i64 S, .int .i64 L, .slice va rs.length vc] 24) = w1 at *
    go_loopg [15] rs.length (fun g u wr => ∃ i : Nat, i ≤ rs.length ∧ g = rs.length - i ∧ u = .int .i64 i ∧ (∀ (j : Nat) (r : Ru), j < i → rs[j]? = some r → r.push.length ≤ 10) ∧ Below w.heap.size w wr)
    case atStart => exact ⟨0, Nat.zero_le _, by omega, rfl, fun j r hj => absurd hj (Nat.not_lt_zero _), HS.out.below⟩
    case round =>
      obtain ⟨i, hi, hgi, rfl, hok, hb⟩ := hrel
      by_cases hlt : i < rs.length
      · obtain ⟨r, hr⟩ : ∃ r, rs[i]? = some r := ⟨_, List.getElem?_eq_getElem hlt⟩
        obtain ⟨b, off, pa, pc, rfl, k0, k1, k2, k3, k4, hp⟩ := HV.out.at hr hb
        obtain ⟨fr, top, to, push, cost⟩ := r
        replace k0 : wr.cell? ⟨b, off + i * 5, none⟩ = some (.int .i64 fr) := k0
        replace k1 : wr.cell? ⟨b, off + i * 5 + 1, none⟩ = some (.int .i64 top) := k1
        replace k2 : wr.cell? ⟨b, off + i * 5 + 2, none⟩ = some (.int .i64 to) := k2
        replace k3 : wr.cell? ⟨b, off + i * 5 + 3, none⟩ = some (.slice pa push.length pc) := k3
        replace k4 : wr.cell? ⟨b, off + i * 5 + 4, none⟩ = some (.int .u64 cost) := k4
        have hn := heap_alloc_new wr (.cells #[.int .i64 fr, .int .i64 top, .int .i64 to, .slice pa push.length pc, .int .u64 cost] 65)
        have HB := Lib.hid (hb.trans ((sbelow_new wr (.cells #[.int .i64 fr, .int .i64 top, .int .i64 to, .slice pa push.length pc, .int .u64 cost] 65)).mono hb.size))
        obtain ⟨n0, n1, n2, n3, n4⟩ := cells5 hn
        have HOK := Lib.hid hok
        have HR := Lib.hid hr
        clear hok hb hr hn hp
        by_cases hl : push.length ≤ 10
        · have hl' : ¬ (10 : Int) < (push.length : Int) := by omega
          have HL := Lib.hid hl
          go_wp2_with fail
          go_roundg (rs.length - (i + 1))
          case measure => omega
          case rel => exact ⟨i + 1, by omega, rfl, by go_num, fun j r hj hjr => by
            rcases Nat.lt_or_ge j i with h | h
            · exact HOK.out j r h hjr
            · obtain rfl : j = i := by omega
              rw [HR.out] at hjr
              obtain rfl := Option.some.inj hjr
              exact HL.out, HB.out⟩
        · have hl' : (10 : Int) < (push.length : Int) := by omega
          go_wp2_with fail
          go_ret
          exact ⟨_, rfl, fun h => (by cases h), HB.out⟩
      · obtain rfl : i = rs.length := by omega
        have HE := Lib.hid (And.intro hok hb)
        clear hok hb
        go_wp2_with fail
        go_ret
        exact ⟨_, rfl, fun _ => ⟨HM.out, fun j r hjr => HE.out.1 j r (List.getElem?_eq_some_iff.1 hjr).1 hjr⟩, HE.out.2⟩
  · have hm' : (most : Int) < (rs.length : Int) := by omega
    go_enter Tryd.func8, Tryd.ntmps8
    go_wp2_with fail
    go_ret
    exact ⟨_, rfl, fun h => (by cases h), HS.out.below⟩

/-! ### Conf -/
/-- A configuration as a value. -/
abbrev cfV (s : Int) (v : Value) : Value := .agg #[.int .i64 s, v]
def CoP (s : Int) (l : List Int) (w : World) (e : Ending) (w' : World) : Prop := ∃ a c, e = .returned (cfV s (.slice a l.length c)) ∧ w'.ownsRow w.heap.size 3 1 (.slice a l.length c) l.length (encI l) ∧ Below w.heap.size w w'
theorem two_new (w : World) (T T' : TypeId) (u0 u1 z0 z1 : Value) :
    ((w.alloc (.cells #[u0, u1] T)).alloc (.cells #[z0, z1] T')).heap[w.heap.size]? = some (.cells #[u0, u1] T (0, 0)) ∧ ((w.alloc (.cells #[u0, u1] T)).alloc (.cells #[z0, z1] T')).heap[w.heap.size + 1]? = some (.cells #[z0, z1] T' (0, 0)) ∧
    Below w.heap.size w ((w.alloc (.cells #[u0, u1] T)).alloc (.cells #[z0, z1] T')) := by
  have b1 := sbelow_new w (.cells #[u0, u1] T)
  have h1 := heap_alloc_new w (.cells #[u0, u1] T)
  have z1' : (w.alloc (.cells #[u0, u1] T)).heap.size = w.heap.size + 1 := World.size_alloc _ _
  generalize w.alloc (.cells #[u0, u1] T) = w1 at *
  have b2 := sbelow_new w1 (.cells #[z0, z1] T')
  have h2 := heap_alloc_new w1 (.cells #[z0, z1] T')
  rw [z1'] at h2
  exact ⟨blk h1 b2, h2, b1.trans (b2.mono (by omega))⟩
set_option maxRecDepth 100000 in
set_option maxHeartbeats 8000000 in
theorem conf21_any (s : Int) (l : List Int) (v : Value) (w : World) (hv : IntsAt w v l) (hl : l.length ≤ 100000) :
    Calls Tryd.prog 15 #[cfV s v] w (CoP s l w) := by
  obtain ⟨va, vc, rfl⟩ := hv.form
  obtain ⟨hp, hr, hb⟩ := two_new w 40 46 (.int .i64 s) (.slice va l.length vc) (.int .i64 0) (.slice none 0 0)
  have hv2 := hv.step hb
  clear hv
  go_enter Tryd.func15, Tryd.ntmps15
  go_wp2_with fail
  have hz2 : ((w.alloc (.cells #[.int .i64 s, .slice va l.length vc] 40)).alloc (.cells #[.int .i64 0, .slice none 0 0] 46)).heap.size = w.heap.size + 2 := by rw [World.size_alloc, World.size_alloc]
  generalize (w.alloc (.cells #[.int .i64 s, .slice va l.length vc] 40)).alloc (.cells #[.int .i64 0, .slice none 0 0] 46) = w5 at *
  have HZ2 := Lib.hid hz2
  clear hz2
  have hbd := (Below.refl w5.heap.size w5).drew
  refine region_T (fun W' : World => W'.cell? ⟨w.heap.size, 0, none⟩ = some (.int .i64 s) ∧ W'.cell? ⟨w.heap.size, 1, none⟩ = some (.slice va l.length vc)) 7 (by kernel_rfl) ?_
  have mkS : ∀ W', Below w5.heap.size w5 W' → W'.cell? ⟨w.heap.size, 0, none⟩ = some (.int .i64 s) ∧ W'.cell? ⟨w.heap.size, 1, none⟩ = some (.slice va l.length vc) := fun W' hb => cells2 (blk hp hb)
  refine wpT_take (i := 0) (v := .pointer (some ⟨w.heap.size, 0, none⟩)) rfl (by kernel_rfl) (by kernel_rfl) (by kernel_rfl) (by kernel_rfl) (by kernel_rfl) (by kernel_rfl) (by kernel_rfl) (by kernel_rfl) (fun _ _ _ h => h) (Or.inl ⟨by rfl, ?_⟩) (mkS _ hbd) ?_
  · rintro w' ⟨s0, s1⟩
    go_simp
  try simp only [Act.put]
  refine wpT_take (i := 1) (v := .int .i64 s) rfl (by kernel_rfl) (by kernel_rfl) (by kernel_rfl) (by kernel_rfl) (by kernel_rfl) (by kernel_rfl) (by kernel_rfl) (by kernel_rfl) (fun _ _ _ h => h) (Or.inl ⟨by rfl, ?_⟩) (mkS _ hbd) ?_
  · rintro w' ⟨s0, s1⟩
    go_simp
  try simp only [Act.put]
  refine wpT_take (i := 3) (v := .pointer (some ⟨w.heap.size, 1, none⟩)) rfl (by kernel_rfl) (by kernel_rfl) (by kernel_rfl) (by kernel_rfl) (by kernel_rfl) (by kernel_rfl) (by kernel_rfl) (by kernel_rfl) (fun _ _ _ h => h) (Or.inl ⟨by rfl, ?_⟩) (mkS _ hbd) ?_
  · rintro w' ⟨s0, s1⟩
    go_simp
  try simp only [Act.put]
  refine wpT_take (i := 4) (v := .slice va l.length vc) rfl (by kernel_rfl) (by kernel_rfl) (by kernel_rfl) (by kernel_rfl) (by kernel_rfl) (by kernel_rfl) (by kernel_rfl) (by kernel_rfl) (fun _ _ _ h => h) (Or.inl ⟨by rfl, ?_⟩) (mkS _ hbd) ?_
  · rintro w' ⟨s0, s1⟩
    go_simp
  try simp only [Act.put]
  refine wpT_one (i := 2) (by kernel_rfl) rfl ?_
  intro KK hKK
  go_simp
  have hb6 := hbd.trans ((sbelow_new w5.drew (.cells #[] 3)).mono hbd.size)
  refine hKK _ _ ⟨fun _ => mkS _ hb6, ?_⟩
  clear hKK
  try simp only [Act.put]
  have hE : (w5.drew.alloc (.cells #[] 3)).ownsRow (w.heap.size + 2) 3 1 (.slice (some ⟨w5.drew.heap.size, 0, none⟩) 0 0) 0 [] := World.ownsRow_made _ #[] 0 (by show w.heap.size + 2 ≤ w5.heap.size; rw [HZ2.out]; exact Nat.le_refl _) (by unfold maxLen; omega) rfl
  refine wpT_one (i := 5) (by kernel_rfl) rfl ?_
  intro KK hKK
  refine step_append_ints _ (by rfl) _ _ (by rfl) (w.heap.size + 2) _ 0 [] (by rfl) hE _ l (by rfl) (hv2.step hb6) (by omega) (Nat.le_trans (Nat.le_of_eq HZ2.out.symm) hb6.size) ?_
  intro vP w7 hownP hgrowP
  have hb7 : Below w5.heap.size w5 w7 := hb6.grown hgrowP hb6.size (fun q e => by cases e; exact Nat.le_refl _)
  rw [Nat.zero_add, List.nil_append] at hownP
  obtain ⟨qa, qc, rfl⟩ := row_slice hownP
  refine hKK _ _ ⟨fun _ => mkS _ hb7, ?_⟩
  clear hKK hE hgrowP
  try simp only [Act.put]
  refine wpT_take (i := 6) (v := .agg #[.int .i64 s, .slice qa l.length qc]) rfl (by kernel_rfl) (by kernel_rfl) (by kernel_rfl) (by kernel_rfl) (by kernel_rfl) (by kernel_rfl) (by kernel_rfl) (by kernel_rfl) (fun _ _ _ h => h) (Or.inl ⟨by rfl, ?_⟩) (mkS _ hb7) ?_
  · rintro w' ⟨s0, s1⟩
    go_simp
  try simp only [Act.put]
  refine wpT_tail 7 1 rfl rfl (by kernel_rfl) (by kernel_rfl) ?_
  simp only [List.drop_succ_cons, List.drop_zero]
  have hr7 := blk hr hb7
  obtain ⟨r0, r1⟩ := cells2 hr7
  have rf0 : w7.frozen? ⟨w.heap.size + 1, 0, none⟩ = false := by unfold World.frozen?; rw [hr7]; simp
  have rf1 : w7.frozen? ⟨w.heap.size + 1, 1, none⟩ = false := by unfold World.frozen?; rw [hr7]; simp
  have hend : CoP s l w (.returned (cfV s (.slice qa l.length qc))) ((w7.setCell ⟨w.heap.size + 1, 0, none⟩ (.int .i64 s)).setCell ⟨w.heap.size + 1, 1, none⟩ (.slice qa l.length qc)) := by
    refine ⟨qa, qc, rfl, ?_, ?_⟩
    · have hs : Surv (w.heap.size + 2) 0 w7 ((w7.setCell ⟨w.heap.size + 1, 0, none⟩ (.int .i64 s)).setCell ⟨w.heap.size + 1, 1, none⟩ (.slice qa l.length qc)) :=
        (Surv.setCell (q := ⟨w.heap.size + 1, 0, none⟩) (by show w.heap.size + 1 < w.heap.size + 2; omega) _).trans (Surv.setCell (q := ⟨w.heap.size + 1, 1, none⟩) (by show w.heap.size + 1 < w.heap.size + 2; omega) _)
      exact ownsRow_lower (ownsRow_surv hownP hs (by decide)) (by omega)
    · exact ((hb.trans (hb7.mono hb.size)).setCell (p := ⟨w.heap.size + 1, 0, none⟩) (Nat.le_succ _) _).setCell (p := ⟨w.heap.size + 1, 1, none⟩) (Nat.le_succ _) _
  obtain ⟨q0, q1⟩ := cells2 (heap_setCell_same _ _ 1 _ _ (.slice qa l.length qc) (heap_setCell_same _ _ 0 _ _ (.int .i64 s) hr7))
  have HEND := Lib.hid hend
  clear hend hr7 hr hp mkS hb7 hb6 hbd hownP hv2 hb
  go_wp2_with fail
  refine bodyPost_ret (v := cfV s (.slice qa l.length qc)) (by simp [results, Tryd.results15, go_sem, q0, q1]) rfl HEND.out
end Go.Proofs.YtpccdhkghlbhkaaDoor
