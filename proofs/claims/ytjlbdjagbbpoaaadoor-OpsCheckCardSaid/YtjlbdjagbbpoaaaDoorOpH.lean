/-
  Package ops by contracts, sixth part: what is guessed of tops behind an op.
-/
import Derived.Test.YtjlbdjagbbpoaaaDoorOpG
namespace Go.Proofs.YtjlbdjagbbpoaaaDoor
open Go.RowKit Go.Extern.Stop Go.Stop Go.Extern

/-- A row of sets of kinds. -/
def setCells (l : List Nat) : List Value := l.flatMap fun (m : Nat) => [.int .u64 (m : Int), .int .u64 0]
theorem setCells_length (l : List Nat) : (setCells l).length = l.length * 2 := by unfold setCells; rw [List.length_flatMap]; simp; induction l with | nil => rfl | cons a c ih => simp [ih]; omega
theorem setCells_append (a b : List Nat) : setCells (a ++ b) = setCells a ++ setCells b := by unfold setCells; rw [List.flatMap_append]
theorem setCells_one (l : List Nat) : ∀ u ∈ setCells l, u.oneCell' = true := by
  intro u hu
  obtain ⟨o, -, ho⟩ := List.mem_flatMap.1 hu
  simp at ho
  rcases ho with rfl | rfl <;> rfl
theorem setCells_rev (m : Nat) (l : List Nat) : setCells (m :: l).reverse = setCells l.reverse ++ [.int .u64 (m : Int), .int .u64 0] := by rw [List.reverse_cons, setCells_append]; rfl
theorem infoSet : (Tryd.prog.info? 34).map (fun i => (i.zero, i.size, i.bytes)) = some (some (.agg #[.int .u64 0, .int .u64 0]), 2, 16) := by kernel_rfl
/-- The top's own cells. -/
theorem may_cells {w : World} {base g cap : Nat} {m : Nat} {l : List Nat} (h : w.ownsRow base 34 2 (.slice (some ⟨g, 0, none⟩) (l.length + 1) cap) (l.length + 1) (setCells (m :: l).reverse)) :
    w.cell? ⟨g, l.length * 2, none⟩ = some (.int .u64 (m : Int)) ∧ w.cell? ⟨g, l.length * 2 + 1, none⟩ = some (.int .u64 0) := by
  have hl : (setCells l.reverse).length = l.length * 2 := by rw [setCells_length]; simp
  constructor
  · rw [h.cellAt _ (by omega), setCells_rev, List.getElem?_append_right (by omega), hl, Nat.sub_self]
    rfl
  · rw [h.cellAt _ (by omega), setCells_rev, List.getElem?_append_right (by omega), hl, show l.length * 2 + 1 - l.length * 2 = 1 by omega]
    rfl
theorem oneK_lt {k : Int} (h : 0 ≤ k ∧ k ≤ 3) : oneK k < 16 := by
  have : k = 0 ∨ k = 1 ∨ k = 2 ∨ k = 3 := by omega
  rcases this with rfl | rfl | rfl | rfl <;> decide
set_option maxRecDepth 100000 in
set_option maxHeartbeats 4000000 in
theorem guessed_any (ks : List Int) (vk v : Value) (o l : Int) (m : Nat) (rest : List Nat) (base : Nat) (w : World) (hk : IntsAt w vk ks) (hown : w.ownsRow base 34 2 v (rest.length + 1) (setCells (m :: rest).reverse)) (hz : base ≤ w.heap.size) (hm : m < 16)
    (hl : rest.length ≤ 1000) (ht : TabB w) (ho : o = 1 ∨ o = 2 ∨ o = 3) :
    Calls Tryd.prog 58 #[vk, v, .agg #[.int .i64 o, .int .i64 l]] w fun e w' => ∃ v', e = .returned v' ∧ w'.ownsRow base 34 2 v' (guessL o (kindI ks l) (m :: rest)).length (setCells (guessL o (kindI ks l) (m :: rest)).reverse) ∧ Below base w w' := by
  obtain ⟨g, cap, rfl⟩ := ownsRow_succ hown
  obtain ⟨i0, hi, hz0, hz1, hz2⟩ := info_parts infoSet
  have hB := below_new w (.cells #[.int .i64 o, .int .i64 l] 60)
  have HB := Lib.hid hB
  have HZ := Lib.hid hz
  have HBb := Lib.hid ((Below.refl base w).alloc hz (.cells #[.int .i64 o, .int .i64 l] 60))
  have HO := Lib.hid (hown.alloc (.cells #[.int .i64 o, .int .i64 l] 60))
  have e1 : ((rest.length + 1 : Nat) : Int) - 1 = (rest.length : Int) := by omega
  have j2 : rest.length + 1 ≤ cap := by
    rcases hown.2 with ⟨h, -⟩ | ⟨_, _, _, e, _, _, h, -⟩
    · cases h
    · injection e with _ _ e
      subst e
      exact h
  have j3 : (rest.length : Int) ≤ (cap : Int) := by omega
  have hkr := kindI_range ks l
  obtain ⟨k, hkv⟩ : ∃ k, KV ks l k := ⟨_, rfl⟩
  rw [show kindI ks l = k from hkv] at hkr ⊢
  rcases ho with rfl | rfl | rfl
  · by_cases hr : rest = []
    · subst hr
      have HU := Lib.hid (under_any m hm _ (ht.below ht.lt hB))
      have hc := may_cells hown
      have hgl := (hown.lt g rfl).2
      have c0 : (w.alloc (.cells #[.int .i64 1, .int .i64 l] 60)).cell? ⟨g, 0, none⟩ = some (.int .u64 (m : Int)) := (hB.cell (p := ⟨g, 0, none⟩) hgl).trans hc.1
      have c1 : (w.alloc (.cells #[.int .i64 1, .int .i64 l] 60)).cell? ⟨g, 1, none⟩ = some (.int .u64 0) := (hB.cell (p := ⟨g, 1, none⟩) hgl).trans hc.2
      have d0 : w.cell? ⟨g, 0, none⟩ = some (.int .u64 (m : Int)) := hc.1
      have d1 : w.cell? ⟨g, 1, none⟩ = some (.int .u64 0) := hc.2
      obtain ⟨u, hu⟩ : ∃ u, underW m = u := ⟨_, rfl⟩
      rw [hu] at HU
      have HUe := Lib.hid hu
      clear hown hc hu hk ht hkv hB hz
      go_enter Tryd.func58, Tryd.ntmps58
      go_wp2_with fail
      refine HU.out.mono ?_
      rintro e w2 ⟨rfl, b2⟩
      have hb2 : Below base w w2 := HBb.out.trans (b2.mono (Nat.le_trans HZ.out HB.out.size))
      have hs2 : base ≤ w2.heap.size := Nat.le_trans HZ.out (Nat.le_trans HB.out.size b2.size)
      have HN : Hid ((w2.alloc (.cells #[.int .u64 (u : Int), .int .u64 0] 34)).ownsRow base 34 2 (.slice (some ⟨w2.heap.size, 0, none⟩) 1 1) 1 (setCells [u])) := Lib.hid (World.ownsRow_lit w2 #[.int .u64 (u : Int), .int .u64 0] 1 hs2 (by unfold maxLen; omega) rfl)
      have HB2 := Lib.hid (hb2.alloc hs2 (.cells #[.int .u64 (u : Int), .int .u64 0] 34))
      clear hb2 b2
      go_wp2_with fail
      go_ret
      refine ⟨_, rfl, ?_, HB2.out⟩
      have e : guessL 1 k [m] = [u] := by show [underW m] = [u]; rw [HUe.out]
      rw [e]
      exact HN.out
    · have hg : guessL 1 k (m :: rest) = rest := by unfold guessL; simp [hr]
      have hpos : 0 < rest.length := List.length_pos_iff.2 hr
      have q0 : (0 : Int) < (rest.length : Int) := by omega
      have HP : Hid ((w.alloc (.cells #[.int .i64 1, .int .i64 l] 60)).ownsRow base 34 2 (.slice (some ⟨g, 0, none⟩) rest.length cap) rest.length (setCells rest.reverse)) := Lib.hid (by
        have h := HO.out
        rw [setCells_rev] at h
        exact ownsRow_pop (by rw [setCells_length]; simp) h)
      rw [hg]
      clear hown hk ht hkv hB hz hg hr
      generalize hn : rest.length = n at *
      go_enter Tryd.func58, Tryd.ntmps58
      go_wp2_with fail
      go_ret
      exact ⟨_, rfl, HP.out, HBb.out⟩
  · have hg : guessL 2 k (m :: rest) = m :: rest := by unfold guessL; simp
    rw [hg]
    clear hown hk ht hkv hB hz hg
    go_enter Tryd.func58, Tryd.ntmps58
    go_wp2_with fail
    go_ret
    exact ⟨_, rfl, HO.out, HBb.out⟩
  · have hg : guessL 3 k (m :: rest) = oneK k :: m :: rest := by unfold guessL; simp
    rw [hg]
    have HK := Lib.hid (kind_kv ks vk l k _ (hk.step hB) hkv)
    have hi1 := ints_new (w.alloc (.cells #[.int .i64 3, .int .i64 l] 60)) k
    have hO1 := of_any [k] _ _ hi1 (by simp)
    rw [ofS_one hkr, World.size_alloc] at hO1
    have HOf := Lib.hid hO1
    have HBi := Lib.hid (below_new (w.alloc (.cells #[.int .i64 3, .int .i64 l] 60)) (.cells #[.int .i64 k] 3))
    generalize oneK k = x at *
    clear hown hk ht hkv hB hz hg hi1 hO1
    go_enter Tryd.func58, Tryd.ntmps58
    go_wp2_with fail
    refine HK.out.mono ?_
    rintro e w2 ⟨rfl, rfl⟩
    go_wp2_with fail
    refine HOf.out.mono ?_
    rintro e w3 ⟨rfl, b3⟩
    have b13 : Below (w.alloc (.cells #[.int .i64 3, .int .i64 l] 60)).heap.size (w.alloc (.cells #[.int .i64 3, .int .i64 l] 60)) w3 := HBi.out.trans (b3.mono HBi.out.size)
    have hs3 : base ≤ w3.heap.size := Nat.le_trans HZ.out (Nat.le_trans HB.out.size b13.size)
    have HO3 := Lib.hid ((ownsRow_below_up HO.out b13).alloc (.cells #[.int .u64 (x : Int), .int .u64 0] 34))
    have HB3 := Lib.hid ((HBb.out.trans (b13.mono (Nat.le_trans HZ.out HB.out.size))).alloc hs3 (.cells #[.int .u64 (x : Int), .int .u64 0] 34))
    have HN3 := Lib.hid (heap_alloc_new w3 (.cells #[.int .u64 (x : Int), .int .u64 0] 34))
    clear b3 b13
    go_wp2_with (at_builtin; refine wpList_append_own _ rfl _ _ 78 rfl base 34 i0 (.agg #[.int .u64 0, .int .u64 0]) 2 16 Tryd.underlying78 hi hz0 hz1 hz2 rfl (by decide) _ _ _ rfl HO3.out ⟨w3.heap.size, 0, none⟩ 1 1 (setCells [x]) rfl rfl ?_ (setCells_one _) ?_ ?_ ?_ ?_)
    · intro j u hu
      first
      | exact hu
      | (have e0 : (⟨w3.heap.size, 0, none⟩ : Addr).add j = ⟨w3.heap.size, j, none⟩ := by unfold Addr.add; split <;> simp_all
         rw [e0, Lib.cell_of_heap HN3.out, List.getElem?_toArray]
         exact hu)
    · unfold maxLen; omega
    · omega
    · (try simp only [World.size_alloc]); omega
    intro v4 w4 hown4 hgrow4 _
    have HB4 := Lib.hid (HB3.out.grown hgrow4 (by simp; omega) (fun k' e => (HO3.out.lt k' e).1))
    have HO4 : Hid (w4.ownsRow base 34 2 v4 (x :: m :: rest).length (setCells (x :: m :: rest).reverse)) := Lib.hid (by
      rw [show (x :: m :: rest).reverse = (rest.reverse ++ [m]) ++ [x] by simp, setCells_append]
      exact hown4)
    clear hown4 hgrow4
    go_wp2_with fail
    go_ret
    exact ⟨_, rfl, HO4.out, HB4.out⟩
end Go.Proofs.YtjlbdjagbbpoaaaDoor
