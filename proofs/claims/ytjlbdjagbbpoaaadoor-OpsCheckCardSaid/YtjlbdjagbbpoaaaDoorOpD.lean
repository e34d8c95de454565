/-
  Package ops by contracts, third part: an op done to a row of the call's own; slices.Clone and slices.Reverse at numbers, as far as Do asks.
-/
import Derived.Test.YtjlbdjagbbpoaaaDoorOpC
import Derived.Test.YtjlbdjagbbpoaaaDoorShelf
import Derived.Lib.OwnBridge
namespace Go.Proofs.YtjlbdjagbbpoaaaDoor
open Go.RowKit Go.Extern.Stop Go.Stop Go.Extern

theorem encI_rev (top : Int) (t : List Int) : encI (top :: t).reverse = encI t.reverse ++ [.int .i64 top] := by unfold encI; simp
theorem encI_length (l : List Int) : (encI l).length = l.length := by unfold encI; simp
theorem below_base {base : Nat} {w w1 w2 : World} {v : Value} {n : Nat} {xs : List Value} (hb : Below base w w1) (hz : base ≤ w1.heap.size) (hown : w1.ownsRow base 3 1 v n xs) (hg : w1.grownBy w2 v.ownBlock) : Below base w w2 :=
  hb.grown hg hz (fun k' e => (hown.lt k' e).1)
set_option maxRecDepth 100000 in
set_option maxHeartbeats 4000000 in
theorem done_any (o l top : Int) (t : List Int) (v : Value) (base : Nat) (w : World) (hown : w.ownsRow base 3 1 v (t.length + 1) (encI (top :: t).reverse)) (hz : base ≤ w.heap.size) (hl : t.length ≤ 100000) (ho : o = 1 ∨ o = 2 ∨ o = 3) :
    Calls Tryd.prog 50 #[v, .agg #[.int .i64 o, .int .i64 l]] w fun e w' => ∃ v', e = .returned v' ∧ w'.ownsRow base 3 1 v' (stepL o l (top :: t)).length (encI (stepL o l (top :: t)).reverse) ∧ Below base w w' := by
  obtain ⟨g, cap, rfl⟩ := ownsRow_succ hown
  have HB := Lib.hid ((Below.refl base w).alloc hz (.cells #[.int .i64 o, .int .i64 l] 60))
  have HO := Lib.hid (hown.alloc (.cells #[.int .i64 o, .int .i64 l] 60))
  have e1 : ((t.length + 1 : Nat) : Int) - 1 = (t.length : Int) := by omega
  have j1 : (t.length : Int) < ((t.length + 1 : Nat) : Int) := by omega
  have j2 : (t.length : Int) ≤ (cap : Int) := by
    rcases hown.2 with ⟨h, -⟩ | ⟨_, _, _, e, _, _, h, -⟩
    · cases h
    · injection e with _ _ e
      subst e
      omega
  have HL : Hid (g < w.heap.size ∧ base ≤ g) := Lib.hid (by have := hown.lt g rfl; exact ⟨this.2, this.1⟩)
  clear hown
  rcases ho with rfl | rfl | rfl
  · have HP : Hid ((w.alloc (.cells #[.int .i64 1, .int .i64 l] 60)).ownsRow base 3 1 (.slice (some ⟨g, 0, none⟩) t.length cap) t.length (encI t.reverse)) := Lib.hid (by
      have h := HO.out
      rw [encI_rev] at h
      exact ownsRow_pop (by rw [encI_length]; simp) h)
    generalize hn : t.length = n at *
    go_enter Tryd.func50, Tryd.ntmps50
    go_wp2_with fail
    go_ret
    refine ⟨_, rfl, ?_, HB.out⟩
    have e : (stepL 1 l (top :: t)) = t := rfl
    rw [e, hn]
    exact HP.out
  · have HS : Hid (((w.alloc (.cells #[.int .i64 2, .int .i64 l] 60)).setCell ⟨g, t.length, none⟩ (.int .i64 l)).ownsRow base 3 1 (.slice (some ⟨g, 0, none⟩) (t.length + 1) cap) (t.length + 1) (encI (l :: t).reverse)) := Lib.hid (by
      have h := (HO.out.stored t.length (.int .i64 l)).1
      rw [encI_rev] at h
      rw [encI_rev]
      have e : (encI t.reverse ++ [Value.int .i64 top]).set t.length (.int .i64 l) = encI t.reverse ++ [Value.int .i64 l] := by
        rw [List.set_append_right _ _ (by rw [encI_length]; simp)]
        simp [encI_length]
      rwa [e] at h)
    have HB2 := Lib.hid (HB.out.setCell (p := ⟨g, t.length, none⟩) HL.out.2 (.int .i64 l))
    have hc := HO.out.cellAt t.length (by omega)
    have hf := HO.out.frozenAt t.length
    have hc2 : (w.alloc (.cells #[.int .i64 2, .int .i64 l] 60)).cell? ⟨g, t.length, none⟩ = some (.int .i64 top) := by
      rw [hc, encI_rev, List.getElem?_append_right (by rw [encI_length]; simp)]
      simp [encI_length]
    have hcl : w.cell? ⟨g, t.length, none⟩ = some (.int .i64 top) := by
      rw [← hc2]
      exact ((below_new w _).cell (p := ⟨g, t.length, none⟩) HL.out.1).symm
    clear hc
    generalize hn : t.length = n at *
    go_enter Tryd.func50, Tryd.ntmps50
    go_wp2_with fail
    go_ret
    refine ⟨_, rfl, ?_, HB2.out⟩
    have e : (stepL 2 l (top :: t)) = l :: t := rfl
    rw [e, List.length_cons, hn]
    exact HS.out
  · have HO2 := Lib.hid (HO.out.alloc (.cells #[.int .i64 l] 3))
    have hn0 := ints_new (w.alloc (.cells #[.int .i64 3, .int .i64 l] 60)) l
    rw [World.size_alloc] at hn0
    have HN := Lib.hid hn0
    clear hn0
    have HZ := Lib.hid (Nat.le_trans hz HB.out.size)
    have HB2 := Lib.hid (HB.out.alloc HZ.out (.cells #[.int .i64 l] 3))
    go_enter Tryd.func50, Tryd.ntmps50
    go_wp2_with (at_builtin; refine wpList_append_ints _ rfl _ _ rfl base _ _ _ rfl HO2.out _ [l] rfl HN.out (by simp; omega) (by have := HZ.out; simp at this ⊢; omega) ?_)
    intro v4 w4 hown4 hgrow4
    have HB4 := Lib.hid (below_base HB2.out (by have := HZ.out; simp at this ⊢; omega) HO2.out hgrow4)
    have HO4 : Hid (w4.ownsRow base 3 1 v4 (stepL 3 l (top :: t)).length (encI (stepL 3 l (top :: t)).reverse)) := Lib.hid (by
      have e : (stepL 3 l (top :: t)) = l :: top :: t := rfl
      rw [e, encI_rev]
      simpa [encI] using hown4)
    clear hown4 hgrow4 HO2 HN HB2
    go_wp2_with fail
    go_ret
    exact ⟨_, rfl, HO4.out, HB4.out⟩

/-! ### Clone, Reverse -/
theorem cloneI_any (l : List Int) (v : Value) (w : World) (hv : IntsAt w v l) (hl : l.length ≤ 1000000) :
    Calls Tryd.prog 27 #[v] w fun e w' => ∃ u, e = .returned u ∧ w'.ownsRow w.heap.size 3 1 u l.length (encI l) ∧ (0 < l.length → u ≠ .slice none 0 0) ∧ Below w.heap.size w w' := by
  rcases hv with ⟨a, cap, rfl, rfl⟩ | ⟨b, off, cap, rfl, hb, hc⟩
  · rcases a with _ | a
    · refine (Tryd.slices_Clone_int_nil 0 cap w).mono ?_
      rintro e w' ⟨rfl, rfl⟩
      exact ⟨_, rfl, World.ownsRow_nil _ _ _ _, by simp, Below.refl _ _⟩
    · refine (Tryd.slices_Clone_int_zero a cap w).mono ?_
      rintro e w' ⟨u, rfl, h1, h2, h3⟩
      exact ⟨u, rfl, h1, by simp, h3⟩
  · refine (Tryd.slices_Clone_int b off l.length cap l w (Nat.le_refl _) (by omega) (fun j hj => ?_)).mono ?_
    · rw [hc j _ (List.getElem?_eq_getElem hj), List.getD_eq_getElem?_getD, List.getElem?_eq_getElem hj]
      rfl
    · rintro e w' ⟨u, rfl, h1, h2, h3⟩
      rw [List.take_length] at h1
      exact ⟨u, rfl, h1, fun _ => h2, h3⟩
theorem revI_any (l : List Int) (v : Value) (n : Nat) (base : Nat) (w : World) (hown : w.ownsRow base 3 1 v n (encI l)) (hn : 0 < n) (hl : n ≤ 1000000) :
    Calls Tryd.prog 48 #[v] w fun e w' => e = .returned (.tuple #[]) ∧ w'.ownsRow base 3 1 v n (encI l.reverse) ∧ Below base w w' := by
  have hv : v ≠ .slice none 0 0 := by
    rintro rfl
    rcases hown.2 with ⟨-, h⟩ | ⟨_, _, _, e, -⟩
    · omega
    · cases e
  obtain ⟨g, cap, rfl, hbg, hlt, hnc, hcm, hzl, hH⟩ := Lib.holds_of_ownsRow hown hv
  have hr := Tryd.slices_Reverse_int g 0 cap l w hH (by omega)
  rw [hzl] at hr
  refine hr.mono ?_
  rintro e w' ⟨rfl, q, rfl⟩
  have h := Lib.ownsRow_putRow (q := q) (ys := l.reverse) hown (by simpa using hzl) (Nat.le_refl n)
  rw [List.take_of_length_le (by simp; omega)] at h
  exact ⟨rfl, h, Lib.below_putRow (Below.refl _ _) hbg⟩
end Go.Proofs.YtjlbdjagbbpoaaaDoor
