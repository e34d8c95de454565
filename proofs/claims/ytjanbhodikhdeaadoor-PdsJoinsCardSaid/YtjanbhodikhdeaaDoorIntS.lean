/-
  Rows of numbers: slices.Clone, slices.Reverse.
-/
import Derived.Test.YtjanbhodikhdeaaDoorIntA
import Derived.Test.YtjanbhodikhdeaaDoorShelf
import Derived.Lib.OwnBridge
namespace Go.Proofs.YtjanbhodikhdeaaDoor
open Go.RowKit Go.Extern.Stop Go.Stop Go.Extern

theorem encI_rev (top : Int) (t : List Int) : encI (top :: t).reverse = encI t.reverse ++ [.int .i64 top] := by unfold encI; simp

theorem below_base {base : Nat} {w w1 w2 : World} {v : Value} {n : Nat} {xs : List Value} (hb : Below base w w1) (hz : base ≤ w1.heap.size) (hown : w1.ownsRow base 3 1 v n xs) (hg : w1.grownBy w2 v.ownBlock) : Below base w w2 :=
  hb.grown hg hz (fun k' e => (hown.lt k' e).1)
/-! ### Clone, Reverse -/
theorem cloneI_any (l : List Int) (v : Value) (w : World) (hv : IntsAt w v l) (hl : l.length ≤ 1000000) :
    Calls Tryd.prog 28 #[v] w fun e w' => ∃ u, e = .returned u ∧ w'.ownsRow w.heap.size 3 1 u l.length (encI l) ∧ (0 < l.length → u ≠ .slice none 0 0) ∧ Below w.heap.size w w' := by
  rcases hv with ⟨a, cap, rfl, rfl⟩ | ⟨b, off, cap, rfl, hb, hc⟩
  · rcases a with _ | a
    · refine (Tryd.slices_Clone_int_nil 0 cap w).mono ?_
      rintro e w' ⟨rfl, rfl⟩
      exact ⟨_, rfl, World.ownsRow_nil _ _ _ _, by simp, Below.refl _ _⟩
    · refine (Tryd.slices_Clone_int_zero a cap w).mono ?_
      rintro e w' ⟨u, rfl, h1, h2, h3⟩
      exact ⟨u, rfl, h1, by simp, h3⟩
  · refine (Tryd.slices_Clone_int b off l.length cap l w (Nat.le_refl _) (by omega) (fun j hj => ?_)).mono ?_
    · rw [hc j _ (List.getElem?_eq_getElem hj), List.getD_eq_getElem?_getD, List.getElem?_eq_getElem hj]
      rfl
    · rintro e w' ⟨u, rfl, h1, h2, h3⟩
      rw [List.take_length] at h1
      exact ⟨u, rfl, h1, fun _ => h2, h3⟩
theorem revI_any (l : List Int) (v : Value) (n : Nat) (base : Nat) (w : World) (hown : w.ownsRow base 3 1 v n (encI l)) (hn : 0 < n) (hl : n ≤ 1000000) :
    Calls Tryd.prog 43 #[v] w fun e w' => e = .returned (.tuple #[]) ∧ w'.ownsRow base 3 1 v n (encI l.reverse) ∧ Below base w w' := by
  have hv : v ≠ .slice none 0 0 := by
    rintro rfl
    rcases hown.2 with ⟨-, h⟩ | ⟨_, _, _, e, -⟩
    · omega
    · cases e
  obtain ⟨g, cap, rfl, hbg, hlt, hnc, hcm, hzl, hH⟩ := Lib.holds_of_ownsRow hown hv
  have hr := Tryd.slices_Reverse_int g 0 cap l w hH (by omega)
  rw [hzl] at hr
  refine hr.mono ?_
  rintro e w' ⟨rfl, q, rfl⟩
  have h := Lib.ownsRow_putRow (q := q) (ys := l.reverse) hown (by simpa using hzl) (Nat.le_refl n)
  rw [List.take_of_length_le (by simp; omega)] at h
  exact ⟨rfl, h, Lib.below_putRow (Below.refl _ _) hbg⟩
end Go.Proofs.YtjanbhodikhdeaaDoor
