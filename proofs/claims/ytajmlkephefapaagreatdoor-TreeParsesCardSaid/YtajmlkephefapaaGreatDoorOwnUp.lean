/-
  Rows of a call's own: as they were in a later world, and as rows that are read.
-/
import Derived.Test.YtajmlkephefapaaGreatDoorTreeF
namespace Go.Proofs.YtajmlkephefapaaGreatDoor
open Go.RowKit Go.Extern.Stop Go.Stop Go.Extern Go.WideMaps

theorem own_up {w w' : World} {base : Nat} {e : TypeId} {size : Nat} {v : Value} {n : Nat} {xs : List Value} (h : w.ownsRow base e size v n xs) (hb : Below w.heap.size w w') : w'.ownsRow base e size v n xs :=
  ⟨h.1, h.2.imp id fun ⟨g, cap, cur, e, hb', hg, r⟩ => ⟨g, cap, cur, e, hb', (hb.block g (Array.getElem?_eq_some_iff.1 hg).1).trans hg, r⟩⟩
theorem RowIn.of_own' {P : Nat → Prop} {w : World} {B : Nat} {e : TypeId} {sz : Nat} {v : Value} {n : Nat} {xs : List Value} (h : w.ownsRow B e sz v n xs) (hP : ∀ k, v.ownBlock = some k → P k) : RowIn P w v n xs := by
  rcases Nat.eq_zero_or_pos n with h1 | h1
  · have hx : xs = [] := List.eq_nil_of_length_eq_zero (by rw [h.1, h1]; simp)
    rcases h.2 with ⟨rfl, _⟩ | ⟨g, cap, cur, rfl, _⟩
    · exact .inl ⟨h1, hx, none, 0, rfl⟩
    · subst h1; exact .inl ⟨rfl, hx, _, _, rfl⟩
  · exact RowIn.of_own h hP (by omega)
end Go.Proofs.YtajmlkephefapaaGreatDoor
