/-
  strings.Join of any row of texts, by contract.
-/
import Derived.Test.YtogbocgjijhmgaaGreatDoorRxA
import Derived.Test.YtogbocgjijhmgaaGreatDoorShelf
namespace Go.Proofs.YtogbocgjijhmgaaGreatDoor
open Go.RowKit Go.Extern.Stop Go.Stop Go.Extern

theorem join_row (P : Nat → Prop) (ws : List ByteArray) (sep : ByteArray) (hn : ws.length ≤ 1000000) (hlen : (Lib.join (ws.map (·.data.toList)) sep.data.toList).length ≤ 140737488355328) (w : World) (a : Option Addr) (c : Nat) (hr : RowX P w (.slice a ws.length c) ws.length (ws.map Value.string)) (hc : ws.length ≤ c) :
    Calls Tryz.prog 51 #[.slice a ws.length c, .string sep] w fun e w' => e = .returned (.string ⟨(Lib.join (ws.map (·.data.toList)) sep.data.toList).toArray⟩) ∧ Below w.heap.size w w' := by
  rcases hr with ⟨h0, -, a', c', e⟩ | ⟨b, o, c', e, -, hlt, hcell⟩
  · have hw : ws = [] := List.eq_nil_of_length_eq_zero h0
    subst hw
    refine (Tryz.strings_Join_none a c sep w).mono ?_
    rintro e w' ⟨rfl, rfl⟩
    exact ⟨rfl, Below.refl _ _⟩
  · simp only [Value.slice.injEq] at e
    obtain ⟨rfl, -, rfl⟩ := e
    exact Tryz.strings_Join b o c ws sep w (fun j x hx => hcell j _ (by simp [hx])) hlt (by omega) hc hlen
end Go.Proofs.YtogbocgjijhmgaaGreatDoor
