/-
  The document's own answers for layer 7, by contract: rising lists; and whether two lists are the same.
-/
import Derived.Test.YtjlbdjagbbpoaaaDoorBitH
import Derived.Deep.AppendSrc
namespace Go.Proofs.YtjlbdjagbbpoaaaDoor
open Go.RowKit Go.Extern.Stop Go.Stop Go.Extern

def hasL (l : List Int) (i : Int) : Bool := l.any fun x => decide (x = i)
def encI (l : List Int) : List Value := l.map (Value.int .i64)
theorem encI_one (l : List Int) : ∀ u ∈ encI l, u.oneCell' = true := by
  intro u hu
  obtain ⟨x, -, rfl⟩ := List.mem_map.1 hu
  rfl
theorem IntsAt.own {w : World} {base : Nat} {v : Value} {n : Nat} {l : List Int} (h : w.ownsRow base 3 1 v n (encI l)) (hn : n = l.length) : IntsAt w v l := by
  subst hn
  obtain ⟨h1, h2⟩ := h
  rcases h2 with ⟨rfl, h3⟩ | ⟨g, cap, cur, rfl, hg, hh, h3, h4, h5, h6⟩
  · exact .inl ⟨none, 0, rfl, List.eq_nil_of_length_eq_zero h3⟩
  · refine .inr ⟨g, 0, cap, rfl, (Array.getElem?_eq_some_iff.1 hh).1, fun i c hi => ?_⟩
    have e := congrArg (fun l => l[i]?) h6
    obtain ⟨hl, rfl⟩ := List.getElem?_eq_some_iff.1 hi
    simp [encI, hl] at e
    rw [Lib.cell_of_heap hh]
    simpa using e


def EqRel (w : World) (l : List Int) (g : Nat) (v : Value) (wr : World) : Prop := ∃ k : Nat, k ≤ l.length ∧ g = l.length - k ∧ v = .int .i64 k ∧ Below w.heap.size w wr
set_option maxHeartbeats 1000000 in
theorem equalI_same (l : List Int) (v v' : Value) (w : World) (hv : IntsAt w v l) (hv' : IntsAt w v' l) (hl : l.length ≤ 100000) :
    Calls Tryd.prog 32 #[v, v'] w fun e w' => e = .returned (.bool true) ∧ Below w.heap.size w w' := by
  obtain ⟨a, cap, rfl⟩ := hv.form
  obtain ⟨a', cap', rfl⟩ := hv'.form
  have HV := Lib.hid hv
  have HV' := Lib.hid hv'
  have H0 : Hid (EqRel w l l.length (.int .i64 0) w) := Lib.hid ⟨0, Nat.zero_le _, by omega, rfl, Below.refl _ _⟩
  clear hv hv'
  go_enter Tryd.func32, Tryd.ntmps32
  go_wp2_with fail
  go_loopg [13] l.length (fun g u wr => EqRel w l g u wr)
  case atStart => exact H0.out
  case round =>
    obtain ⟨k, hk, hgk, rfl, hb⟩ := hrel
    have HB := Lib.hid hb
    clear hb
    by_cases hlt : k < l.length
    · obtain ⟨x, hx⟩ : ∃ x, l[k]? = some x := ⟨_, List.getElem?_eq_getElem hlt⟩
      obtain ⟨b, off, rfl, c1⟩ := HV.out.at hx HB.out
      obtain ⟨b', off', rfl, c2⟩ := HV'.out.at hx HB.out
      have j0 : (0 : Int) ≤ (k : Int) := by omega
      have j1 : (k : Int) < l.length := by omega
      clear hx
      go_wp2_with fail
      go_quiet (fail)
      go_wp2_with fail
      go_roundg (l.length - (k + 1))
      case measure => omega
      case rel => exact ⟨k + 1, by omega, rfl, by go_num, HB.out.trans ((below_drewN wr nq).mono HB.out.size)⟩
    · obtain rfl : k = l.length := by omega
      go_wp2_with fail
      go_ret
      exact ⟨rfl, HB.out⟩
end Go.Proofs.YtjlbdjagbbpoaaaDoor
