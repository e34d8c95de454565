/-
  The document's own answers for layer 7, by contract: rising lists; and whether two lists are the same.
-/
import Derived.Test.YtplfnhnipdfglaaDoorBitH
import Derived.Deep.AppendSrc
namespace Go.Proofs.YtplfnhnipdfglaaDoor
open Go.RowKit Go.Extern.Stop Go.Stop Go.Extern

def hasL (l : List Int) (i : Int) : Bool := l.any fun x => decide (x = i)
def encI (l : List Int) : List Value := l.map (Value.int .i64)
theorem encI_one (l : List Int) : ∀ u ∈ encI l, u.oneCell' = true := by
  intro u hu
  obtain ⟨x, -, rfl⟩ := List.mem_map.1 hu
  rfl
theorem IntsAt.own {w : World} {base : Nat} {v : Value} {n : Nat} {l : List Int} (h : w.ownsRow base 3 1 v n (encI l)) (hn : n = l.length) : IntsAt w v l := by
  subst hn
  obtain ⟨h1, h2⟩ := h
  rcases h2 with ⟨rfl, h3⟩ | ⟨g, cap, cur, rfl, hg, hh, h3, h4, h5, h6⟩
  · exact .inl ⟨none, 0, rfl, List.eq_nil_of_length_eq_zero h3⟩
  · refine .inr ⟨g, 0, cap, rfl, (Array.getElem?_eq_some_iff.1 hh).1, fun i c hi => ?_⟩
    have e := congrArg (fun l => l[i]?) h6
    obtain ⟨hl, rfl⟩ := List.getElem?_eq_some_iff.1 hi
    simp [encI, hl] at e
    rw [Lib.cell_of_heap hh]
    simpa using e

set_option maxHeartbeats 1000000 in
theorem rhas_any (l : List Int) (v : Value) (i : Int) (w : World) (hv : IntsAt w v l) (hl : l.length ≤ 100000) :
    Calls Tryd.prog 14 #[v, .int .i64 i] w fun e w' => e = .returned (.bool (hasL l i)) ∧ w = w' := by
  obtain ⟨a, cap, rfl⟩ := hv.form
  have HV := Lib.hid hv
  clear hv
  go_enter Tryd.func14, Tryd.ntmps14
  go_wp2_with fail
  go_loop [9] (fun u => ∃ k : Nat, k ≤ l.length ∧ u = .int .i64 k ∧ hasL (l.take k) i = false) (fun u => l.length - (intOf u).toNat)
  case atStart => exact ⟨0, Nat.zero_le _, rfl, rfl⟩
  case round =>
    obtain ⟨k, hk, rfl, hh⟩ := hrel
    have HH := Lib.hid hh
    clear hh
    by_cases hlt : k < l.length
    · obtain ⟨x, hx⟩ : ∃ x, l[k]? = some x := ⟨_, List.getElem?_eq_getElem hlt⟩
      obtain ⟨b, off, rfl, hcell⟩ := HV.out.at hx (Below.refl w.heap.size w)
      have HX : Hid (hasL (l.take (k + 1)) i = (hasL (l.take k) i || decide (x = i))) := Lib.hid (by
        rw [List.take_add_one, hx]
        unfold hasL
        simp)
      by_cases he : x = i
      · have HI : Hid (hasL l i = true) := Lib.hid (List.any_eq_true.2 ⟨x, List.mem_of_getElem? hx, by simpa using he⟩)
        subst he
        clear hx HX
        go_wp2_with fail
        go_ret
        exact ⟨by rw [HI.out]; rfl, rfl⟩
      · have hq : (x == i) = false := by simpa using he
        have HI : Hid (hasL (l.take (k + 1)) i = false) := Lib.hid (by rw [HX.out, HH.out]; simpa using he)
        clear he hx
        go_wp2_with fail
        go_round
        case rel => exact ⟨k + 1, by omega, by go_num, HI.out⟩
        case measure => simp [intOf]; omega
    · obtain rfl : k = l.length := by omega
      rw [List.take_length] at HH
      go_wp2_with fail
      go_ret
      exact ⟨by rw [HH.out]; rfl, rfl⟩

def EqRel (w : World) (l : List Int) (g : Nat) (v : Value) (wr : World) : Prop := ∃ k : Nat, k ≤ l.length ∧ g = l.length - k ∧ v = .int .i64 k ∧ Below w.heap.size w wr
set_option maxHeartbeats 1000000 in
theorem equalI_same (l : List Int) (v v' : Value) (w : World) (hv : IntsAt w v l) (hv' : IntsAt w v' l) (hl : l.length ≤ 100000) :
    Calls Tryd.prog 29 #[v, v'] w fun e w' => e = .returned (.bool true) ∧ Below w.heap.size w w' := by
  obtain ⟨a, cap, rfl⟩ := hv.form
  obtain ⟨a', cap', rfl⟩ := hv'.form
  have HV := Lib.hid hv
  have HV' := Lib.hid hv'
  have H0 : Hid (EqRel w l l.length (.int .i64 0) w) := Lib.hid ⟨0, Nat.zero_le _, by omega, rfl, Below.refl _ _⟩
  clear hv hv'
  go_enter Tryd.func29, Tryd.ntmps29
  go_wp2_with fail
  go_loopg [13] l.length (fun g u wr => EqRel w l g u wr)
  case atStart => exact H0.out
  case round =>
    obtain ⟨k, hk, hgk, rfl, hb⟩ := hrel
    have HB := Lib.hid hb
    clear hb
    by_cases hlt : k < l.length
    · obtain ⟨x, hx⟩ : ∃ x, l[k]? = some x := ⟨_, List.getElem?_eq_getElem hlt⟩
      obtain ⟨b, off, rfl, c1⟩ := HV.out.at hx HB.out
      obtain ⟨b', off', rfl, c2⟩ := HV'.out.at hx HB.out
      have j0 : (0 : Int) ≤ (k : Int) := by omega
      have j1 : (k : Int) < l.length := by omega
      clear hx
      go_wp2_with fail
      go_quiet (fail)
      go_wp2_with fail
      go_roundg (l.length - (k + 1))
      case measure => omega
      case rel => exact ⟨k + 1, by omega, rfl, by go_num, HB.out.trans ((below_drewN wr nq).mono HB.out.size)⟩
    · obtain rfl : k = l.length := by omega
      go_wp2_with fail
      go_ret
      exact ⟨rfl, HB.out⟩
end Go.Proofs.YtplfnhnipdfglaaDoor
