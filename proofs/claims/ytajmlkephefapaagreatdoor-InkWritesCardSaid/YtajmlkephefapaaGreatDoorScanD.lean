/-
  scan.IsName, and the reference of layer 3, by contracts.
-/
import Derived.Test.YtajmlkephefapaaGreatDoorScanC
import Derived.Test.YtajmlkephefapaaGreatDoorRPar
namespace Go.Proofs.YtajmlkephefapaaGreatDoor
open Go.RowKit Go.Extern.Stop Go.Stop Go.Extern

theorem sbelow_drewN (w : World) (n : Nat) : Below w.heap.size w (w.drewN n) := ⟨rfl, rfl, rfl, Nat.le_refl _, fun _ _ => rfl⟩

/-- Is a text a name? -/
def isNameR (s : ByteArray) : Bool := (nameC s 0 == 0) && (nameK s 0 == s.size)
def isNameB (s : ByteArray) : Bool := decide (s.size ≤ 65536) && isNameR s
theorem isNameB_eq {s : ByteArray} (h : s.size ≤ 65536) : isNameB s = isNameR s := by unfold isNameB; rw [decide_eq_true h]; rfl

theorem ErrIs.ptr {w : World} {v : Value} {c a : Int} (h : ErrIs w v c a) (h0 : c ≠ 0) : ∃ fb, v = .iface 100 (.pointer (some ⟨fb, 0, none⟩)) := by
  rcases h with ⟨rfl, -⟩ | ⟨-, fb, e, -⟩
  · exact absurd rfl h0
  · exact ⟨fb, e⟩

/-! ### The reference -/
set_option maxHeartbeats 400000 in
theorem rfails_any (s : ByteArray) (k : Nat) (w : World) :
    Calls Tryz.prog 68 #[.string s, .int .i64 k] w fun e w' => e = .returned (.int .i64 (missC s k)) ∧ w = w' := by
  unfold missC
  by_cases h : k < s.size
  · rw [if_pos h]
    go_enter Tryz.func68, Tryz.ntmps68
    go_wp2
    go_ret
    exact ⟨rfl, rfl⟩
  · rw [if_neg h]
    go_enter Tryz.func68, Tryz.ntmps68
    go_wp2
    go_ret
    exact ⟨rfl, rfl⟩

set_option maxRecDepth 100000 in
set_option maxHeartbeats 1000000 in
theorem rskip_any (s : ByteArray) (k : Nat) (hs : s.size ≤ 100000) (hk : k ≤ s.size) (w : World) :
    Calls Tryz.prog 61 #[.string s, .int .i64 k] w fun e w' => e = .returned (.int .i64 (runTo isBl s k)) ∧ w = w' := by
  go_enter Tryz.func61, Tryz.ntmps61
  go_wp2
  go_loop [1] (fun i => ∃ j : Nat, k ≤ j ∧ j ≤ s.size ∧ i = .int .i64 j ∧ runTo isBl s j = runTo isBl s k) (fun i => s.size - (intOf i).toNat)
  case atStart => exact ⟨k, Nat.le_refl _, hk, rfl, rfl⟩
  case round =>
    obtain ⟨j, hkj, hj, rfl, hrun⟩ := hrel
    have HR := Lib.hid hrun
    clear hrun
    by_cases hlt : j < s.size
    · by_cases hb : isBl (s[j].toNat : Int) = true
      · have HG := Lib.hid (runTo_go hlt hb)
        have hor := (isBl_iff _).1 hb
        clear hb
        have hbb : ((s[j].toNat : Int) == 32 || (s[j].toNat : Int) == 9 || (s[j].toNat : Int) == 10 || (s[j].toNat : Int) == 13) = true := by simpa [or_assoc] using hor
        clear hor
        go_wp2_with fail
        all_goals
          go_round
          case rel => exact ⟨j + 1, by omega, by omega, by go_num, HG.out.symm.trans HR.out⟩
          case measure => simp [intOf]; omega
      · have HG := Lib.hid (runTo_stop hlt (by simpa using hb))
        have hor : ¬ ((s[j].toNat : Int) = 32 ∨ (s[j].toNat : Int) = 9 ∨ (s[j].toNat : Int) = 10 ∨ (s[j].toNat : Int) = 13) := fun h => hb ((isBl_iff _).2 h)
        clear hb
        have h1 : ((s[j].toNat : Int) == 32) = false := by rw [beq_eq_false_iff_ne]; omega
        have h2 : ((s[j].toNat : Int) == 9) = false := by rw [beq_eq_false_iff_ne]; omega
        have h3 : ((s[j].toNat : Int) == 10) = false := by rw [beq_eq_false_iff_ne]; omega
        have h4 : ((s[j].toNat : Int) == 13) = false := by rw [beq_eq_false_iff_ne]; omega
        clear hor
        go_wp2_with fail
        go_ret
        exact ⟨ret_u (by rw [← HR.out, HG.out]), rfl⟩
    · have HG := Lib.hid (runTo_end (p := isBl) hlt)
      go_wp2_with fail
      go_ret
      exact ⟨ret_u (by rw [← HR.out, HG.out]), rfl⟩

end Go.Proofs.YtajmlkephefapaaGreatDoor
