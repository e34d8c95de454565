/-
  scan.IsName, and the reference of layer 3, by contracts.
-/
import Derived.Test.YtogbocgjijhmgaaGreatDoorScanC
import Derived.Test.YtogbocgjijhmgaaGreatDoorRPar
namespace Go.Proofs.YtogbocgjijhmgaaGreatDoor
open Go.RowKit Go.Extern.Stop Go.Stop Go.Extern

theorem sbelow_drewN (w : World) (n : Nat) : Below w.heap.size w (w.drewN n) := ⟨rfl, rfl, rfl, Nat.le_refl _, fun _ _ => rfl⟩

/-- Is a text a name? -/
def isNameR (s : ByteArray) : Bool := (nameC s 0 == 0) && (nameK s 0 == s.size)
def isNameB (s : ByteArray) : Bool := decide (s.size ≤ 65536) && isNameR s
theorem isNameB_eq {s : ByteArray} (h : s.size ≤ 65536) : isNameB s = isNameR s := by unfold isNameB; rw [decide_eq_true h]; rfl

theorem ErrIs.ptr {w : World} {v : Value} {c a : Int} (h : ErrIs w v c a) (h0 : c ≠ 0) : ∃ fb, v = .iface 113 (.pointer (some ⟨fb, 0, none⟩)) := by
  rcases h with ⟨rfl, -⟩ | ⟨-, fb, e, -⟩
  · exact absurd rfl h0
  · exact ⟨fb, e⟩

/-! ### The reference -/
set_option maxHeartbeats 400000 in
theorem rfails_any (s : ByteArray) (k : Nat) (w : World) :
    Calls Tryz.prog 59 #[.string s, .int .i64 k] w fun e w' => e = .returned (.int .i64 (missC s k)) ∧ w = w' := by
  unfold missC
  by_cases h : k < s.size
  · rw [if_pos h]
    go_enter Tryz.func59, Tryz.ntmps59
    go_wp2
    go_ret
    exact ⟨rfl, rfl⟩
  · rw [if_neg h]
    go_enter Tryz.func59, Tryz.ntmps59
    go_wp2
    go_ret
    exact ⟨rfl, rfl⟩

set_option maxRecDepth 100000 in
set_option maxHeartbeats 1000000 in
theorem rskip_any (s : ByteArray) (k : Nat) (hs : s.size ≤ 100000) (hk : k ≤ s.size) (w : World) :
    Calls Tryz.prog 38 #[.string s, .int .i64 k] w fun e w' => e = .returned (.int .i64 (runTo isBl s k)) ∧ w = w' := by
  go_enter Tryz.func38, Tryz.ntmps38
  go_wp2
  go_loop [1] (fun i => ∃ j : Nat, k ≤ j ∧ j ≤ s.size ∧ i = .int .i64 j ∧ runTo isBl s j = runTo isBl s k) (fun i => s.size - (intOf i).toNat)
  case atStart => exact ⟨k, Nat.le_refl _, hk, rfl, rfl⟩
  case round =>
    obtain ⟨j, hkj, hj, rfl, hrun⟩ := hrel
    have HR := Lib.hid hrun
    clear hrun
    by_cases hlt : j < s.size
    · by_cases hb : isBl (s[j].toNat : Int) = true
      · have HG := Lib.hid (runTo_go hlt hb)
        have hor := (isBl_iff _).1 hb
        clear hb
        have hbb : ((s[j].toNat : Int) == 32 || (s[j].toNat : Int) == 9 || (s[j].toNat : Int) == 10 || (s[j].toNat : Int) == 13) = true := by simpa [or_assoc] using hor
        clear hor
        go_wp2_with fail
        all_goals
          go_round
          case rel => exact ⟨j + 1, by omega, by omega, by go_num, HG.out.symm.trans HR.out⟩
          case measure => simp [intOf]; omega
      · have HG := Lib.hid (runTo_stop hlt (by simpa using hb))
        have hor : ¬ ((s[j].toNat : Int) = 32 ∨ (s[j].toNat : Int) = 9 ∨ (s[j].toNat : Int) = 10 ∨ (s[j].toNat : Int) = 13) := fun h => hb ((isBl_iff _).2 h)
        clear hb
        have h1 : ((s[j].toNat : Int) == 32) = false := by rw [beq_eq_false_iff_ne]; omega
        have h2 : ((s[j].toNat : Int) == 9) = false := by rw [beq_eq_false_iff_ne]; omega
        have h3 : ((s[j].toNat : Int) == 10) = false := by rw [beq_eq_false_iff_ne]; omega
        have h4 : ((s[j].toNat : Int) == 13) = false := by rw [beq_eq_false_iff_ne]; omega
        clear hor
        go_wp2_with fail
        go_ret
        exact ⟨ret_u (by rw [← HR.out, HG.out]), rfl⟩
    · have HG := Lib.hid (runTo_end (p := isBl) hlt)
      go_wp2_with fail
      go_ret
      exact ⟨ret_u (by rw [← HR.out, HG.out]), rfl⟩

/-- What the reference's Name answers. -/
def RefName (w : World) (s : ByteArray) (k : Nat) (e : Ending) (w' : World) : Prop :=
  e = .returned (.tuple #[.int .i64 (nameK s k), .string (nameT s k), .int .i64 (nameC s k)]) ∧ Below w.heap.size w w'

set_option maxRecDepth 100000 in
set_option maxHeartbeats 1000000 in
theorem rname_any (s : ByteArray) (k : Nat) (hs : s.size ≤ 100000) (hk : k ≤ s.size) (w : World) :
    Calls Tryz.prog 60 #[.string s, .int .i64 k] w (RefName w s k) := by
  have HF := Lib.hid (fun w => rfails_any s k w)
  by_cases hlt : k < s.size
  · have hdk : decide (s.size ≤ k) = false := decide_eq_false (by omega)
    by_cases hl : isLet (byteI s k) = true
    · have hL := fun w => rletter_any (s[k].toNat : Int) w
      rw [← byteI_lt hlt, hl, byteI_lt hlt] at hL
      have HL := Lib.hid hL
      have HR := Lib.hid (show ∀ e w', (if runTo isIn s k - k ≤ 32 then e = .returned (.tuple #[.int .i64 (runTo isIn s k), .string (s.extract k (runTo isIn s k)), .int .i64 0]) else e = .returned (.tuple #[.int .i64 k, .string ⟨#[]⟩, .int .i64 5])) ∧ Below w.heap.size w w' → RefName w s k e w' by
        intro e w' ⟨h, hb⟩
        unfold RefName nameK nameT nameC
        by_cases h32 : runTo isIn s k - k ≤ 32
        · rw [if_pos h32] at h
          rw [if_pos ⟨hl, h32⟩, if_pos ⟨hl, h32⟩, if_pos hl, if_pos h32]
          exact ⟨h, hb⟩
        · rw [if_neg h32] at h
          rw [if_neg (fun h => h32 h.2), if_neg (fun h => h32 h.2), if_pos hl, if_neg h32]
          exact ⟨h, hb⟩)
      clear hl hL
      go_enter Tryz.func60, Tryz.ntmps60
      go_wp2_with fail
      refine (HL.out _).mono ?_
      rintro e w' ⟨rfl, rfl⟩
      go_wp2_with fail
      go_loop [7] (fun i => ∃ j : Nat, k ≤ j ∧ j ≤ s.size ∧ i = .int .i64 j ∧ runTo isIn s j = runTo isIn s k) (fun i => s.size - (intOf i).toNat)
      case atStart => exact ⟨k, Nat.le_refl _, hk, rfl, rfl⟩
      case round =>
        obtain ⟨j, hkj, hj, rfl, hrun⟩ := hrel
        have HRU := Lib.hid hrun
        clear hrun
        by_cases hlt2 : j < s.size
        · by_cases hb : isIn (s[j].toNat : Int) = true
          · have HG := Lib.hid (runTo_go hlt2 hb)
            have hI := fun w => rin_any (s[j].toNat : Int) w
            rw [hb] at hI
            have HI := Lib.hid hI
            clear hb hI
            go_wp2_with fail
            refine (HI.out _).mono ?_
            rintro e w' ⟨rfl, rfl⟩
            go_wp2_with fail
            go_round
            case rel => exact ⟨j + 1, by omega, by omega, by go_num, HG.out.symm.trans HRU.out⟩
            case measure => simp [intOf]; omega
          · have HG := Lib.hid ((runTo_stop hlt2 (by simpa using hb)).symm.trans HRU.out)
            have hI := fun w => rin_any (s[j].toNat : Int) w
            rw [show isIn (s[j].toNat : Int) = false by simpa using hb] at hI
            have HI := Lib.hid hI
            clear hb hI
            by_cases h32 : (32 : Int) < (j : Int) - k
            · go_wp2_with fail
              refine (HI.out _).mono ?_
              rintro e w' ⟨rfl, rfl⟩
              go_wp2_with fail
              go_ret3
              exact HR.out _ _ ⟨by rw [← HG.out, if_neg (by omega)]; rfl, Below.refl _ _⟩
            · go_wp2_with fail
              refine (HI.out _).mono ?_
              rintro e w' ⟨rfl, rfl⟩
              go_wp2_with fail
              go_quiet (fail)
              go_wp2
              go_ret3
              exact HR.out _ _ ⟨by rw [← HG.out, if_pos (by omega)]; rfl, sbelow_drewN _ _⟩
        · have HG := Lib.hid ((runTo_end (p := isIn) hlt2).symm.trans HRU.out)
          by_cases h32 : (32 : Int) < (j : Int) - k
          · go_wp2_with fail
            go_ret3
            exact HR.out _ _ ⟨by rw [← HG.out, if_neg (by omega)]; rfl, Below.refl _ _⟩
          · go_wp2_with fail
            go_quiet (fail)
            go_wp2
            go_ret3
            exact HR.out _ _ ⟨by rw [← HG.out, if_pos (by omega)]; rfl, sbelow_drewN _ _⟩
    · have hL := fun w => rletter_any (s[k].toNat : Int) w
      rw [← byteI_lt hlt, show isLet (byteI s k) = false by simpa using hl, byteI_lt hlt] at hL
      have HL := Lib.hid hL
      have HR := Lib.hid (show ∀ e w', e = .returned (.tuple #[.int .i64 k, .string ⟨#[]⟩, .int .i64 (missC s k)]) ∧ Below w.heap.size w w' → RefName w s k e w' by
        intro e w' h
        unfold RefName nameK nameT nameC
        rw [if_neg (fun h => hl h.1), if_neg (fun h => hl h.1), if_neg hl]
        exact h)
      generalize missC s k = m at *
      clear hl hL
      go_enter Tryz.func60, Tryz.ntmps60
      go_wp2_with fail
      refine (HL.out _).mono ?_
      rintro e w' ⟨rfl, rfl⟩
      go_wp2_with fail
      refine (HF.out _).mono ?_
      rintro e w' ⟨rfl, rfl⟩
      go_wp2_with fail
      go_ret3
      exact HR.out _ _ ⟨rfl, Below.refl _ _⟩
  · have hl : ¬ isLet (byteI s k) = true := by rw [byteI_ge hlt]; decide
    have HR := Lib.hid (show ∀ e w', e = .returned (.tuple #[.int .i64 k, .string ⟨#[]⟩, .int .i64 (missC s k)]) ∧ Below w.heap.size w w' → RefName w s k e w' by
      intro e w' h
      unfold RefName nameK nameT nameC
      rw [if_neg (fun h => hl h.1), if_neg (fun h => hl h.1), if_neg hl]
      exact h)
    generalize missC s k = m at *
    clear hl
    go_enter Tryz.func60, Tryz.ntmps60
    go_wp2_with fail
    refine (HF.out _).mono ?_
    rintro e w' ⟨rfl, rfl⟩
    go_wp2_with fail
    go_ret3
    exact HR.out _ _ ⟨rfl, Below.refl _ _⟩
end Go.Proofs.YtogbocgjijhmgaaGreatDoor
