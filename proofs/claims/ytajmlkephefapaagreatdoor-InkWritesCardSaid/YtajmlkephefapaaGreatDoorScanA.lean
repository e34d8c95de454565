/-
  Package scan by contracts, first part: sorts of bytes, what stands at a place, how far bytes of a sort go; and the reference's words for the same. Memory: only new blocks.
-/
import Derived.Test.YtajmlkephefapaaGreatDoorAmt
import Derived.Below
import Derived.Deep.Light
import Derived.Deep.QuietTactic
import Derived.BigQuiet
namespace Go.Proofs.YtajmlkephefapaaGreatDoor
open Go.RowKit Go.Extern.Stop Go.Stop Go.Extern

theorem sbelow_new (w : World) (o : Obj) : Below w.heap.size w (w.alloc o) := (Below.refl _ _).alloc (Nat.le_refl _) _

/-! ### Plain -/
/-- The sort of a byte, by its number. -/
def sortI (n : Int) : Int :=
  if n = 32 ∨ n = 9 ∨ n = 10 ∨ n = 13 then 1 else if 97 ≤ n ∧ n ≤ 122 ∨ 65 ≤ n ∧ n ≤ 90 ∨ n = 95 then 2 else if 48 ≤ n ∧ n ≤ 57 then 3 else if n = 45 ∨ n = 46 then 4 else 0
def isBl (n : Int) : Bool := sortI n == 1
def isLet (n : Int) : Bool := sortI n == 2
def isIn (n : Int) : Bool := decide (2 ≤ sortI n)
def isDig (n : Int) : Bool := sortI n == 3

/-- The number of the byte at a place; 0 where the text has ended. -/
def byteI (s : ByteArray) (k : Nat) : Int := if h : k < s.size then (s[k].toNat : Int) else 0
theorem byteI_lt {s : ByteArray} {k : Nat} (h : k < s.size) : byteI s k = (s[k].toNat : Int) := by unfold byteI; rw [dif_pos h]
theorem byteI_ge {s : ByteArray} {k : Nat} (h : ¬ k < s.size) : byteI s k = 0 := by unfold byteI; rw [dif_neg h]

/-- Behind all bytes of which p holds, from a place on. -/
def runTo (p : Int → Bool) (s : ByteArray) (k : Nat) : Nat := if h : k < s.size then (if p (s[k].toNat : Int) then runTo p s (k + 1) else k) else k
termination_by s.size - k

theorem runTo_go {p : Int → Bool} {s : ByteArray} {k : Nat} (h : k < s.size) (hp : p (s[k].toNat : Int) = true) : runTo p s k = runTo p s (k + 1) := by
  rw [runTo, dif_pos h, if_pos hp]
theorem runTo_end {p : Int → Bool} {s : ByteArray} {k : Nat} (h : ¬ k < s.size) : runTo p s k = k := by rw [runTo, dif_neg h]
theorem runTo_stop {p : Int → Bool} {s : ByteArray} {k : Nat} (h : k < s.size) (hp : p (s[k].toNat : Int) = false) : runTo p s k = k := by
  rw [runTo, dif_pos h, if_neg (by rw [hp]; decide)]
theorem runTo_bd (p : Int → Bool) (s : ByteArray) : ∀ (n k : Nat), s.size - k = n → k ≤ s.size → k ≤ runTo p s k ∧ runTo p s k ≤ s.size := by
  intro n
  induction n with
  | zero => intro k h hk; rw [runTo_end (by omega)]; omega
  | succ n ih =>
    intro k h hk
    by_cases hp : p (s[k]'(by omega)).toNat = true
    · rw [runTo_go (by omega) hp]; have := ih (k + 1) (by omega) (by omega); omega
    · rw [runTo_stop (by omega) (by simpa using hp)]; omega
theorem le_runTo (p : Int → Bool) (s : ByteArray) (k : Nat) (hk : k ≤ s.size) : k ≤ runTo p s k := (runTo_bd p s _ k rfl hk).1
theorem runTo_le (p : Int → Bool) (s : ByteArray) (k : Nat) (hk : k ≤ s.size) : runTo p s k ≤ s.size := (runTo_bd p s _ k rfl hk).2

/-- The text from a place on. -/
def restOf (s : ByteArray) (k : Nat) : ByteArray := s.extract k s.size

/-! ### Bytes -/
set_option maxHeartbeats 1000000 in
theorem sortOf_any (n : Int) (w : World) :
    Calls Tryz.prog 85 #[.int .u8 n] w fun e w' => e = .returned (.int .i64 (sortI n)) ∧ w = w' := by
  go_enter Tryz.func85, Tryz.ntmps85
  go_wp2
  all_goals
    go_ret
    refine ⟨ret_u ?_, rfl⟩
    go_light
    simp only [beq_iff_eq, beq_eq_false_iff_ne, ne_eq] at *
    unfold sortI
    repeat' split
    all_goals omega

set_option maxHeartbeats 400000 in
theorem Skip1_any (n : Int) (w : World) :
    Calls Tryz.prog 84 #[.int .u8 n] w fun e w' => e = .returned (.bool (isBl n)) ∧ w = w' := by
  go_enter Tryz.func84, Tryz.ntmps84
  go_wp2_with (go_at_call 85; refine (sortOf_any _ _).mono ?_; rintro e w' ⟨rfl, rfl⟩)
  go_ret
  exact ⟨rfl, rfl⟩
set_option maxHeartbeats 400000 in
theorem Name1_any (n : Int) (w : World) :
    Calls Tryz.prog 113 #[.int .u8 n] w fun e w' => e = .returned (.bool (isIn n)) ∧ w = w' := by
  go_enter Tryz.func113, Tryz.ntmps113
  go_wp2_with (go_at_call 85; refine (sortOf_any _ _).mono ?_; rintro e w' ⟨rfl, rfl⟩)
  go_ret
  exact ⟨rfl, rfl⟩
set_option maxHeartbeats 400000 in
theorem Number1_any (n : Int) (w : World) :
    Calls Tryz.prog 87 #[.int .u8 n] w fun e w' => e = .returned (.bool (isDig n)) ∧ w = w' := by
  go_enter Tryz.func87, Tryz.ntmps87
  go_wp2_with (go_at_call 85; refine (sortOf_any _ _).mono ?_; rintro e w' ⟨rfl, rfl⟩)
  go_ret
  exact ⟨rfl, rfl⟩

theorem ret_b {a b : Bool} (h : a = b) : Ending.returned (.bool a) = .returned (.bool b) := by rw [h]
theorem isLet_iff (n : Int) : isLet n = true ↔ 97 ≤ n ∧ n ≤ 122 ∨ 65 ≤ n ∧ n ≤ 90 ∨ n = 95 := by
  unfold isLet sortI; simp only [beq_iff_eq]; repeat' split
  all_goals omega
theorem isDig_iff (n : Int) : isDig n = true ↔ 48 ≤ n ∧ n ≤ 57 := by
  unfold isDig sortI; simp only [beq_iff_eq]; repeat' split
  all_goals omega
theorem isIn_iff (n : Int) : isIn n = true ↔ isLet n = true ∨ isDig n = true ∨ n = 45 ∨ n = 46 := by
  rw [isLet_iff, isDig_iff]; unfold isIn sortI; simp only [decide_eq_true_eq]; repeat' split
  all_goals omega
theorem isBl_iff (n : Int) : isBl n = true ↔ n = 32 ∨ n = 9 ∨ n = 10 ∨ n = 13 := by
  unfold isBl sortI; simp only [beq_iff_eq]; repeat' split
  all_goals omega

set_option maxHeartbeats 1000000 in
theorem rdigit_any (n : Int) (w : World) :
    Calls Tryz.prog 64 #[.int .u8 n] w fun e w' => e = .returned (.bool (isDig n)) ∧ w = w' := by
  go_enter Tryz.func64, Tryz.ntmps64
  go_wp2
  all_goals
    go_ret
    refine ⟨ret_b ?_, rfl⟩
    go_light
    rw [Bool.eq_iff_iff, isDig_iff]
    try simp only [decide_eq_true_eq, Bool.false_eq_true, false_iff]
    omega

/-! ### What stands at a place -/
set_option maxHeartbeats 400000 in
theorem at_any (s : ByteArray) (k : Nat) (w : World) :
    Calls Tryz.prog 31 #[.agg #[.string s, .int .i64 k]] w fun e w' => e = .returned (.int .i64 k) ∧ Below w.heap.size w w' := by
  go_enter Tryz.func31, Tryz.ntmps31
  go_wp2
  go_ret
  exact ⟨rfl, (Below.refl _ _).alloc (Nat.le_refl _) _⟩

set_option maxHeartbeats 400000 in
theorem rest_any (s : ByteArray) (k : Nat) (hk : k ≤ s.size) (w : World) :
    Calls Tryz.prog 119 #[.agg #[.string s, .int .i64 k]] w fun e w' => e = .returned (.string (restOf s k)) ∧ Below w.heap.size w w' := by
  go_enter Tryz.func119, Tryz.ntmps119
  go_wp2
  go_ret
  exact ⟨rfl, (Below.refl _ _).alloc (Nat.le_refl _) _⟩

set_option maxHeartbeats 400000 in
theorem end_any (s : ByteArray) (k : Nat) (w : World) :
    Calls Tryz.prog 29 #[.agg #[.string s, .int .i64 k]] w fun e w' => e = .returned (.bool (decide (k = s.size))) ∧ Below w.heap.size w w' := by
  go_enter Tryz.func29, Tryz.ntmps29
  go_wp2
  go_ret
  exact ⟨ret_b (by rw [Bool.eq_iff_iff]; simp; omega), (Below.refl _ _).alloc (Nat.le_refl _) _⟩

set_option maxHeartbeats 400000 in
theorem move_any (s : ByteArray) (k : Nat) (n : Int) (hk : k ≤ 100000) (h0 : 0 ≤ n) (hn : n ≤ 100000) (w : World) :
    Calls Tryz.prog 115 #[.agg #[.string s, .int .i64 k], .int .i64 n] w fun e w' => e = .returned (.agg #[.string s, .int .i64 ((k : Int) + n)]) ∧ Below w.heap.size w w' := by
  go_enter Tryz.func115, Tryz.ntmps115
  go_wp2
  exact bodyPost_ret (v := .agg #[.string s, .int .i64 ((k : Int) + n)]) (by simp [results, Tryz.results115, go_sem]) rfl ⟨rfl, ((Below.refl _ _).alloc (Nat.le_refl _) _).alloc (by simp) _⟩

set_option maxHeartbeats 400000 in
theorem upTo_any (s : ByteArray) (k j : Nat) (hk : k ≤ j) (hj : j ≤ s.size) (w : World) :
    Calls Tryz.prog 90 #[.agg #[.string s, .int .i64 k], .agg #[.string s, .int .i64 j]] w fun e w' => e = .returned (.string (s.extract k j)) ∧ Below w.heap.size w w' := by
  go_enter Tryz.func90, Tryz.ntmps90
  go_wp2
  go_ret
  exact ⟨rfl, ((Below.refl _ _).alloc (Nat.le_refl _) _).alloc (by simp) _⟩

set_option maxHeartbeats 400000 in
theorem peek_any (s : ByteArray) (k : Nat) (hk : k ≤ s.size) (w : World) :
    Calls Tryz.prog 55 #[.agg #[.string s, .int .i64 k]] w fun e w' => e = .returned (.int .u8 (byteI s k)) ∧ Below w.heap.size w w' := by
  by_cases h : k < s.size
  · rw [byteI_lt h]
    have hE := fun w => end_any s k w
    rw [decide_eq_false (by omega)] at hE
    have HE := Lib.hid hE
    clear hE
    go_enter Tryz.func55, Tryz.ntmps55
    go_wp2_with fail
    refine (HE.out _).mono ?_
    rintro e w1 ⟨rfl, hb⟩
    have c0 := (hb.cell (p := ⟨w.heap.size, 0, none⟩) (by simp)).trans (show _ = some (Value.string s) by simp)
    have c1 := (hb.cell (p := ⟨w.heap.size, 1, none⟩) (by simp)).trans (show _ = some (Value.int .i64 k) by simp)
    go_wp2
    go_ret
    exact ⟨rfl, ((Below.refl _ _).alloc (Nat.le_refl _) _).trans (hb.mono (by simp))⟩
  · rw [byteI_ge h]
    have hE := fun w => end_any s k w
    rw [decide_eq_true (by omega)] at hE
    have HE := Lib.hid hE
    clear hE
    go_enter Tryz.func55, Tryz.ntmps55
    go_wp2_with fail
    refine (HE.out _).mono ?_
    rintro e w1 ⟨rfl, hb⟩
    go_wp2
    go_ret
    exact ⟨rfl, ((Below.refl _ _).alloc (Nat.le_refl _) _).trans (hb.mono (by simp))⟩

/-! ### As far as bytes of a sort go -/
/-- A place of a text in a block of its own, not frozen. -/
def ScanAt (w : World) (b : Nat) (s : ByteArray) (j : Int) : Prop :=
  b < w.heap.size ∧ w.cell? ⟨b, 0, none⟩ = some (.string s) ∧ w.cell? ⟨b, 1, none⟩ = some (.int .i64 j) ∧ ∀ i, w.frozen? ⟨b, i, none⟩ = false
theorem ScanAt.step {w w' : World} {b : Nat} {s : ByteArray} {j : Int} (h : ScanAt w b s j) (hb : Below w.heap.size w w') : ScanAt w' b s j :=
  ⟨Nat.lt_of_lt_of_le h.1 hb.size, (hb.cell (p := ⟨b, 0, none⟩) h.1).trans h.2.1, (hb.cell (p := ⟨b, 1, none⟩) h.1).trans h.2.2.1, fun i => (hb.frozen (p := ⟨b, i, none⟩) h.1).trans (h.2.2.2 i)⟩
theorem ScanAt.new (w : World) (s : ByteArray) (j : Int) (t : TypeId) : ScanAt (w.alloc (.cells #[.string s, .int .i64 j] t)) w.heap.size s j := ⟨by simp, by simp, by simp, by simp⟩
theorem ScanAt.set {w : World} {b : Nat} {s : ByteArray} {j : Int} (h : ScanAt w b s j) (s' : ByteArray) (j' : Int) :
    ScanAt ((w.setCell ⟨b, 0, none⟩ (.string s')).setCell ⟨b, 1, none⟩ (.int .i64 j')) b s' j' := by
  have ne : ∀ i j : Nat, i ≠ j → (⟨b, i, none⟩ : Addr) ≠ ⟨b, j, none⟩ := fun i j h e => h (by injection e)
  refine ⟨by rw [World.size_setCell, World.size_setCell]; exact h.1, ?_, ?_, fun i => by rw [World.frozen?_setCell, World.frozen?_setCell]; exact h.2.2.2 i⟩
  · rw [World.cell?_setCell_other _ _ _ _ (ne 1 0 (by decide))]; exact World.cell?_setCell_same _ _ _ h.2.1
  · exact World.cell?_setCell_same _ _ _ ((World.cell?_setCell_other _ _ _ _ (ne 0 1 (by decide))).trans h.2.2.1)
/-- A place is stored there: what its two cells then read. -/
theorem ScanAt.put {w : World} {b : Nat} {s : ByteArray} {j : Int} (h : ScanAt w b s j) (s' : ByteArray) (z : Int) :
    ((w.setCell ⟨b, 0, none⟩ (.string s')).setCell ⟨b, 1, none⟩ (.int .i64 z)).cell? ⟨b, 0, none⟩ = some (.string s') ∧ ((w.setCell ⟨b, 0, none⟩ (.string s')).setCell ⟨b, 1, none⟩ (.int .i64 z)).cell? ⟨b, 1, none⟩ = some (.int .i64 z) := by
  have ne : ∀ i j : Nat, i ≠ j → (⟨b, i, none⟩ : Addr) ≠ ⟨b, j, none⟩ := fun i j h e => h (by injection e)
  refine ⟨?_, ?_⟩
  · rw [World.cell?_setCell_other _ _ _ _ (ne 1 0 (by decide))]; exact World.cell?_setCell_same _ _ _ h.2.1
  · exact World.cell?_setCell_same _ _ _ ((World.cell?_setCell_other _ _ _ _ (ne 0 1 (by decide))).trans h.2.2.1)
theorem ScanAt.far {w : World} {b : Nat} {s : ByteArray} {j : Int} (h : ScanAt w b s j) {q : Addr} (hq : b ≠ q.block) (v : Value) : ScanAt (w.setCell q v) b s j :=
  ⟨by rw [World.size_setCell]; exact h.1, (World.cell?_setCell_other _ _ _ _ (by rintro rfl; exact hq rfl)).trans h.2.1, (World.cell?_setCell_other _ _ _ _ (by rintro rfl; exact hq rfl)).trans h.2.2.1, fun i => by rw [World.frozen?_setCell]; exact h.2.2.2 i⟩

structure OnRel (s : ByteArray) (k : Nat) (p : Int → Bool) (w0 : World) (n : Nat) (wr : World) : Prop where
  ex : ∃ j : Nat, k ≤ j ∧ j ≤ s.size ∧ n = s.size - j ∧ runTo p s j = runTo p s k ∧ ScanAt wr w0.heap.size s j
  res : ScanAt wr (w0.heap.size + 1) ⟨#[]⟩ 0
  below : Below w0.heap.size w0 wr

set_option maxRecDepth 100000 in
set_option maxHeartbeats 1000000 in
theorem goOn_Skip1 (s : ByteArray) (k : Nat) (hs : s.size ≤ 100000) (hk : k ≤ s.size) (w : World) :
    Calls Tryz.prog 83 #[.agg #[.string s, .int .i64 k], .func (.func 84) #[] #[]] w fun e w' => e = .returned (.agg #[.string s, .int .i64 (runTo isBl s k)]) ∧ Below w.heap.size w w' := by
  have H0 : Hid (OnRel s k isBl w (s.size - k) ((w.alloc (.cells #[.string s, .int .i64 k] 58)).alloc (.cells #[.string ⟨#[]⟩, .int .i64 0] 58))) :=
    ⟨⟨k, Nat.le_refl _, hk, rfl, rfl, (ScanAt.new w s k 58).step (sbelow_new _ _)⟩, (by have := ScanAt.new (w.alloc (.cells #[.string s, .int .i64 k] 58)) ⟨#[]⟩ 0 58; simpa using this), (sbelow_new _ _).trans ((sbelow_new _ _).mono (by simp))⟩
  go_enter Tryz.func83, Tryz.ntmps83
  go_wp2
  go_loopg [] (s.size - k) (fun n wr => OnRel s k isBl w n wr)
  case atStart => exact H0.out
  case round =>
    obtain ⟨⟨j, hkj, hj, hn, hrun, hat⟩, hres, hbel⟩ := hrel
    have HN := Lib.hid hn
    have HR := Lib.hid hrun
    clear hn hrun
    obtain ⟨l0, c0, c1, f0⟩ := id hat
    by_cases hlt : j < s.size
    · have hE := fun w => end_any s j w
      rw [decide_eq_false (by omega)] at hE
      have hP := fun w => peek_any s j (by omega) w
      rw [byteI_lt hlt] at hP
      have HE := Lib.hid hE
      have HP := Lib.hid hP
      clear hE hP
      by_cases hp : isBl (s[j].toNat : Int) = true
      · have HG := Lib.hid (runTo_go hlt hp)
        have hF := fun w => Skip1_any (s[j].toNat : Int) w
        rw [hp] at hF
        have HF := Lib.hid hF
        clear hF hp
        go_wp2_with fail
        refine (HE.out _).mono ?_
        rintro e w1 ⟨rfl, b1⟩
        have hat1 := hat.step b1
        have HRS1 := Lib.hid (hres.step b1)
        obtain ⟨l1, d0, d1, f1⟩ := id hat1
        go_wp2_with fail
        refine (HP.out _).mono ?_
        rintro e w2 ⟨rfl, b2⟩
        have hat2 := hat1.step b2
        have HRS2 := Lib.hid (HRS1.out.step b2)
        obtain ⟨l2, e0, e1, f2⟩ := id hat2
        go_wp2_with fail
        refine (HF.out _).mono ?_
        rintro e w' ⟨rfl, rfl⟩
        go_wp2_with fail
        refine (move_any s j 1 (by omega) (by omega) (by omega) _).mono ?_
        rintro e w3 ⟨rfl, b3⟩
        have hat3 := hat2.step b3
        have HRS3 := Lib.hid (HRS2.out.step b3)
        obtain ⟨l3, g0, g1, f3⟩ := id hat3
        have HB := Lib.hid (hbel.trans (((b1.trans (b2.mono b1.size)).trans (b3.mono (Nat.le_trans b1.size b2.size))).mono hbel.size))
        go_wp2_with fail
        go_roundg (s.size - (j + 1))
        case measure => have := HN.out; omega
        case rel =>
          refine ⟨⟨j + 1, by omega, by omega, rfl, HG.out.symm.trans HR.out, ?_⟩, ?_, ?_⟩
          · have := hat3.set s (j + 1)
            simpa using this
          · exact (HRS3.out.far (by simp) _).far (by simp) _
          · exact (HB.out.setCell (by simp) _).setCell (by simp) _
      · have HG := Lib.hid (runTo_stop hlt (by simpa using hp))
        have hF := fun w => Skip1_any (s[j].toNat : Int) w
        rw [show isBl (s[j].toNat : Int) = false by simpa using hp] at hF
        have HF := Lib.hid hF
        clear hF hp
        go_wp2_with fail
        refine (HE.out _).mono ?_
        rintro e w1 ⟨rfl, b1⟩
        have hat1 := hat.step b1
        have HRS1 := Lib.hid (hres.step b1)
        obtain ⟨l1, d0, d1, f1⟩ := id hat1
        go_wp2_with fail
        refine (HP.out _).mono ?_
        rintro e w2 ⟨rfl, b2⟩
        have hat2 := hat1.step b2
        have hrs2 := HRS1.out.step b2
        obtain ⟨l2, e0, e1, f2⟩ := id hat2
        obtain ⟨m2, r0, r1, rf⟩ := id hrs2
        have HB := Lib.hid (hbel.trans ((b1.trans (b2.mono b1.size)).mono hbel.size))
        go_wp2_with fail
        refine (HF.out _).mono ?_
        rintro e w' ⟨rfl, rfl⟩
        go_wp2_with fail
        obtain ⟨-, q0, q1, -⟩ := hrs2.set s j
        rw [← HR.out, HG.out]
        exact bodyPost_ret (v := .agg #[.string s, .int .i64 j]) (by simp [results, Tryz.results83, go_sem, q0, q1]) rfl ⟨rfl, (HB.out.setCell (by simp) _).setCell (by simp) _⟩
    · have HG := Lib.hid (runTo_end (p := isBl) hlt)
      have hE := fun w => end_any s j w
      rw [decide_eq_true (by omega)] at hE
      have HE := Lib.hid hE
      clear hE
      go_wp2_with fail
      refine (HE.out _).mono ?_
      rintro e w1 ⟨rfl, b1⟩
      have hat1 := hat.step b1
      have hrs1 := hres.step b1
      obtain ⟨l1, d0, d1, f1⟩ := id hat1
      obtain ⟨m1, r0, r1, rf⟩ := id hrs1
      have HB := Lib.hid (hbel.trans (b1.mono hbel.size))
      go_wp2_with fail
      obtain ⟨-, q0, q1, -⟩ := hrs1.set s j
      rw [← HR.out, HG.out]
      exact bodyPost_ret (v := .agg #[.string s, .int .i64 j]) (by simp [results, Tryz.results83, go_sem, q0, q1]) rfl ⟨rfl, (HB.out.setCell (by simp) _).setCell (by simp) _⟩
set_option maxRecDepth 100000 in
set_option maxHeartbeats 1000000 in
theorem goOn_Name1 (s : ByteArray) (k : Nat) (hs : s.size ≤ 100000) (hk : k ≤ s.size) (w : World) :
    Calls Tryz.prog 83 #[.agg #[.string s, .int .i64 k], .func (.func 113) #[] #[]] w fun e w' => e = .returned (.agg #[.string s, .int .i64 (runTo isIn s k)]) ∧ Below w.heap.size w w' := by
  have H0 : Hid (OnRel s k isIn w (s.size - k) ((w.alloc (.cells #[.string s, .int .i64 k] 58)).alloc (.cells #[.string ⟨#[]⟩, .int .i64 0] 58))) :=
    ⟨⟨k, Nat.le_refl _, hk, rfl, rfl, (ScanAt.new w s k 58).step (sbelow_new _ _)⟩, (by have := ScanAt.new (w.alloc (.cells #[.string s, .int .i64 k] 58)) ⟨#[]⟩ 0 58; simpa using this), (sbelow_new _ _).trans ((sbelow_new _ _).mono (by simp))⟩
  go_enter Tryz.func83, Tryz.ntmps83
  go_wp2
  go_loopg [] (s.size - k) (fun n wr => OnRel s k isIn w n wr)
  case atStart => exact H0.out
  case round =>
    obtain ⟨⟨j, hkj, hj, hn, hrun, hat⟩, hres, hbel⟩ := hrel
    have HN := Lib.hid hn
    have HR := Lib.hid hrun
    clear hn hrun
    obtain ⟨l0, c0, c1, f0⟩ := id hat
    by_cases hlt : j < s.size
    · have hE := fun w => end_any s j w
      rw [decide_eq_false (by omega)] at hE
      have hP := fun w => peek_any s j (by omega) w
      rw [byteI_lt hlt] at hP
      have HE := Lib.hid hE
      have HP := Lib.hid hP
      clear hE hP
      by_cases hp : isIn (s[j].toNat : Int) = true
      · have HG := Lib.hid (runTo_go hlt hp)
        have hF := fun w => Name1_any (s[j].toNat : Int) w
        rw [hp] at hF
        have HF := Lib.hid hF
        clear hF hp
        go_wp2_with fail
        refine (HE.out _).mono ?_
        rintro e w1 ⟨rfl, b1⟩
        have hat1 := hat.step b1
        have HRS1 := Lib.hid (hres.step b1)
        obtain ⟨l1, d0, d1, f1⟩ := id hat1
        go_wp2_with fail
        refine (HP.out _).mono ?_
        rintro e w2 ⟨rfl, b2⟩
        have hat2 := hat1.step b2
        have HRS2 := Lib.hid (HRS1.out.step b2)
        obtain ⟨l2, e0, e1, f2⟩ := id hat2
        go_wp2_with fail
        refine (HF.out _).mono ?_
        rintro e w' ⟨rfl, rfl⟩
        go_wp2_with fail
        refine (move_any s j 1 (by omega) (by omega) (by omega) _).mono ?_
        rintro e w3 ⟨rfl, b3⟩
        have hat3 := hat2.step b3
        have HRS3 := Lib.hid (HRS2.out.step b3)
        obtain ⟨l3, g0, g1, f3⟩ := id hat3
        have HB := Lib.hid (hbel.trans (((b1.trans (b2.mono b1.size)).trans (b3.mono (Nat.le_trans b1.size b2.size))).mono hbel.size))
        go_wp2_with fail
        go_roundg (s.size - (j + 1))
        case measure => have := HN.out; omega
        case rel =>
          refine ⟨⟨j + 1, by omega, by omega, rfl, HG.out.symm.trans HR.out, ?_⟩, ?_, ?_⟩
          · have := hat3.set s (j + 1)
            simpa using this
          · exact (HRS3.out.far (by simp) _).far (by simp) _
          · exact (HB.out.setCell (by simp) _).setCell (by simp) _
      · have HG := Lib.hid (runTo_stop hlt (by simpa using hp))
        have hF := fun w => Name1_any (s[j].toNat : Int) w
        rw [show isIn (s[j].toNat : Int) = false by simpa using hp] at hF
        have HF := Lib.hid hF
        clear hF hp
        go_wp2_with fail
        refine (HE.out _).mono ?_
        rintro e w1 ⟨rfl, b1⟩
        have hat1 := hat.step b1
        have HRS1 := Lib.hid (hres.step b1)
        obtain ⟨l1, d0, d1, f1⟩ := id hat1
        go_wp2_with fail
        refine (HP.out _).mono ?_
        rintro e w2 ⟨rfl, b2⟩
        have hat2 := hat1.step b2
        have hrs2 := HRS1.out.step b2
        obtain ⟨l2, e0, e1, f2⟩ := id hat2
        obtain ⟨m2, r0, r1, rf⟩ := id hrs2
        have HB := Lib.hid (hbel.trans ((b1.trans (b2.mono b1.size)).mono hbel.size))
        go_wp2_with fail
        refine (HF.out _).mono ?_
        rintro e w' ⟨rfl, rfl⟩
        go_wp2_with fail
        obtain ⟨-, q0, q1, -⟩ := hrs2.set s j
        rw [← HR.out, HG.out]
        exact bodyPost_ret (v := .agg #[.string s, .int .i64 j]) (by simp [results, Tryz.results83, go_sem, q0, q1]) rfl ⟨rfl, (HB.out.setCell (by simp) _).setCell (by simp) _⟩
    · have HG := Lib.hid (runTo_end (p := isIn) hlt)
      have hE := fun w => end_any s j w
      rw [decide_eq_true (by omega)] at hE
      have HE := Lib.hid hE
      clear hE
      go_wp2_with fail
      refine (HE.out _).mono ?_
      rintro e w1 ⟨rfl, b1⟩
      have hat1 := hat.step b1
      have hrs1 := hres.step b1
      obtain ⟨l1, d0, d1, f1⟩ := id hat1
      obtain ⟨m1, r0, r1, rf⟩ := id hrs1
      have HB := Lib.hid (hbel.trans (b1.mono hbel.size))
      go_wp2_with fail
      obtain ⟨-, q0, q1, -⟩ := hrs1.set s j
      rw [← HR.out, HG.out]
      exact bodyPost_ret (v := .agg #[.string s, .int .i64 j]) (by simp [results, Tryz.results83, go_sem, q0, q1]) rfl ⟨rfl, (HB.out.setCell (by simp) _).setCell (by simp) _⟩
set_option maxRecDepth 100000 in
set_option maxHeartbeats 1000000 in
theorem goOn_Number1 (s : ByteArray) (k : Nat) (hs : s.size ≤ 100000) (hk : k ≤ s.size) (w : World) :
    Calls Tryz.prog 83 #[.agg #[.string s, .int .i64 k], .func (.func 87) #[] #[]] w fun e w' => e = .returned (.agg #[.string s, .int .i64 (runTo isDig s k)]) ∧ Below w.heap.size w w' := by
  have H0 : Hid (OnRel s k isDig w (s.size - k) ((w.alloc (.cells #[.string s, .int .i64 k] 58)).alloc (.cells #[.string ⟨#[]⟩, .int .i64 0] 58))) :=
    ⟨⟨k, Nat.le_refl _, hk, rfl, rfl, (ScanAt.new w s k 58).step (sbelow_new _ _)⟩, (by have := ScanAt.new (w.alloc (.cells #[.string s, .int .i64 k] 58)) ⟨#[]⟩ 0 58; simpa using this), (sbelow_new _ _).trans ((sbelow_new _ _).mono (by simp))⟩
  go_enter Tryz.func83, Tryz.ntmps83
  go_wp2
  go_loopg [] (s.size - k) (fun n wr => OnRel s k isDig w n wr)
  case atStart => exact H0.out
  case round =>
    obtain ⟨⟨j, hkj, hj, hn, hrun, hat⟩, hres, hbel⟩ := hrel
    have HN := Lib.hid hn
    have HR := Lib.hid hrun
    clear hn hrun
    obtain ⟨l0, c0, c1, f0⟩ := id hat
    by_cases hlt : j < s.size
    · have hE := fun w => end_any s j w
      rw [decide_eq_false (by omega)] at hE
      have hP := fun w => peek_any s j (by omega) w
      rw [byteI_lt hlt] at hP
      have HE := Lib.hid hE
      have HP := Lib.hid hP
      clear hE hP
      by_cases hp : isDig (s[j].toNat : Int) = true
      · have HG := Lib.hid (runTo_go hlt hp)
        have hF := fun w => Number1_any (s[j].toNat : Int) w
        rw [hp] at hF
        have HF := Lib.hid hF
        clear hF hp
        go_wp2_with fail
        refine (HE.out _).mono ?_
        rintro e w1 ⟨rfl, b1⟩
        have hat1 := hat.step b1
        have HRS1 := Lib.hid (hres.step b1)
        obtain ⟨l1, d0, d1, f1⟩ := id hat1
        go_wp2_with fail
        refine (HP.out _).mono ?_
        rintro e w2 ⟨rfl, b2⟩
        have hat2 := hat1.step b2
        have HRS2 := Lib.hid (HRS1.out.step b2)
        obtain ⟨l2, e0, e1, f2⟩ := id hat2
        go_wp2_with fail
        refine (HF.out _).mono ?_
        rintro e w' ⟨rfl, rfl⟩
        go_wp2_with fail
        refine (move_any s j 1 (by omega) (by omega) (by omega) _).mono ?_
        rintro e w3 ⟨rfl, b3⟩
        have hat3 := hat2.step b3
        have HRS3 := Lib.hid (HRS2.out.step b3)
        obtain ⟨l3, g0, g1, f3⟩ := id hat3
        have HB := Lib.hid (hbel.trans (((b1.trans (b2.mono b1.size)).trans (b3.mono (Nat.le_trans b1.size b2.size))).mono hbel.size))
        go_wp2_with fail
        go_roundg (s.size - (j + 1))
        case measure => have := HN.out; omega
        case rel =>
          refine ⟨⟨j + 1, by omega, by omega, rfl, HG.out.symm.trans HR.out, ?_⟩, ?_, ?_⟩
          · have := hat3.set s (j + 1)
            simpa using this
          · exact (HRS3.out.far (by simp) _).far (by simp) _
          · exact (HB.out.setCell (by simp) _).setCell (by simp) _
      · have HG := Lib.hid (runTo_stop hlt (by simpa using hp))
        have hF := fun w => Number1_any (s[j].toNat : Int) w
        rw [show isDig (s[j].toNat : Int) = false by simpa using hp] at hF
        have HF := Lib.hid hF
        clear hF hp
        go_wp2_with fail
        refine (HE.out _).mono ?_
        rintro e w1 ⟨rfl, b1⟩
        have hat1 := hat.step b1
        have HRS1 := Lib.hid (hres.step b1)
        obtain ⟨l1, d0, d1, f1⟩ := id hat1
        go_wp2_with fail
        refine (HP.out _).mono ?_
        rintro e w2 ⟨rfl, b2⟩
        have hat2 := hat1.step b2
        have hrs2 := HRS1.out.step b2
        obtain ⟨l2, e0, e1, f2⟩ := id hat2
        obtain ⟨m2, r0, r1, rf⟩ := id hrs2
        have HB := Lib.hid (hbel.trans ((b1.trans (b2.mono b1.size)).mono hbel.size))
        go_wp2_with fail
        refine (HF.out _).mono ?_
        rintro e w' ⟨rfl, rfl⟩
        go_wp2_with fail
        obtain ⟨-, q0, q1, -⟩ := hrs2.set s j
        rw [← HR.out, HG.out]
        exact bodyPost_ret (v := .agg #[.string s, .int .i64 j]) (by simp [results, Tryz.results83, go_sem, q0, q1]) rfl ⟨rfl, (HB.out.setCell (by simp) _).setCell (by simp) _⟩
    · have HG := Lib.hid (runTo_end (p := isDig) hlt)
      have hE := fun w => end_any s j w
      rw [decide_eq_true (by omega)] at hE
      have HE := Lib.hid hE
      clear hE
      go_wp2_with fail
      refine (HE.out _).mono ?_
      rintro e w1 ⟨rfl, b1⟩
      have hat1 := hat.step b1
      have hrs1 := hres.step b1
      obtain ⟨l1, d0, d1, f1⟩ := id hat1
      obtain ⟨m1, r0, r1, rf⟩ := id hrs1
      have HB := Lib.hid (hbel.trans (b1.mono hbel.size))
      go_wp2_with fail
      obtain ⟨-, q0, q1, -⟩ := hrs1.set s j
      rw [← HR.out, HG.out]
      exact bodyPost_ret (v := .agg #[.string s, .int .i64 j]) (by simp [results, Tryz.results83, go_sem, q0, q1]) rfl ⟨rfl, (HB.out.setCell (by simp) _).setCell (by simp) _⟩
end Go.Proofs.YtajmlkephefapaaGreatDoor
