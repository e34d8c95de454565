/-
  Package scan by contracts, first part: sorts of bytes, what stands at a place, how far bytes of a sort go; and the reference's words for the same. Memory: only new blocks.
  Package scan by contracts, second part: New, Skip, Take, Has: where they lead, and the error that each tells.
  Package scan by contracts, third part: Name, Number, IsName.
  scan.IsName, and the reference of layer 3, by contracts.
  The reference's numbers and names, whole; and chapter 3's example.
  Chapter 2's example holds.
  Chapter 3's example holds.
-/
import Derived.Test.YtlcpbfklnjlgnaaGreatDoorGc
import Derived.Below
import Derived.Deep.Light
import Derived.Deep.QuietTactic
import Derived.BigQuiet
import Derived.Deep.RegionHeld3
namespace Go.Proofs.YtlcpbfklnjlgnaaGreatDoor
open Go.RowKit Go.Extern.Stop Go.Stop Go.Extern

theorem sbelow_new (w : World) (o : Obj) : Below w.heap.size w (w.alloc o) := (Below.refl _ _).alloc (Nat.le_refl _) _

/-! ### Plain -/
/-- The sort of a byte, by its number. -/
def sortI (n : Int) : Int :=
  if n = 32 ∨ n = 9 ∨ n = 10 ∨ n = 13 then 1 else if 97 ≤ n ∧ n ≤ 122 ∨ 65 ≤ n ∧ n ≤ 90 ∨ n = 95 then 2 else if 48 ≤ n ∧ n ≤ 57 then 3 else if n = 45 ∨ n = 46 then 4 else 0
def isBl (n : Int) : Bool := sortI n == 1
def isLet (n : Int) : Bool := sortI n == 2
def isIn (n : Int) : Bool := decide (2 ≤ sortI n)
def isDig (n : Int) : Bool := sortI n == 3

/-- The number of the byte at a place; 0 where the text has ended. -/
def byteI (s : ByteArray) (k : Nat) : Int := if h : k < s.size then (s[k].toNat : Int) else 0
theorem byteI_lt {s : ByteArray} {k : Nat} (h : k < s.size) : byteI s k = (s[k].toNat : Int) := by unfold byteI; rw [dif_pos h]
theorem byteI_ge {s : ByteArray} {k : Nat} (h : ¬ k < s.size) : byteI s k = 0 := by unfold byteI; rw [dif_neg h]

/-- Behind all bytes of which p holds, from a place on. -/
def runTo (p : Int → Bool) (s : ByteArray) (k : Nat) : Nat := if h : k < s.size then (if p (s[k].toNat : Int) then runTo p s (k + 1) else k) else k
termination_by s.size - k

theorem runTo_go {p : Int → Bool} {s : ByteArray} {k : Nat} (h : k < s.size) (hp : p (s[k].toNat : Int) = true) : runTo p s k = runTo p s (k + 1) := by
  rw [runTo, dif_pos h, if_pos hp]
theorem runTo_end {p : Int → Bool} {s : ByteArray} {k : Nat} (h : ¬ k < s.size) : runTo p s k = k := by rw [runTo, dif_neg h]
theorem runTo_stop {p : Int → Bool} {s : ByteArray} {k : Nat} (h : k < s.size) (hp : p (s[k].toNat : Int) = false) : runTo p s k = k := by
  rw [runTo, dif_pos h, if_neg (by rw [hp]; decide)]
theorem runTo_bd (p : Int → Bool) (s : ByteArray) : ∀ (n k : Nat), s.size - k = n → k ≤ s.size → k ≤ runTo p s k ∧ runTo p s k ≤ s.size := by
  intro n
  induction n with
  | zero => intro k h hk; rw [runTo_end (by omega)]; omega
  | succ n ih =>
    intro k h hk
    by_cases hp : p (s[k]'(by omega)).toNat = true
    · rw [runTo_go (by omega) hp]; have := ih (k + 1) (by omega) (by omega); omega
    · rw [runTo_stop (by omega) (by simpa using hp)]; omega
theorem le_runTo (p : Int → Bool) (s : ByteArray) (k : Nat) (hk : k ≤ s.size) : k ≤ runTo p s k := (runTo_bd p s _ k rfl hk).1
theorem runTo_le (p : Int → Bool) (s : ByteArray) (k : Nat) (hk : k ≤ s.size) : runTo p s k ≤ s.size := (runTo_bd p s _ k rfl hk).2

/-- The text from a place on. -/
def restOf (s : ByteArray) (k : Nat) : ByteArray := s.extract k s.size

/-! ### Bytes -/
set_option maxHeartbeats 1000000 in
theorem sortOf_any (n : Int) (w : World) :
    Calls Tryz.prog 150 #[.int .u8 n] w fun e w' => e = .returned (.int .i64 (sortI n)) ∧ w = w' := by
  go_enter Tryz.func150, Tryz.ntmps150
  go_wp2
  all_goals
    go_ret
    refine ⟨ret_u ?_, rfl⟩
    go_light
    simp only [beq_iff_eq, beq_eq_false_iff_ne, ne_eq] at *
    unfold sortI
    repeat' split
    all_goals omega

set_option maxHeartbeats 400000 in
theorem Name1_any (n : Int) (w : World) :
    Calls Tryz.prog 154 #[.int .u8 n] w fun e w' => e = .returned (.bool (isIn n)) ∧ w = w' := by
  go_enter Tryz.func154, Tryz.ntmps154
  go_wp2_with (go_at_call 150; refine (sortOf_any _ _).mono ?_; rintro e w' ⟨rfl, rfl⟩)
  go_ret
  exact ⟨rfl, rfl⟩
set_option maxHeartbeats 400000 in
theorem Number1_any (n : Int) (w : World) :
    Calls Tryz.prog 156 #[.int .u8 n] w fun e w' => e = .returned (.bool (isDig n)) ∧ w = w' := by
  go_enter Tryz.func156, Tryz.ntmps156
  go_wp2_with (go_at_call 150; refine (sortOf_any _ _).mono ?_; rintro e w' ⟨rfl, rfl⟩)
  go_ret
  exact ⟨rfl, rfl⟩

theorem ret_b {a b : Bool} (h : a = b) : Ending.returned (.bool a) = .returned (.bool b) := by rw [h]
theorem isLet_iff (n : Int) : isLet n = true ↔ 97 ≤ n ∧ n ≤ 122 ∨ 65 ≤ n ∧ n ≤ 90 ∨ n = 95 := by
  unfold isLet sortI; simp only [beq_iff_eq]; repeat' split
  all_goals omega
theorem isDig_iff (n : Int) : isDig n = true ↔ 48 ≤ n ∧ n ≤ 57 := by
  unfold isDig sortI; simp only [beq_iff_eq]; repeat' split
  all_goals omega
theorem isIn_iff (n : Int) : isIn n = true ↔ isLet n = true ∨ isDig n = true ∨ n = 45 ∨ n = 46 := by
  rw [isLet_iff, isDig_iff]; unfold isIn sortI; simp only [decide_eq_true_eq]; repeat' split
  all_goals omega
theorem isBl_iff (n : Int) : isBl n = true ↔ n = 32 ∨ n = 9 ∨ n = 10 ∨ n = 13 := by
  unfold isBl sortI; simp only [beq_iff_eq]; repeat' split
  all_goals omega

set_option maxHeartbeats 1000000 in
theorem rletter_any (n : Int) (w : World) :
    Calls Tryz.prog 68 #[.int .u8 n] w fun e w' => e = .returned (.bool (isLet n)) ∧ w = w' := by
  go_enter Tryz.func68, Tryz.ntmps68
  go_wp2
  all_goals
    go_ret
    refine ⟨ret_b ?_, rfl⟩
    go_light
    rw [Bool.eq_iff_iff, isLet_iff]
    try simp only [Bool.or_eq_true, decide_eq_true_eq, beq_iff_eq, true_iff]
    omega

set_option maxHeartbeats 1000000 in
theorem rdigit_any (n : Int) (w : World) :
    Calls Tryz.prog 111 #[.int .u8 n] w fun e w' => e = .returned (.bool (isDig n)) ∧ w = w' := by
  go_enter Tryz.func111, Tryz.ntmps111
  go_wp2
  all_goals
    go_ret
    refine ⟨ret_b ?_, rfl⟩
    go_light
    rw [Bool.eq_iff_iff, isDig_iff]
    try simp only [decide_eq_true_eq, Bool.false_eq_true, false_iff]
    omega

set_option maxHeartbeats 1000000 in
theorem rin_any (n : Int) (w : World) :
    Calls Tryz.prog 70 #[.int .u8 n] w fun e w' => e = .returned (.bool (isIn n)) ∧ w = w' := by
  go_enter Tryz.func70, Tryz.ntmps70
  go_wp2_with (first
    | (go_at_call 68; refine (rletter_any _ _).mono ?_; rintro e w' ⟨rfl, rfl⟩)
    | (go_at_call 111; refine (rdigit_any _ _).mono ?_; rintro e w' ⟨rfl, rfl⟩))
  all_goals
    go_ret
    refine ⟨ret_b ?_, rfl⟩
    go_light
    rw [Bool.eq_iff_iff, isIn_iff]
    simp_all

/-! ### What stands at a place -/
set_option maxHeartbeats 400000 in
theorem at_any (s : ByteArray) (k : Nat) (w : World) :
    Calls Tryz.prog 133 #[.agg #[.string s, .int .i64 k]] w fun e w' => e = .returned (.int .i64 k) ∧ Below w.heap.size w w' := by
  go_enter Tryz.func133, Tryz.ntmps133
  go_wp2
  go_ret
  exact ⟨rfl, (Below.refl _ _).alloc (Nat.le_refl _) _⟩

set_option maxHeartbeats 400000 in
theorem end_any (s : ByteArray) (k : Nat) (w : World) :
    Calls Tryz.prog 167 #[.agg #[.string s, .int .i64 k]] w fun e w' => e = .returned (.bool (decide (k = s.size))) ∧ Below w.heap.size w w' := by
  go_enter Tryz.func167, Tryz.ntmps167
  go_wp2
  go_ret
  exact ⟨ret_b (by rw [Bool.eq_iff_iff]; simp; omega), (Below.refl _ _).alloc (Nat.le_refl _) _⟩

set_option maxHeartbeats 400000 in
theorem move_any (s : ByteArray) (k : Nat) (n : Int) (hk : k ≤ 100000) (h0 : 0 ≤ n) (hn : n ≤ 100000) (w : World) :
    Calls Tryz.prog 168 #[.agg #[.string s, .int .i64 k], .int .i64 n] w fun e w' => e = .returned (.agg #[.string s, .int .i64 ((k : Int) + n)]) ∧ Below w.heap.size w w' := by
  go_enter Tryz.func168, Tryz.ntmps168
  go_wp2
  exact bodyPost_ret (v := .agg #[.string s, .int .i64 ((k : Int) + n)]) (by simp [results, Tryz.results168, go_sem]) rfl ⟨rfl, ((Below.refl _ _).alloc (Nat.le_refl _) _).alloc (by simp) _⟩

set_option maxHeartbeats 400000 in
theorem upTo_any (s : ByteArray) (k j : Nat) (hk : k ≤ j) (hj : j ≤ s.size) (w : World) :
    Calls Tryz.prog 155 #[.agg #[.string s, .int .i64 k], .agg #[.string s, .int .i64 j]] w fun e w' => e = .returned (.string (s.extract k j)) ∧ Below w.heap.size w w' := by
  go_enter Tryz.func155, Tryz.ntmps155
  go_wp2
  go_ret
  exact ⟨rfl, ((Below.refl _ _).alloc (Nat.le_refl _) _).alloc (by simp) _⟩

set_option maxHeartbeats 400000 in
theorem peek_any (s : ByteArray) (k : Nat) (hk : k ≤ s.size) (w : World) :
    Calls Tryz.prog 151 #[.agg #[.string s, .int .i64 k]] w fun e w' => e = .returned (.int .u8 (byteI s k)) ∧ Below w.heap.size w w' := by
  by_cases h : k < s.size
  · rw [byteI_lt h]
    have hE := fun w => end_any s k w
    rw [decide_eq_false (by omega)] at hE
    have HE := Lib.hid hE
    clear hE
    go_enter Tryz.func151, Tryz.ntmps151
    go_wp2_with fail
    refine (HE.out _).mono ?_
    rintro e w1 ⟨rfl, hb⟩
    have c0 := (hb.cell (p := ⟨w.heap.size, 0, none⟩) (by simp)).trans (show _ = some (Value.string s) by simp)
    have c1 := (hb.cell (p := ⟨w.heap.size, 1, none⟩) (by simp)).trans (show _ = some (Value.int .i64 k) by simp)
    go_wp2
    go_ret
    exact ⟨rfl, ((Below.refl _ _).alloc (Nat.le_refl _) _).trans (hb.mono (by simp))⟩
  · rw [byteI_ge h]
    have hE := fun w => end_any s k w
    rw [decide_eq_true (by omega)] at hE
    have HE := Lib.hid hE
    clear hE
    go_enter Tryz.func151, Tryz.ntmps151
    go_wp2_with fail
    refine (HE.out _).mono ?_
    rintro e w1 ⟨rfl, hb⟩
    go_wp2
    go_ret
    exact ⟨rfl, ((Below.refl _ _).alloc (Nat.le_refl _) _).trans (hb.mono (by simp))⟩

/-! ### As far as bytes of a sort go -/
/-- A place of a text in a block of its own, not frozen. -/
def ScanAt (w : World) (b : Nat) (s : ByteArray) (j : Int) : Prop :=
  b < w.heap.size ∧ w.cell? ⟨b, 0, none⟩ = some (.string s) ∧ w.cell? ⟨b, 1, none⟩ = some (.int .i64 j) ∧ ∀ i, w.frozen? ⟨b, i, none⟩ = false
theorem ScanAt.step {w w' : World} {b : Nat} {s : ByteArray} {j : Int} (h : ScanAt w b s j) (hb : Below w.heap.size w w') : ScanAt w' b s j :=
  ⟨Nat.lt_of_lt_of_le h.1 hb.size, (hb.cell (p := ⟨b, 0, none⟩) h.1).trans h.2.1, (hb.cell (p := ⟨b, 1, none⟩) h.1).trans h.2.2.1, fun i => (hb.frozen (p := ⟨b, i, none⟩) h.1).trans (h.2.2.2 i)⟩
theorem ScanAt.new (w : World) (s : ByteArray) (j : Int) (t : TypeId) : ScanAt (w.alloc (.cells #[.string s, .int .i64 j] t)) w.heap.size s j := ⟨by simp, by simp, by simp, by simp⟩
theorem ScanAt.set {w : World} {b : Nat} {s : ByteArray} {j : Int} (h : ScanAt w b s j) (s' : ByteArray) (j' : Int) :
    ScanAt ((w.setCell ⟨b, 0, none⟩ (.string s')).setCell ⟨b, 1, none⟩ (.int .i64 j')) b s' j' := by
  have ne : ∀ i j : Nat, i ≠ j → (⟨b, i, none⟩ : Addr) ≠ ⟨b, j, none⟩ := fun i j h e => h (by injection e)
  refine ⟨by rw [World.size_setCell, World.size_setCell]; exact h.1, ?_, ?_, fun i => by rw [World.frozen?_setCell, World.frozen?_setCell]; exact h.2.2.2 i⟩
  · rw [World.cell?_setCell_other _ _ _ _ (ne 1 0 (by decide))]; exact World.cell?_setCell_same _ _ _ h.2.1
  · exact World.cell?_setCell_same _ _ _ ((World.cell?_setCell_other _ _ _ _ (ne 0 1 (by decide))).trans h.2.2.1)
/-- A place is stored there: what its two cells then read. -/
theorem ScanAt.put {w : World} {b : Nat} {s : ByteArray} {j : Int} (h : ScanAt w b s j) (s' : ByteArray) (z : Int) :
    ((w.setCell ⟨b, 0, none⟩ (.string s')).setCell ⟨b, 1, none⟩ (.int .i64 z)).cell? ⟨b, 0, none⟩ = some (.string s') ∧ ((w.setCell ⟨b, 0, none⟩ (.string s')).setCell ⟨b, 1, none⟩ (.int .i64 z)).cell? ⟨b, 1, none⟩ = some (.int .i64 z) := by
  have ne : ∀ i j : Nat, i ≠ j → (⟨b, i, none⟩ : Addr) ≠ ⟨b, j, none⟩ := fun i j h e => h (by injection e)
  refine ⟨?_, ?_⟩
  · rw [World.cell?_setCell_other _ _ _ _ (ne 1 0 (by decide))]; exact World.cell?_setCell_same _ _ _ h.2.1
  · exact World.cell?_setCell_same _ _ _ ((World.cell?_setCell_other _ _ _ _ (ne 0 1 (by decide))).trans h.2.2.1)
theorem ScanAt.far {w : World} {b : Nat} {s : ByteArray} {j : Int} (h : ScanAt w b s j) {q : Addr} (hq : b ≠ q.block) (v : Value) : ScanAt (w.setCell q v) b s j :=
  ⟨by rw [World.size_setCell]; exact h.1, (World.cell?_setCell_other _ _ _ _ (by rintro rfl; exact hq rfl)).trans h.2.1, (World.cell?_setCell_other _ _ _ _ (by rintro rfl; exact hq rfl)).trans h.2.2.1, fun i => by rw [World.frozen?_setCell]; exact h.2.2.2 i⟩

structure OnRel (s : ByteArray) (k : Nat) (p : Int → Bool) (w0 : World) (n : Nat) (wr : World) : Prop where
  ex : ∃ j : Nat, k ≤ j ∧ j ≤ s.size ∧ n = s.size - j ∧ runTo p s j = runTo p s k ∧ ScanAt wr w0.heap.size s j
  res : ScanAt wr (w0.heap.size + 1) ⟨#[]⟩ 0
  below : Below w0.heap.size w0 wr

set_option maxRecDepth 100000 in
set_option maxHeartbeats 1000000 in
theorem goOn_Name1 (s : ByteArray) (k : Nat) (hs : s.size ≤ 100000) (hk : k ≤ s.size) (w : World) :
    Calls Tryz.prog 153 #[.agg #[.string s, .int .i64 k], .func (.func 154) #[] #[]] w fun e w' => e = .returned (.agg #[.string s, .int .i64 (runTo isIn s k)]) ∧ Below w.heap.size w w' := by
  have H0 : Hid (OnRel s k isIn w (s.size - k) ((w.alloc (.cells #[.string s, .int .i64 k] 192)).alloc (.cells #[.string ⟨#[]⟩, .int .i64 0] 192))) :=
    ⟨⟨k, Nat.le_refl _, hk, rfl, rfl, (ScanAt.new w s k 192).step (sbelow_new _ _)⟩, (by have := ScanAt.new (w.alloc (.cells #[.string s, .int .i64 k] 192)) ⟨#[]⟩ 0 192; simpa using this), (sbelow_new _ _).trans ((sbelow_new _ _).mono (by simp))⟩
  go_enter Tryz.func153, Tryz.ntmps153
  go_wp2
  go_loopg [] (s.size - k) (fun n wr => OnRel s k isIn w n wr)
  case atStart => exact H0.out
  case round =>
    obtain ⟨⟨j, hkj, hj, hn, hrun, hat⟩, hres, hbel⟩ := hrel
    have HN := Lib.hid hn
    have HR := Lib.hid hrun
    clear hn hrun
    obtain ⟨l0, c0, c1, f0⟩ := id hat
    by_cases hlt : j < s.size
    · have hE := fun w => end_any s j w
      rw [decide_eq_false (by omega)] at hE
      have hP := fun w => peek_any s j (by omega) w
      rw [byteI_lt hlt] at hP
      have HE := Lib.hid hE
      have HP := Lib.hid hP
      clear hE hP
      by_cases hp : isIn (s[j].toNat : Int) = true
      · have HG := Lib.hid (runTo_go hlt hp)
        have hF := fun w => Name1_any (s[j].toNat : Int) w
        rw [hp] at hF
        have HF := Lib.hid hF
        clear hF hp
        go_wp2_with fail
        refine (HE.out _).mono ?_
        rintro e w1 ⟨rfl, b1⟩
        have hat1 := hat.step b1
        have HRS1 := Lib.hid (hres.step b1)
        obtain ⟨l1, d0, d1, f1⟩ := id hat1
        go_wp2_with fail
        refine (HP.out _).mono ?_
        rintro e w2 ⟨rfl, b2⟩
        have hat2 := hat1.step b2
        have HRS2 := Lib.hid (HRS1.out.step b2)
        obtain ⟨l2, e0, e1, f2⟩ := id hat2
        go_wp2_with fail
        refine (HF.out _).mono ?_
        rintro e w' ⟨rfl, rfl⟩
        go_wp2_with fail
        refine (move_any s j 1 (by omega) (by omega) (by omega) _).mono ?_
        rintro e w3 ⟨rfl, b3⟩
        have hat3 := hat2.step b3
        have HRS3 := Lib.hid (HRS2.out.step b3)
        obtain ⟨l3, g0, g1, f3⟩ := id hat3
        have HB := Lib.hid (hbel.trans (((b1.trans (b2.mono b1.size)).trans (b3.mono (Nat.le_trans b1.size b2.size))).mono hbel.size))
        go_wp2_with fail
        go_roundg (s.size - (j + 1))
        case measure => have := HN.out; omega
        case rel =>
          refine ⟨⟨j + 1, by omega, by omega, rfl, HG.out.symm.trans HR.out, ?_⟩, ?_, ?_⟩
          · have := hat3.set s (j + 1)
            simpa using this
          · exact (HRS3.out.far (by simp) _).far (by simp) _
          · exact (HB.out.setCell (by simp) _).setCell (by simp) _
      · have HG := Lib.hid (runTo_stop hlt (by simpa using hp))
        have hF := fun w => Name1_any (s[j].toNat : Int) w
        rw [show isIn (s[j].toNat : Int) = false by simpa using hp] at hF
        have HF := Lib.hid hF
        clear hF hp
        go_wp2_with fail
        refine (HE.out _).mono ?_
        rintro e w1 ⟨rfl, b1⟩
        have hat1 := hat.step b1
        have HRS1 := Lib.hid (hres.step b1)
        obtain ⟨l1, d0, d1, f1⟩ := id hat1
        go_wp2_with fail
        refine (HP.out _).mono ?_
        rintro e w2 ⟨rfl, b2⟩
        have hat2 := hat1.step b2
        have hrs2 := HRS1.out.step b2
        obtain ⟨l2, e0, e1, f2⟩ := id hat2
        obtain ⟨m2, r0, r1, rf⟩ := id hrs2
        have HB := Lib.hid (hbel.trans ((b1.trans (b2.mono b1.size)).mono hbel.size))
        go_wp2_with fail
        refine (HF.out _).mono ?_
        rintro e w' ⟨rfl, rfl⟩
        go_wp2_with fail
        obtain ⟨-, q0, q1, -⟩ := hrs2.set s j
        rw [← HR.out, HG.out]
        exact bodyPost_ret (v := .agg #[.string s, .int .i64 j]) (by simp [results, Tryz.results153, go_sem, q0, q1]) rfl ⟨rfl, (HB.out.setCell (by simp) _).setCell (by simp) _⟩
    · have HG := Lib.hid (runTo_end (p := isIn) hlt)
      have hE := fun w => end_any s j w
      rw [decide_eq_true (by omega)] at hE
      have HE := Lib.hid hE
      clear hE
      go_wp2_with fail
      refine (HE.out _).mono ?_
      rintro e w1 ⟨rfl, b1⟩
      have hat1 := hat.step b1
      have hrs1 := hres.step b1
      obtain ⟨l1, d0, d1, f1⟩ := id hat1
      obtain ⟨m1, r0, r1, rf⟩ := id hrs1
      have HB := Lib.hid (hbel.trans (b1.mono hbel.size))
      go_wp2_with fail
      obtain ⟨-, q0, q1, -⟩ := hrs1.set s j
      rw [← HR.out, HG.out]
      exact bodyPost_ret (v := .agg #[.string s, .int .i64 j]) (by simp [results, Tryz.results153, go_sem, q0, q1]) rfl ⟨rfl, (HB.out.setCell (by simp) _).setCell (by simp) _⟩
set_option maxRecDepth 100000 in
set_option maxHeartbeats 1000000 in
theorem goOn_Number1 (s : ByteArray) (k : Nat) (hs : s.size ≤ 100000) (hk : k ≤ s.size) (w : World) :
    Calls Tryz.prog 153 #[.agg #[.string s, .int .i64 k], .func (.func 156) #[] #[]] w fun e w' => e = .returned (.agg #[.string s, .int .i64 (runTo isDig s k)]) ∧ Below w.heap.size w w' := by
  have H0 : Hid (OnRel s k isDig w (s.size - k) ((w.alloc (.cells #[.string s, .int .i64 k] 192)).alloc (.cells #[.string ⟨#[]⟩, .int .i64 0] 192))) :=
    ⟨⟨k, Nat.le_refl _, hk, rfl, rfl, (ScanAt.new w s k 192).step (sbelow_new _ _)⟩, (by have := ScanAt.new (w.alloc (.cells #[.string s, .int .i64 k] 192)) ⟨#[]⟩ 0 192; simpa using this), (sbelow_new _ _).trans ((sbelow_new _ _).mono (by simp))⟩
  go_enter Tryz.func153, Tryz.ntmps153
  go_wp2
  go_loopg [] (s.size - k) (fun n wr => OnRel s k isDig w n wr)
  case atStart => exact H0.out
  case round =>
    obtain ⟨⟨j, hkj, hj, hn, hrun, hat⟩, hres, hbel⟩ := hrel
    have HN := Lib.hid hn
    have HR := Lib.hid hrun
    clear hn hrun
    obtain ⟨l0, c0, c1, f0⟩ := id hat
    by_cases hlt : j < s.size
    · have hE := fun w => end_any s j w
      rw [decide_eq_false (by omega)] at hE
      have hP := fun w => peek_any s j (by omega) w
      rw [byteI_lt hlt] at hP
      have HE := Lib.hid hE
      have HP := Lib.hid hP
      clear hE hP
      by_cases hp : isDig (s[j].toNat : Int) = true
      · have HG := Lib.hid (runTo_go hlt hp)
        have hF := fun w => Number1_any (s[j].toNat : Int) w
        rw [hp] at hF
        have HF := Lib.hid hF
        clear hF hp
        go_wp2_with fail
        refine (HE.out _).mono ?_
        rintro e w1 ⟨rfl, b1⟩
        have hat1 := hat.step b1
        have HRS1 := Lib.hid (hres.step b1)
        obtain ⟨l1, d0, d1, f1⟩ := id hat1
        go_wp2_with fail
        refine (HP.out _).mono ?_
        rintro e w2 ⟨rfl, b2⟩
        have hat2 := hat1.step b2
        have HRS2 := Lib.hid (HRS1.out.step b2)
        obtain ⟨l2, e0, e1, f2⟩ := id hat2
        go_wp2_with fail
        refine (HF.out _).mono ?_
        rintro e w' ⟨rfl, rfl⟩
        go_wp2_with fail
        refine (move_any s j 1 (by omega) (by omega) (by omega) _).mono ?_
        rintro e w3 ⟨rfl, b3⟩
        have hat3 := hat2.step b3
        have HRS3 := Lib.hid (HRS2.out.step b3)
        obtain ⟨l3, g0, g1, f3⟩ := id hat3
        have HB := Lib.hid (hbel.trans (((b1.trans (b2.mono b1.size)).trans (b3.mono (Nat.le_trans b1.size b2.size))).mono hbel.size))
        go_wp2_with fail
        go_roundg (s.size - (j + 1))
        case measure => have := HN.out; omega
        case rel =>
          refine ⟨⟨j + 1, by omega, by omega, rfl, HG.out.symm.trans HR.out, ?_⟩, ?_, ?_⟩
          · have := hat3.set s (j + 1)
            simpa using this
          · exact (HRS3.out.far (by simp) _).far (by simp) _
          · exact (HB.out.setCell (by simp) _).setCell (by simp) _
      · have HG := Lib.hid (runTo_stop hlt (by simpa using hp))
        have hF := fun w => Number1_any (s[j].toNat : Int) w
        rw [show isDig (s[j].toNat : Int) = false by simpa using hp] at hF
        have HF := Lib.hid hF
        clear hF hp
        go_wp2_with fail
        refine (HE.out _).mono ?_
        rintro e w1 ⟨rfl, b1⟩
        have hat1 := hat.step b1
        have HRS1 := Lib.hid (hres.step b1)
        obtain ⟨l1, d0, d1, f1⟩ := id hat1
        go_wp2_with fail
        refine (HP.out _).mono ?_
        rintro e w2 ⟨rfl, b2⟩
        have hat2 := hat1.step b2
        have hrs2 := HRS1.out.step b2
        obtain ⟨l2, e0, e1, f2⟩ := id hat2
        obtain ⟨m2, r0, r1, rf⟩ := id hrs2
        have HB := Lib.hid (hbel.trans ((b1.trans (b2.mono b1.size)).mono hbel.size))
        go_wp2_with fail
        refine (HF.out _).mono ?_
        rintro e w' ⟨rfl, rfl⟩
        go_wp2_with fail
        obtain ⟨-, q0, q1, -⟩ := hrs2.set s j
        rw [← HR.out, HG.out]
        exact bodyPost_ret (v := .agg #[.string s, .int .i64 j]) (by simp [results, Tryz.results153, go_sem, q0, q1]) rfl ⟨rfl, (HB.out.setCell (by simp) _).setCell (by simp) _⟩
    · have HG := Lib.hid (runTo_end (p := isDig) hlt)
      have hE := fun w => end_any s j w
      rw [decide_eq_true (by omega)] at hE
      have HE := Lib.hid hE
      clear hE
      go_wp2_with fail
      refine (HE.out _).mono ?_
      rintro e w1 ⟨rfl, b1⟩
      have hat1 := hat.step b1
      have hrs1 := hres.step b1
      obtain ⟨l1, d0, d1, f1⟩ := id hat1
      obtain ⟨m1, r0, r1, rf⟩ := id hrs1
      have HB := Lib.hid (hbel.trans (b1.mono hbel.size))
      go_wp2_with fail
      obtain ⟨-, q0, q1, -⟩ := hrs1.set s j
      rw [← HR.out, HG.out]
      exact bodyPost_ret (v := .agg #[.string s, .int .i64 j]) (by simp [results, Tryz.results153, go_sem, q0, q1]) rfl ⟨rfl, (HB.out.setCell (by simp) _).setCell (by simp) _⟩
end Go.Proofs.YtlcpbfklnjlgnaaGreatDoor

namespace Go.Proofs.YtlcpbfklnjlgnaaGreatDoor
open Go.RowKit Go.Extern.Stop Go.Stop Go.Extern

/-- The error of a number at a place within nothing; none, where the number is 0. -/
def ErrIs (w : World) (v : Value) (c a : Int) : Prop := (c = 0 ∧ v = .nilIface) ∨ (c ≠ 0 ∧ ∃ fb, ChainAt w (.fault fb c a) [] v)
theorem ErrIs.keep {w w' : World} {v : Value} {c a : Int} (h : ErrIs w v c a) (hb : Below w.heap.size w w') : ErrIs w' v c a :=
  h.imp id (fun ⟨h0, fb, hc⟩ => ⟨h0, fb, hc.keep hb⟩)
theorem ErrIs.nilE (w : World) (a : Int) : ErrIs w .nilIface 0 a := .inl ⟨rfl, rfl⟩
theorem ErrIs.fault {w : World} {v : Value} {c a : Int} {fb : Nat} (h0 : c ≠ 0) (h : ChainAt w (.fault fb c a) [] v) : ErrIs w v c a := .inr ⟨h0, fb, h⟩
theorem ErrIs.nil_of {w : World} {v : Value} {a : Int} (h : ErrIs w v 0 a) : v = .nilIface := h.elim (·.2) (fun h => absurd rfl h.1)

/-- The error stays where a place is stored: a fault's first cell is a number, a place's is a text. -/
theorem ErrIs.set {w : World} {v : Value} {c a : Int} {b : Nat} {k : Int} {s : ByteArray} (h : ErrIs w v c a) (hs : ScanAt w b s k) (s' : ByteArray) (z : Int) :
    ErrIs ((w.setCell ⟨b, 0, none⟩ (.string s')).setCell ⟨b, 1, none⟩ (.int .i64 z)) v c a := by
  rcases h with h | ⟨h0, fb, e, hlt, h1, h2⟩
  · exact .inl h
  · have hne : fb ≠ b := by
      rintro rfl
      rw [hs.2.1] at h1
      cases h1
    refine .inr ⟨h0, fb, e, by rw [World.size_setCell, World.size_setCell]; exact hlt, ?_, ?_⟩
    · rw [World.cell?_setCell_other _ _ _ _ (by intro e; injection e with e; exact hne e.symm), World.cell?_setCell_other _ _ _ _ (by intro e; injection e with e; exact hne e.symm)]; exact h1
    · rw [World.cell?_setCell_other _ _ _ _ (by intro e; injection e with e; exact hne e.symm), World.cell?_setCell_other _ _ _ _ (by intro e; injection e with e; exact hne e.symm)]; exact h2

theorem lawIs_err (v : Value) (c a : Int) (w : World) (h : ErrIs w v c a) (hg : Handle w) :
    Calls Tryz.prog 59 #[v, .int .i64 c, .int .i64 a] w fun e w' => e = .returned (.bool true) ∧ Below w.heap.size w w' := by
  rcases h with ⟨rfl, rfl⟩ | ⟨h0, fb, hc⟩
  · refine (lawIs_nil a w).mono ?_
    rintro e w' ⟨rfl, rfl⟩
    exact ⟨rfl, Below.refl _ _⟩
  · exact lawIs_fault fb c a h0 v w hc hg

/-- What a call answers that makes a fault, in memory. -/
def Faults (w : World) (c a : Int) (e : Ending) (w' : World) : Prop := ∃ v, e = .returned v ∧ ErrIs w' v c a ∧ Below w.heap.size w w'
theorem new_faults (c a : Int) (h0 : c ≠ 0) (w : World) : Calls Tryz.prog 28 #[.int .i64 c, .int .i64 a] w (Faults w c a) := by
  refine (new_any c a h0 w).mono ?_
  rintro e w' ⟨rfl, rfl⟩
  exact ⟨_, rfl, .fault h0 (new_chain c a w), below_alloc _ _⟩

/-- The error that a text ends, or that another byte stands there. -/
def missC (s : ByteArray) (k : Nat) : Int := if k < s.size then 4 else 3
theorem missC_ne (s : ByteArray) (k : Nat) : missC s k ≠ 0 := by unfold missC; split <;> decide

set_option maxHeartbeats 400000 in
theorem missing_any (s : ByteArray) (k : Nat) (hk : k ≤ s.size) (w : World) :
    Calls Tryz.prog 152 #[.agg #[.string s, .int .i64 k]] w (Faults w (missC s k) k) := by
  by_cases h : k < s.size
  · rw [show missC s k = 4 by unfold missC; rw [if_pos h]]
    have hE := fun w => end_any s k w
    rw [decide_eq_false (by omega)] at hE
    have HE := Lib.hid hE
    clear hE
    go_enter Tryz.func152, Tryz.ntmps152
    go_wp2_with fail
    refine (HE.out _).mono ?_
    rintro e w1 ⟨rfl, b1⟩
    have hat := (ScanAt.new w s k 192).step b1
    obtain ⟨-, c0, c1, -⟩ := hat
    go_wp2_with fail
    refine (new_faults 4 k (by decide) _).mono ?_
    rintro e w2 ⟨v, rfl, hv, b2⟩
    have HV := Lib.hid hv
    clear hv
    go_wp2_with fail
    go_ret
    exact ⟨v, rfl, HV.out, (sbelow_new _ _).trans ((b1.trans (b2.mono b1.size)).mono (by simp))⟩
  · rw [show missC s k = 3 by unfold missC; rw [if_neg h]]
    have hE := fun w => end_any s k w
    rw [decide_eq_true (by omega)] at hE
    have HE := Lib.hid hE
    clear hE
    go_enter Tryz.func152, Tryz.ntmps152
    go_wp2_with fail
    refine (HE.out _).mono ?_
    rintro e w1 ⟨rfl, b1⟩
    have hat := (ScanAt.new w s k 192).step b1
    obtain ⟨-, c0, c1, -⟩ := hat
    go_wp2_with fail
    refine (new_faults 3 k (by decide) _).mono ?_
    rintro e w2 ⟨v, rfl, hv, b2⟩
    have HV := Lib.hid hv
    clear hv
    go_wp2_with fail
    go_ret
    exact ⟨v, rfl, HV.out, (sbelow_new _ _).trans ((b1.trans (b2.mono b1.size)).mono (by simp))⟩

/-! ### New -/
set_option maxHeartbeats 400000 in
theorem scanNew_any (s : ByteArray) (h : s.size ≤ 65536) (w : World) :
    Calls Tryz.prog 130 #[.string s] w fun e w' => e = .returned (.tuple #[.agg #[.string s, .int .i64 0], .nilIface]) ∧ Below w.heap.size w w' := by
  go_enter Tryz.func130, Tryz.ntmps130
  go_wp2
  exact bodyPost_ret (v := .tuple #[.agg #[.string s, .int .i64 0], .nilIface]) (by simp [results, Tryz.results130, go_sem]) rfl ⟨rfl, sbelow_new _ _⟩

/-- A place of a text, and an error, both told. -/
def PlaceErr (w : World) (s : ByteArray) (k : Nat) (c a : Int) (e : Ending) (w' : World) : Prop :=
  ∃ v, e = .returned (.tuple #[.agg #[.string s, .int .i64 k], v]) ∧ ErrIs w' v c a ∧ Below w.heap.size w w'

set_option maxHeartbeats 400000 in
theorem scanNew_long (s : ByteArray) (h : 65536 < s.size) (hs : s.size ≤ maxLen) (w : World) :
    Calls Tryz.prog 130 #[.string s] w (PlaceErr w ⟨#[]⟩ 0 5 65536) := by
  unfold maxLen at hs
  go_enter Tryz.func130, Tryz.ntmps130
  go_wp2_with fail
  refine (new_faults 5 65536 (by decide) _).mono ?_
  rintro e w2 ⟨v, rfl, hv, b2⟩
  have hr := (ScanAt.new w ⟨#[]⟩ 0 192).step b2
  have HS := Lib.hid (hr.put ⟨#[]⟩ 0)
  have HV := Lib.hid (hv.set hr ⟨#[]⟩ 0)
  have HB := Lib.hid ((((sbelow_new w _).trans (b2.mono (by simp))).setCell (p := ⟨w.heap.size, 0, none⟩) (Nat.le_refl _) (.string ⟨#[]⟩)).setCell (p := ⟨w.heap.size, 1, none⟩) (Nat.le_refl _) (.int .i64 0))
  obtain ⟨-, c0, c1, cf⟩ := hr
  clear hv
  go_wp2_with fail
  obtain ⟨q0, q1⟩ := HS.out
  exact bodyPost_ret (v := .tuple #[.agg #[.string ⟨#[]⟩, .int .i64 0], v]) (by simp [results, Tryz.results130, go_sem, q0, q1]) rfl ⟨v, rfl, HV.out, HB.out⟩

/-! ### Skip, Take, Has -/
/-- Within a call: its own place, its result's place, and that old memory stays. -/
structure InScan (w0 : World) (s : ByteArray) (k : Nat) (w : World) : Prop where
  own : ScanAt w w0.heap.size s k
  res : ScanAt w (w0.heap.size + 1) ⟨#[]⟩ 0
  below : Below w0.heap.size w0 w
theorem InScan.step {w0 w w' : World} {s : ByteArray} {k : Nat} (h : InScan w0 s k w) (hb : Below w.heap.size w w') : InScan w0 s k w' :=
  ⟨h.own.step hb, h.res.step hb, h.below.trans (hb.mono h.below.size)⟩
theorem InScan.drew {w0 w : World} {s : ByteArray} {k : Nat} (h : InScan w0 s k w) : InScan w0 s k w.drew := ⟨h.own, h.res, h.below.drew⟩
theorem InScan.new (w : World) (s : ByteArray) (k : Nat) (t : TypeId) : InScan w s k ((w.alloc (.cells #[.string s, .int .i64 k] t)).alloc (.cells #[.string ⟨#[]⟩, .int .i64 0] t)) :=
  ⟨(ScanAt.new w s k t).step (sbelow_new _ _), by have := ScanAt.new (w.alloc (.cells #[.string s, .int .i64 k] t)) ⟨#[]⟩ 0 t; simpa using this, (sbelow_new _ _).trans ((sbelow_new _ _).mono (by simp))⟩
/-- What is behind the result's store. -/
theorem InScan.out {w0 w : World} {s : ByteArray} {k : Nat} (h : InScan w0 s k w) (z : Int) :
    (((w.setCell ⟨w0.heap.size + 1, 0, none⟩ (.string s)).setCell ⟨w0.heap.size + 1, 1, none⟩ (.int .i64 z)).cell? ⟨w0.heap.size + 1, 0, none⟩ = some (.string s) ∧ ((w.setCell ⟨w0.heap.size + 1, 0, none⟩ (.string s)).setCell ⟨w0.heap.size + 1, 1, none⟩ (.int .i64 z)).cell? ⟨w0.heap.size + 1, 1, none⟩ = some (.int .i64 z)) ∧
      Below w0.heap.size w0 ((w.setCell ⟨w0.heap.size + 1, 0, none⟩ (.string s)).setCell ⟨w0.heap.size + 1, 1, none⟩ (.int .i64 z)) :=
  ⟨h.res.put s z, (h.below.setCell (by simp) _).setCell (by simp) _⟩

/-- Where Take leads, and its error. -/
def takeK (s : ByteArray) (k : Nat) (b : Int) : Nat := if k < s.size ∧ byteI s k = b then k + 1 else k
def takeC (s : ByteArray) (k : Nat) (b : Int) : Int := if k < s.size ∧ byteI s k = b then 0 else missC s k
theorem takeK_le (s : ByteArray) (k : Nat) (b : Int) (hk : k ≤ s.size) : takeK s k b ≤ s.size := by unfold takeK; split <;> omega

/-! ### HasPrefix, Has -/
def hasPre (s p : ByteArray) : Bool := decide (p.size ≤ s.size) && ((s.extract 0 p.size).toList == p.toList)
theorem restOf_size (s : ByteArray) (k : Nat) (_hk : k ≤ s.size) : (restOf s k).size = s.size - k := by unfold restOf; simp
theorem hasPre_size {s p : ByteArray} (h : hasPre s p = true) : p.size ≤ s.size := by
  unfold hasPre at h
  simp only [Bool.and_eq_true, decide_eq_true_eq] at h
  exact h.1

/-- Where Has leads. -/
def hasK (s : ByteArray) (k : Nat) (p : ByteArray) : Nat := if hasPre (restOf s k) p then k + p.size else k
theorem hasK_le (s : ByteArray) (k : Nat) (p : ByteArray) (hk : k ≤ s.size) : hasK s k p ≤ s.size := by
  unfold hasK
  split
  · have := hasPre_size ‹_›
    rw [restOf_size s k hk] at this
    omega
  · exact hk

end Go.Proofs.YtlcpbfklnjlgnaaGreatDoor

namespace Go.Proofs.YtlcpbfklnjlgnaaGreatDoor
open Go.RowKit Go.Extern.Stop Go.Stop Go.Extern

theorem ScanAt.farPut {w : World} {b r : Nat} {s : ByteArray} {j : Int} (h : ScanAt w b s j) (hne : b ≠ r) (s' : ByteArray) (z : Int) : ScanAt ((w.setCell ⟨r, 0, none⟩ (.string s')).setCell ⟨r, 1, none⟩ (.int .i64 z)) b s j :=
  (h.far (q := ⟨r, 0, none⟩) hne _).far (q := ⟨r, 1, none⟩) hne _

/-- The document's answer on names: the place behind it, it, the error's number. -/
def nameK (s : ByteArray) (k : Nat) : Nat := if isLet (byteI s k) = true ∧ runTo isIn s k - k ≤ 32 then runTo isIn s k else k
def nameT (s : ByteArray) (k : Nat) : ByteArray := if isLet (byteI s k) = true ∧ runTo isIn s k - k ≤ 32 then s.extract k (runTo isIn s k) else ⟨#[]⟩
def nameC (s : ByteArray) (k : Nat) : Int := if isLet (byteI s k) = true then (if runTo isIn s k - k ≤ 32 then 0 else 5) else missC s k
theorem nameK_le (s : ByteArray) (k : Nat) (hk : k ≤ s.size) : nameK s k ≤ s.size := by
  unfold nameK; split
  · exact runTo_le _ _ _ hk
  · exact hk

/-- What Name answers. -/
def NameOut (w : World) (s : ByteArray) (k : Nat) (t : ByteArray) (c a : Int) (e : Ending) (w' : World) : Prop :=
  ∃ v, e = .returned (.tuple #[.agg #[.string s, .int .i64 k], .string t, v]) ∧ ErrIs w' v c a ∧ Below w.heap.size w w'

set_option maxRecDepth 100000 in
set_option maxHeartbeats 1000000 in
theorem name_none (s : ByteArray) (k : Nat) (_hs : s.size ≤ 100000) (hk : k ≤ s.size) (hl : ¬ isLet (byteI s k) = true) (w : World) :
    Calls Tryz.prog 131 #[.agg #[.string s, .int .i64 k]] w (NameOut w s k ⟨#[]⟩ (missC s k) k) := by
  obtain ⟨z, hz⟩ : ∃ z, sortI (byteI s k) = z := ⟨_, rfl⟩
  have hne : (z != 2) = true := by
    rw [← hz]
    unfold isLet at hl
    simpa [bne] using hl
  have hS := fun w => sortOf_any (byteI s k) w
  rw [hz] at hS
  have HS := Lib.hid hS
  have HP := Lib.hid (fun w => peek_any s k hk w)
  have HM := Lib.hid (fun w => missing_any s k hk w)
  generalize byteI s k = n at *
  generalize missC s k = m at *
  clear hl hz hS
  have H0 := Lib.hid (InScan.new w s k 192)
  go_enter Tryz.func131, Tryz.ntmps131
  go_wp2_with fail
  refine (HP.out _).mono ?_
  rintro e w1 ⟨rfl, b1⟩
  have H1 := Lib.hid (H0.out.step b1)
  obtain ⟨l1, c0, c1, -⟩ := H1.out.own
  go_wp2_with fail
  refine (HS.out _).mono ?_
  rintro e w' ⟨rfl, rfl⟩
  go_wp2_with fail
  have hI := H1.out.drew
  have k0 := hI.own.2.1
  have k1 := hI.own.2.2.1
  go_region_held3 (fun w' => w'.cell? ⟨w.heap.size, 0, none⟩ = some (.string s) ∧ w'.cell? ⟨w.heap.size, 1, none⟩ = some (.int .i64 k))
    (first | go_keep | exact ⟨hI.own.2.1, hI.own.2.2.1⟩)
    (first
    | (go_at_call 152; refine (HM.out _).mono ?_; rintro e w' ⟨v, rfl, hv, hb⟩; replace hI := hI.step hb; have x0 := hI.res.2.1; have x1 := hI.res.2.2.1; have xf := hI.res.2.2.2))
  go_wp2
  obtain ⟨⟨q0, q1⟩, hbl⟩ := hI.out k
  exact bodyPost_ret (v := .tuple #[.agg #[.string s, .int .i64 k], .string ⟨#[]⟩, v]) (by simp [results, Tryz.results131, go_sem, q0, q1]) rfl ⟨v, rfl, hv.set hI.res s k, hbl⟩

set_option maxRecDepth 100000 in
set_option maxHeartbeats 1000000 in
theorem name_long (s : ByteArray) (k : Nat) (hs : s.size ≤ 100000) (hk : k ≤ s.size) (hl : isLet (byteI s k) = true) (h32 : 32 < runTo isIn s k - k) (w : World) :
    Calls Tryz.prog 131 #[.agg #[.string s, .int .i64 k]] w (NameOut w s k ⟨#[]⟩ 5 k) := by
  have hS := fun w => sortOf_any (byteI s k) w
  rw [show sortI (byteI s k) = 2 by simpa [isLet] using hl] at hS
  have HS := Lib.hid hS
  have HP := Lib.hid (fun w => peek_any s k hk w)
  have HG := Lib.hid (fun w => goOn_Name1 s k hs hk w)
  have hj := runTo_le isIn s k hk
  have hj0 := le_runTo isIn s k hk
  generalize byteI s k = n at *
  generalize runTo isIn s k = j at *
  clear hl hS
  have hlong : (32 : Int) < (j : Int) - k := by omega
  have H0 := Lib.hid (InScan.new w s k 192)
  go_enter Tryz.func131, Tryz.ntmps131
  go_wp2_with fail
  refine (HP.out _).mono ?_
  rintro e w1 ⟨rfl, b1⟩
  have H1 := Lib.hid (H0.out.step b1)
  obtain ⟨l1, c0, c1, -⟩ := H1.out.own
  go_wp2_with fail
  refine (HS.out _).mono ?_
  rintro e w' ⟨rfl, rfl⟩
  go_wp2_with fail
  refine (HG.out _).mono ?_
  rintro e w2 ⟨rfl, b2⟩
  have H2 := Lib.hid (H1.out.step b2)
  have H3 := Lib.hid (H2.out.step (sbelow_new w2 (.cells #[.string s, .int .i64 j] 192)))
  obtain ⟨l2, d0, d1, -⟩ := H2.out.own
  go_wp2_with fail
  generalize w2.alloc (.cells #[.string s, .int .i64 j] 192) = w3 at *
  have hI := H3.out.drew
  have k0 := hI.own.2.1
  have k1 := hI.own.2.2.1
  go_region_held3 (fun w' => w'.cell? ⟨w.heap.size, 0, none⟩ = some (.string s) ∧ w'.cell? ⟨w.heap.size, 1, none⟩ = some (.int .i64 k))
    (first | go_keep | exact ⟨hI.own.2.1, hI.own.2.2.1⟩)
    (first
    | (go_at_call 28; refine (new_faults 5 k (by decide) _).mono ?_; rintro e w' ⟨v, rfl, hv, hb⟩; replace hI := hI.step hb; have x0 := hI.res.2.1; have x1 := hI.res.2.2.1; have xf := hI.res.2.2.2))
  go_wp2
  obtain ⟨⟨q0, q1⟩, hbl⟩ := hI.out k
  exact bodyPost_ret (v := .tuple #[.agg #[.string s, .int .i64 k], .string ⟨#[]⟩, v]) (by simp [results, Tryz.results131, go_sem, q0, q1]) rfl ⟨v, rfl, hv.set hI.res s k, hbl⟩

set_option maxRecDepth 100000 in
set_option maxHeartbeats 1000000 in
theorem name_yes (s : ByteArray) (k : Nat) (hs : s.size ≤ 100000) (hk : k ≤ s.size) (hl : isLet (byteI s k) = true) (h32 : runTo isIn s k - k ≤ 32) (w : World) :
    Calls Tryz.prog 131 #[.agg #[.string s, .int .i64 k]] w fun e w' => e = .returned (.tuple #[.agg #[.string s, .int .i64 (runTo isIn s k)], .string (s.extract k (runTo isIn s k)), .nilIface]) ∧ Below w.heap.size w w' := by
  have hS := fun w => sortOf_any (byteI s k) w
  rw [show sortI (byteI s k) = 2 by simpa [isLet] using hl] at hS
  have HS := Lib.hid hS
  have HP := Lib.hid (fun w => peek_any s k hk w)
  have HG := Lib.hid (fun w => goOn_Name1 s k hs hk w)
  have hj := runTo_le isIn s k hk
  have hj0 := le_runTo isIn s k hk
  generalize byteI s k = n at *
  generalize runTo isIn s k = j at *
  have HU := Lib.hid (fun w => upTo_any s k j hj0 hj w)
  generalize s.extract k j = t at *
  clear hl hS
  have hshort : ¬ (32 : Int) < (j : Int) - k := by omega
  have H0 := Lib.hid (InScan.new w s k 192)
  go_enter Tryz.func131, Tryz.ntmps131
  go_wp2_with fail
  refine (HP.out _).mono ?_
  rintro e w1 ⟨rfl, b1⟩
  have H1 := Lib.hid (H0.out.step b1)
  obtain ⟨l1, c0, c1, -⟩ := H1.out.own
  go_wp2_with fail
  refine (HS.out _).mono ?_
  rintro e w' ⟨rfl, rfl⟩
  go_wp2_with fail
  refine (HG.out _).mono ?_
  rintro e w2 ⟨rfl, b2⟩
  have H2 := Lib.hid (H1.out.step b2)
  have H3 := Lib.hid (H2.out.step (sbelow_new w2 (.cells #[.string s, .int .i64 j] 192)))
  have HN3 := Lib.hid (ScanAt.new w2 s j 192)
  have hne : w2.heap.size ≠ w.heap.size + 1 := by have := H2.out.res.1; omega
  obtain ⟨l2, d0, d1, -⟩ := H2.out.own
  go_wp2_with fail
  generalize w2.alloc (.cells #[.string s, .int .i64 j] 192) = w3 at *
  generalize w2.heap.size = q at *
  have hI := H3.out.drew
  have hN : ScanAt w3.drew q s j := HN3.out
  have k0 := hI.own.2.1
  have k1 := hI.own.2.2.1
  have n0 := hN.2.1
  have n1 := hN.2.2.1
  have hne' := hne.symm
  go_region_held3 (fun w' => w'.cell? ⟨w.heap.size, 0, none⟩ = some (.string s) ∧ w'.cell? ⟨w.heap.size, 1, none⟩ = some (.int .i64 k) ∧ w'.cell? ⟨q, 0, none⟩ = some (.string s) ∧ w'.cell? ⟨q, 1, none⟩ = some (.int .i64 j))
    (first | go_keep | exact ⟨hI.own.2.1, hI.own.2.2.1, hN.2.1, hN.2.2.1⟩)
    (first
    | (go_at_call 155; refine (HU.out _).mono ?_; rintro e w' ⟨rfl, hb⟩; replace hI := hI.step hb; replace hN := hN.step hb; have x0 := hI.res.2.1; have x1 := hI.res.2.2.1; have xf := hI.res.2.2.2))
  go_wp2
  obtain ⟨⟨q0, q1⟩, hbl⟩ := hI.out j
  exact bodyPost_ret (v := .tuple #[.agg #[.string s, .int .i64 j], .string t, .nilIface]) (by simp [results, Tryz.results131, go_sem, q0, q1]) rfl ⟨rfl, hbl⟩

theorem name_any (s : ByteArray) (k : Nat) (hs : s.size ≤ 100000) (hk : k ≤ s.size) (w : World) :
    Calls Tryz.prog 131 #[.agg #[.string s, .int .i64 k]] w (NameOut w s (nameK s k) (nameT s k) (nameC s k) (nameK s k)) := by
  by_cases hl : isLet (byteI s k) = true
  · by_cases h32 : runTo isIn s k - k ≤ 32
    · unfold nameK nameT nameC
      rw [if_pos ⟨hl, h32⟩, if_pos ⟨hl, h32⟩, if_pos hl, if_pos h32]
      refine (name_yes s k hs hk hl h32 w).mono ?_
      rintro e w' ⟨rfl, hb⟩
      exact ⟨_, rfl, .nilE _ _, hb⟩
    · unfold nameK nameT nameC
      rw [if_neg (fun h => h32 h.2), if_neg (fun h => h32 h.2), if_pos hl, if_neg h32]
      exact name_long s k hs hk hl (by omega) w
  · unfold nameK nameT nameC
    rw [if_neg (fun h => hl h.1), if_neg (fun h => hl h.1), if_neg hl]
    exact name_none s k hs hk hl w

/-! ### Number -/
/-- The document's answer on numbers. -/
def digsR (s : ByteArray) (k : Nat) : Int × Int × Int := parseR (s.extract k (runTo isDig s k)).data.toList
def numK (s : ByteArray) (k : Nat) : Nat := if runTo isDig s k = k then k else if (digsR s k).2.1 = 0 then runTo isDig s k else k
def numN (s : ByteArray) (k : Nat) : Int := if runTo isDig s k = k then 0 else if (digsR s k).2.1 = 0 then (digsR s k).1 else 0
def numC (s : ByteArray) (k : Nat) : Int := if runTo isDig s k = k then missC s k else (digsR s k).2.1
theorem numK_le (s : ByteArray) (k : Nat) (hk : k ≤ s.size) : numK s k ≤ s.size := by
  unfold numK; split
  · exact hk
  · split
    · exact runTo_le _ _ _ hk
    · exact hk

/-- What Number answers. -/
def NumOut (w : World) (s : ByteArray) (k : Nat) (n c a : Int) (e : Ending) (w' : World) : Prop :=
  ∃ v, e = .returned (.tuple #[.agg #[.string s, .int .i64 k], .int .u64 n, v]) ∧ ErrIs w' v c a ∧ Below w.heap.size w w'

set_option maxRecDepth 100000 in
set_option maxHeartbeats 1000000 in
theorem number_none (s : ByteArray) (k : Nat) (hs : s.size ≤ 100000) (hk : k ≤ s.size) (hj : runTo isDig s k = k) (w : World) :
    Calls Tryz.prog 132 #[.agg #[.string s, .int .i64 k]] w (NumOut w s k 0 (missC s k) k) := by
  have hG := fun w => goOn_Number1 s k hs hk w
  rw [hj] at hG
  have HG := Lib.hid hG
  have HM := Lib.hid (fun w => missing_any s k hk w)
  generalize missC s k = m at *
  clear hj hG
  have H0 := Lib.hid (InScan.new w s k 192)
  go_enter Tryz.func132, Tryz.ntmps132
  go_wp2_with fail
  refine (HG.out _).mono ?_
  rintro e w2 ⟨rfl, b2⟩
  have H2 := Lib.hid (H0.out.step b2)
  have H3 := Lib.hid (H2.out.step (sbelow_new w2 (.cells #[.string s, .int .i64 k] 192)))
  obtain ⟨l2, d0, d1, -⟩ := H2.out.own
  go_wp2_with fail
  generalize w2.alloc (.cells #[.string s, .int .i64 k] 192) = w3 at *
  have hI := H3.out.drew
  have k0 := hI.own.2.1
  have k1 := hI.own.2.2.1
  go_region_held3 (fun w' => w'.cell? ⟨w.heap.size, 0, none⟩ = some (.string s) ∧ w'.cell? ⟨w.heap.size, 1, none⟩ = some (.int .i64 k))
    (first | go_keep | exact ⟨hI.own.2.1, hI.own.2.2.1⟩)
    (first
    | (go_at_call 152; refine (HM.out _).mono ?_; rintro e w' ⟨v, rfl, hv, hb⟩; replace hI := hI.step hb; have x0 := hI.res.2.1; have x1 := hI.res.2.2.1; have xf := hI.res.2.2.2))
  go_wp2
  obtain ⟨⟨q0, q1⟩, hbl⟩ := hI.out k
  exact bodyPost_ret (v := .tuple #[.agg #[.string s, .int .i64 k], .int .u64 0, v]) (by simp [results, Tryz.results132, go_sem, q0, q1]) rfl ⟨v, rfl, hv.set hI.res s k, hbl⟩

set_option maxRecDepth 100000 in
set_option maxHeartbeats 1000000 in
theorem number_yes (s : ByteArray) (k : Nat) (hs : s.size ≤ 100000) (hk : k ≤ s.size) (hj : runTo isDig s k ≠ k) (hc : (digsR s k).2.1 = 0) (w : World) :
    Calls Tryz.prog 132 #[.agg #[.string s, .int .i64 k]] w fun e w' => e = .returned (.tuple #[.agg #[.string s, .int .i64 (runTo isDig s k)], .int .u64 (digsR s k).1, .nilIface]) ∧ Below w.heap.size w w' := by
  have hP : ∀ w, Calls Tryz.prog 129 #[.string (s.extract k (runTo isDig s k))] w fun e w' => e = .returned (.tuple #[.int .u64 (digsR s k).1, .nilIface]) ∧ w = w' := fun w =>
    (parse_any (s.extract k (runTo isDig s k)) w (by have := runTo_le isDig s k hk; unfold maxLen; simp; omega)).mono (by
      rintro e w' (⟨-, rfl, rfl⟩ | ⟨h, -⟩)
      · exact ⟨rfl, rfl⟩
      · exact absurd hc h)
  have HP := Lib.hid hP
  have HG := Lib.hid (fun w => goOn_Number1 s k hs hk w)
  have hj1 := runTo_le isDig s k hk
  have hj0 := le_runTo isDig s k hk
  generalize (digsR s k).1 = n at *
  generalize runTo isDig s k = j at *
  have HU := Lib.hid (fun w => upTo_any s k j hj0 hj1 w)
  generalize s.extract k j = t at *
  have hjb : ((j : Int) == (k : Int)) = false := by rw [beq_eq_false_iff_ne]; omega
  clear hP hc hj
  have H0 := Lib.hid (InScan.new w s k 192)
  go_enter Tryz.func132, Tryz.ntmps132
  go_wp2_with fail
  refine (HG.out _).mono ?_
  rintro e w2 ⟨rfl, b2⟩
  have H2 := Lib.hid (H0.out.step b2)
  have H3 := Lib.hid (H2.out.step (sbelow_new w2 (.cells #[.string s, .int .i64 j] 192)))
  have HN3 := Lib.hid (ScanAt.new w2 s j 192)
  obtain ⟨l2, d0, d1, -⟩ := H2.out.own
  go_wp2_with fail
  generalize w2.alloc (.cells #[.string s, .int .i64 j] 192) = w3 at *
  generalize w2.heap.size = q at *
  refine (HU.out _).mono ?_
  rintro e w4 ⟨rfl, b4⟩
  have H4 := Lib.hid (H3.out.step b4)
  have HN4 := Lib.hid (HN3.out.step b4)
  go_wp2_with fail
  refine (HP.out _).mono ?_
  rintro e w' ⟨rfl, rfl⟩
  obtain ⟨-, n0, n1, -⟩ := HN4.out
  obtain ⟨-, x0, x1, xf⟩ := H4.out.res
  go_wp2_with fail
  obtain ⟨⟨q0, q1⟩, hbl⟩ := H4.out.out j
  exact bodyPost_ret (v := .tuple #[.agg #[.string s, .int .i64 j], .int .u64 n, .nilIface]) (by simp [results, Tryz.results132, go_sem, q0, q1]) rfl ⟨rfl, hbl⟩

set_option maxRecDepth 100000 in
set_option maxHeartbeats 1000000 in
theorem number_bad (s : ByteArray) (k : Nat) (hs : s.size ≤ 100000) (hk : k ≤ s.size) (hj : runTo isDig s k ≠ k) (hc : (digsR s k).2.1 ≠ 0) (w : World) (hg : Handle w) :
    Calls Tryz.prog 132 #[.agg #[.string s, .int .i64 k]] w (NumOut w s k 0 (digsR s k).2.1 k) := by
  have hP : ∀ w, Calls Tryz.prog 129 #[.string (s.extract k (runTo isDig s k))] w fun e w' => e = .returned (.tuple #[.int .u64 (digsR s k).1, .iface 99 (.pointer (some ⟨w.heap.size, 0, none⟩))]) ∧
      ChainAt w' (.fault w.heap.size (digsR s k).2.1 (digsR s k).2.2) [] (.iface 99 (.pointer (some ⟨w.heap.size, 0, none⟩))) ∧ Below w.heap.size w w' := fun w =>
    (parse_any (s.extract k (runTo isDig s k)) w (by have := runTo_le isDig s k hk; unfold maxLen; simp; omega)).mono (by
      rintro e w' (⟨h, -⟩ | ⟨h, rfl, rfl⟩)
      · exact absurd h hc
      · exact ⟨rfl, new_chain _ _ w, below_alloc _ _⟩)
  have HP := Lib.hid hP
  have HG := Lib.hid (fun w => goOn_Number1 s k hs hk w)
  have HNW := Lib.hid (fun w => new_faults (digsR s k).2.1 k hc w)
  have hj1 := runTo_le isDig s k hk
  have hj0 := le_runTo isDig s k hk
  generalize (digsR s k).1 = n at *
  generalize (digsR s k).2.1 = c at *
  generalize (digsR s k).2.2 = a at *
  generalize runTo isDig s k = j at *
  have HU := Lib.hid (fun w => upTo_any s k j hj0 hj1 w)
  generalize s.extract k j = t at *
  have hjb : ((j : Int) == (k : Int)) = false := by rw [beq_eq_false_iff_ne]; omega
  clear hP hc hj
  have H0 := Lib.hid (InScan.new w s k 192)
  go_enter Tryz.func132, Tryz.ntmps132
  go_wp2_with fail
  refine (HG.out _).mono ?_
  rintro e w2 ⟨rfl, b2⟩
  have H2 := Lib.hid (H0.out.step b2)
  have H3 := Lib.hid (H2.out.step (sbelow_new w2 (.cells #[.string s, .int .i64 j] 192)))
  have HN3 := Lib.hid (ScanAt.new w2 s j 192)
  obtain ⟨l2, d0, d1, -⟩ := H2.out.own
  go_wp2_with fail
  generalize w2.alloc (.cells #[.string s, .int .i64 j] 192) = w3 at *
  generalize w2.heap.size = q at *
  refine (HU.out _).mono ?_
  rintro e w4 ⟨rfl, b4⟩
  have H4 := Lib.hid (H3.out.step b4)
  go_wp2_with fail
  refine (HP.out _).mono ?_
  rintro e w5 ⟨rfl, hch, b5⟩
  have H5 := Lib.hid (H4.out.step b5)
  have HC5 := Lib.hid hch
  have hg5' : Handle w5 := hg.below H5.out.below
  have hg5 : Handle w5.drew := hg5'
  clear hch
  generalize w4.heap.size = fb at *
  go_wp2_with fail
  have hI := H5.out.drew
  have hC : ChainAt w5.drew (.fault fb c a) [] (.iface 99 (.pointer (some ⟨fb, 0, none⟩))) := HC5.out
  have k0 := hI.own.2.1
  have k1 := hI.own.2.2.1
  go_region_held3 (fun w' => w'.cell? ⟨w.heap.size, 0, none⟩ = some (.string s) ∧ w'.cell? ⟨w.heap.size, 1, none⟩ = some (.int .i64 k))
    (first | go_keep | exact ⟨hI.own.2.1, hI.own.2.2.1⟩)
    (first
    | (go_at_call 23; refine (code_some _ c rfl _ _ _ hC hg5).mono ?_; rintro e w' ⟨rfl, hb⟩; replace hI := hI.step hb)
    | (go_at_call 28; refine (HNW.out _).mono ?_; rintro e w' ⟨v, rfl, hv, hb⟩; replace hI := hI.step hb; have x0 := hI.res.2.1; have x1 := hI.res.2.2.1; have xf := hI.res.2.2.2))
  go_wp2
  obtain ⟨⟨q0, q1⟩, hbl⟩ := hI.out k
  exact bodyPost_ret (v := .tuple #[.agg #[.string s, .int .i64 k], .int .u64 0, v]) (by simp [results, Tryz.results132, go_sem, q0, q1]) rfl ⟨v, rfl, hv.set hI.res s k, hbl⟩

theorem number_any (s : ByteArray) (k : Nat) (hs : s.size ≤ 100000) (hk : k ≤ s.size) (w : World) (hg : Handle w) :
    Calls Tryz.prog 132 #[.agg #[.string s, .int .i64 k]] w (NumOut w s (numK s k) (numN s k) (numC s k) (numK s k)) := by
  unfold numK numN numC
  by_cases hj : runTo isDig s k = k
  · rw [if_pos hj, if_pos hj, if_pos hj]
    exact number_none s k hs hk hj w
  · rw [if_neg hj, if_neg hj, if_neg hj]
    by_cases hc : (digsR s k).2.1 = 0
    · rw [if_pos hc, if_pos hc, hc]
      refine (number_yes s k hs hk hj hc w).mono ?_
      rintro e w' ⟨rfl, hb⟩
      exact ⟨_, rfl, .nilE _ _, hb⟩
    · rw [if_neg hc, if_neg hc]
      exact number_bad s k hs hk hj hc w hg
end Go.Proofs.YtlcpbfklnjlgnaaGreatDoor

namespace Go.Proofs.YtlcpbfklnjlgnaaGreatDoor
open Go.RowKit Go.Extern.Stop Go.Stop Go.Extern

theorem sbelow_drewN (w : World) (n : Nat) : Below w.heap.size w (w.drewN n) := ⟨rfl, rfl, rfl, Nat.le_refl _, fun _ _ => rfl⟩

/-- Is a text a name? -/
def isNameR (s : ByteArray) : Bool := (nameC s 0 == 0) && (nameK s 0 == s.size)
def isNameB (s : ByteArray) : Bool := decide (s.size ≤ 65536) && isNameR s
theorem isNameB_eq {s : ByteArray} (h : s.size ≤ 65536) : isNameB s = isNameR s := by unfold isNameB; rw [decide_eq_true h]; rfl

theorem ErrIs.ptr {w : World} {v : Value} {c a : Int} (h : ErrIs w v c a) (h0 : c ≠ 0) : ∃ fb, v = .iface 99 (.pointer (some ⟨fb, 0, none⟩)) := by
  rcases h with ⟨rfl, -⟩ | ⟨-, fb, e, -⟩
  · exact absurd rfl h0
  · exact ⟨fb, e⟩

set_option maxRecDepth 100000 in
set_option maxHeartbeats 1000000 in
theorem isName_long (s : ByteArray) (hs : s.size ≤ maxLen) (h : 65536 < s.size) (w : World) :
    Calls Tryz.prog 160 #[.string s] w fun e w' => e = .returned (.bool false) ∧ Below w.heap.size w w' := by
  have HN := Lib.hid (fun w => scanNew_long s h hs w)
  clear h hs
  go_enter Tryz.func160, Tryz.ntmps160
  go_wp2_with fail
  refine (HN.out _).mono ?_
  rintro e w1 ⟨v, rfl, hv, b1⟩
  obtain ⟨fb, rfl⟩ := hv.ptr (by decide)
  clear hv
  go_wp2_with fail
  go_ret
  exact ⟨rfl, b1.trans ((sbelow_new _ _).mono b1.size)⟩

set_option maxRecDepth 100000 in
set_option maxHeartbeats 1000000 in
theorem isName_short (s : ByteArray) (h : s.size ≤ 65536) (w : World) :
    Calls Tryz.prog 160 #[.string s] w fun e w' => e = .returned (.bool (isNameR s)) ∧ Below w.heap.size w w' := by
  have HN := Lib.hid (fun w => scanNew_any s h w)
  have HA := Lib.hid (fun w => name_any s 0 (by omega) (Nat.zero_le _) w)
  have hkl := nameK_le s 0 (Nat.zero_le _)
  unfold isNameR
  generalize nameK s 0 = k at *
  generalize nameC s 0 = c at *
  generalize nameT s 0 = t at *
  have HE := Lib.hid (fun w => end_any s k w)
  by_cases hc : c = 0
  · subst hc
    have HB := Lib.hid (show ((0 : Int) == 0 && (k == s.size)) = decide (k = s.size) by rw [show ((0 : Int) == 0) = true from rfl, Bool.true_and, Bool.eq_iff_iff]; simp)
    rw [HB.out]
    clear HB
    generalize decide (k = s.size) = b at *
    go_enter Tryz.func160, Tryz.ntmps160
    go_wp2_with fail
    refine (HN.out _).mono ?_
    rintro e w1 ⟨rfl, b1⟩
    have hs1 := ScanAt.new w1 s 0 192
    have HB1 := Lib.hid (b1.trans ((sbelow_new w1 (.cells #[.string s, .int .i64 0] 192)).mono b1.size))
    have HL := Lib.hid b1.size
    go_wp2_with fail
    generalize w1.alloc (.cells #[.string s, .int .i64 0] 192) = w2 at *
    generalize w1.heap.size = q at *
    refine (HA.out _).mono ?_
    rintro e w3 ⟨v, rfl, hv, b3⟩
    obtain rfl := hv.nil_of
    have hs3 := hs1.step b3
    have hs4 := hs3.set s k
    have HB3 := Lib.hid (((HB1.out.trans (b3.mono HB1.out.size)).setCell (p := ⟨q, 0, none⟩) HL.out (.string s)).setCell (p := ⟨q, 1, none⟩) HL.out (.int .i64 k))
    clear hs1
    obtain ⟨l3, c0, c1, cf⟩ := hs3
    obtain ⟨l4, d0, d1, df⟩ := hs4
    go_wp2_with fail
    refine (HE.out _).mono ?_
    rintro e w5 ⟨rfl, b5⟩
    go_wp2_with fail
    go_ret
    exact ⟨rfl, HB3.out.trans (b5.mono HB3.out.size)⟩
  · have HB := Lib.hid (show ((c == 0) && (k == s.size)) = false by rw [show (c == 0) = false by simpa using hc]; rfl)
    rw [HB.out]
    clear HB
    go_enter Tryz.func160, Tryz.ntmps160
    go_wp2_with fail
    refine (HN.out _).mono ?_
    rintro e w1 ⟨rfl, b1⟩
    have hs1 := ScanAt.new w1 s 0 192
    have HB1 := Lib.hid (b1.trans ((sbelow_new w1 (.cells #[.string s, .int .i64 0] 192)).mono b1.size))
    have HL := Lib.hid b1.size
    go_wp2_with fail
    generalize w1.alloc (.cells #[.string s, .int .i64 0] 192) = w2 at *
    generalize w1.heap.size = q at *
    refine (HA.out _).mono ?_
    rintro e w3 ⟨v, rfl, hv, b3⟩
    obtain ⟨fb, rfl⟩ := hv.ptr hc
    clear hv
    have hs3 := hs1.step b3
    have HB3 := Lib.hid (((HB1.out.trans (b3.mono HB1.out.size)).setCell (p := ⟨q, 0, none⟩) HL.out (.string s)).setCell (p := ⟨q, 1, none⟩) HL.out (.int .i64 k))
    clear hs1
    obtain ⟨l3, c0, c1, cf⟩ := hs3
    go_wp2_with fail
    go_ret
    exact ⟨rfl, HB3.out⟩

theorem isName_any (s : ByteArray) (hs : s.size ≤ maxLen) (w : World) :
    Calls Tryz.prog 160 #[.string s] w fun e w' => e = .returned (.bool (isNameB s)) ∧ Below w.heap.size w w' := by
  by_cases h : s.size ≤ 65536
  · rw [isNameB_eq h]; exact isName_short s h w
  · rw [show isNameB s = false by unfold isNameB; rw [decide_eq_false h]; rfl]
    exact isName_long s hs (by omega) w

/-! ### The reference -/
set_option maxHeartbeats 400000 in
theorem rfails_any (s : ByteArray) (k : Nat) (w : World) :
    Calls Tryz.prog 69 #[.string s, .int .i64 k] w fun e w' => e = .returned (.int .i64 (missC s k)) ∧ w = w' := by
  unfold missC
  by_cases h : k < s.size
  · rw [if_pos h]
    go_enter Tryz.func69, Tryz.ntmps69
    go_wp2
    go_ret
    exact ⟨rfl, rfl⟩
  · rw [if_neg h]
    go_enter Tryz.func69, Tryz.ntmps69
    go_wp2
    go_ret
    exact ⟨rfl, rfl⟩

/-- What the reference's Name answers. -/
def RefName (w : World) (s : ByteArray) (k : Nat) (e : Ending) (w' : World) : Prop :=
  e = .returned (.tuple #[.int .i64 (nameK s k), .string (nameT s k), .int .i64 (nameC s k)]) ∧ Below w.heap.size w w'

set_option maxRecDepth 100000 in
set_option maxHeartbeats 1000000 in
theorem rname_any (s : ByteArray) (k : Nat) (hs : s.size ≤ 100000) (hk : k ≤ s.size) (w : World) :
    Calls Tryz.prog 40 #[.string s, .int .i64 k] w (RefName w s k) := by
  have HF := Lib.hid (fun w => rfails_any s k w)
  by_cases hlt : k < s.size
  · have hdk : decide (s.size ≤ k) = false := decide_eq_false (by omega)
    by_cases hl : isLet (byteI s k) = true
    · have hL := fun w => rletter_any (s[k].toNat : Int) w
      rw [← byteI_lt hlt, hl, byteI_lt hlt] at hL
      have HL := Lib.hid hL
      have HR := Lib.hid (show ∀ e w', (if runTo isIn s k - k ≤ 32 then e = .returned (.tuple #[.int .i64 (runTo isIn s k), .string (s.extract k (runTo isIn s k)), .int .i64 0]) else e = .returned (.tuple #[.int .i64 k, .string ⟨#[]⟩, .int .i64 5])) ∧ Below w.heap.size w w' → RefName w s k e w' by
        intro e w' ⟨h, hb⟩
        unfold RefName nameK nameT nameC
        by_cases h32 : runTo isIn s k - k ≤ 32
        · rw [if_pos h32] at h
          rw [if_pos ⟨hl, h32⟩, if_pos ⟨hl, h32⟩, if_pos hl, if_pos h32]
          exact ⟨h, hb⟩
        · rw [if_neg h32] at h
          rw [if_neg (fun h => h32 h.2), if_neg (fun h => h32 h.2), if_pos hl, if_neg h32]
          exact ⟨h, hb⟩)
      clear hl hL
      go_enter Tryz.func40, Tryz.ntmps40
      go_wp2_with fail
      refine (HL.out _).mono ?_
      rintro e w' ⟨rfl, rfl⟩
      go_wp2_with fail
      go_loop [7] (fun i => ∃ j : Nat, k ≤ j ∧ j ≤ s.size ∧ i = .int .i64 j ∧ runTo isIn s j = runTo isIn s k) (fun i => s.size - (intOf i).toNat)
      case atStart => exact ⟨k, Nat.le_refl _, hk, rfl, rfl⟩
      case round =>
        obtain ⟨j, hkj, hj, rfl, hrun⟩ := hrel
        have HRU := Lib.hid hrun
        clear hrun
        by_cases hlt2 : j < s.size
        · by_cases hb : isIn (s[j].toNat : Int) = true
          · have HG := Lib.hid (runTo_go hlt2 hb)
            have hI := fun w => rin_any (s[j].toNat : Int) w
            rw [hb] at hI
            have HI := Lib.hid hI
            clear hb hI
            go_wp2_with fail
            refine (HI.out _).mono ?_
            rintro e w' ⟨rfl, rfl⟩
            go_wp2_with fail
            go_round
            case rel => exact ⟨j + 1, by omega, by omega, by go_num, HG.out.symm.trans HRU.out⟩
            case measure => simp [intOf]; omega
          · have HG := Lib.hid ((runTo_stop hlt2 (by simpa using hb)).symm.trans HRU.out)
            have hI := fun w => rin_any (s[j].toNat : Int) w
            rw [show isIn (s[j].toNat : Int) = false by simpa using hb] at hI
            have HI := Lib.hid hI
            clear hb hI
            by_cases h32 : (32 : Int) < (j : Int) - k
            · go_wp2_with fail
              refine (HI.out _).mono ?_
              rintro e w' ⟨rfl, rfl⟩
              go_wp2_with fail
              go_ret3
              exact HR.out _ _ ⟨by rw [← HG.out, if_neg (by omega)]; rfl, Below.refl _ _⟩
            · go_wp2_with fail
              refine (HI.out _).mono ?_
              rintro e w' ⟨rfl, rfl⟩
              go_wp2_with fail
              go_quiet (fail)
              go_wp2
              go_ret3
              exact HR.out _ _ ⟨by rw [← HG.out, if_pos (by omega)]; rfl, sbelow_drewN _ _⟩
        · have HG := Lib.hid ((runTo_end (p := isIn) hlt2).symm.trans HRU.out)
          by_cases h32 : (32 : Int) < (j : Int) - k
          · go_wp2_with fail
            go_ret3
            exact HR.out _ _ ⟨by rw [← HG.out, if_neg (by omega)]; rfl, Below.refl _ _⟩
          · go_wp2_with fail
            go_quiet (fail)
            go_wp2
            go_ret3
            exact HR.out _ _ ⟨by rw [← HG.out, if_pos (by omega)]; rfl, sbelow_drewN _ _⟩
    · have hL := fun w => rletter_any (s[k].toNat : Int) w
      rw [← byteI_lt hlt, show isLet (byteI s k) = false by simpa using hl, byteI_lt hlt] at hL
      have HL := Lib.hid hL
      have HR := Lib.hid (show ∀ e w', e = .returned (.tuple #[.int .i64 k, .string ⟨#[]⟩, .int .i64 (missC s k)]) ∧ Below w.heap.size w w' → RefName w s k e w' by
        intro e w' h
        unfold RefName nameK nameT nameC
        rw [if_neg (fun h => hl h.1), if_neg (fun h => hl h.1), if_neg hl]
        exact h)
      generalize missC s k = m at *
      clear hl hL
      go_enter Tryz.func40, Tryz.ntmps40
      go_wp2_with fail
      refine (HL.out _).mono ?_
      rintro e w' ⟨rfl, rfl⟩
      go_wp2_with fail
      refine (HF.out _).mono ?_
      rintro e w' ⟨rfl, rfl⟩
      go_wp2_with fail
      go_ret3
      exact HR.out _ _ ⟨rfl, Below.refl _ _⟩
  · have hl : ¬ isLet (byteI s k) = true := by rw [byteI_ge hlt]; decide
    have HR := Lib.hid (show ∀ e w', e = .returned (.tuple #[.int .i64 k, .string ⟨#[]⟩, .int .i64 (missC s k)]) ∧ Below w.heap.size w w' → RefName w s k e w' by
      intro e w' h
      unfold RefName nameK nameT nameC
      rw [if_neg (fun h => hl h.1), if_neg (fun h => hl h.1), if_neg hl]
      exact h)
    generalize missC s k = m at *
    clear hl
    go_enter Tryz.func40, Tryz.ntmps40
    go_wp2_with fail
    refine (HF.out _).mono ?_
    rintro e w' ⟨rfl, rfl⟩
    go_wp2_with fail
    go_ret3
    exact HR.out _ _ ⟨rfl, Below.refl _ _⟩
end Go.Proofs.YtlcpbfklnjlgnaaGreatDoor

namespace Go.Proofs.YtlcpbfklnjlgnaaGreatDoor
open Go.RowKit Go.Extern.Stop Go.Stop Go.Extern

set_option maxRecDepth 100000 in
set_option maxHeartbeats 1000000 in
theorem risName_any (s : ByteArray) (hs : s.size ≤ 100000) (w : World) :
    Calls Tryz.prog 18 #[.string s] w fun e w' => e = .returned (.bool (isNameR s)) ∧ Below w.heap.size w w' := by
  have HN := Lib.hid (show ∀ w, Calls Tryz.prog 40 #[.string s, .int .i64 0] w _ from fun w => rname_any s 0 hs (Nat.zero_le _) w)
  unfold RefName at HN
  unfold isNameR
  generalize nameK s 0 = k at *
  generalize nameC s 0 = c at *
  generalize nameT s 0 = t at *
  by_cases hc : c = 0
  · subst hc
    go_enter Tryz.func18, Tryz.ntmps18
    go_wp2_with fail
    refine (HN.out _).mono ?_
    rintro e w1 ⟨rfl, b1⟩
    go_wp2_with fail
    go_ret
    exact ⟨ret_b (by rw [Bool.eq_iff_iff]; simp; omega), b1⟩
  · have hcb : (c == 0) = false := by simpa using hc
    rw [hcb, Bool.false_and]
    go_enter Tryz.func18, Tryz.ntmps18
    go_wp2_with fail
    refine (HN.out _).mono ?_
    rintro e w1 ⟨rfl, b1⟩
    go_wp2_with fail
    go_ret
    exact ⟨rfl, b1⟩
end Go.Proofs.YtlcpbfklnjlgnaaGreatDoor

namespace Go.Proofs.YtlcpbfklnjlgnaaGreatDoor
open Go.RowKit Go.Extern.Stop Go.Stop Go.Extern

theorem parse_05 (w : World) : Calls Tryz.prog 129 #[.string ⟨#[48, 53]⟩] w fun e w' =>
    e = .returned (.tuple #[.int .u64 0, .iface 99 (.pointer (some ⟨w.heap.size, 0, none⟩))]) ∧ w' = w.alloc (.cells #[.int .i64 4, .int .i64 0] 102) := by
  refine (parse_any ⟨#[48, 53]⟩ w (by decide)).mono ?_
  have hR : parseR (ByteArray.mk #[48, 53]).data.toList = (0, 4, 0) := by decide
  rw [hR]
  rintro e w' (⟨h, -⟩ | ⟨-, h⟩)
  · exact absurd h (by decide)
  · exact h
theorem parse_50 (w : World) : Calls Tryz.prog 129 #[.string ⟨#[53, 48]⟩] w fun e w' =>
    e = .returned (.tuple #[.int .u64 50, .nilIface]) ∧ w' = w := by
  refine (parse_any ⟨#[53, 48]⟩ w (by decide)).mono ?_
  have hR : parseR (ByteArray.mk #[53, 48]).data.toList = (50, 0, 0) := by decide
  rw [hR]
  rintro e w' (⟨-, h⟩ | ⟨h, -⟩)
  · exact h
  · exact absurd rfl h

set_option maxRecDepth 100000 in
set_option maxHeartbeats 1600000 in
theorem awake2_any (w : World) (hg : Handle w) :
    Calls Tryz.prog 103 #[] w fun e w' => e = .returned (.bool true) ∧ Below w.heap.size w w' := by
  have b1 := below_alloc w (.cells #[.int .i64 4, .int .i64 0] 102)
  have c1 := new_chain 4 0 w
  have H05 := Lib.hid (parse_05 w)
  obtain ⟨w1, hw1⟩ : ∃ w1, w1 = w.alloc (.cells #[.int .i64 4, .int .i64 0] 102) := ⟨_, rfl⟩
  rw [← hw1] at b1 c1 H05
  have HW := Lib.hid hw1
  clear hw1
  have HC := Lib.hid c1
  clear c1
  have ha : addI 9223372036854775807 5 = 9223372036854775807 := by decide
  go_enter Tryz.func103, Tryz.ntmps103
  go_wp2_with fail
  refine H05.out.mono ?_
  rintro e w' ⟨rfl, rfl⟩
  go_wp2_with fail
  refine (parse_50 _).mono ?_
  rintro e w' ⟨rfl, rfl⟩
  have g1 := hg.below b1
  go_wp2_with fail
  refine (Awake1_any _ g1).mono ?_
  rintro e w2 ⟨rfl, b2⟩
  go_wp2_with fail
  refine (add_any _ _ (by decide) (by decide) _).mono ?_
  rintro e w' ⟨rfl, rfl⟩
  go_wp2_with fail
  refine (lawIs_fault _ 4 0 (by decide) _ _ (HC.out.keep b2) (g1.below b2)).mono ?_
  rintro e w3 ⟨rfl, b3⟩
  go_wp2_with fail
  go_ret
  exact ⟨rfl, b1.trans ((b2.trans (b3.mono b2.size)).mono b1.size)⟩

theorem Awake2_any (w : World) (hg : Handle w) :
    Calls Tryz.prog 62 #[] w fun e w' => e = .returned (.bool true) ∧ Below w.heap.size w w' := by
  go_enter Tryz.func62, Tryz.ntmps62
  go_wp2_with (go_at_call 103; refine (awake2_any _ hg).mono ?_; rintro e w' ⟨rfl, hb⟩)
  go_ret
  exact ⟨rfl, hb⟩
end Go.Proofs.YtlcpbfklnjlgnaaGreatDoor

namespace Go.Proofs.YtlcpbfklnjlgnaaGreatDoor
open Go.RowKit Go.Extern.Stop Go.Stop Go.Extern

def ab1c : ByteArray := ⟨#[97, 98, 45, 49, 32, 99]⟩
def s07 : ByteArray := ⟨#[48, 55]⟩
theorem run_ab1c : runTo isIn ab1c 0 = 4 := by
  rw [runTo_go (by decide) (by decide), runTo_go (by decide) (by decide), runTo_go (by decide) (by decide), runTo_go (by decide) (by decide), runTo_stop (by decide) (by decide)]
theorem run_07 : runTo isDig s07 0 = 2 := by
  rw [runTo_go (by decide) (by decide), runTo_go (by decide) (by decide), runTo_end (by decide)]
theorem name_ab1c (w : World) : Calls Tryz.prog 131 #[.agg #[.string ab1c, .int .i64 0]] w fun e w' => e = .returned (.tuple #[.agg #[.string ab1c, .int .i64 4], .string ⟨#[97, 98, 45, 49]⟩, .nilIface]) ∧ Below w.heap.size w w' := by
  have h := name_yes ab1c 0 (by decide) (by decide) (by decide) (by rw [run_ab1c]; decide) w
  rw [run_ab1c] at h
  exact h
theorem number_07 (w : World) (hg : Handle w) : Calls Tryz.prog 132 #[.agg #[.string s07, .int .i64 0]] w (NumOut w s07 0 0 4 0) := by
  have hd : digsR s07 0 = (0, 4, 0) := by unfold digsR; rw [run_07]; decide
  have h := number_bad s07 0 (by decide) (by decide) (by rw [run_07]; decide) (by rw [hd]; decide) w hg
  rw [hd] at h
  exact h

set_option maxRecDepth 100000 in
set_option maxHeartbeats 1600000 in
theorem awake3_any (w : World) (hg : Handle w) :
    Calls Tryz.prog 104 #[] w fun e w' => e = .returned (.bool true) ∧ Below w.heap.size w w' := by
  have HN1 := Lib.hid (fun w => scanNew_any ab1c (by decide) w)
  have HN2 := Lib.hid (fun w => scanNew_any s07 (by decide) w)
  have HM := Lib.hid name_ab1c
  have HU := Lib.hid number_07
  unfold ab1c at HN1 HM
  unfold s07 at HN2 HU
  go_enter Tryz.func104, Tryz.ntmps104
  go_wp2_with fail
  refine (HN1.out _).mono ?_
  rintro e w1 ⟨rfl, b1⟩
  have hs1 := ScanAt.new w1 ⟨#[97, 98, 45, 49, 32, 99]⟩ 0 192
  have HB1 := Lib.hid (b1.trans ((sbelow_new w1 (.cells #[.string ⟨#[97, 98, 45, 49, 32, 99]⟩, .int .i64 0] 192)).mono b1.size))
  have HL := Lib.hid b1.size
  go_wp2_with fail
  generalize w1.alloc (.cells #[.string ⟨#[97, 98, 45, 49, 32, 99]⟩, .int .i64 0] 192) = w2 at *
  generalize w1.heap.size = q at *
  refine (HM.out _).mono ?_
  rintro e w3 ⟨rfl, b3⟩
  have hs3 := hs1.step b3
  have hs4 := hs3.set ⟨#[97, 98, 45, 49, 32, 99]⟩ 4
  have HB4 := Lib.hid (((HB1.out.trans (b3.mono HB1.out.size)).setCell (p := ⟨q, 0, none⟩) HL.out (.string ⟨#[97, 98, 45, 49, 32, 99]⟩)).setCell (p := ⟨q, 1, none⟩) HL.out (.int .i64 4))
  clear hs1
  obtain ⟨l3, c0, c1, cf⟩ := hs3
  go_wp2_with fail
  generalize (w3.setCell ⟨q, 0, none⟩ (.string ⟨#[97, 98, 45, 49, 32, 99]⟩)).setCell ⟨q, 1, none⟩ (.int .i64 4) = w4 at *
  clear c0 c1 cf l3
  refine (HN2.out _).mono ?_
  rintro e w5 ⟨rfl, b5⟩
  have hs5 := hs4.step b5
  have HB5 := Lib.hid (HB4.out.trans (b5.mono HB4.out.size))
  have hs6 := hs5.step (sbelow_new w5 (.cells #[.string ⟨#[48, 55]⟩, .int .i64 0] 192))
  have HB6 := Lib.hid (HB5.out.trans ((sbelow_new w5 (.cells #[.string ⟨#[48, 55]⟩, .int .i64 0] 192)).mono HB5.out.size))
  clear hs4 hs5
  go_wp2_with fail
  generalize w5.alloc (.cells #[.string ⟨#[48, 55]⟩, .int .i64 0] 192) = w6 at *
  generalize w5.heap.size = q5 at *
  refine (HU.out _ (hg.below HB6.out)).mono ?_
  rintro e w7 ⟨v, rfl, hv, b7⟩
  have HB7 := Lib.hid (HB6.out.trans (b7.mono HB6.out.size))
  have hs7 := hs6.step b7
  have hs8 := hs7.step (sbelow_new w7 (.cells #[.string ⟨#[48, 55]⟩, .int .i64 0] 192))
  have HB8 := Lib.hid (HB7.out.trans ((sbelow_new w7 (.cells #[.string ⟨#[48, 55]⟩, .int .i64 0] 192)).mono HB7.out.size))
  have HV8 := Lib.hid (hv.keep (sbelow_new w7 (.cells #[.string ⟨#[48, 55]⟩, .int .i64 0] 192)))
  clear hs6 hs7 hv
  go_wp2_with fail
  generalize w7.alloc (.cells #[.string ⟨#[48, 55]⟩, .int .i64 0] 192) = w8 at *
  generalize w7.heap.size = q7 at *
  refine (Awake1_any _ (hg.below HB8.out)).mono ?_
  rintro e w9 ⟨rfl, b9⟩
  have HB9 := Lib.hid (HB8.out.trans (b9.mono HB8.out.size))
  have hs9 := hs8.step b9
  have HV9 := Lib.hid (HV8.out.keep b9)
  clear hs8
  go_wp2_with fail
  refine (Awake2_any _ (hg.below HB9.out)).mono ?_
  rintro e w10 ⟨rfl, b10⟩
  have HB10 := Lib.hid (HB9.out.trans (b10.mono HB9.out.size))
  have hs10 := hs9.step b10
  have HV10 := Lib.hid (HV9.out.keep b10)
  clear hs9
  obtain ⟨l10, d0, d1, df⟩ := hs10
  go_wp2_with fail
  refine (at_any _ 4 _).mono ?_
  rintro e w11 ⟨rfl, b11⟩
  have HB11 := Lib.hid (HB10.out.trans (b11.mono HB10.out.size))
  have HV11 := Lib.hid (HV10.out.keep b11)
  go_wp2_with fail
  refine (lawIs_err v 4 0 _ HV11.out (hg.below HB11.out)).mono ?_
  rintro e w12 ⟨rfl, b12⟩
  go_wp2_with fail
  go_ret
  exact ⟨rfl, HB11.out.trans (b12.mono HB11.out.size)⟩

theorem Awake3_any (w : World) (hg : Handle w) :
    Calls Tryz.prog 63 #[] w fun e w' => e = .returned (.bool true) ∧ Below w.heap.size w w' := by
  go_enter Tryz.func63, Tryz.ntmps63
  go_wp2_with (go_at_call 104; refine (awake3_any _ hg).mono ?_; rintro e w' ⟨rfl, hb⟩)
  go_ret
  exact ⟨rfl, hb⟩
end Go.Proofs.YtlcpbfklnjlgnaaGreatDoor
