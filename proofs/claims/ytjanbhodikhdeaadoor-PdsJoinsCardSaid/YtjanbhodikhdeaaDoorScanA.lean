/-
  Package scan by contracts, first part: sorts of bytes, what stands at a place, how far bytes of a sort go; and the reference's words for the same. Memory: only new blocks.
-/
import Derived.Test.YtjanbhodikhdeaaDoorAmt
import Derived.Below
import Derived.Deep.Light
import Derived.Deep.QuietTactic
import Derived.BigQuiet
namespace Go.Proofs.YtjanbhodikhdeaaDoor
open Go.RowKit Go.Extern.Stop Go.Stop Go.Extern

theorem sbelow_new (w : World) (o : Obj) : Below w.heap.size w (w.alloc o) := (Below.refl _ _).alloc (Nat.le_refl _) _

/-! ### Plain -/
/-- The sort of a byte, by its number. -/
def sortI (n : Int) : Int :=
  if n = 32 ∨ n = 9 ∨ n = 10 ∨ n = 13 then 1 else if 97 ≤ n ∧ n ≤ 122 ∨ 65 ≤ n ∧ n ≤ 90 ∨ n = 95 then 2 else if 48 ≤ n ∧ n ≤ 57 then 3 else if n = 45 ∨ n = 46 then 4 else 0
def isBl (n : Int) : Bool := sortI n == 1
def isLet (n : Int) : Bool := sortI n == 2
def isIn (n : Int) : Bool := decide (2 ≤ sortI n)
def isDig (n : Int) : Bool := sortI n == 3

/-- The number of the byte at a place; 0 where the text has ended. -/
def byteI (s : ByteArray) (k : Nat) : Int := if h : k < s.size then (s[k].toNat : Int) else 0
theorem byteI_lt {s : ByteArray} {k : Nat} (h : k < s.size) : byteI s k = (s[k].toNat : Int) := by unfold byteI; rw [dif_pos h]
theorem byteI_ge {s : ByteArray} {k : Nat} (h : ¬ k < s.size) : byteI s k = 0 := by unfold byteI; rw [dif_neg h]

/-- Behind all bytes of which p holds, from a place on. -/
def runTo (p : Int → Bool) (s : ByteArray) (k : Nat) : Nat := if h : k < s.size then (if p (s[k].toNat : Int) then runTo p s (k + 1) else k) else k
termination_by s.size - k

theorem runTo_go {p : Int → Bool} {s : ByteArray} {k : Nat} (h : k < s.size) (hp : p (s[k].toNat : Int) = true) : runTo p s k = runTo p s (k + 1) := by
  rw [runTo, dif_pos h, if_pos hp]
theorem runTo_end {p : Int → Bool} {s : ByteArray} {k : Nat} (h : ¬ k < s.size) : runTo p s k = k := by rw [runTo, dif_neg h]
theorem runTo_stop {p : Int → Bool} {s : ByteArray} {k : Nat} (h : k < s.size) (hp : p (s[k].toNat : Int) = false) : runTo p s k = k := by
  rw [runTo, dif_pos h, if_neg (by rw [hp]; decide)]
theorem runTo_bd (p : Int → Bool) (s : ByteArray) : ∀ (n k : Nat), s.size - k = n → k ≤ s.size → k ≤ runTo p s k ∧ runTo p s k ≤ s.size := by
  intro n
  induction n with
  | zero => intro k h hk; rw [runTo_end (by omega)]; omega
  | succ n ih =>
    intro k h hk
    by_cases hp : p (s[k]'(by omega)).toNat = true
    · rw [runTo_go (by omega) hp]; have := ih (k + 1) (by omega) (by omega); omega
    · rw [runTo_stop (by omega) (by simpa using hp)]; omega
theorem le_runTo (p : Int → Bool) (s : ByteArray) (k : Nat) (hk : k ≤ s.size) : k ≤ runTo p s k := (runTo_bd p s _ k rfl hk).1
theorem runTo_le (p : Int → Bool) (s : ByteArray) (k : Nat) (hk : k ≤ s.size) : runTo p s k ≤ s.size := (runTo_bd p s _ k rfl hk).2

/-- The text from a place on. -/
def restOf (s : ByteArray) (k : Nat) : ByteArray := s.extract k s.size

/-! ### Bytes -/
theorem ret_b {a b : Bool} (h : a = b) : Ending.returned (.bool a) = .returned (.bool b) := by rw [h]
theorem isLet_iff (n : Int) : isLet n = true ↔ 97 ≤ n ∧ n ≤ 122 ∨ 65 ≤ n ∧ n ≤ 90 ∨ n = 95 := by
  unfold isLet sortI; simp only [beq_iff_eq]; repeat' split
  all_goals omega
theorem isDig_iff (n : Int) : isDig n = true ↔ 48 ≤ n ∧ n ≤ 57 := by
  unfold isDig sortI; simp only [beq_iff_eq]; repeat' split
  all_goals omega
theorem isIn_iff (n : Int) : isIn n = true ↔ isLet n = true ∨ isDig n = true ∨ n = 45 ∨ n = 46 := by
  rw [isLet_iff, isDig_iff]; unfold isIn sortI; simp only [decide_eq_true_eq]; repeat' split
  all_goals omega
theorem isBl_iff (n : Int) : isBl n = true ↔ n = 32 ∨ n = 9 ∨ n = 10 ∨ n = 13 := by
  unfold isBl sortI; simp only [beq_iff_eq]; repeat' split
  all_goals omega

/-! ### What stands at a place -/
/-! ### As far as bytes of a sort go -/
/-- A place of a text in a block of its own, not frozen. -/
def ScanAt (w : World) (b : Nat) (s : ByteArray) (j : Int) : Prop :=
  b < w.heap.size ∧ w.cell? ⟨b, 0, none⟩ = some (.string s) ∧ w.cell? ⟨b, 1, none⟩ = some (.int .i64 j) ∧ ∀ i, w.frozen? ⟨b, i, none⟩ = false
theorem ScanAt.step {w w' : World} {b : Nat} {s : ByteArray} {j : Int} (h : ScanAt w b s j) (hb : Below w.heap.size w w') : ScanAt w' b s j :=
  ⟨Nat.lt_of_lt_of_le h.1 hb.size, (hb.cell (p := ⟨b, 0, none⟩) h.1).trans h.2.1, (hb.cell (p := ⟨b, 1, none⟩) h.1).trans h.2.2.1, fun i => (hb.frozen (p := ⟨b, i, none⟩) h.1).trans (h.2.2.2 i)⟩
theorem ScanAt.new (w : World) (s : ByteArray) (j : Int) (t : TypeId) : ScanAt (w.alloc (.cells #[.string s, .int .i64 j] t)) w.heap.size s j := ⟨by simp, by simp, by simp, by simp⟩
theorem ScanAt.set {w : World} {b : Nat} {s : ByteArray} {j : Int} (h : ScanAt w b s j) (s' : ByteArray) (j' : Int) :
    ScanAt ((w.setCell ⟨b, 0, none⟩ (.string s')).setCell ⟨b, 1, none⟩ (.int .i64 j')) b s' j' := by
  have ne : ∀ i j : Nat, i ≠ j → (⟨b, i, none⟩ : Addr) ≠ ⟨b, j, none⟩ := fun i j h e => h (by injection e)
  refine ⟨by rw [World.size_setCell, World.size_setCell]; exact h.1, ?_, ?_, fun i => by rw [World.frozen?_setCell, World.frozen?_setCell]; exact h.2.2.2 i⟩
  · rw [World.cell?_setCell_other _ _ _ _ (ne 1 0 (by decide))]; exact World.cell?_setCell_same _ _ _ h.2.1
  · exact World.cell?_setCell_same _ _ _ ((World.cell?_setCell_other _ _ _ _ (ne 0 1 (by decide))).trans h.2.2.1)
/-- A place is stored there: what its two cells then read. -/
theorem ScanAt.put {w : World} {b : Nat} {s : ByteArray} {j : Int} (h : ScanAt w b s j) (s' : ByteArray) (z : Int) :
    ((w.setCell ⟨b, 0, none⟩ (.string s')).setCell ⟨b, 1, none⟩ (.int .i64 z)).cell? ⟨b, 0, none⟩ = some (.string s') ∧ ((w.setCell ⟨b, 0, none⟩ (.string s')).setCell ⟨b, 1, none⟩ (.int .i64 z)).cell? ⟨b, 1, none⟩ = some (.int .i64 z) := by
  have ne : ∀ i j : Nat, i ≠ j → (⟨b, i, none⟩ : Addr) ≠ ⟨b, j, none⟩ := fun i j h e => h (by injection e)
  refine ⟨?_, ?_⟩
  · rw [World.cell?_setCell_other _ _ _ _ (ne 1 0 (by decide))]; exact World.cell?_setCell_same _ _ _ h.2.1
  · exact World.cell?_setCell_same _ _ _ ((World.cell?_setCell_other _ _ _ _ (ne 0 1 (by decide))).trans h.2.2.1)
theorem ScanAt.far {w : World} {b : Nat} {s : ByteArray} {j : Int} (h : ScanAt w b s j) {q : Addr} (hq : b ≠ q.block) (v : Value) : ScanAt (w.setCell q v) b s j :=
  ⟨by rw [World.size_setCell]; exact h.1, (World.cell?_setCell_other _ _ _ _ (by rintro rfl; exact hq rfl)).trans h.2.1, (World.cell?_setCell_other _ _ _ _ (by rintro rfl; exact hq rfl)).trans h.2.2.1, fun i => by rw [World.frozen?_setCell]; exact h.2.2.2 i⟩

structure OnRel (s : ByteArray) (k : Nat) (p : Int → Bool) (w0 : World) (n : Nat) (wr : World) : Prop where
  ex : ∃ j : Nat, k ≤ j ∧ j ≤ s.size ∧ n = s.size - j ∧ runTo p s j = runTo p s k ∧ ScanAt wr w0.heap.size s j
  res : ScanAt wr (w0.heap.size + 1) ⟨#[]⟩ 0
  below : Below w0.heap.size w0 wr

end Go.Proofs.YtjanbhodikhdeaaDoor
