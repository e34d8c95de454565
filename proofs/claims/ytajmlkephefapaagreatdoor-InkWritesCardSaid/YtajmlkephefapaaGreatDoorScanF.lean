/-
  Errors that are told, as faults behind a pointer; Take and New in that form; what keeps everything but some blocks.
-/
import Derived.Test.YtajmlkephefapaaGreatDoorScanB
import Derived.Laws.Rows
namespace Go.Proofs.YtajmlkephefapaaGreatDoor
open Go.RowKit Go.Extern.Stop Go.Stop Go.Extern

/-- An error that is told: a fault behind a pointer. -/
def pf (fb : Nat) : Value := .iface 100 (.pointer (some ⟨fb, 0, none⟩))
def FaultAt (w : World) (fb : Nat) (c a : Int) : Prop := ErrIs w (pf fb) c a
theorem FaultAt.keep {w w' : World} {fb : Nat} {c a : Int} (h : FaultAt w fb c a) (hb : Below w.heap.size w w') : FaultAt w' fb c a := ErrIs.keep h hb
theorem ErrIs.fb {w : World} {v : Value} {c a : Int} (h : ErrIs w v c a) (h0 : c ≠ 0) : ∃ fb, v = pf fb ∧ FaultAt w fb c a := by
  have h' := h
  rcases h with ⟨rfl, -⟩ | ⟨-, fb, e⟩
  · exact absurd rfl h0
  · have e' := e
    obtain ⟨rfl, -⟩ := e
    exact ⟨fb, rfl, h'⟩

/-- Take, where the byte stands there. -/
theorem take_is (s : ByteArray) (k : Nat) (hs : s.size ≤ 100000) (hk : k < s.size) (b : Int) (hb : byteI s k = b) (w : World) :
    Calls Tryz.prog 86 #[.agg #[.string s, .int .i64 k], .int .u8 b] w fun e w' => e = .returned (.tuple #[.agg #[.string s, .int .i64 (k + 1 : Nat)], .nilIface]) ∧ Below w.heap.size w w' := by
  subst hb
  rw [byteI_lt hk]
  exact take_yes s k hs hk w
/-- .. and where it doesn't. -/
def TakeErr (w : World) (s : ByteArray) (k : Nat) (e : Ending) (w' : World) : Prop :=
  ∃ fb, e = .returned (.tuple #[.agg #[.string s, .int .i64 k], pf fb]) ∧ FaultAt w' fb (missC s k) k ∧ Below w.heap.size w w'
theorem take_not (s : ByteArray) (k : Nat) (hs : s.size ≤ 100000) (hk : k ≤ s.size) (b : Int) (hb : ¬ (byteI s k = b ∧ k < s.size)) (w : World) :
    Calls Tryz.prog 86 #[.agg #[.string s, .int .i64 k], .int .u8 b] w (TakeErr w s k) := by
  have h := take_any s k hs hk b w
  have hc : ¬ (k < s.size ∧ byteI s k = b) := fun h' => hb ⟨h'.2, h'.1⟩
  unfold takeK takeC at h
  rw [if_neg hc, if_neg hc] at h
  refine h.mono ?_
  rintro e w' ⟨v, rfl, hv, hbl⟩
  obtain ⟨fb, rfl, hf⟩ := hv.fb (missC_ne s k)
  exact ⟨fb, rfl, hf, hbl⟩

/-- New, of a number that isn't 0. -/
def NewErr (w : World) (c a : Int) (e : Ending) (w' : World) : Prop := ∃ fb, e = .returned (pf fb) ∧ FaultAt w' fb c a ∧ Below w.heap.size w w'
theorem new_err (c a : Int) (h0 : c ≠ 0) (w : World) : Calls Tryz.prog 30 #[.int .i64 c, .int .i64 a] w (NewErr w c a) := by
  refine (new_faults c a h0 w).mono ?_
  rintro e w' ⟨v, rfl, hv, hbl⟩
  obtain ⟨fb, rfl, hf⟩ := hv.fb h0
  exact ⟨fb, rfl, hf, hbl⟩

/-- A fault stays where a place is stored. -/
theorem FaultAt.set {w : World} {fb : Nat} {c a : Int} {b : Nat} {k : Int} {s : ByteArray} (h : FaultAt w fb c a) (hs : ScanAt w b s k) (s' : ByteArray) (z : Int) :
    FaultAt ((w.setCell ⟨b, 0, none⟩ (.string s')).setCell ⟨b, 1, none⟩ (.int .i64 z)) fb c a := ErrIs.set h hs s' z

/-- Every old block but those of D stands as it stood. -/
structure Keeps (D : Nat → Prop) (w w' : World) : Prop where
  os : w'.os = w.os
  tape : w'.tape = w.tape
  output : w'.output = w.output
  size : w.heap.size ≤ w'.heap.size
  block : ∀ k, k < w.heap.size → ¬ D k → w'.heap[k]? = w.heap[k]?
theorem Keeps.of_below {D : Nat → Prop} {w w' : World} (h : Below w.heap.size w w') : Keeps D w w' := ⟨h.os, h.tape, h.output, h.size, fun k hk _ => h.block k hk⟩
theorem Keeps.of_grown {D : Nat → Prop} {w w' : World} {row : Option Nat} (h : w.grownBy w' row) (hr : ∀ k, row = some k → D k) : Keeps D w w' :=
  ⟨h.os, h.tape, h.output, h.size, fun k hk hD => h.block k hk (fun e => hD (hr k e.symm))⟩
theorem Keeps.trans {D : Nat → Prop} {a b c : World} (h : Keeps D a b) (h' : Keeps D b c) : Keeps D a c :=
  ⟨h'.os.trans h.os, h'.tape.trans h.tape, h'.output.trans h.output, Nat.le_trans h.size h'.size, fun k hk hD => (h'.block k (Nat.lt_of_lt_of_le hk h.size) hD).trans (h.block k hk hD)⟩
theorem Keeps.setCell {D : Nat → Prop} {a w : World} (h : Keeps D a w) {q : Addr} (hq : a.heap.size ≤ q.block ∨ D q.block) (v : Value) : Keeps D a (w.setCell q v) :=
  ⟨h.os, h.tape, h.output, by rw [World.size_setCell]; exact h.size, fun k hk hD => by
    rw [heap_setCell_other w q k v (by rintro rfl; rcases hq with hq | hq; omega; exact hD hq)]
    exact h.block k hk hD⟩
theorem Keeps.mono {D D' : Nat → Prop} {w w' : World} (h : Keeps D w w') (hD : ∀ k, D k → D' k) : Keeps D' w w' := ⟨h.os, h.tape, h.output, h.size, fun k hk hn => h.block k hk (fun e => hn (hD k e))⟩
theorem Keeps.below {D : Nat → Prop} {w w' : World} (h : Keeps D w w') {B : Nat} (hB : B ≤ w.heap.size) (hD : ∀ k, D k → B ≤ k) : Below B w w' :=
  ⟨h.os, h.tape, h.output, h.size, fun k hk => h.block k (by omega) (fun e => by have := hD k e; omega)⟩
theorem Keeps.drew {D : Nat → Prop} {a w : World} (h : Keeps D a w) : Keeps D a w.drew := ⟨h.os, h.tape, h.output, h.size, h.block⟩
theorem Keeps.refl (D : Nat → Prop) (w : World) : Keeps D w w := ⟨rfl, rfl, rfl, Nat.le_refl _, fun _ _ _ => rfl⟩
theorem Keeps.next {D : Nat → Prop} {a w w' : World} (h : Keeps D a w) (hb : Below w.heap.size w w') : Keeps D a w' := h.trans (.of_below hb)

/-! ### Behind blanks -/
def skp (s : ByteArray) (k : Nat) : Nat := runTo isBl s k
theorem skp_le {s : ByteArray} {k : Nat} (hk : k ≤ s.size) : k ≤ skp s k ∧ skp s k ≤ s.size := ⟨le_runTo _ s k hk, runTo_le _ s k hk⟩
theorem byteI_in {s : ByteArray} {k : Nat} {c : Int} (h : byteI s k = c) (h0 : c ≠ 0) : k < s.size := by
  by_cases hk : k < s.size
  · exact hk
  · rw [byteI_ge hk] at h; exact absurd h.symm h0
end Go.Proofs.YtajmlkephefapaaGreatDoor
