/-
  Package scan by contracts, second part: New, Skip, Take, Has: where they lead, and the error that each tells.
-/
import Derived.Test.YtjanbhodikhdeaaDoorScanA
import Derived.Test.YtjanbhodikhdeaaDoorAmtP
import Derived.Deep.RegionHeld3
namespace Go.Proofs.YtjanbhodikhdeaaDoor
open Go.RowKit Go.Extern.Stop Go.Stop Go.Extern

/-- The error of a number at a place within nothing; none, where the number is 0. -/
def ErrIs (w : World) (v : Value) (c a : Int) : Prop := (c = 0 ∧ v = .nilIface) ∨ (c ≠ 0 ∧ ∃ fb, ChainAt w (.fault fb c a) [] v)
theorem ErrIs.keep {w w' : World} {v : Value} {c a : Int} (h : ErrIs w v c a) (hb : Below w.heap.size w w') : ErrIs w' v c a :=
  h.imp id (fun ⟨h0, fb, hc⟩ => ⟨h0, fb, hc.keep hb⟩)
theorem ErrIs.nilE (w : World) (a : Int) : ErrIs w .nilIface 0 a := .inl ⟨rfl, rfl⟩
theorem ErrIs.fault {w : World} {v : Value} {c a : Int} {fb : Nat} (h0 : c ≠ 0) (h : ChainAt w (.fault fb c a) [] v) : ErrIs w v c a := .inr ⟨h0, fb, h⟩
theorem ErrIs.nil_of {w : World} {v : Value} {a : Int} (h : ErrIs w v 0 a) : v = .nilIface := h.elim (·.2) (fun h => absurd rfl h.1)

/-- The error stays where a place is stored: a fault's first cell is a number, a place's is a text. -/
theorem ErrIs.set {w : World} {v : Value} {c a : Int} {b : Nat} {k : Int} {s : ByteArray} (h : ErrIs w v c a) (hs : ScanAt w b s k) (s' : ByteArray) (z : Int) :
    ErrIs ((w.setCell ⟨b, 0, none⟩ (.string s')).setCell ⟨b, 1, none⟩ (.int .i64 z)) v c a := by
  rcases h with h | ⟨h0, fb, e, hlt, h1, h2⟩
  · exact .inl h
  · have hne : fb ≠ b := by
      rintro rfl
      rw [hs.2.1] at h1
      cases h1
    refine .inr ⟨h0, fb, e, by rw [World.size_setCell, World.size_setCell]; exact hlt, ?_, ?_⟩
    · rw [World.cell?_setCell_other _ _ _ _ (by intro e; injection e with e; exact hne e.symm), World.cell?_setCell_other _ _ _ _ (by intro e; injection e with e; exact hne e.symm)]; exact h1
    · rw [World.cell?_setCell_other _ _ _ _ (by intro e; injection e with e; exact hne e.symm), World.cell?_setCell_other _ _ _ _ (by intro e; injection e with e; exact hne e.symm)]; exact h2

theorem lawIs_err (v : Value) (c a : Int) (w : World) (h : ErrIs w v c a) (hg : Handle w) :
    Calls Tryd.prog 17 #[v, .int .i64 c, .int .i64 a] w fun e w' => e = .returned (.bool true) ∧ Below w.heap.size w w' := by
  rcases h with ⟨rfl, rfl⟩ | ⟨h0, fb, hc⟩
  · refine (lawIs_nil a w).mono ?_
    rintro e w' ⟨rfl, rfl⟩
    exact ⟨rfl, Below.refl _ _⟩
  · exact lawIs_fault fb c a h0 v w hc hg

/-- What a call answers that makes a fault, in memory. -/
def Faults (w : World) (c a : Int) (e : Ending) (w' : World) : Prop := ∃ v, e = .returned v ∧ ErrIs w' v c a ∧ Below w.heap.size w w'
theorem new_faults (c a : Int) (h0 : c ≠ 0) (w : World) : Calls Tryd.prog 24 #[.int .i64 c, .int .i64 a] w (Faults w c a) := by
  refine (new_any c a h0 w).mono ?_
  rintro e w' ⟨rfl, rfl⟩
  exact ⟨_, rfl, .fault h0 (new_chain c a w), below_alloc _ _⟩

/-- The error that a text ends, or that another byte stands there. -/
def missC (s : ByteArray) (k : Nat) : Int := if k < s.size then 4 else 3
theorem missC_ne (s : ByteArray) (k : Nat) : missC s k ≠ 0 := by unfold missC; split <;> decide

/-! ### New -/
/-- A place of a text, and an error, both told. -/
def PlaceErr (w : World) (s : ByteArray) (k : Nat) (c a : Int) (e : Ending) (w' : World) : Prop :=
  ∃ v, e = .returned (.tuple #[.agg #[.string s, .int .i64 k], v]) ∧ ErrIs w' v c a ∧ Below w.heap.size w w'

/-! ### Skip, Take, Has -/
/-- Within a call: its own place, its result's place, and that old memory stays. -/
structure InScan (w0 : World) (s : ByteArray) (k : Nat) (w : World) : Prop where
  own : ScanAt w w0.heap.size s k
  res : ScanAt w (w0.heap.size + 1) ⟨#[]⟩ 0
  below : Below w0.heap.size w0 w
theorem InScan.step {w0 w w' : World} {s : ByteArray} {k : Nat} (h : InScan w0 s k w) (hb : Below w.heap.size w w') : InScan w0 s k w' :=
  ⟨h.own.step hb, h.res.step hb, h.below.trans (hb.mono h.below.size)⟩
theorem InScan.drew {w0 w : World} {s : ByteArray} {k : Nat} (h : InScan w0 s k w) : InScan w0 s k w.drew := ⟨h.own, h.res, h.below.drew⟩
theorem InScan.new (w : World) (s : ByteArray) (k : Nat) (t : TypeId) : InScan w s k ((w.alloc (.cells #[.string s, .int .i64 k] t)).alloc (.cells #[.string ⟨#[]⟩, .int .i64 0] t)) :=
  ⟨(ScanAt.new w s k t).step (sbelow_new _ _), by have := ScanAt.new (w.alloc (.cells #[.string s, .int .i64 k] t)) ⟨#[]⟩ 0 t; simpa using this, (sbelow_new _ _).trans ((sbelow_new _ _).mono (by simp))⟩
/-- What is behind the result's store. -/
theorem InScan.out {w0 w : World} {s : ByteArray} {k : Nat} (h : InScan w0 s k w) (z : Int) :
    (((w.setCell ⟨w0.heap.size + 1, 0, none⟩ (.string s)).setCell ⟨w0.heap.size + 1, 1, none⟩ (.int .i64 z)).cell? ⟨w0.heap.size + 1, 0, none⟩ = some (.string s) ∧ ((w.setCell ⟨w0.heap.size + 1, 0, none⟩ (.string s)).setCell ⟨w0.heap.size + 1, 1, none⟩ (.int .i64 z)).cell? ⟨w0.heap.size + 1, 1, none⟩ = some (.int .i64 z)) ∧
      Below w0.heap.size w0 ((w.setCell ⟨w0.heap.size + 1, 0, none⟩ (.string s)).setCell ⟨w0.heap.size + 1, 1, none⟩ (.int .i64 z)) :=
  ⟨h.res.put s z, (h.below.setCell (by simp) _).setCell (by simp) _⟩

/-- Where Take leads, and its error. -/
def takeK (s : ByteArray) (k : Nat) (b : Int) : Nat := if k < s.size ∧ byteI s k = b then k + 1 else k
def takeC (s : ByteArray) (k : Nat) (b : Int) : Int := if k < s.size ∧ byteI s k = b then 0 else missC s k
theorem takeK_le (s : ByteArray) (k : Nat) (b : Int) (hk : k ≤ s.size) : takeK s k b ≤ s.size := by unfold takeK; split <;> omega

/-! ### HasPrefix, Has -/
def hasPre (s p : ByteArray) : Bool := decide (p.size ≤ s.size) && ((s.extract 0 p.size).toList == p.toList)
theorem restOf_size (s : ByteArray) (k : Nat) (_hk : k ≤ s.size) : (restOf s k).size = s.size - k := by unfold restOf; simp
theorem hasPre_size {s p : ByteArray} (h : hasPre s p = true) : p.size ≤ s.size := by
  unfold hasPre at h
  simp only [Bool.and_eq_true, decide_eq_true_eq] at h
  exact h.1

/-- Where Has leads. -/
def hasK (s : ByteArray) (k : Nat) (p : ByteArray) : Nat := if hasPre (restOf s k) p then k + p.size else k
theorem hasK_le (s : ByteArray) (k : Nat) (p : ByteArray) (hk : k ≤ s.size) : hasK s k p ≤ s.size := by
  unfold hasK
  split
  · have := hasPre_size ‹_›
    rw [restOf_size s k hk] at this
    omega
  · exact hk

end Go.Proofs.YtjanbhodikhdeaaDoor
