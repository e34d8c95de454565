/-
  Package oops by contracts, over any chain of its errors: New and In make chains; Code, At and Words tell the number, the place and the words; all of old memory stays as it was.
-/
import Derived.Test.YtajmlkephefapaaGreatDoorChain
import Derived.Laws.OwnMore
import Derived.Deep.RegionHeld3
namespace Go.Proofs.YtajmlkephefapaaGreatDoor
open Go.RowKit Go.Extern.Stop Go.Stop Go.Extern

/-- The package-level variable of errors.As holds the handle of the type 'error'. -/
def Handle (w : World) : Prop := w.cell? ⟨0, 0, none⟩ = some (.iface 166 (.agg #[.pointer (some ⟨4, 29, none⟩)]))

theorem Handle.pos {w : World} (h : Handle w) : 0 < w.heap.size := World.block_lt_of_cell? w ⟨0, 0, none⟩ h
theorem Handle.keep {w w' : World} {B : Nat} (h : Handle w) (hb : Below B w w') (hB : 0 < B) : Handle w' := (hb.cell (p := ⟨0, 0, none⟩) hB).trans h
theorem Handle.below {w w' : World} (h : Handle w) (hb : Below w.heap.size w w') : Handle w' := h.keep hb h.pos
theorem Handle.alloc {w : World} (h : Handle w) (o : Obj) : Handle (w.alloc o) := h.below ((Below.refl _ _).alloc (Nat.le_refl _) _)

theorem below_alloc (w : World) (o : Obj) : Below w.heap.size w (w.alloc o) := (Below.refl _ _).alloc (Nat.le_refl _) _
/-- A chain, at its own world's size. -/
def ChainAt (w : World) (r : Base) (ws : List ByteArray) (v : Value) : Prop := Chain w.heap.size w r ws v
theorem ChainAt.keep {w w' : World} {r : Base} {ws : List ByteArray} {v : Value} (h : ChainAt w r ws v) (hb : Below w.heap.size w w') : ChainAt w' r ws v :=
  Chain.up hb.size (Chain.keep hb h)
theorem ChainAt.iface {w : World} {r : Base} {ws : List ByteArray} {v : Value} (h : ChainAt w r ws v) : ∃ T V, v = .iface T V := Chain.iface h

/-! ### New, In, errors.New -/
theorem new_nil (a : Int) (w : World) : Calls Tryz.prog 30 #[.int .i64 0, .int .i64 a] w fun e w' => e = .returned .nilIface ∧ w' = w := by
  go_enter Tryz.func30, Tryz.ntmps30
  go_wp2
  go_ret
  exact ⟨rfl, rfl⟩

theorem new_any (c a : Int) (hc : c ≠ 0) (w : World) : Calls Tryz.prog 30 #[.int .i64 c, .int .i64 a] w fun e w' =>
    e = .returned (.iface 100 (.pointer (some ⟨w.heap.size, 0, none⟩))) ∧ w' = w.alloc (.cells #[.int .i64 c, .int .i64 a] 102) := by
  have hb : (c == 0) = false := by simpa using hc
  go_enter Tryz.func30, Tryz.ntmps30
  go_wp2
  go_ret
  exact ⟨rfl, rfl⟩

theorem new_chain (c a : Int) (w : World) : ChainAt (w.alloc (.cells #[.int .i64 c, .int .i64 a] 102)) (.fault w.heap.size c a) [] (.iface 100 (.pointer (some ⟨w.heap.size, 0, none⟩))) :=
  ⟨rfl, by simp, by simp, by simp⟩

theorem in_nil (s : ByteArray) (w : World) : Calls Tryz.prog 111 #[.string s, .nilIface] w fun e w' => e = .returned .nilIface ∧ w' = w := by
  go_enter Tryz.func111, Tryz.ntmps111
  go_wp2
  go_ret
  exact ⟨rfl, rfl⟩

theorem in_any (s : ByteArray) (T : TypeId) (V : Value) (w : World) : Calls Tryz.prog 111 #[.string s, .iface T V] w fun e w' =>
    e = .returned (.iface 113 (.pointer (some ⟨w.heap.size, 0, none⟩))) ∧ w' = w.alloc (.cells #[.string s, .iface T V] 116) := by
  go_enter Tryz.func111, Tryz.ntmps111
  go_wp2
  go_ret
  exact ⟨rfl, rfl⟩

theorem in_chain (s : ByteArray) (v : Value) (w : World) (r : Base) (ws : List ByteArray) (h : ChainAt w r ws v) :
    ChainAt (w.alloc (.cells #[.string s, v] 116)) r (s :: ws) (.iface 113 (.pointer (some ⟨w.heap.size, 0, none⟩))) :=
  ⟨w.heap.size, v, rfl, by simp, by simp, by simp, h.keep (below_alloc _ _)⟩

/-! ### Code -/
theorem code_nil (w : World) : Calls Tryz.prog 35 #[.nilIface] w fun e w' => e = .returned (.int .i64 0) ∧ w' = w := by
  go_enter Tryz.func35, Tryz.ntmps35
  go_wp2
  go_ret
  exact ⟨rfl, rfl⟩

set_option maxHeartbeats 400000 in
theorem code_some (r : Base) (c : Int) (hr : r.code = some c) (ws : List ByteArray) (v : Value) (w : World) (hch : ChainAt w r ws v) (hg : Handle w) :
    Calls Tryz.prog 35 #[v] w fun e w' => e = .returned (.int .i64 c) ∧ Below w.heap.size w w' := by
  obtain ⟨T, V, rfl⟩ := hch.iface
  have HC := as_code w.heap.size r c hr ws (.iface T V) ⟨w.heap.size, 0, none⟩ (.int .i64 0) (w.alloc (.cells #[.int .i64 0] 64)) (by simp) (Chain.keep (below_alloc _ _) hch) (hg.alloc _) (by simp) (by simp)
  clear hr
  have HC := Lib.hid HC
  go_enter Tryz.func35, Tryz.ntmps35
  go_wp2_with fail
  refine HC.out.mono ?_
  rintro e w' ⟨rfl, w1, hb1, rfl⟩
  have hct : w1.cell? ⟨w.heap.size, 0, none⟩ = some (.int .i64 0) := (hb1.cell (p := ⟨w.heap.size, 0, none⟩) (by simp)).trans (by simp)
  go_wp2
  go_ret
  exact ⟨rfl, ((below_alloc _ _).trans (hb1.mono (by simp))).setCell (Nat.le_refl _) _⟩

/-! ### At -/
set_option maxHeartbeats 400000 in
theorem at_nil (w : World) : Calls Tryz.prog 36 #[.nilIface] w fun e w' => e = .returned (.int .i64 (-1)) ∧ Below w.heap.size w w' := by
  go_enter Tryz.func36, Tryz.ntmps36
  go_wp2_with (go_at_call 69; refine (as_nil _ _).mono ?_; rintro e w' ⟨rfl, rfl⟩)
  go_ret
  exact ⟨rfl, below_alloc _ _⟩

set_option maxHeartbeats 400000 in
theorem at_fault (b : Nat) (c a : Int) (ws : List ByteArray) (v : Value) (w : World) (hch : ChainAt w (.fault b c a) ws v) (hb : b < w.heap.size) (h1 : w.cell? ⟨b, 1, none⟩ = some (.int .i64 a)) (hg : Handle w) :
    Calls Tryz.prog 36 #[v] w fun e w' => e = .returned (.int .i64 a) ∧ Below w.heap.size w w' := by
  obtain ⟨T, V, rfl⟩ := hch.iface
  have HC := as_fault w.heap.size b c a ws (.iface T V) ⟨w.heap.size, 0, none⟩ (.pointer none) (w.alloc (.cells #[.pointer none] 100)) (by simp) (Chain.keep (below_alloc _ _) hch) (hg.alloc _) (by simp) (by simp)
  have HC := Lib.hid HC
  go_enter Tryz.func36, Tryz.ntmps36
  go_wp2_with fail
  refine HC.out.mono ?_
  rintro e w' ⟨rfl, w1, hb1, rfl⟩
  have hct : w1.cell? ⟨w.heap.size, 0, none⟩ = some (.pointer none) := (hb1.cell (p := ⟨w.heap.size, 0, none⟩) (by simp)).trans (by simp)
  have h1' : w1.cell? ⟨b, 1, none⟩ = some (.int .i64 a) := (((below_alloc w _).trans (hb1.mono (by simp))).cell (p := ⟨b, 1, none⟩) hb).trans h1
  have h2' : (w1.setCell ⟨w.heap.size, 0, none⟩ (.pointer (some ⟨b, 0, none⟩))).cell? ⟨b, 1, none⟩ = some (.int .i64 a) := (World.cell?_setCell_other _ _ _ _ (by intro h; simp at h)).trans h1'
  go_wp2
  go_ret
  exact ⟨rfl, ((below_alloc _ _).trans (hb1.mono (by simp))).setCell (Nat.le_refl _) _⟩

set_option maxHeartbeats 400000 in
theorem at_no (r : Base) (hr : ∀ b c a, r ≠ .fault b c a) (ws : List ByteArray) (v : Value) (w : World) (hch : ChainAt w r ws v) (hg : Handle w) :
    Calls Tryz.prog 36 #[v] w fun e w' => e = .returned (.int .i64 (-1)) ∧ Below w.heap.size w w' := by
  obtain ⟨T, V, rfl⟩ := hch.iface
  have HC := as_fault_no w.heap.size r hr ws (.iface T V) ⟨w.heap.size, 0, none⟩ (w.alloc (.cells #[.pointer none] 100)) (by simp) (Chain.keep (below_alloc _ _) hch) (hg.alloc _)
  clear hr
  have HC := Lib.hid HC
  go_enter Tryz.func36, Tryz.ntmps36
  go_wp2_with fail
  refine HC.out.mono ?_
  rintro e w' ⟨rfl, hb1⟩
  go_wp2
  go_ret
  exact ⟨rfl, (below_alloc _ _).trans (hb1.mono (by simp))⟩
end Go.Proofs.YtajmlkephefapaaGreatDoor
