/-
  Package oops by contracts, over any chain of its errors: New and In make chains; Code, At and Words tell the number, the place and the words; all of old memory stays as it was.
  oops.Words and slices.Equal over strings, by contracts: the words of any chain, in a new slice; whether two slices of strings are the same.
  errors.Is over any chain of oops's errors: it answers true just if the target is the chain's number (or the very error of errors.New's make that lies innermost); the world stays as it was.
  The statements' example of chapter 1 holds, and what their helpers do: 'of' makes the chain of any number, place and words; 'Is' asks for a number and a place within nothing.
-/
import Derived.Test.YtlcpbfklnjlgnaaGreatDoorGa
import Derived.Laws.OwnMore
import Derived.Deep.RegionHeld3
import Derived.Deep.QuietTactic
import Derived.BigQuiet
namespace Go.Proofs.YtlcpbfklnjlgnaaGreatDoor
open Go.RowKit Go.Extern.Stop Go.Stop Go.Extern

/-- The package-level variable of errors.As holds the handle of the type 'error'. -/
def Handle (w : World) : Prop := w.cell? ⟨0, 0, none⟩ = some (.iface 168 (.agg #[.pointer (some ⟨4, 43, none⟩)]))

theorem Handle.pos {w : World} (h : Handle w) : 0 < w.heap.size := World.block_lt_of_cell? w ⟨0, 0, none⟩ h
theorem Handle.keep {w w' : World} {B : Nat} (h : Handle w) (hb : Below B w w') (hB : 0 < B) : Handle w' := (hb.cell (p := ⟨0, 0, none⟩) hB).trans h
theorem Handle.below {w w' : World} (h : Handle w) (hb : Below w.heap.size w w') : Handle w' := h.keep hb h.pos
theorem Handle.alloc {w : World} (h : Handle w) (o : Obj) : Handle (w.alloc o) := h.below ((Below.refl _ _).alloc (Nat.le_refl _) _)

theorem below_alloc (w : World) (o : Obj) : Below w.heap.size w (w.alloc o) := (Below.refl _ _).alloc (Nat.le_refl _) _
/-- A chain, at its own world's size. -/
def ChainAt (w : World) (r : Base) (ws : List ByteArray) (v : Value) : Prop := Chain w.heap.size w r ws v
theorem ChainAt.keep {w w' : World} {r : Base} {ws : List ByteArray} {v : Value} (h : ChainAt w r ws v) (hb : Below w.heap.size w w') : ChainAt w' r ws v :=
  Chain.up hb.size (Chain.keep hb h)
theorem ChainAt.iface {w : World} {r : Base} {ws : List ByteArray} {v : Value} (h : ChainAt w r ws v) : ∃ T V, v = .iface T V := Chain.iface h

/-! ### New, In, errors.New -/
theorem new_nil (a : Int) (w : World) : Calls Tryz.prog 28 #[.int .i64 0, .int .i64 a] w fun e w' => e = .returned .nilIface ∧ w' = w := by
  go_enter Tryz.func28, Tryz.ntmps28
  go_wp2
  go_ret
  exact ⟨rfl, rfl⟩

theorem new_any (c a : Int) (hc : c ≠ 0) (w : World) : Calls Tryz.prog 28 #[.int .i64 c, .int .i64 a] w fun e w' =>
    e = .returned (.iface 99 (.pointer (some ⟨w.heap.size, 0, none⟩))) ∧ w' = w.alloc (.cells #[.int .i64 c, .int .i64 a] 102) := by
  have hb : (c == 0) = false := by simpa using hc
  go_enter Tryz.func28, Tryz.ntmps28
  go_wp2
  go_ret
  exact ⟨rfl, rfl⟩

theorem new_chain (c a : Int) (w : World) : ChainAt (w.alloc (.cells #[.int .i64 c, .int .i64 a] 102)) (.fault w.heap.size c a) [] (.iface 99 (.pointer (some ⟨w.heap.size, 0, none⟩))) :=
  ⟨rfl, by simp, by simp, by simp⟩

theorem in_nil (s : ByteArray) (w : World) : Calls Tryz.prog 27 #[.string s, .nilIface] w fun e w' => e = .returned .nilIface ∧ w' = w := by
  go_enter Tryz.func27, Tryz.ntmps27
  go_wp2
  go_ret
  exact ⟨rfl, rfl⟩

theorem in_any (s : ByteArray) (T : TypeId) (V : Value) (w : World) : Calls Tryz.prog 27 #[.string s, .iface T V] w fun e w' =>
    e = .returned (.iface 103 (.pointer (some ⟨w.heap.size, 0, none⟩))) ∧ w' = w.alloc (.cells #[.string s, .iface T V] 106) := by
  go_enter Tryz.func27, Tryz.ntmps27
  go_wp2
  go_ret
  exact ⟨rfl, rfl⟩

theorem in_chain (s : ByteArray) (v : Value) (w : World) (r : Base) (ws : List ByteArray) (h : ChainAt w r ws v) :
    ChainAt (w.alloc (.cells #[.string s, v] 106)) r (s :: ws) (.iface 103 (.pointer (some ⟨w.heap.size, 0, none⟩))) :=
  ⟨w.heap.size, v, rfl, by simp, by simp, by simp, h.keep (below_alloc _ _)⟩

/-! ### Code -/
theorem code_nil (w : World) : Calls Tryz.prog 23 #[.nilIface] w fun e w' => e = .returned (.int .i64 0) ∧ w' = w := by
  go_enter Tryz.func23, Tryz.ntmps23
  go_wp2
  go_ret
  exact ⟨rfl, rfl⟩

set_option maxHeartbeats 400000 in
theorem code_some (r : Base) (c : Int) (hr : r.code = some c) (ws : List ByteArray) (v : Value) (w : World) (hch : ChainAt w r ws v) (hg : Handle w) :
    Calls Tryz.prog 23 #[v] w fun e w' => e = .returned (.int .i64 c) ∧ Below w.heap.size w w' := by
  obtain ⟨T, V, rfl⟩ := hch.iface
  have HC := as_code w.heap.size r c hr ws (.iface T V) ⟨w.heap.size, 0, none⟩ (.int .i64 0) (w.alloc (.cells #[.int .i64 0] 75)) (by simp) (Chain.keep (below_alloc _ _) hch) (hg.alloc _) (by simp) (by simp)
  clear hr
  have HC := Lib.hid HC
  go_enter Tryz.func23, Tryz.ntmps23
  go_wp2_with fail
  refine HC.out.mono ?_
  rintro e w' ⟨rfl, w1, hb1, rfl⟩
  have hct : w1.cell? ⟨w.heap.size, 0, none⟩ = some (.int .i64 0) := (hb1.cell (p := ⟨w.heap.size, 0, none⟩) (by simp)).trans (by simp)
  go_wp2
  go_ret
  exact ⟨rfl, ((below_alloc _ _).trans (hb1.mono (by simp))).setCell (Nat.le_refl _) _⟩

/-! ### At -/
set_option maxHeartbeats 400000 in
theorem at_nil (w : World) : Calls Tryz.prog 24 #[.nilIface] w fun e w' => e = .returned (.int .i64 (-1)) ∧ Below w.heap.size w w' := by
  go_enter Tryz.func24, Tryz.ntmps24
  go_wp2_with (go_at_call 43; refine (as_nil _ _).mono ?_; rintro e w' ⟨rfl, rfl⟩)
  go_ret
  exact ⟨rfl, below_alloc _ _⟩

set_option maxHeartbeats 400000 in
theorem at_fault (b : Nat) (c a : Int) (ws : List ByteArray) (v : Value) (w : World) (hch : ChainAt w (.fault b c a) ws v) (hb : b < w.heap.size) (h1 : w.cell? ⟨b, 1, none⟩ = some (.int .i64 a)) (hg : Handle w) :
    Calls Tryz.prog 24 #[v] w fun e w' => e = .returned (.int .i64 a) ∧ Below w.heap.size w w' := by
  obtain ⟨T, V, rfl⟩ := hch.iface
  have HC := as_fault w.heap.size b c a ws (.iface T V) ⟨w.heap.size, 0, none⟩ (.pointer none) (w.alloc (.cells #[.pointer none] 99)) (by simp) (Chain.keep (below_alloc _ _) hch) (hg.alloc _) (by simp) (by simp)
  have HC := Lib.hid HC
  go_enter Tryz.func24, Tryz.ntmps24
  go_wp2_with fail
  refine HC.out.mono ?_
  rintro e w' ⟨rfl, w1, hb1, rfl⟩
  have hct : w1.cell? ⟨w.heap.size, 0, none⟩ = some (.pointer none) := (hb1.cell (p := ⟨w.heap.size, 0, none⟩) (by simp)).trans (by simp)
  have h1' : w1.cell? ⟨b, 1, none⟩ = some (.int .i64 a) := (((below_alloc w _).trans (hb1.mono (by simp))).cell (p := ⟨b, 1, none⟩) hb).trans h1
  have h2' : (w1.setCell ⟨w.heap.size, 0, none⟩ (.pointer (some ⟨b, 0, none⟩))).cell? ⟨b, 1, none⟩ = some (.int .i64 a) := (World.cell?_setCell_other _ _ _ _ (by intro h; simp at h)).trans h1'
  go_wp2
  go_ret
  exact ⟨rfl, ((below_alloc _ _).trans (hb1.mono (by simp))).setCell (Nat.le_refl _) _⟩

set_option maxHeartbeats 400000 in
theorem at_no (r : Base) (hr : ∀ b c a, r ≠ .fault b c a) (ws : List ByteArray) (v : Value) (w : World) (hch : ChainAt w r ws v) (hg : Handle w) :
    Calls Tryz.prog 24 #[v] w fun e w' => e = .returned (.int .i64 (-1)) ∧ Below w.heap.size w w' := by
  obtain ⟨T, V, rfl⟩ := hch.iface
  have HC := as_fault_no w.heap.size r hr ws (.iface T V) ⟨w.heap.size, 0, none⟩ (w.alloc (.cells #[.pointer none] 99)) (by simp) (Chain.keep (below_alloc _ _) hch) (hg.alloc _)
  clear hr
  have HC := Lib.hid HC
  go_enter Tryz.func24, Tryz.ntmps24
  go_wp2_with fail
  refine HC.out.mono ?_
  rintro e w' ⟨rfl, hb1⟩
  go_wp2
  go_ret
  exact ⟨rfl, (below_alloc _ _).trans (hb1.mono (by simp))⟩
end Go.Proofs.YtlcpbfklnjlgnaaGreatDoor

namespace Go.Proofs.YtlcpbfklnjlgnaaGreatDoor
open Go.RowKit Go.Extern.Stop Go.Stop Go.Extern

theorem infoStr : (Tryz.prog.info? 9).map (fun i => (i.zero, i.size, i.bytes)) = some (some (.string ByteArray.empty), 1, 16) := by kernel_rfl

theorem grown_of_below {w w' : World} (h : Below w.heap.size w w') : w.grownBy w' none := ⟨h.os, h.tape, h.output, h.size, fun k hk _ => h.block k hk⟩

def WordsOf (ws : List ByteArray) : List Value := ws.map Value.string

/-- The slot 'p' of Words: a cell at t, of a block of its own, not frozen. -/
def Spot (w : World) (t : Nat) : Prop := t < w.heap.size ∧ (∃ old, w.cell? ⟨t, 0, none⟩ = some old) ∧ w.frozen? ⟨t, 0, none⟩ = false
theorem Spot.keep {w w' : World} {t : Nat} (h : Spot w t) (hb : Below w.heap.size w w') : Spot w' t :=
  ⟨Nat.lt_of_lt_of_le h.1 hb.size, h.2.1.imp fun _ e => (hb.cell (p := ⟨t, 0, none⟩) h.1).trans e, (hb.frozen (p := ⟨t, 0, none⟩) h.1).trans h.2.2⟩
theorem Spot.set {w : World} {t : Nat} (h : Spot w t) (v : Value) : Spot (w.setCell ⟨t, 0, none⟩ v) t :=
  ⟨by simp [World.setCell]; exact h.1, ⟨v, by obtain ⟨old, e⟩ := h.2.1; exact World.cell?_setCell_same _ _ _ e⟩, by rw [World.frozen?_setCell]; exact h.2.2⟩

structure WRel (w0 : World) (r : Base) (ws : List ByteArray) (k : Nat) (v sl : Value) (wr : World) : Prop where
  ex : ∃ done rest, ws = done ++ rest ∧ k = rest.length ∧ Chain w0.heap.size wr r rest v ∧ wr.ownsRow (w0.heap.size + 1) 9 1 sl done.length (WordsOf done)
  below : Below w0.heap.size w0 wr
  spot : Spot wr w0.heap.size

set_option maxRecDepth 100000 in
set_option maxHeartbeats 1600000 in
theorem words_any (r : Base) (ws : List ByteArray) (v : Value) (w : World) (hch : ChainAt w r ws v) (hg : Handle w) (hlen : ws.length ≤ 1000) :
    Calls Tryz.prog 26 #[v] w fun e w' => ∃ sl, e = .returned sl ∧ w'.ownsRow (w.heap.size + 1) 9 1 sl ws.length (WordsOf ws) ∧ Below w.heap.size w w' := by
  obtain ⟨T, V, rfl⟩ := hch.iface
  obtain ⟨i0, hi, hz0, hz1, hz2⟩ := info_parts infoStr
  have h0 : WRel w r ws ws.length (.iface T V) (.slice none 0 0) (w.alloc (.cells #[.pointer none] 103)) :=
    ⟨⟨[], ws, rfl, rfl, Chain.keep (below_alloc _ _) hch, World.ownsRow_nil _ _ _ _⟩, below_alloc _ _, by simp, ⟨.pointer none, by simp⟩, by simp⟩
  have H0 := Lib.hid h0
  have HL := Lib.hid hlen
  clear h0 hlen hch
  go_enter Tryz.func26, Tryz.ntmps26
  go_wp2_with fail
  go_loopg [0, 3] ws.length (fun k v sl wr => WRel w r ws k v sl wr)
  case atStart => exact H0.out
  case round =>
    obtain ⟨⟨done, rest, hws, hk, hc, hown⟩, hbel, hsp⟩ := hrel
    have HW := Lib.hid hws
    clear hws
    have HK := Lib.hid hk
    clear hk
    obtain ⟨hts, ⟨old, hto⟩, htf⟩ := hsp
    cases rest with
    | nil =>
      have HA := Lib.hid (as_place_no w.heap.size r _ ⟨w.heap.size, 0, none⟩ wr (Nat.le_of_lt hts) hc (hg.below hbel))
      obtain ⟨Tv, Vv, rfl⟩ := Chain.iface hc
      clear hc
      go_wp2_with fail
      refine HA.out.mono ?_
      rintro e w' ⟨rfl, hb1⟩
      have hct : w'.cell? ⟨w.heap.size, 0, none⟩ = some old := (hb1.cell (p := ⟨w.heap.size, 0, none⟩) hts).trans hto
      go_wp2_with fail
      go_ret
      have e := HW.out
      rw [List.append_nil] at e
      rw [e]
      exact ⟨_, rfl, hown.kept (grown_of_below hb1) (by cases sl' : Value.ownBlock _ <;> simp), hbel.trans (hb1.mono (Nat.le_of_lt hts))⟩
    | cons s rest =>
      obtain ⟨b, u, rfl, hb, hc0, hc1, hr⟩ := hc
      have HA := Lib.hid (as_place b ⟨w.heap.size, 0, none⟩ old wr (hg.below hbel) hto htf)
      have HR := Lib.hid hr
      clear hr
      go_wp2_with fail
      refine HA.out.mono ?_
      rintro e w' ⟨rfl, w1, hb1, rfl⟩
      have hsp1 : Spot (w1.setCell ⟨w.heap.size, 0, none⟩ (.pointer (some ⟨b, 0, none⟩))) w.heap.size := Spot.set (Spot.keep (w := wr) ⟨hts, ⟨old, hto⟩, htf⟩ hb1) _
      have hown1 := ownsRow_setCell_below (hown.kept (grown_of_below hb1) (row := none) (by cases sl' : Value.ownBlock u3 <;> simp)) (a := ⟨w.heap.size, 0, none⟩) (by simp) (.pointer (some ⟨b, 0, none⟩))
      have hbel1 : Below w.heap.size w (w1.setCell ⟨w.heap.size, 0, none⟩ (.pointer (some ⟨b, 0, none⟩))) := (hbel.trans (hb1.mono (Nat.le_of_lt hts))).setCell (Nat.le_refl _) _
      have hwr2 : Below w.heap.size wr (w1.setCell ⟨w.heap.size, 0, none⟩ (.pointer (some ⟨b, 0, none⟩))) := (hb1.mono (Nat.le_of_lt hts)).setCell (Nat.le_refl _) _
      have HR2 := Lib.hid (Chain.keep hwr2 HR.out)
      have hct : (w1.setCell ⟨w.heap.size, 0, none⟩ (.pointer (some ⟨b, 0, none⟩))).cell? ⟨w.heap.size, 0, none⟩ = some (.pointer (some ⟨b, 0, none⟩)) :=
        World.cell?_setCell_same _ _ _ ((hb1.cell (p := ⟨w.heap.size, 0, none⟩) hts).trans hto)
      have hp0 : (w1.setCell ⟨w.heap.size, 0, none⟩ (.pointer (some ⟨b, 0, none⟩))).cell? ⟨b, 0, none⟩ = some (.string s) := by
        rw [hwr2.cell (p := ⟨b, 0, none⟩) hb]; exact hc0
      have hp1 : (w1.setCell ⟨w.heap.size, 0, none⟩ (.pointer (some ⟨b, 0, none⟩))).cell? ⟨b, 1, none⟩ = some u := by
        rw [hwr2.cell (p := ⟨b, 1, none⟩) hb]; exact hc1
      generalize w1.setCell ⟨w.heap.size, 0, none⟩ (.pointer (some ⟨b, 0, none⟩)) = w2 at *
      have hsz2 : w.heap.size < w2.heap.size := hsp1.1
      go_wp2_with (at_builtin; refine wpList_append_own _ rfl _ _ 22 rfl (w.heap.size + 1) 9 i0 (.string ByteArray.empty) 1 16 Tryz.underlying22 hi hz0 hz1 hz2 rfl (by decide) _ _ _ rfl (hown1.alloc _) ⟨w2.heap.size, 0, none⟩ 1 1 [.string s] rfl rfl ?c1 ?c2 ?c3 ?c4 ?c5 ?_)
      case c1 =>
        intro j u hj
        match j, hj with
        | 0, hj => simp at hj; subst hj; simp [Addr.add]
      case c2 => intro u hu; simp at hu; subst hu; rfl
      case c3 => have := HL.out; have := congrArg List.length HW.out; simp at this; unfold maxLen; omega
      case c4 => have := HL.out; have := congrArg List.length HW.out; simp at this; omega
      case c5 => simp; omega
      intro v' w3 hown3 hgrow3 _
      have hrow : ∀ k, Value.ownBlock u3 = some k → w.heap.size + 1 ≤ k := fun k e => (hown1.lt k e).1
      have hb23 : Below (w.heap.size + 1) w2 w3 := ((Below.refl _ _).alloc (by omega) _).grown hgrow3 (by simp; omega) hrow
      have hb23' := hb23.mono (Nat.le_succ _)
      have hct3 : w3.cell? ⟨w.heap.size, 0, none⟩ = some (.pointer (some ⟨b, 0, none⟩)) := (hb23.cell (p := ⟨w.heap.size, 0, none⟩) (Nat.lt_succ_self _)).trans hct
      have hp3 : w3.cell? ⟨b, 1, none⟩ = some u := (hb23'.cell (p := ⟨b, 1, none⟩) hb).trans hp1
      have HX : Hid (WRel w r ws rest.length u v' w3) := by
        refine ⟨⟨done ++ [s], rest, by rw [HW.out]; simp, rfl, Chain.keep hb23' HR2.out, ?_⟩, hbel1.trans hb23', ⟨Nat.lt_of_lt_of_le hsz2 hb23.size, ⟨_, hct3⟩, (hb23.frozen (p := ⟨w.heap.size, 0, none⟩) (Nat.lt_succ_self _)).trans hsp1.2.2⟩⟩
        simpa [WordsOf] using hown3
      clear hown3 hgrow3 hown1
      go_wp2_with fail
      go_roundg rest.length
      case measure => have := HK.out; simp at this; omega
      case rel => exact HX.out

/-! ### slices.Equal -/
theorem bytes_ne {s t : ByteArray} (h : s ≠ t) : (s.toList == t.toList) = false := by
  rw [beq_eq_false_iff_ne]
  intro e
  rw [Go.ByteArray.toList_eq, Go.ByteArray.toList_eq] at e
  exact h (ByteArray.ext (Array.toList_inj.1 e))

/-- A slice value whose elements are these strings. -/
def StrsAt (w : World) (v : Value) (ws : List ByteArray) : Prop :=
  (∃ a cap, v = .slice a 0 cap ∧ ws = []) ∨ ∃ b off cap, v = .slice (some ⟨b, off, none⟩) ws.length cap ∧ b < w.heap.size ∧ ∀ i, i < ws.length → w.cell? ⟨b, off + i, none⟩ = some (.string (ws.getD i ByteArray.empty))

theorem StrsAt.keep {w w' : World} {v : Value} {ws : List ByteArray} (h : StrsAt w v ws) (hb : Below w.heap.size w w') : StrsAt w' v ws := by
  rcases h with h | ⟨b, off, cap, e, hlt, hc⟩
  · exact .inl h
  · exact .inr ⟨b, off, cap, e, Nat.lt_of_lt_of_le hlt hb.size, fun i hi => (hb.cell (p := ⟨b, off + i, none⟩) hlt).trans (hc i hi)⟩

theorem strs_own {w : World} {base : Nat} {v : Value} {ws : List ByteArray} (h : w.ownsRow base 9 1 v ws.length (WordsOf ws)) : StrsAt w v ws := by
  obtain ⟨h1, h2⟩ := h
  rcases h2 with ⟨rfl, h0⟩ | ⟨g, cap, cur, rfl, hg, hh, h3, h4, h5, h6⟩
  · exact .inl ⟨none, 0, rfl, List.eq_nil_of_length_eq_zero h0⟩
  · refine .inr ⟨g, 0, cap, rfl, ?_, fun i hi => ?_⟩
    · exact (Array.getElem?_eq_some_iff.1 hh).1
    · have e := congrArg (fun l => l[i]?) h6
      simp [WordsOf, hi] at e
      simp [World.cell?, hh, e, List.getD, List.getElem?_eq_getElem hi]

set_option maxHeartbeats 1000000 in
theorem equalS_len (v1 v2 : Value) (w1 w2 : List ByteArray) (w : World) (h1 : StrsAt w v1 w1) (h2 : StrsAt w v2 w2) (hne : w1.length ≠ w2.length) :
    Calls Tryz.prog 25 #[v1, v2] w fun e w' => e = .returned (.bool false) ∧ ∃ n, w' = w.drewN n := by
  obtain ⟨a1, c1, rfl⟩ : ∃ a c, v1 = .slice a w1.length c := by
    rcases h1 with ⟨a, c, e, e'⟩ | ⟨b, o, c, e, _⟩
    · exact ⟨a, c, by rw [e, e']; rfl⟩
    · exact ⟨_, c, e⟩
  obtain ⟨a2, c2, rfl⟩ : ∃ a c, v2 = .slice a w2.length c := by
    rcases h2 with ⟨a, c, e, e'⟩ | ⟨b, o, c, e, _⟩
    · exact ⟨a, c, by rw [e, e']; rfl⟩
    · exact ⟨_, c, e⟩
  clear h1 h2
  have hn : (w1.length : Int) ≠ w2.length := by omega
  go_enter Tryz.func25, Tryz.ntmps25
  go_wp2
  go_ret
  exact ⟨rfl, 0, rfl⟩

structure EqRel (w : World) (w1 w2 : List ByteArray) (k : Nat) (i : Value) (wr : World) : Prop where
  ex : ∃ j, j ≤ w1.length ∧ k = w1.length - j ∧ i = .int .i64 j ∧ ∀ m, m < j → w1.getD m ByteArray.empty = w2.getD m ByteArray.empty
  drew : ∃ d, wr = w.drewN d

set_option maxRecDepth 100000 in
set_option maxHeartbeats 1000000 in
theorem equalS_same (v1 v2 : Value) (w1 w2 : List ByteArray) (w : World) (h1 : StrsAt w v1 w1) (h2 : StrsAt w v2 w2) (hl : w1.length = w2.length) (hlen : w1.length ≤ 1000) :
    Calls Tryz.prog 25 #[v1, v2] w fun e w' => e = .returned (.bool (decide (w1 = w2))) ∧ ∃ n, w' = w.drewN n := by
  obtain ⟨b1, o1, c1, rfl, H1⟩ : ∃ b o c, v1 = .slice b w1.length c ∧ Hid (∀ i, i < w1.length → ∃ b', b = some ⟨b', o, none⟩ ∧ w.cell? ⟨b', o + i, none⟩ = some (.string (w1.getD i ByteArray.empty))) := by
    rcases h1 with ⟨a, c, e, e'⟩ | ⟨b, o, c, e, _, hc⟩
    · exact ⟨a, 0, c, by rw [e, e']; rfl, fun i hi => by rw [e'] at hi; exact absurd hi (by simp)⟩
    · exact ⟨_, o, c, e, fun i hi => ⟨b, rfl, hc i hi⟩⟩
  obtain ⟨b2, o2, c2, rfl, H2⟩ : ∃ b o c, v2 = .slice b w2.length c ∧ Hid (∀ i, i < w2.length → ∃ b', b = some ⟨b', o, none⟩ ∧ w.cell? ⟨b', o + i, none⟩ = some (.string (w2.getD i ByteArray.empty))) := by
    rcases h2 with ⟨a, c, e, e'⟩ | ⟨b, o, c, e, _, hc⟩
    · exact ⟨a, 0, c, by rw [e, e']; rfl, fun i hi => by rw [e'] at hi; exact absurd hi (by simp)⟩
    · exact ⟨_, o, c, e, fun i hi => ⟨b, rfl, hc i hi⟩⟩
  clear h1 h2
  have H0 : Hid (EqRel w w1 w2 w1.length (.int .i64 0) w) := ⟨⟨0, Nat.zero_le _, rfl, rfl, fun m h => by omega⟩, 0, rfl⟩
  have HL := Lib.hid hl
  have hlb : ((w1.length : Int) != w2.length) = false := by rw [hl]; simp
  clear hl
  go_enter Tryz.func25, Tryz.ntmps25
  go_wp2
  go_loopg [13] w1.length (fun k i wr => EqRel w w1 w2 k i wr)
  case atStart => exact H0.out
  case round =>
    obtain ⟨⟨j, hj, hk, rfl, hall⟩, d, rfl⟩ := hrel
    have HK := Lib.hid hk
    have HA := Lib.hid hall
    clear hk hall
    by_cases hlt : j < w1.length
    · obtain ⟨b1', rfl, k1⟩ := H1.out j hlt
      obtain ⟨b2', rfl, k2⟩ := H2.out j (by rw [← HL.out]; exact hlt)
      have hlt2 : j < w2.length := by rw [← HL.out]; exact hlt
      by_cases he : w1.getD j ByteArray.empty = w2.getD j ByteArray.empty
      · have HE := Lib.hid he
        rw [← he] at k2
        clear he
        obtain ⟨s, hs⟩ : ∃ s, w1.getD j ByteArray.empty = s := ⟨_, rfl⟩
        rw [hs] at k1 k2
        clear hs
        go_wp2
        go_quiet (fail)
        go_wp2
        go_roundg (w1.length - (j + 1))
        case measure => have := HK.out; omega
        case rel =>
          refine ⟨⟨j + 1, by omega, rfl, by go_num, fun m hm => ?_⟩, _, rfl⟩
          by_cases hmj : m < j
          · exact HA.out m hmj
          · obtain rfl : m = j := by omega
            exact HE.out
      · have HE := Lib.hid he
        have hne := bytes_ne he
        have hd : decide (w1 = w2) = false := decide_eq_false (fun h => he (by rw [h]))
        have HD := Lib.hid hd
        clear he hd
        generalize w1.getD j ByteArray.empty = s at *
        generalize w2.getD j ByteArray.empty = t at *
        go_wp2
        go_quiet (fail)
        go_wp2
        go_ret
        exact ⟨by rw [HD.out]; rfl, _, World.drewN_drewN _ _ _⟩
    · obtain rfl : j = w1.length := by omega
      have hd : decide (w1 = w2) = true := decide_eq_true (by
        refine List.ext_getElem HL.out (fun i hi hi' => ?_)
        have := HA.out i hi
        simpa [List.getD, List.getElem?_eq_getElem hi, List.getElem?_eq_getElem hi'] using this)
      have HD := Lib.hid hd
      clear hd
      go_wp2
      go_ret
      exact ⟨by rw [HD.out]; rfl, d, rfl⟩

theorem equalS_any (v1 v2 : Value) (w1 w2 : List ByteArray) (w : World) (h1 : StrsAt w v1 w1) (h2 : StrsAt w v2 w2) (hlen : w1.length ≤ 1000) :
    Calls Tryz.prog 25 #[v1, v2] w fun e w' => e = .returned (.bool (decide (w1 = w2))) ∧ ∃ n, w' = w.drewN n := by
  by_cases hl : w1.length = w2.length
  · exact equalS_same v1 v2 w1 w2 w h1 h2 hl hlen
  · rw [decide_eq_false (fun h => hl (by rw [h]))]
    exact equalS_len v1 v2 w1 w2 w h1 h2 hl
end Go.Proofs.YtlcpbfklnjlgnaaGreatDoor

namespace Go
section
variable {P : Program} (w : World)
theorem run_equalIn_iface_int (d : Nat) {ti tn : TypeId} {ms : Array (String × TypeId)} {i : TypeInfo} {k : IntKind} (a b : Int)
    (hi : P.underlying ti = some (.interface ms)) (hn : P.underlying tn = some (.int k)) (hinfo : P.info? tn = some i) (hcomp : i.comparable = true) :
    (Op.equalIn (d + 2) ti (.iface tn (.int k a)) (.iface tn (.int k b))).run P w = .ok (a == b) w := by
  simp [Op.equalIn, run_underlying hi, run_underlying hn, typeInfo, hinfo, hcomp]
/-- Two interface values of one integer type are equal just as the numbers are. -/
theorem run_eql_iface_int {ti tn : TypeId} {ms : Array (String × TypeId)} {i : TypeInfo} {k : IntKind} (a b : Int)
    (hi : P.underlying ti = some (.interface ms)) (hn : P.underlying tn = some (.int k)) (hinfo : P.info? tn = some i) (hcomp : i.comparable = true) :
    (binOp .eql ti (.iface tn (.int k a)) (.iface tn (.int k b))).run P w = .ok (.bool (a == b)) w := by
  simp only [binOp]
  simp [Op.equal, Op.maxDepth, run_equalIn_iface_int w 9998 a b hi hn hinfo hcomp]
end
end Go
namespace Go.Proofs.YtlcpbfklnjlgnaaGreatDoor
open Go.RowKit Go.Extern.Stop Go.Stop Go.Extern

theorem isCompErrno : (Tryz.prog.info? 75).map (·.comparable) = some true := by kernel_rfl
theorem eql_errno (a b : Int) (w : World) : (binOp .eql 43 (.iface 75 (.int .i64 a)) (.iface 75 (.int .i64 b))).run Tryz.prog w = .ok (.bool (a == b)) w := by
  obtain ⟨i, hi, hc⟩ := Option.map_eq_some_iff.1 isCompErrno
  exact run_eql_iface_int w a b Tryz.underlying43 Tryz.underlying75 hi hc
theorem eql_types (a b : TypeId) (u v : Value) (h : a ≠ b) (w : World) : (binOp .eql 43 (.iface a u) (.iface b v)).run Tryz.prog w = .ok (.bool false) w :=
  run_eql_iface_types a b u v Tryz.underlying43 h w

theorem compErrno (w : World) : (callFunc 202 #[.agg #[.pointer (some ⟨4, 75, none⟩)]]).run Tryz.prog w = .ok (.value (.bool true)) w := by
  have h := @run_callFunc_extern Tryz.prog 202 _ (ReflectliteType.method fun t => do Rtype.noPackHeld "Comparable" t; pure (.bool (← typeInfo t).comparable)) Tryz.func202 (by kernel_rfl) (by kernel_rfl) (by kernel_rfl) (by kernel_rfl)
  have k : ∀ w, ((ReflectliteType.method fun t => do Rtype.noPackHeld "Comparable" t; pure (.bool (← typeInfo t).comparable)) #[.agg #[.pointer (some ⟨4, 75, none⟩)]]).run Tryz.prog w = .ok (.bool true) w := fun w => by kernel_rfl
  rw [h, k]
  rfl

def NotRel (B : Nat) (w1 : World) (r : Base) (c' : Int) (k : Nat) (v : Value) : Prop :=
  (∃ ws, k = ws.length + 1 ∧ Chain B w1 r ws v) ∨ (k = 0 ∧ ∃ c, c ≠ c' ∧ v = .iface 75 (.int .i64 c))

end Go.Proofs.YtlcpbfklnjlgnaaGreatDoor

namespace Go.Proofs.YtlcpbfklnjlgnaaGreatDoor
open Go.RowKit Go.Extern.Stop Go.Stop Go.Extern

def netS : ByteArray := ⟨#[110, 101, 116]⟩

set_option maxRecDepth 100000 in
set_option maxHeartbeats 1600000 in
theorem awake1_any (w : World) (hg : Handle w) :
    Calls Tryz.prog 89 #[] w fun e w' => e = .returned (.bool true) ∧ Below w.heap.size w w' := by
  have h1 := new_any 4 7 (by decide) w
  have c1 := new_chain 4 7 w
  have b1 := below_alloc w (.cells #[.int .i64 4, .int .i64 7] 102)
  have g1 := hg.below b1
  have hsz1 : (w.alloc (.cells #[.int .i64 4, .int .i64 7] 102)).heap.size = w.heap.size + 1 := by simp
  have q1 : (w.alloc (.cells #[.int .i64 4, .int .i64 7] 102)).cell? ⟨w.heap.size, 1, none⟩ = some (.int .i64 7) := by simp
  generalize w.alloc (.cells #[.int .i64 4, .int .i64 7] 102) = w1 at *
  have h2 := in_any netS 99 (.pointer (some ⟨w.heap.size, 0, none⟩)) w1
  have c2 := in_chain netS _ w1 _ _ c1
  have b2 := below_alloc w1 (.cells #[.string netS, .iface 99 (.pointer (some ⟨w.heap.size, 0, none⟩))] 106)
  have g2 := g1.below b2
  have q2 := (b2.cell (p := ⟨w.heap.size, 1, none⟩) (by show w.heap.size < _; omega)).trans q1
  generalize w1.alloc (.cells #[.string netS, .iface 99 (.pointer (some ⟨w.heap.size, 0, none⟩))] 106) = w2 at *
  have hlt2 : w.heap.size < w2.heap.size := by have := b2.size; omega
  have B2 : Below w.heap.size w w2 := b1.trans (b2.mono (by omega))
  obtain ⟨W1, HW1⟩ : ∃ n, n = w1.heap.size := ⟨_, rfl⟩
  rw [← HW1] at h2 c2
  have H1 := Lib.hid h1
  have H2 := Lib.hid h2
  have HC := Lib.hid c2
  have HS1 := Lib.hid hsz1
  have HWW := Lib.hid HW1
  clear h1 h2 c1 c2 hsz1 HW1 q1 b1 b2
  go_enter Tryz.func89, Tryz.ntmps89
  go_wp2_with fail
  refine H1.out.mono ?_
  rintro e w' ⟨rfl, rfl⟩
  go_wp2_with fail
  refine H2.out.mono ?_
  rintro e w' ⟨rfl, rfl⟩
  go_wp2_with fail
  refine (words_any _ _ _ _ HC.out g2 (by decide)).mono ?_
  rintro e w3 ⟨sl, rfl, hown, b3⟩
  have hs := strs_own hown
  clear hown
  rcases hs with ⟨a, cap, rfl, h0⟩ | ⟨b, off, cap, rfl, hb, hc⟩
  · cases h0
  have hc0 := hc 0 (by decide)
  clear hc
  have c3 := Lib.hid (HC.out.keep b3)
  have g3 := g2.below b3
  have q3 := (b3.cell (p := ⟨w.heap.size, 1, none⟩) hlt2).trans q2
  go_wp2_with fail
  refine (code_some _ 4 rfl _ _ _ c3.out g3).mono ?_
  rintro e w4 ⟨rfl, b4⟩
  have c4 := Lib.hid (c3.out.keep b4)
  have g4 := g3.below b4
  have q4 := (b4.cell (p := ⟨w.heap.size, 1, none⟩) (Nat.lt_of_lt_of_le hlt2 b3.size)).trans q3
  go_wp2_with fail
  refine (at_fault _ _ _ _ _ _ c4.out (Nat.lt_of_lt_of_le hlt2 (Nat.le_trans b3.size b4.size)) q4 g4).mono ?_
  rintro e w5 ⟨rfl, b5⟩
  have k5 := (b5.cell (p := ⟨b, off + 0, none⟩) (Nat.lt_of_lt_of_le hb b4.size)).trans ((b4.cell (p := ⟨b, off + 0, none⟩) hb).trans hc0)
  simp [netS] at k5
  go_wp2_with fail
  refine (code_nil _).mono ?_
  rintro e w6 ⟨rfl, rfl⟩
  go_wp2_with fail
  go_ret
  exact ⟨rfl, B2.trans ((b3.trans ((b4.trans (b5.mono b4.size)).mono b3.size)).mono (Nat.le_of_lt hlt2))⟩

theorem Awake1_any (w : World) (hg : Handle w) :
    Calls Tryz.prog 56 #[] w fun e w' => e = .returned (.bool true) ∧ Below w.heap.size w w' := by
  go_enter Tryz.func56, Tryz.ntmps56
  go_wp2_with (go_at_call 89; refine (awake1_any _ hg).mono ?_; rintro e w' ⟨rfl, hb⟩)
  go_ret
  exact ⟨rfl, hb⟩

/-! ### of -/
/-- The innermost error of a chain. -/
theorem Chain.root {B : Nat} {w : World} {r : Base} : ∀ {l : List ByteArray} {v : Value}, Chain B w r l v → ∃ u, Root B w r u
  | [], v, h => ⟨v, h⟩
  | _ :: _, _, ⟨_, _, _, _, _, _, hr⟩ => Chain.root hr

theorem at_chain (b : Nat) (c a : Int) (ws : List ByteArray) (v : Value) (w : World) (hch : ChainAt w (.fault b c a) ws v) (hg : Handle w) :
    Calls Tryz.prog 24 #[v] w fun e w' => e = .returned (.int .i64 a) ∧ Below w.heap.size w w' := by
  obtain ⟨u, -, h2, -, h4⟩ := Chain.root hch
  exact at_fault b c a ws v w hch h2 h4 hg

/-- A slice value by its parts: its cells are known where there are any. -/
theorem StrsAt.parts {w : World} {v : Value} {ws : List ByteArray} (h : StrsAt w v ws) : ∃ b o c, v = .slice b ws.length c ∧ Hid (∀ i, i < ws.length → ∃ b', b = some ⟨b', o, none⟩ ∧ b' < w.heap.size ∧ w.cell? ⟨b', o + i, none⟩ = some (.string (ws.getD i ByteArray.empty))) := by
  rcases h with ⟨a, c, e, e'⟩ | ⟨b, o, c, e, hb, hc⟩
  · exact ⟨a, 0, c, by rw [e, e']; rfl, fun i hi => by rw [e'] at hi; exact absurd hi (by simp)⟩
  · exact ⟨_, o, c, e, fun i hi => ⟨b, rfl, hb, hc i hi⟩⟩

/-- A chain of a fault stays where a number in another block is written over. -/
theorem Chain.set {B : Nat} {w : World} {b0 t j : Nat} {c a z : Int} {x : Value} (hq : w.cell? ⟨t, 0, none⟩ = some (.int .i64 z)) (hne : b0 ≠ t) : ∀ {l : List ByteArray} {v : Value}, Chain B w (.fault b0 c a) l v → Chain B (w.setCell ⟨t, j, none⟩ x) (.fault b0 c a) l v
  | [], _, ⟨e, hb, h0, h1⟩ => ⟨e, hb, (World.cell?_setCell_other _ _ _ _ (by intro h; simp at h <;> omega)).trans h0, (World.cell?_setCell_other _ _ _ _ (by intro h; simp at h <;> omega)).trans h1⟩
  | _ :: _, _, ⟨b, u, e, hb, h0, h1, hr⟩ => by
    have hbt : b ≠ t := by
      intro h
      rw [h, hq] at h0
      cases h0
    exact ⟨b, u, e, hb, (World.cell?_setCell_other _ _ _ _ (by intro h; simp at h <;> omega)).trans h0, (World.cell?_setCell_other _ _ _ _ (by intro h; simp at h <;> omega)).trans h1, Chain.set hq hne hr⟩

/-! ### fairleadlaw01.Is -/
set_option maxHeartbeats 400000 in
theorem lawIs_nil (a : Int) (w : World) : Calls Tryz.prog 59 #[.nilIface, .int .i64 0, .int .i64 a] w fun e w' => e = .returned (.bool true) ∧ w' = w := by
  go_enter Tryz.func59, Tryz.ntmps59
  go_wp2
  go_ret
  exact ⟨rfl, rfl⟩

set_option maxRecDepth 100000 in
set_option maxHeartbeats 1000000 in
theorem lawIs_fault (b : Nat) (c a : Int) (hc : c ≠ 0) (v : Value) (w : World) (hch : ChainAt w (.fault b c a) [] v) (hg : Handle w) :
    Calls Tryz.prog 59 #[v, .int .i64 c, .int .i64 a] w fun e w' => e = .returned (.bool true) ∧ Below w.heap.size w w' := by
  obtain ⟨T, V, rfl⟩ := hch.iface
  have hcb : (c == 0) = false := by simpa using hc
  clear hc
  go_enter Tryz.func59, Tryz.ntmps59
  go_wp2_with fail
  refine (code_some _ c rfl _ _ _ hch hg).mono ?_
  rintro e w1 ⟨rfl, b1⟩
  have c1 := Lib.hid (hch.keep b1)
  go_wp2_with fail
  refine (at_chain _ _ _ _ _ _ c1.out (hg.below b1)).mono ?_
  rintro e w2 ⟨rfl, b2⟩
  have c2 := Lib.hid (c1.out.keep b2)
  go_wp2_with fail
  refine (words_any _ _ _ _ c2.out ((hg.below b1).below b2) (by decide)).mono ?_
  rintro e w3 ⟨sl, rfl, hown, b3⟩
  have hs := strs_own hown
  clear hown
  obtain ⟨x, y, z, rfl, -⟩ := hs.parts
  go_wp2_with fail
  go_ret
  exact ⟨rfl, b1.trans ((b2.trans (b3.mono b2.size)).mono b1.size)⟩
end Go.Proofs.YtlcpbfklnjlgnaaGreatDoor
