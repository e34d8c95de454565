/-
  oops.Words and slices.Equal over strings, by contracts: the words of any chain, in a new slice; whether two slices of strings are the same.
-/
import Derived.Test.YtjanbhodikhdeaaDoorOops
import Derived.Deep.QuietTactic
import Derived.BigQuiet
namespace Go.Proofs.YtjanbhodikhdeaaDoor
open Go.RowKit Go.Extern.Stop Go.Stop Go.Extern

theorem infoStr : (Tryd.prog.info? 9).map (fun i => (i.zero, i.size, i.bytes)) = some (some (.string ByteArray.empty), 1, 16) := by kernel_rfl

theorem grown_of_below {w w' : World} (h : Below w.heap.size w w') : w.grownBy w' none := ⟨h.os, h.tape, h.output, h.size, fun k hk _ => h.block k hk⟩

def WordsOf (ws : List ByteArray) : List Value := ws.map Value.string

/-- The slot 'p' of Words: a cell at t, of a block of its own, not frozen. -/
def Spot (w : World) (t : Nat) : Prop := t < w.heap.size ∧ (∃ old, w.cell? ⟨t, 0, none⟩ = some old) ∧ w.frozen? ⟨t, 0, none⟩ = false
theorem Spot.keep {w w' : World} {t : Nat} (h : Spot w t) (hb : Below w.heap.size w w') : Spot w' t :=
  ⟨Nat.lt_of_lt_of_le h.1 hb.size, h.2.1.imp fun _ e => (hb.cell (p := ⟨t, 0, none⟩) h.1).trans e, (hb.frozen (p := ⟨t, 0, none⟩) h.1).trans h.2.2⟩
theorem Spot.set {w : World} {t : Nat} (h : Spot w t) (v : Value) : Spot (w.setCell ⟨t, 0, none⟩ v) t :=
  ⟨by simp [World.setCell]; exact h.1, ⟨v, by obtain ⟨old, e⟩ := h.2.1; exact World.cell?_setCell_same _ _ _ e⟩, by rw [World.frozen?_setCell]; exact h.2.2⟩

structure WRel (w0 : World) (r : Base) (ws : List ByteArray) (k : Nat) (v sl : Value) (wr : World) : Prop where
  ex : ∃ done rest, ws = done ++ rest ∧ k = rest.length ∧ Chain w0.heap.size wr r rest v ∧ wr.ownsRow (w0.heap.size + 1) 9 1 sl done.length (WordsOf done)
  below : Below w0.heap.size w0 wr
  spot : Spot wr w0.heap.size

set_option maxRecDepth 100000 in
set_option maxHeartbeats 1600000 in
theorem words_any (r : Base) (ws : List ByteArray) (v : Value) (w : World) (hch : ChainAt w r ws v) (hg : Handle w) (hlen : ws.length ≤ 1000) :
    Calls Tryd.prog 35 #[v] w fun e w' => ∃ sl, e = .returned sl ∧ w'.ownsRow (w.heap.size + 1) 9 1 sl ws.length (WordsOf ws) ∧ Below w.heap.size w w' := by
  obtain ⟨T, V, rfl⟩ := hch.iface
  obtain ⟨i0, hi, hz0, hz1, hz2⟩ := info_parts infoStr
  have h0 : WRel w r ws ws.length (.iface T V) (.slice none 0 0) (w.alloc (.cells #[.pointer none] 89)) :=
    ⟨⟨[], ws, rfl, rfl, Chain.keep (below_alloc _ _) hch, World.ownsRow_nil _ _ _ _⟩, below_alloc _ _, by simp, ⟨.pointer none, by simp⟩, by simp⟩
  have H0 := Lib.hid h0
  have HL := Lib.hid hlen
  clear h0 hlen hch
  go_enter Tryd.func35, Tryd.ntmps35
  go_wp2_with fail
  go_loopg [0, 3] ws.length (fun k v sl wr => WRel w r ws k v sl wr)
  case atStart => exact H0.out
  case round =>
    obtain ⟨⟨done, rest, hws, hk, hc, hown⟩, hbel, hsp⟩ := hrel
    have HW := Lib.hid hws
    clear hws
    have HK := Lib.hid hk
    clear hk
    obtain ⟨hts, ⟨old, hto⟩, htf⟩ := hsp
    cases rest with
    | nil =>
      have HA := Lib.hid (as_place_no w.heap.size r _ ⟨w.heap.size, 0, none⟩ wr (Nat.le_of_lt hts) hc (hg.below hbel))
      obtain ⟨Tv, Vv, rfl⟩ := Chain.iface hc
      clear hc
      go_wp2_with fail
      refine HA.out.mono ?_
      rintro e w' ⟨rfl, hb1⟩
      have hct : w'.cell? ⟨w.heap.size, 0, none⟩ = some old := (hb1.cell (p := ⟨w.heap.size, 0, none⟩) hts).trans hto
      go_wp2_with fail
      go_ret
      have e := HW.out
      rw [List.append_nil] at e
      rw [e]
      exact ⟨_, rfl, hown.kept (grown_of_below hb1) (by cases sl' : Value.ownBlock _ <;> simp), hbel.trans (hb1.mono (Nat.le_of_lt hts))⟩
    | cons s rest =>
      obtain ⟨b, u, rfl, hb, hc0, hc1, hr⟩ := hc
      have HA := Lib.hid (as_place b ⟨w.heap.size, 0, none⟩ old wr (hg.below hbel) hto htf)
      have HR := Lib.hid hr
      clear hr
      go_wp2_with fail
      refine HA.out.mono ?_
      rintro e w' ⟨rfl, w1, hb1, rfl⟩
      have hsp1 : Spot (w1.setCell ⟨w.heap.size, 0, none⟩ (.pointer (some ⟨b, 0, none⟩))) w.heap.size := Spot.set (Spot.keep (w := wr) ⟨hts, ⟨old, hto⟩, htf⟩ hb1) _
      have hown1 := ownsRow_setCell_below (hown.kept (grown_of_below hb1) (row := none) (by cases sl' : Value.ownBlock u3 <;> simp)) (a := ⟨w.heap.size, 0, none⟩) (by simp) (.pointer (some ⟨b, 0, none⟩))
      have hbel1 : Below w.heap.size w (w1.setCell ⟨w.heap.size, 0, none⟩ (.pointer (some ⟨b, 0, none⟩))) := (hbel.trans (hb1.mono (Nat.le_of_lt hts))).setCell (Nat.le_refl _) _
      have hwr2 : Below w.heap.size wr (w1.setCell ⟨w.heap.size, 0, none⟩ (.pointer (some ⟨b, 0, none⟩))) := (hb1.mono (Nat.le_of_lt hts)).setCell (Nat.le_refl _) _
      have HR2 := Lib.hid (Chain.keep hwr2 HR.out)
      have hct : (w1.setCell ⟨w.heap.size, 0, none⟩ (.pointer (some ⟨b, 0, none⟩))).cell? ⟨w.heap.size, 0, none⟩ = some (.pointer (some ⟨b, 0, none⟩)) :=
        World.cell?_setCell_same _ _ _ ((hb1.cell (p := ⟨w.heap.size, 0, none⟩) hts).trans hto)
      have hp0 : (w1.setCell ⟨w.heap.size, 0, none⟩ (.pointer (some ⟨b, 0, none⟩))).cell? ⟨b, 0, none⟩ = some (.string s) := by
        rw [hwr2.cell (p := ⟨b, 0, none⟩) hb]; exact hc0
      have hp1 : (w1.setCell ⟨w.heap.size, 0, none⟩ (.pointer (some ⟨b, 0, none⟩))).cell? ⟨b, 1, none⟩ = some u := by
        rw [hwr2.cell (p := ⟨b, 1, none⟩) hb]; exact hc1
      generalize w1.setCell ⟨w.heap.size, 0, none⟩ (.pointer (some ⟨b, 0, none⟩)) = w2 at *
      have hsz2 : w.heap.size < w2.heap.size := hsp1.1
      go_wp2_with (at_builtin; refine wpList_append_own _ rfl _ _ 71 rfl (w.heap.size + 1) 9 i0 (.string ByteArray.empty) 1 16 Tryd.underlying71 hi hz0 hz1 hz2 rfl (by decide) _ _ _ rfl (hown1.alloc _) ⟨w2.heap.size, 0, none⟩ 1 1 [.string s] rfl rfl ?c1 ?c2 ?c3 ?c4 ?c5 ?_)
      case c1 =>
        intro j u hj
        match j, hj with
        | 0, hj => simp at hj; subst hj; simp [Addr.add]
      case c2 => intro u hu; simp at hu; subst hu; rfl
      case c3 => have := HL.out; have := congrArg List.length HW.out; simp at this; unfold maxLen; omega
      case c4 => have := HL.out; have := congrArg List.length HW.out; simp at this; omega
      case c5 => simp; omega
      intro v' w3 hown3 hgrow3 _
      have hrow : ∀ k, Value.ownBlock u3 = some k → w.heap.size + 1 ≤ k := fun k e => (hown1.lt k e).1
      have hb23 : Below (w.heap.size + 1) w2 w3 := ((Below.refl _ _).alloc (by omega) _).grown hgrow3 (by simp; omega) hrow
      have hb23' := hb23.mono (Nat.le_succ _)
      have hct3 : w3.cell? ⟨w.heap.size, 0, none⟩ = some (.pointer (some ⟨b, 0, none⟩)) := (hb23.cell (p := ⟨w.heap.size, 0, none⟩) (Nat.lt_succ_self _)).trans hct
      have hp3 : w3.cell? ⟨b, 1, none⟩ = some u := (hb23'.cell (p := ⟨b, 1, none⟩) hb).trans hp1
      have HX : Hid (WRel w r ws rest.length u v' w3) := by
        refine ⟨⟨done ++ [s], rest, by rw [HW.out]; simp, rfl, Chain.keep hb23' HR2.out, ?_⟩, hbel1.trans hb23', ⟨Nat.lt_of_lt_of_le hsz2 hb23.size, ⟨_, hct3⟩, (hb23.frozen (p := ⟨w.heap.size, 0, none⟩) (Nat.lt_succ_self _)).trans hsp1.2.2⟩⟩
        simpa [WordsOf] using hown3
      clear hown3 hgrow3 hown1
      go_wp2_with fail
      go_roundg rest.length
      case measure => have := HK.out; simp at this; omega
      case rel => exact HX.out

/-! ### slices.Equal -/
theorem bytes_ne {s t : ByteArray} (h : s ≠ t) : (s.toList == t.toList) = false := by
  rw [beq_eq_false_iff_ne]
  intro e
  rw [Go.ByteArray.toList_eq, Go.ByteArray.toList_eq] at e
  exact h (ByteArray.ext (Array.toList_inj.1 e))

/-- A slice value whose elements are these strings. -/
def StrsAt (w : World) (v : Value) (ws : List ByteArray) : Prop :=
  (∃ a cap, v = .slice a 0 cap ∧ ws = []) ∨ ∃ b off cap, v = .slice (some ⟨b, off, none⟩) ws.length cap ∧ b < w.heap.size ∧ ∀ i, i < ws.length → w.cell? ⟨b, off + i, none⟩ = some (.string (ws.getD i ByteArray.empty))

theorem StrsAt.keep {w w' : World} {v : Value} {ws : List ByteArray} (h : StrsAt w v ws) (hb : Below w.heap.size w w') : StrsAt w' v ws := by
  rcases h with h | ⟨b, off, cap, e, hlt, hc⟩
  · exact .inl h
  · exact .inr ⟨b, off, cap, e, Nat.lt_of_lt_of_le hlt hb.size, fun i hi => (hb.cell (p := ⟨b, off + i, none⟩) hlt).trans (hc i hi)⟩

theorem strs_own {w : World} {base : Nat} {v : Value} {ws : List ByteArray} (h : w.ownsRow base 9 1 v ws.length (WordsOf ws)) : StrsAt w v ws := by
  obtain ⟨h1, h2⟩ := h
  rcases h2 with ⟨rfl, h0⟩ | ⟨g, cap, cur, rfl, hg, hh, h3, h4, h5, h6⟩
  · exact .inl ⟨none, 0, rfl, List.eq_nil_of_length_eq_zero h0⟩
  · refine .inr ⟨g, 0, cap, rfl, ?_, fun i hi => ?_⟩
    · exact (Array.getElem?_eq_some_iff.1 hh).1
    · have e := congrArg (fun l => l[i]?) h6
      simp [WordsOf, hi] at e
      simp [World.cell?, hh, e, List.getD, List.getElem?_eq_getElem hi]

end Go.Proofs.YtjanbhodikhdeaaDoor
