/-
  oops.Words and slices.Equal over strings, by contracts: the words of any chain, in a new slice; whether two slices of strings are the same.
-/
import Derived.Test.YtajmlkephefapaaGreatDoorOops
import Derived.Deep.QuietTactic
import Derived.BigQuiet
namespace Go.Proofs.YtajmlkephefapaaGreatDoor
open Go.RowKit Go.Extern.Stop Go.Stop Go.Extern

theorem infoStr : (Tryz.prog.info? 9).map (fun i => (i.zero, i.size, i.bytes)) = some (some (.string ByteArray.empty), 1, 16) := by kernel_rfl

theorem grown_of_below {w w' : World} (h : Below w.heap.size w w') : w.grownBy w' none := ⟨h.os, h.tape, h.output, h.size, fun k hk _ => h.block k hk⟩

def WordsOf (ws : List ByteArray) : List Value := ws.map Value.string

/-- The slot 'p' of Words: a cell at t, of a block of its own, not frozen. -/
def Spot (w : World) (t : Nat) : Prop := t < w.heap.size ∧ (∃ old, w.cell? ⟨t, 0, none⟩ = some old) ∧ w.frozen? ⟨t, 0, none⟩ = false
theorem Spot.keep {w w' : World} {t : Nat} (h : Spot w t) (hb : Below w.heap.size w w') : Spot w' t :=
  ⟨Nat.lt_of_lt_of_le h.1 hb.size, h.2.1.imp fun _ e => (hb.cell (p := ⟨t, 0, none⟩) h.1).trans e, (hb.frozen (p := ⟨t, 0, none⟩) h.1).trans h.2.2⟩
theorem Spot.set {w : World} {t : Nat} (h : Spot w t) (v : Value) : Spot (w.setCell ⟨t, 0, none⟩ v) t :=
  ⟨by simp [World.setCell]; exact h.1, ⟨v, by obtain ⟨old, e⟩ := h.2.1; exact World.cell?_setCell_same _ _ _ e⟩, by rw [World.frozen?_setCell]; exact h.2.2⟩

structure WRel (w0 : World) (r : Base) (ws : List ByteArray) (k : Nat) (v sl : Value) (wr : World) : Prop where
  ex : ∃ done rest, ws = done ++ rest ∧ k = rest.length ∧ Chain w0.heap.size wr r rest v ∧ wr.ownsRow (w0.heap.size + 1) 9 1 sl done.length (WordsOf done)
  below : Below w0.heap.size w0 wr
  spot : Spot wr w0.heap.size

set_option maxRecDepth 100000 in
set_option maxHeartbeats 1600000 in
theorem words_any (r : Base) (ws : List ByteArray) (v : Value) (w : World) (hch : ChainAt w r ws v) (hg : Handle w) (hlen : ws.length ≤ 1000) :
    Calls Tryz.prog 37 #[v] w fun e w' => ∃ sl, e = .returned sl ∧ w'.ownsRow (w.heap.size + 1) 9 1 sl ws.length (WordsOf ws) ∧ Below w.heap.size w w' := by
  obtain ⟨T, V, rfl⟩ := hch.iface
  obtain ⟨i0, hi, hz0, hz1, hz2⟩ := info_parts infoStr
  have h0 : WRel w r ws ws.length (.iface T V) (.slice none 0 0) (w.alloc (.cells #[.pointer none] 113)) :=
    ⟨⟨[], ws, rfl, rfl, Chain.keep (below_alloc _ _) hch, World.ownsRow_nil _ _ _ _⟩, below_alloc _ _, by simp, ⟨.pointer none, by simp⟩, by simp⟩
  have H0 := Lib.hid h0
  have HL := Lib.hid hlen
  clear h0 hlen hch
  go_enter Tryz.func37, Tryz.ntmps37
  go_wp2_with fail
  go_loopg [0, 3] ws.length (fun k v sl wr => WRel w r ws k v sl wr)
  case atStart => exact H0.out
  case round =>
    obtain ⟨⟨done, rest, hws, hk, hc, hown⟩, hbel, hsp⟩ := hrel
    have HW := Lib.hid hws
    clear hws
    have HK := Lib.hid hk
    clear hk
    obtain ⟨hts, ⟨old, hto⟩, htf⟩ := hsp
    cases rest with
    | nil =>
      have HA := Lib.hid (as_place_no w.heap.size r _ ⟨w.heap.size, 0, none⟩ wr (Nat.le_of_lt hts) hc (hg.below hbel))
      obtain ⟨Tv, Vv, rfl⟩ := Chain.iface hc
      clear hc
      go_wp2_with fail
      refine HA.out.mono ?_
      rintro e w' ⟨rfl, hb1⟩
      have hct : w'.cell? ⟨w.heap.size, 0, none⟩ = some old := (hb1.cell (p := ⟨w.heap.size, 0, none⟩) hts).trans hto
      go_wp2_with fail
      go_ret
      have e := HW.out
      rw [List.append_nil] at e
      rw [e]
      exact ⟨_, rfl, hown.kept (grown_of_below hb1) (by cases sl' : Value.ownBlock _ <;> simp), hbel.trans (hb1.mono (Nat.le_of_lt hts))⟩
    | cons s rest =>
      obtain ⟨b, u, rfl, hb, hc0, hc1, hr⟩ := hc
      have HA := Lib.hid (as_place b ⟨w.heap.size, 0, none⟩ old wr (hg.below hbel) hto htf)
      have HR := Lib.hid hr
      clear hr
      go_wp2_with fail
      refine HA.out.mono ?_
      rintro e w' ⟨rfl, w1, hb1, rfl⟩
      have hsp1 : Spot (w1.setCell ⟨w.heap.size, 0, none⟩ (.pointer (some ⟨b, 0, none⟩))) w.heap.size := Spot.set (Spot.keep (w := wr) ⟨hts, ⟨old, hto⟩, htf⟩ hb1) _
      have hown1 := ownsRow_setCell_below (hown.kept (grown_of_below hb1) (row := none) (by cases sl' : Value.ownBlock u3 <;> simp)) (a := ⟨w.heap.size, 0, none⟩) (by simp) (.pointer (some ⟨b, 0, none⟩))
      have hbel1 : Below w.heap.size w (w1.setCell ⟨w.heap.size, 0, none⟩ (.pointer (some ⟨b, 0, none⟩))) := (hbel.trans (hb1.mono (Nat.le_of_lt hts))).setCell (Nat.le_refl _) _
      have hwr2 : Below w.heap.size wr (w1.setCell ⟨w.heap.size, 0, none⟩ (.pointer (some ⟨b, 0, none⟩))) := (hb1.mono (Nat.le_of_lt hts)).setCell (Nat.le_refl _) _
      have HR2 := Lib.hid (Chain.keep hwr2 HR.out)
      have hct : (w1.setCell ⟨w.heap.size, 0, none⟩ (.pointer (some ⟨b, 0, none⟩))).cell? ⟨w.heap.size, 0, none⟩ = some (.pointer (some ⟨b, 0, none⟩)) :=
        World.cell?_setCell_same _ _ _ ((hb1.cell (p := ⟨w.heap.size, 0, none⟩) hts).trans hto)
      have hp0 : (w1.setCell ⟨w.heap.size, 0, none⟩ (.pointer (some ⟨b, 0, none⟩))).cell? ⟨b, 0, none⟩ = some (.string s) := by
        rw [hwr2.cell (p := ⟨b, 0, none⟩) hb]; exact hc0
      have hp1 : (w1.setCell ⟨w.heap.size, 0, none⟩ (.pointer (some ⟨b, 0, none⟩))).cell? ⟨b, 1, none⟩ = some u := by
        rw [hwr2.cell (p := ⟨b, 1, none⟩) hb]; exact hc1
      generalize w1.setCell ⟨w.heap.size, 0, none⟩ (.pointer (some ⟨b, 0, none⟩)) = w2 at *
      have hsz2 : w.heap.size < w2.heap.size := hsp1.1
      go_wp2_with (at_builtin; refine wpList_append_own _ rfl _ _ 25 rfl (w.heap.size + 1) 9 i0 (.string ByteArray.empty) 1 16 Tryz.underlying25 hi hz0 hz1 hz2 rfl (by decide) _ _ _ rfl (hown1.alloc _) ⟨w2.heap.size, 0, none⟩ 1 1 [.string s] rfl rfl ?c1 ?c2 ?c3 ?c4 ?c5 ?_)
      case c1 =>
        intro j u hj
        match j, hj with
        | 0, hj => simp at hj; subst hj; simp [Addr.add]
      case c2 => intro u hu; simp at hu; subst hu; rfl
      case c3 => have := HL.out; have := congrArg List.length HW.out; simp at this; unfold maxLen; omega
      case c4 => have := HL.out; have := congrArg List.length HW.out; simp at this; omega
      case c5 => simp; omega
      intro v' w3 hown3 hgrow3 _
      have hrow : ∀ k, Value.ownBlock u3 = some k → w.heap.size + 1 ≤ k := fun k e => (hown1.lt k e).1
      have hb23 : Below (w.heap.size + 1) w2 w3 := ((Below.refl _ _).alloc (by omega) _).grown hgrow3 (by simp; omega) hrow
      have hb23' := hb23.mono (Nat.le_succ _)
      have hct3 : w3.cell? ⟨w.heap.size, 0, none⟩ = some (.pointer (some ⟨b, 0, none⟩)) := (hb23.cell (p := ⟨w.heap.size, 0, none⟩) (Nat.lt_succ_self _)).trans hct
      have hp3 : w3.cell? ⟨b, 1, none⟩ = some u := (hb23'.cell (p := ⟨b, 1, none⟩) hb).trans hp1
      have HX : Hid (WRel w r ws rest.length u v' w3) := by
        refine ⟨⟨done ++ [s], rest, by rw [HW.out]; simp, rfl, Chain.keep hb23' HR2.out, ?_⟩, hbel1.trans hb23', ⟨Nat.lt_of_lt_of_le hsz2 hb23.size, ⟨_, hct3⟩, (hb23.frozen (p := ⟨w.heap.size, 0, none⟩) (Nat.lt_succ_self _)).trans hsp1.2.2⟩⟩
        simpa [WordsOf] using hown3
      clear hown3 hgrow3 hown1
      go_wp2_with fail
      go_roundg rest.length
      case measure => have := HK.out; simp at this; omega
      case rel => exact HX.out

/-! ### slices.Equal -/
theorem bytes_ne {s t : ByteArray} (h : s ≠ t) : (s.toList == t.toList) = false := by
  rw [beq_eq_false_iff_ne]
  intro e
  rw [Go.ByteArray.toList_eq, Go.ByteArray.toList_eq] at e
  exact h (ByteArray.ext (Array.toList_inj.1 e))

/-- A slice value whose elements are these strings. -/
def StrsAt (w : World) (v : Value) (ws : List ByteArray) : Prop :=
  (∃ a cap, v = .slice a 0 cap ∧ ws = []) ∨ ∃ b off cap, v = .slice (some ⟨b, off, none⟩) ws.length cap ∧ b < w.heap.size ∧ ∀ i, i < ws.length → w.cell? ⟨b, off + i, none⟩ = some (.string (ws.getD i ByteArray.empty))

theorem StrsAt.keep {w w' : World} {v : Value} {ws : List ByteArray} (h : StrsAt w v ws) (hb : Below w.heap.size w w') : StrsAt w' v ws := by
  rcases h with h | ⟨b, off, cap, e, hlt, hc⟩
  · exact .inl h
  · exact .inr ⟨b, off, cap, e, Nat.lt_of_lt_of_le hlt hb.size, fun i hi => (hb.cell (p := ⟨b, off + i, none⟩) hlt).trans (hc i hi)⟩

theorem strs_own {w : World} {base : Nat} {v : Value} {ws : List ByteArray} (h : w.ownsRow base 9 1 v ws.length (WordsOf ws)) : StrsAt w v ws := by
  obtain ⟨h1, h2⟩ := h
  rcases h2 with ⟨rfl, h0⟩ | ⟨g, cap, cur, rfl, hg, hh, h3, h4, h5, h6⟩
  · exact .inl ⟨none, 0, rfl, List.eq_nil_of_length_eq_zero h0⟩
  · refine .inr ⟨g, 0, cap, rfl, ?_, fun i hi => ?_⟩
    · exact (Array.getElem?_eq_some_iff.1 hh).1
    · have e := congrArg (fun l => l[i]?) h6
      simp [WordsOf, hi] at e
      simp [World.cell?, hh, e, List.getD, List.getElem?_eq_getElem hi]

set_option maxHeartbeats 1000000 in
theorem equalS_len (v1 v2 : Value) (w1 w2 : List ByteArray) (w : World) (h1 : StrsAt w v1 w1) (h2 : StrsAt w v2 w2) (hne : w1.length ≠ w2.length) :
    Calls Tryz.prog 47 #[v1, v2] w fun e w' => e = .returned (.bool false) ∧ ∃ n, w' = w.drewN n := by
  obtain ⟨a1, c1, rfl⟩ : ∃ a c, v1 = .slice a w1.length c := by
    rcases h1 with ⟨a, c, e, e'⟩ | ⟨b, o, c, e, _⟩
    · exact ⟨a, c, by rw [e, e']; rfl⟩
    · exact ⟨_, c, e⟩
  obtain ⟨a2, c2, rfl⟩ : ∃ a c, v2 = .slice a w2.length c := by
    rcases h2 with ⟨a, c, e, e'⟩ | ⟨b, o, c, e, _⟩
    · exact ⟨a, c, by rw [e, e']; rfl⟩
    · exact ⟨_, c, e⟩
  clear h1 h2
  have hn : (w1.length : Int) ≠ w2.length := by omega
  go_enter Tryz.func47, Tryz.ntmps47
  go_wp2
  go_ret
  exact ⟨rfl, 0, rfl⟩

structure EqRel (w : World) (w1 w2 : List ByteArray) (k : Nat) (i : Value) (wr : World) : Prop where
  ex : ∃ j, j ≤ w1.length ∧ k = w1.length - j ∧ i = .int .i64 j ∧ ∀ m, m < j → w1.getD m ByteArray.empty = w2.getD m ByteArray.empty
  drew : ∃ d, wr = w.drewN d

set_option maxRecDepth 100000 in
set_option maxHeartbeats 1000000 in
theorem equalS_same (v1 v2 : Value) (w1 w2 : List ByteArray) (w : World) (h1 : StrsAt w v1 w1) (h2 : StrsAt w v2 w2) (hl : w1.length = w2.length) (hlen : w1.length ≤ 1000) :
    Calls Tryz.prog 47 #[v1, v2] w fun e w' => e = .returned (.bool (decide (w1 = w2))) ∧ ∃ n, w' = w.drewN n := by
  obtain ⟨b1, o1, c1, rfl, H1⟩ : ∃ b o c, v1 = .slice b w1.length c ∧ Hid (∀ i, i < w1.length → ∃ b', b = some ⟨b', o, none⟩ ∧ w.cell? ⟨b', o + i, none⟩ = some (.string (w1.getD i ByteArray.empty))) := by
    rcases h1 with ⟨a, c, e, e'⟩ | ⟨b, o, c, e, _, hc⟩
    · exact ⟨a, 0, c, by rw [e, e']; rfl, fun i hi => by rw [e'] at hi; exact absurd hi (by simp)⟩
    · exact ⟨_, o, c, e, fun i hi => ⟨b, rfl, hc i hi⟩⟩
  obtain ⟨b2, o2, c2, rfl, H2⟩ : ∃ b o c, v2 = .slice b w2.length c ∧ Hid (∀ i, i < w2.length → ∃ b', b = some ⟨b', o, none⟩ ∧ w.cell? ⟨b', o + i, none⟩ = some (.string (w2.getD i ByteArray.empty))) := by
    rcases h2 with ⟨a, c, e, e'⟩ | ⟨b, o, c, e, _, hc⟩
    · exact ⟨a, 0, c, by rw [e, e']; rfl, fun i hi => by rw [e'] at hi; exact absurd hi (by simp)⟩
    · exact ⟨_, o, c, e, fun i hi => ⟨b, rfl, hc i hi⟩⟩
  clear h1 h2
  have H0 : Hid (EqRel w w1 w2 w1.length (.int .i64 0) w) := ⟨⟨0, Nat.zero_le _, rfl, rfl, fun m h => by omega⟩, 0, rfl⟩
  have HL := Lib.hid hl
  have hlb : ((w1.length : Int) != w2.length) = false := by rw [hl]; simp
  clear hl
  go_enter Tryz.func47, Tryz.ntmps47
  go_wp2
  go_loopg [13] w1.length (fun k i wr => EqRel w w1 w2 k i wr)
  case atStart => exact H0.out
  case round =>
    obtain ⟨⟨j, hj, hk, rfl, hall⟩, d, rfl⟩ := hrel
    have HK := Lib.hid hk
    have HA := Lib.hid hall
    clear hk hall
    by_cases hlt : j < w1.length
    · obtain ⟨b1', rfl, k1⟩ := H1.out j hlt
      obtain ⟨b2', rfl, k2⟩ := H2.out j (by rw [← HL.out]; exact hlt)
      have hlt2 : j < w2.length := by rw [← HL.out]; exact hlt
      by_cases he : w1.getD j ByteArray.empty = w2.getD j ByteArray.empty
      · have HE := Lib.hid he
        rw [← he] at k2
        clear he
        obtain ⟨s, hs⟩ : ∃ s, w1.getD j ByteArray.empty = s := ⟨_, rfl⟩
        rw [hs] at k1 k2
        clear hs
        go_wp2
        go_quiet (fail)
        go_wp2
        go_roundg (w1.length - (j + 1))
        case measure => have := HK.out; omega
        case rel =>
          refine ⟨⟨j + 1, by omega, rfl, by go_num, fun m hm => ?_⟩, _, rfl⟩
          by_cases hmj : m < j
          · exact HA.out m hmj
          · obtain rfl : m = j := by omega
            exact HE.out
      · have HE := Lib.hid he
        have hne := bytes_ne he
        have hd : decide (w1 = w2) = false := decide_eq_false (fun h => he (by rw [h]))
        have HD := Lib.hid hd
        clear he hd
        generalize w1.getD j ByteArray.empty = s at *
        generalize w2.getD j ByteArray.empty = t at *
        go_wp2
        go_quiet (fail)
        go_wp2
        go_ret
        exact ⟨by rw [HD.out]; rfl, _, World.drewN_drewN _ _ _⟩
    · obtain rfl : j = w1.length := by omega
      have hd : decide (w1 = w2) = true := decide_eq_true (by
        refine List.ext_getElem HL.out (fun i hi hi' => ?_)
        have := HA.out i hi
        simpa [List.getD, List.getElem?_eq_getElem hi, List.getElem?_eq_getElem hi'] using this)
      have HD := Lib.hid hd
      clear hd
      go_wp2
      go_ret
      exact ⟨by rw [HD.out]; rfl, d, rfl⟩

theorem equalS_any (v1 v2 : Value) (w1 w2 : List ByteArray) (w : World) (h1 : StrsAt w v1 w1) (h2 : StrsAt w v2 w2) (hlen : w1.length ≤ 1000) :
    Calls Tryz.prog 47 #[v1, v2] w fun e w' => e = .returned (.bool (decide (w1 = w2))) ∧ ∃ n, w' = w.drewN n := by
  by_cases hl : w1.length = w2.length
  · exact equalS_same v1 v2 w1 w2 w h1 h2 hl hlen
  · rw [decide_eq_false (fun h => hl (by rw [h]))]
    exact equalS_len v1 v2 w1 w2 w h1 h2 hl
end Go.Proofs.YtajmlkephefapaaGreatDoor
