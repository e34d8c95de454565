/-
  A part of the proof of the statement NfaAccepts.
-/
import Derived.Test.YtbhkfifmgbcknaaGreatDoorChain
import Derived.Laws.OwnMore
import Derived.Deep.RegionHeld3
import Derived.Deep.QuietTactic
import Derived.BigQuiet
set_option linter.unusedSimpArgs false
set_option linter.unusedVariables false
namespace Go.Proofs.YtbhkfifmgbcknaaGreatDoor
open Go.RowKit Go.Extern.Stop Go.Stop Go.Extern
def Handle (w : World) : Prop := w.cell? ⟨1, 0, none⟩ = some (.iface 322 (.agg #[.pointer (some ⟨5, 94, none⟩)]))
theorem Handle.pos {w : World} (h : Handle w) : 1 < w.heap.size := World.block_lt_of_cell? w ⟨1, 0, none⟩ h
theorem Handle.keep {w w' : World} {B : Nat} (h : Handle w) (hb : Below B w w') (hB : 1 < B) : Handle w' := (hb.cell (p := ⟨1, 0, none⟩) hB).trans h
theorem Handle.below {w w' : World} (h : Handle w) (hb : Below w.heap.size w w') : Handle w' := h.keep hb h.pos
theorem Handle.alloc {w : World} (h : Handle w) (o : Obj) : Handle (w.alloc o) := h.below ((Below.refl _ _).alloc (Nat.le_refl _) _)
theorem below_alloc (w : World) (o : Obj) : Below w.heap.size w (w.alloc o) := (Below.refl _ _).alloc (Nat.le_refl _) _
def ChainAt (w : World) (r : Base) (ws : List ByteArray) (v : Value) : Prop := Chain w.heap.size w r ws v
theorem ChainAt.keep {w w' : World} {r : Base} {ws : List ByteArray} {v : Value} (h : ChainAt w r ws v) (hb : Below w.heap.size w w') : ChainAt w' r ws v :=
  Chain.up hb.size (Chain.keep hb h)
theorem ChainAt.iface {w : World} {r : Base} {ws : List ByteArray} {v : Value} (h : ChainAt w r ws v) : ∃ T V, v = .iface T V := Chain.iface h
theorem new_any (c a : Int) (hc : c ≠ 0) (w : World) : Calls Tryz.prog 84 #[.int .i64 c, .int .i64 a] w fun e w' =>
    e = .returned (.iface 154 (.pointer (some ⟨w.heap.size, 0, none⟩))) ∧ w' = w.alloc (.cells #[.int .i64 c, .int .i64 a] 156) := by
  have hb : (c == 0) = false := by simpa using hc
  go_enter Tryz.func84, Tryz.ntmps84
  go_wp2
  go_ret
  exact ⟨rfl, rfl⟩
theorem new_chain (c a : Int) (w : World) : ChainAt (w.alloc (.cells #[.int .i64 c, .int .i64 a] 156)) (.fault w.heap.size c a) [] (.iface 154 (.pointer (some ⟨w.heap.size, 0, none⟩))) :=
  ⟨rfl, by simp, by simp, by simp⟩
theorem in_nil (s : ByteArray) (w : World) : Calls Tryz.prog 89 #[.string s, .nilIface] w fun e w' => e = .returned .nilIface ∧ w' = w := by
  go_enter Tryz.func89, Tryz.ntmps89
  go_wp2
  go_ret
  exact ⟨rfl, rfl⟩
theorem in_any (s : ByteArray) (T : TypeId) (V : Value) (w : World) : Calls Tryz.prog 89 #[.string s, .iface T V] w fun e w' =>
    e = .returned (.iface 167 (.pointer (some ⟨w.heap.size, 0, none⟩))) ∧ w' = w.alloc (.cells #[.string s, .iface T V] 169) := by
  go_enter Tryz.func89, Tryz.ntmps89
  go_wp2
  go_ret
  exact ⟨rfl, rfl⟩
theorem in_chain (s : ByteArray) (v : Value) (w : World) (r : Base) (ws : List ByteArray) (h : ChainAt w r ws v) :
    ChainAt (w.alloc (.cells #[.string s, v] 169)) r (s :: ws) (.iface 167 (.pointer (some ⟨w.heap.size, 0, none⟩))) :=
  ⟨w.heap.size, v, rfl, by simp, by simp, by simp, h.keep (below_alloc _ _)⟩
theorem code_nil (w : World) : Calls Tryz.prog 107 #[.nilIface] w fun e w' => e = .returned (.int .i64 0) ∧ w' = w := by
  go_enter Tryz.func107, Tryz.ntmps107
  go_wp2
  go_ret
  exact ⟨rfl, rfl⟩
set_option maxHeartbeats 400000 in
theorem code_some (r : Base) (c : Int) (hr : r.code = some c) (ws : List ByteArray) (v : Value) (w : World) (hch : ChainAt w r ws v) (hg : Handle w) :
    Calls Tryz.prog 107 #[v] w fun e w' => e = .returned (.int .i64 c) ∧ Below w.heap.size w w' := by
  obtain ⟨T, V, rfl⟩ := hch.iface
  have HC := as_code w.heap.size r c hr ws (.iface T V) ⟨w.heap.size, 0, none⟩ (.int .i64 0) (w.alloc (.cells #[.int .i64 0] 128)) (by simp) (Chain.keep (below_alloc _ _) hch) (hg.alloc _) (by simp) (by simp)
  clear hr
  have HC := Lib.hid HC
  go_enter Tryz.func107, Tryz.ntmps107
  go_wp2_with fail
  refine HC.out.mono ?_
  rintro e w' ⟨rfl, w1, hb1, rfl⟩
  have hct : w1.cell? ⟨w.heap.size, 0, none⟩ = some (.int .i64 0) := (hb1.cell (p := ⟨w.heap.size, 0, none⟩) (by simp)).trans (by simp)
  go_wp2
  go_ret
  exact ⟨rfl, ((below_alloc _ _).trans (hb1.mono (by simp))).setCell (Nat.le_refl _) _⟩
set_option maxHeartbeats 400000 in
theorem at_fault (b : Nat) (c a : Int) (ws : List ByteArray) (v : Value) (w : World) (hch : ChainAt w (.fault b c a) ws v) (hb : b < w.heap.size) (h1 : w.cell? ⟨b, 1, none⟩ = some (.int .i64 a)) (hg : Handle w) :
    Calls Tryz.prog 108 #[v] w fun e w' => e = .returned (.int .i64 a) ∧ Below w.heap.size w w' := by
  obtain ⟨T, V, rfl⟩ := hch.iface
  have HC := as_fault w.heap.size b c a ws (.iface T V) ⟨w.heap.size, 0, none⟩ (.pointer none) (w.alloc (.cells #[.pointer none] 154)) (by simp) (Chain.keep (below_alloc _ _) hch) (hg.alloc _) (by simp) (by simp)
  have HC := Lib.hid HC
  go_enter Tryz.func108, Tryz.ntmps108
  go_wp2_with fail
  refine HC.out.mono ?_
  rintro e w' ⟨rfl, w1, hb1, rfl⟩
  have hct : w1.cell? ⟨w.heap.size, 0, none⟩ = some (.pointer none) := (hb1.cell (p := ⟨w.heap.size, 0, none⟩) (by simp)).trans (by simp)
  have h1' : w1.cell? ⟨b, 1, none⟩ = some (.int .i64 a) := (((below_alloc w _).trans (hb1.mono (by simp))).cell (p := ⟨b, 1, none⟩) hb).trans h1
  have h2' : (w1.setCell ⟨w.heap.size, 0, none⟩ (.pointer (some ⟨b, 0, none⟩))).cell? ⟨b, 1, none⟩ = some (.int .i64 a) := (World.cell?_setCell_other _ _ _ _ (by intro h; simp at h)).trans h1'
  go_wp2
  go_ret
  exact ⟨rfl, ((below_alloc _ _).trans (hb1.mono (by simp))).setCell (Nat.le_refl _) _⟩
end Go.Proofs.YtbhkfifmgbcknaaGreatDoor
namespace Go.Proofs.YtbhkfifmgbcknaaGreatDoor
open Go.RowKit Go.Extern.Stop Go.Stop Go.Extern
theorem infoStr : (Tryz.prog.info? 9).map (fun i => (i.zero, i.size, i.bytes)) = some (some (.string ByteArray.empty), 1, 16) := by kernel_rfl
theorem grown_of_below {w w' : World} (h : Below w.heap.size w w') : w.grownBy w' none := ⟨h.os, h.tape, h.output, h.size, fun k hk _ => h.block k hk⟩
def WordsOf (ws : List ByteArray) : List Value := ws.map Value.string
def Spot (w : World) (t : Nat) : Prop := t < w.heap.size ∧ (∃ old, w.cell? ⟨t, 0, none⟩ = some old) ∧ w.frozen? ⟨t, 0, none⟩ = false
theorem Spot.keep {w w' : World} {t : Nat} (h : Spot w t) (hb : Below w.heap.size w w') : Spot w' t :=
  ⟨Nat.lt_of_lt_of_le h.1 hb.size, h.2.1.imp fun _ e => (hb.cell (p := ⟨t, 0, none⟩) h.1).trans e, (hb.frozen (p := ⟨t, 0, none⟩) h.1).trans h.2.2⟩
theorem Spot.set {w : World} {t : Nat} (h : Spot w t) (v : Value) : Spot (w.setCell ⟨t, 0, none⟩ v) t :=
  ⟨by simp [World.setCell]; exact h.1, ⟨v, by obtain ⟨old, e⟩ := h.2.1; exact World.cell?_setCell_same _ _ _ e⟩, by rw [World.frozen?_setCell]; exact h.2.2⟩
structure WRel (w0 : World) (r : Base) (ws : List ByteArray) (k : Nat) (v sl : Value) (wr : World) : Prop where
  ex : ∃ done rest, ws = done ++ rest ∧ k = rest.length ∧ Chain w0.heap.size wr r rest v ∧ wr.ownsRow (w0.heap.size + 1) 9 1 sl done.length (WordsOf done)
  below : Below w0.heap.size w0 wr
  spot : Spot wr w0.heap.size
set_option maxRecDepth 100000 in
set_option maxHeartbeats 1600000 in
theorem words_any (r : Base) (ws : List ByteArray) (v : Value) (w : World) (hch : ChainAt w r ws v) (hg : Handle w) (hlen : ws.length ≤ 1000) :
    Calls Tryz.prog 106 #[v] w fun e w' => ∃ sl, e = .returned sl ∧ w'.ownsRow (w.heap.size + 1) 9 1 sl ws.length (WordsOf ws) ∧ Below w.heap.size w w' := by
  obtain ⟨T, V, rfl⟩ := hch.iface
  obtain ⟨i0, hi, hz0, hz1, hz2⟩ := info_parts infoStr
  have h0 : WRel w r ws ws.length (.iface T V) (.slice none 0 0) (w.alloc (.cells #[.pointer none] 167)) :=
    ⟨⟨[], ws, rfl, rfl, Chain.keep (below_alloc _ _) hch, World.ownsRow_nil _ _ _ _⟩, below_alloc _ _, by simp, ⟨.pointer none, by simp⟩, by simp⟩
  have H0 := Lib.hid h0
  have HL := Lib.hid hlen
  clear h0 hlen hch
  go_enter Tryz.func106, Tryz.ntmps106
  go_wp2_with fail
  go_loopg [0, 3] ws.length (fun k v sl wr => WRel w r ws k v sl wr)
  case atStart => exact H0.out
  case round =>
    obtain ⟨⟨done, rest, hws, hk, hc, hown⟩, hbel, hsp⟩ := hrel
    have HW := Lib.hid hws
    clear hws
    have HK := Lib.hid hk
    clear hk
    obtain ⟨hts, ⟨old, hto⟩, htf⟩ := hsp
    cases rest with
    | nil =>
      have HA := Lib.hid (as_place_no w.heap.size r _ ⟨w.heap.size, 0, none⟩ wr (Nat.le_of_lt hts) hc (hg.below hbel))
      obtain ⟨Tv, Vv, rfl⟩ := Chain.iface hc
      clear hc
      go_wp2_with fail
      refine HA.out.mono ?_
      rintro e w' ⟨rfl, hb1⟩
      have hct : w'.cell? ⟨w.heap.size, 0, none⟩ = some old := (hb1.cell (p := ⟨w.heap.size, 0, none⟩) hts).trans hto
      go_wp2_with fail
      go_ret
      have e := HW.out
      rw [List.append_nil] at e
      rw [e]
      exact ⟨_, rfl, hown.kept (grown_of_below hb1) (by cases sl' : Value.ownBlock _ <;> simp), hbel.trans (hb1.mono (Nat.le_of_lt hts))⟩
    | cons s rest =>
      obtain ⟨b, u, rfl, hb, hc0, hc1, hr⟩ := hc
      have HA := Lib.hid (as_place b ⟨w.heap.size, 0, none⟩ old wr (hg.below hbel) hto htf)
      have HR := Lib.hid hr
      clear hr
      go_wp2_with fail
      refine HA.out.mono ?_
      rintro e w' ⟨rfl, w1, hb1, rfl⟩
      have hsp1 : Spot (w1.setCell ⟨w.heap.size, 0, none⟩ (.pointer (some ⟨b, 0, none⟩))) w.heap.size := Spot.set (Spot.keep (w := wr) ⟨hts, ⟨old, hto⟩, htf⟩ hb1) _
      have hown1 := ownsRow_setCell_below (hown.kept (grown_of_below hb1) (row := none) (by cases sl' : Value.ownBlock u3 <;> simp)) (a := ⟨w.heap.size, 0, none⟩) (by simp) (.pointer (some ⟨b, 0, none⟩))
      have hbel1 : Below w.heap.size w (w1.setCell ⟨w.heap.size, 0, none⟩ (.pointer (some ⟨b, 0, none⟩))) := (hbel.trans (hb1.mono (Nat.le_of_lt hts))).setCell (Nat.le_refl _) _
      have hwr2 : Below w.heap.size wr (w1.setCell ⟨w.heap.size, 0, none⟩ (.pointer (some ⟨b, 0, none⟩))) := (hb1.mono (Nat.le_of_lt hts)).setCell (Nat.le_refl _) _
      have HR2 := Lib.hid (Chain.keep hwr2 HR.out)
      have hct : (w1.setCell ⟨w.heap.size, 0, none⟩ (.pointer (some ⟨b, 0, none⟩))).cell? ⟨w.heap.size, 0, none⟩ = some (.pointer (some ⟨b, 0, none⟩)) :=
        World.cell?_setCell_same _ _ _ ((hb1.cell (p := ⟨w.heap.size, 0, none⟩) hts).trans hto)
      have hp0 : (w1.setCell ⟨w.heap.size, 0, none⟩ (.pointer (some ⟨b, 0, none⟩))).cell? ⟨b, 0, none⟩ = some (.string s) := by
        rw [hwr2.cell (p := ⟨b, 0, none⟩) hb]; exact hc0
      have hp1 : (w1.setCell ⟨w.heap.size, 0, none⟩ (.pointer (some ⟨b, 0, none⟩))).cell? ⟨b, 1, none⟩ = some u := by
        rw [hwr2.cell (p := ⟨b, 1, none⟩) hb]; exact hc1
      generalize w1.setCell ⟨w.heap.size, 0, none⟩ (.pointer (some ⟨b, 0, none⟩)) = w2 at *
      have hsz2 : w.heap.size < w2.heap.size := hsp1.1
      go_wp2_with (at_builtin; refine wpList_append_own _ rfl _ _ 36 rfl (w.heap.size + 1) 9 i0 (.string ByteArray.empty) 1 16 Tryz.underlying36 hi hz0 hz1 hz2 rfl (by decide) _ _ _ rfl (hown1.alloc _) ⟨w2.heap.size, 0, none⟩ 1 1 [.string s] rfl rfl ?c1 ?c2 ?c3 ?c4 ?c5 ?_)
      case c1 =>
        intro j u hj
        match j, hj with
        | 0, hj => simp at hj; subst hj; simp [Addr.add]
      case c2 => intro u hu; simp at hu; subst hu; rfl
      case c3 => have := HL.out; have := congrArg List.length HW.out; simp at this; unfold maxLen; omega
      case c4 => have := HL.out; have := congrArg List.length HW.out; simp at this; omega
      case c5 => simp; omega
      intro v' w3 hown3 hgrow3 _
      have hrow : ∀ k, Value.ownBlock u3 = some k → w.heap.size + 1 ≤ k := fun k e => (hown1.lt k e).1
      have hb23 : Below (w.heap.size + 1) w2 w3 := ((Below.refl _ _).alloc (by omega) _).grown hgrow3 (by simp; omega) hrow
      have hb23' := hb23.mono (Nat.le_succ _)
      have hct3 : w3.cell? ⟨w.heap.size, 0, none⟩ = some (.pointer (some ⟨b, 0, none⟩)) := (hb23.cell (p := ⟨w.heap.size, 0, none⟩) (Nat.lt_succ_self _)).trans hct
      have hp3 : w3.cell? ⟨b, 1, none⟩ = some u := (hb23'.cell (p := ⟨b, 1, none⟩) hb).trans hp1
      have HX : Hid (WRel w r ws rest.length u v' w3) := by
        refine ⟨⟨done ++ [s], rest, by rw [HW.out]; simp, rfl, Chain.keep hb23' HR2.out, ?_⟩, hbel1.trans hb23', ⟨Nat.lt_of_lt_of_le hsz2 hb23.size, ⟨_, hct3⟩, (hb23.frozen (p := ⟨w.heap.size, 0, none⟩) (Nat.lt_succ_self _)).trans hsp1.2.2⟩⟩
        simpa [WordsOf] using hown3
      clear hown3 hgrow3 hown1
      go_wp2_with fail
      go_roundg rest.length
      case measure => have := HK.out; simp at this; omega
      case rel => exact HX.out
def StrsAt (w : World) (v : Value) (ws : List ByteArray) : Prop :=
  (∃ a cap, v = .slice a 0 cap ∧ ws = []) ∨ ∃ b off cap, v = .slice (some ⟨b, off, none⟩) ws.length cap ∧ b < w.heap.size ∧ ∀ i, i < ws.length → w.cell? ⟨b, off + i, none⟩ = some (.string (ws.getD i ByteArray.empty))
theorem StrsAt.keep {w w' : World} {v : Value} {ws : List ByteArray} (h : StrsAt w v ws) (hb : Below w.heap.size w w') : StrsAt w' v ws := by
  rcases h with h | ⟨b, off, cap, e, hlt, hc⟩
  · exact .inl h
  · exact .inr ⟨b, off, cap, e, Nat.lt_of_lt_of_le hlt hb.size, fun i hi => (hb.cell (p := ⟨b, off + i, none⟩) hlt).trans (hc i hi)⟩
theorem strs_own {w : World} {base : Nat} {v : Value} {ws : List ByteArray} (h : w.ownsRow base 9 1 v ws.length (WordsOf ws)) : StrsAt w v ws := by
  obtain ⟨h1, h2⟩ := h
  rcases h2 with ⟨rfl, h0⟩ | ⟨g, cap, cur, rfl, hg, hh, h3, h4, h5, h6⟩
  · exact .inl ⟨none, 0, rfl, List.eq_nil_of_length_eq_zero h0⟩
  · refine .inr ⟨g, 0, cap, rfl, ?_, fun i hi => ?_⟩
    · exact (Array.getElem?_eq_some_iff.1 hh).1
    · have e := congrArg (fun l => l[i]?) h6
      simp [WordsOf, hi] at e
      simp [World.cell?, hh, e, List.getD, List.getElem?_eq_getElem hi]
end Go.Proofs.YtbhkfifmgbcknaaGreatDoor
namespace Go
section
variable {P : Program} (w : World)
theorem run_equalIn_iface_int (d : Nat) {ti tn : TypeId} {ms : Array (String × TypeId)} {i : TypeInfo} {k : IntKind} (a b : Int)
    (hi : P.underlying ti = some (.interface ms)) (hn : P.underlying tn = some (.int k)) (hinfo : P.info? tn = some i) (hcomp : i.comparable = true) :
    (Op.equalIn (d + 2) ti (.iface tn (.int k a)) (.iface tn (.int k b))).run P w = .ok (a == b) w := by
  simp [Op.equalIn, run_underlying hi, run_underlying hn, typeInfo, hinfo, hcomp]
theorem run_eql_iface_int {ti tn : TypeId} {ms : Array (String × TypeId)} {i : TypeInfo} {k : IntKind} (a b : Int)
    (hi : P.underlying ti = some (.interface ms)) (hn : P.underlying tn = some (.int k)) (hinfo : P.info? tn = some i) (hcomp : i.comparable = true) :
    (binOp .eql ti (.iface tn (.int k a)) (.iface tn (.int k b))).run P w = .ok (.bool (a == b)) w := by
  simp only [binOp]
  simp [Op.equal, Op.maxDepth, run_equalIn_iface_int w 9998 a b hi hn hinfo hcomp]
end
end Go
namespace Go.Proofs.YtbhkfifmgbcknaaGreatDoor
open Go.RowKit Go.Extern.Stop Go.Stop Go.Extern
theorem isCompErrno : (Tryz.prog.info? 128).map (·.comparable) = some true := by kernel_rfl
theorem eql_errno (a b : Int) (w : World) : (binOp .eql 94 (.iface 128 (.int .i64 a)) (.iface 128 (.int .i64 b))).run Tryz.prog w = .ok (.bool (a == b)) w := by
  obtain ⟨i, hi, hc⟩ := Option.map_eq_some_iff.1 isCompErrno
  exact run_eql_iface_int w a b Tryz.underlying94 Tryz.underlying128 hi hc
theorem eql_types (a b : TypeId) (u v : Value) (h : a ≠ b) (w : World) : (binOp .eql 94 (.iface a u) (.iface b v)).run Tryz.prog w = .ok (.bool false) w :=
  run_eql_iface_types a b u v Tryz.underlying94 h w
theorem compErrno (w : World) : (callFunc 439 #[.agg #[.pointer (some ⟨5, 128, none⟩)]]).run Tryz.prog w = .ok (.value (.bool true)) w := by
  have h := @run_callFunc_extern Tryz.prog 439 _ (ReflectliteType.method fun t => do Rtype.noPackHeld "Comparable" t; pure (.bool (← typeInfo t).comparable)) Tryz.func439 (by kernel_rfl) (by kernel_rfl) (by kernel_rfl) (by kernel_rfl)
  have k : ∀ w, ((ReflectliteType.method fun t => do Rtype.noPackHeld "Comparable" t; pure (.bool (← typeInfo t).comparable)) #[.agg #[.pointer (some ⟨5, 128, none⟩)]]).run Tryz.prog w = .ok (.bool true) w := fun w => by kernel_rfl
  rw [h, k]
  rfl
theorem is_nil (t : TypeId) (v : Value) (w : World) :
    Calls Tryz.prog 322 #[.nilIface, .iface t v] w fun e w' => e = .returned (.bool false) ∧ w' = w := by
  have hn := run_eql_iface_nil_left (P := Tryz.prog) w t v Tryz.underlying94
  go_enter Tryz.func322, Tryz.ntmps322
  go_wp2
  go_ret
  exact ⟨rfl, rfl⟩
set_option maxRecDepth 100000 in
set_option maxHeartbeats 4000000 in
theorem is_yes (B : Nat) (r : Base) (c : Int) (hr : r.code = some c) (ws : List ByteArray) (v : Value) (w : World) (hch : Chain B w r ws v) :
    Calls Tryz.prog 322 #[v, .iface 128 (.int .i64 c)] w fun e w' => e = .returned (.bool true) ∧ w' = w := by
  obtain ⟨T, V, rfl⟩ := hch.iface
  have h8 := @run_callFunc_extern Tryz.prog 258 _ ReflectliteType.typeOf Tryz.func258 (by kernel_rfl) (by kernel_rfl) (by kernel_rfl) (by kernel_rfl)
  have h32 := compErrno
  have tT := typeOfErrno
  have mR := methodComparable
  have nIErrno := noIsErrno
  have nIPFault := noIsPFault
  have nIPPlace := noIsPPlace
  have nSErrno := noUnwsErrno
  have nUErrno := noUnwErrno
  have hUPFault := hasUnwPFault
  have hUPPlace := hasUnwPPlace
  have mUPFault := methodUnwPFault
  have mUPPlace := methodUnwPPlace
  have eP := fun u v => eql_types 167 128 u v (by decide)
  have eF := fun u v => eql_types 154 128 u v (by decide)
  have eE : ∀ w, (binOp .eql 94 (.iface 128 (.int .i64 c)) (.iface 128 (.int .i64 c))).run Tryz.prog w = .ok (.bool true) w := fun w => by rw [eql_errno]; simp
  have HR := Lib.hid hr
  clear hr
  have HC := Lib.hid hch
  clear hch
  go_enter Tryz.func322, Tryz.ntmps322
  go_wp2
  go_loopg [0] (ws.length + 1) (fun k v' wr => wr = w ∧ NumRel B w r c k v')
  case atStart => exact ⟨rfl, Or.inl ⟨ws, rfl, HC.out⟩⟩
  case round =>
    obtain ⟨hwr, hrel⟩ := hrel
    subst hwr
    rcases hrel with ⟨l, hk, hl⟩ | ⟨hk, rfl⟩
    · have HK := Lib.hid hk
      clear hk
      cases l with
      | nil =>
        cases r with
        | errno c' =>
          obtain rfl : c = c' := (Option.some.inj HR.out).symm
          obtain rfl := hl
          go_wp2
          go_ret
          exact ⟨rfl, rfl⟩
        | fault b c' a =>
          obtain rfl : c = c' := (Option.some.inj HR.out).symm
          obtain ⟨rfl, hb, h0, h1⟩ := hl
          go_wp2
          go_roundg 0
          case measure => have := HK.out; omega
          case rel => exact ⟨rfl, Or.inr ⟨rfl, rfl⟩⟩
        | other b => exact absurd HR.out (by intro h; cases h)
      | cons s l =>
        obtain ⟨b, u, rfl, hb, h0, h1, hr⟩ := hl
        obtain ⟨Tu, Vu, rfl⟩ := hr.iface
        have HT := Lib.hid hr
        clear hr
        go_wp2
        go_roundg (l.length + 1)
        case measure => have := HK.out; simp at this; omega
        case rel => exact ⟨rfl, Or.inl ⟨l, rfl, HT.out⟩⟩
    · go_wp2
      go_ret
      exact ⟨rfl, rfl⟩
def NotRel (B : Nat) (w1 : World) (r : Base) (c' : Int) (k : Nat) (v : Value) : Prop :=
  (∃ ws, k = ws.length + 1 ∧ Chain B w1 r ws v) ∨ (k = 0 ∧ ∃ c, c ≠ c' ∧ v = .iface 128 (.int .i64 c))
set_option maxRecDepth 100000 in
set_option maxHeartbeats 4000000 in
theorem is_no (B : Nat) (r : Base) (c' : Int) (hr : r.code ≠ some c') (ws : List ByteArray) (v : Value) (w : World) (hch : Chain B w r ws v) :
    Calls Tryz.prog 322 #[v, .iface 128 (.int .i64 c')] w fun e w' => e = .returned (.bool false) ∧ w' = w := by
  obtain ⟨T, V, rfl⟩ := hch.iface
  have h8 := @run_callFunc_extern Tryz.prog 258 _ ReflectliteType.typeOf Tryz.func258 (by kernel_rfl) (by kernel_rfl) (by kernel_rfl) (by kernel_rfl)
  have h32 := compErrno
  have tT := typeOfErrno
  have mR := methodComparable
  have nIErrno := noIsErrno
  have nIPFault := noIsPFault
  have nIPPlace := noIsPPlace
  have nSErrno := noUnwsErrno
  have nUErrno := noUnwErrno
  have hUPFault := hasUnwPFault
  have hUPPlace := hasUnwPPlace
  have mUPFault := methodUnwPFault
  have mUPPlace := methodUnwPPlace
  have eP := fun u v => eql_types 167 128 u v (by decide)
  have eF := fun u v => eql_types 154 128 u v (by decide)
  have HR := Lib.hid hr
  clear hr
  have HC := Lib.hid hch
  clear hch
  go_enter Tryz.func322, Tryz.ntmps322
  go_wp2
  go_loopg [0] (ws.length + 1) (fun k v' wr => wr = w ∧ NotRel B w r c' k v')
  case atStart => exact ⟨rfl, Or.inl ⟨ws, rfl, HC.out⟩⟩
  case round =>
    obtain ⟨hwr, hrel⟩ := hrel
    subst hwr
    rcases hrel with ⟨l, hk, hl⟩ | ⟨hk, c, hc, rfl⟩
    · have HK := Lib.hid hk
      clear hk
      cases l with
      | nil =>
        cases r with
        | errno c =>
          obtain rfl := hl
          have eE : ∀ w, (binOp .eql 94 (.iface 128 (.int .i64 c)) (.iface 128 (.int .i64 c'))).run Tryz.prog w = .ok (.bool false) w := fun w => by
            rw [eql_errno, beq_eq_false_iff_ne.2 (fun h => HR.out (by rw [h]; rfl))]
          go_wp2
          go_ret
          exact ⟨rfl, rfl⟩
        | fault b c a =>
          obtain ⟨rfl, hb, h0, h1⟩ := hl
          go_wp2
          go_roundg 0
          case measure => have := HK.out; omega
          case rel => exact ⟨rfl, Or.inr ⟨rfl, c, fun h => HR.out (by rw [h]; rfl), rfl⟩⟩
        | other b => exact hl.elim
      | cons s l =>
        obtain ⟨b, u, rfl, hb, h0, h1, hr⟩ := hl
        obtain ⟨Tu, Vu, rfl⟩ := hr.iface
        have HT := Lib.hid hr
        clear hr
        go_wp2
        go_roundg (l.length + 1)
        case measure => have := HK.out; simp at this; omega
        case rel => exact ⟨rfl, Or.inl ⟨l, rfl, HT.out⟩⟩
    · have eE : ∀ w, (binOp .eql 94 (.iface 128 (.int .i64 c)) (.iface 128 (.int .i64 c'))).run Tryz.prog w = .ok (.bool false) w := fun w => by
        rw [eql_errno, beq_eq_false_iff_ne.2 hc]
      have HE := Lib.hid hc
      clear hc
      go_wp2
      go_ret
      exact ⟨rfl, rfl⟩
end Go.Proofs.YtbhkfifmgbcknaaGreatDoor
namespace Go.Proofs.YtbhkfifmgbcknaaGreatDoor
open Go.RowKit Go.Extern.Stop Go.Stop Go.Extern
def netS : ByteArray := ⟨#[110, 101, 116]⟩
set_option maxRecDepth 100000 in
set_option maxHeartbeats 1600000 in
theorem awake1_any (w : World) (hg : Handle w) :
    Calls Tryz.prog 86 #[] w fun e w' => e = .returned (.bool true) ∧ Below w.heap.size w w' := by
  have h1 := new_any 4 7 (by decide) w
  have c1 := new_chain 4 7 w
  have b1 := below_alloc w (.cells #[.int .i64 4, .int .i64 7] 156)
  have g1 := hg.below b1
  have hsz1 : (w.alloc (.cells #[.int .i64 4, .int .i64 7] 156)).heap.size = w.heap.size + 1 := by simp
  have q1 : (w.alloc (.cells #[.int .i64 4, .int .i64 7] 156)).cell? ⟨w.heap.size, 1, none⟩ = some (.int .i64 7) := by simp
  generalize w.alloc (.cells #[.int .i64 4, .int .i64 7] 156) = w1 at *
  have h2 := in_any netS 154 (.pointer (some ⟨w.heap.size, 0, none⟩)) w1
  have c2 := in_chain netS _ w1 _ _ c1
  have b2 := below_alloc w1 (.cells #[.string netS, .iface 154 (.pointer (some ⟨w.heap.size, 0, none⟩))] 169)
  have g2 := g1.below b2
  have q2 := (b2.cell (p := ⟨w.heap.size, 1, none⟩) (by show w.heap.size < _; omega)).trans q1
  generalize w1.alloc (.cells #[.string netS, .iface 154 (.pointer (some ⟨w.heap.size, 0, none⟩))] 169) = w2 at *
  have hlt2 : w.heap.size < w2.heap.size := by have := b2.size; omega
  have B2 : Below w.heap.size w w2 := b1.trans (b2.mono (by omega))
  obtain ⟨W1, HW1⟩ : ∃ n, n = w1.heap.size := ⟨_, rfl⟩
  rw [← HW1] at h2 c2
  have H1 := Lib.hid h1
  have H2 := Lib.hid h2
  have HC := Lib.hid c2
  have HS1 := Lib.hid hsz1
  have HWW := Lib.hid HW1
  clear h1 h2 c1 c2 hsz1 HW1 q1 b1 b2
  go_enter Tryz.func86, Tryz.ntmps86
  go_wp2_with fail
  refine H1.out.mono ?_
  rintro e w' ⟨rfl, rfl⟩
  go_wp2_with fail
  refine H2.out.mono ?_
  rintro e w' ⟨rfl, rfl⟩
  go_wp2_with fail
  refine (words_any _ _ _ _ HC.out g2 (by decide)).mono ?_
  rintro e w3 ⟨sl, rfl, hown, b3⟩
  have hs := strs_own hown
  clear hown
  rcases hs with ⟨a, cap, rfl, h0⟩ | ⟨b, off, cap, rfl, hb, hc⟩
  · cases h0
  have hc0 := hc 0 (by decide)
  clear hc
  have c3 := Lib.hid (HC.out.keep b3)
  have g3 := g2.below b3
  have q3 := (b3.cell (p := ⟨w.heap.size, 1, none⟩) hlt2).trans q2
  go_wp2_with fail
  refine (code_some _ 4 rfl _ _ _ c3.out g3).mono ?_
  rintro e w4 ⟨rfl, b4⟩
  have c4 := Lib.hid (c3.out.keep b4)
  have g4 := g3.below b4
  have q4 := (b4.cell (p := ⟨w.heap.size, 1, none⟩) (Nat.lt_of_lt_of_le hlt2 b3.size)).trans q3
  go_wp2_with fail
  refine (at_fault _ _ _ _ _ _ c4.out (Nat.lt_of_lt_of_le hlt2 (Nat.le_trans b3.size b4.size)) q4 g4).mono ?_
  rintro e w5 ⟨rfl, b5⟩
  have k5 := (b5.cell (p := ⟨b, off + 0, none⟩) (Nat.lt_of_lt_of_le hb b4.size)).trans ((b4.cell (p := ⟨b, off + 0, none⟩) hb).trans hc0)
  simp [netS] at k5
  go_wp2_with fail
  refine (code_nil _).mono ?_
  rintro e w6 ⟨rfl, rfl⟩
  go_wp2_with fail
  go_ret
  exact ⟨rfl, B2.trans ((b3.trans ((b4.trans (b5.mono b4.size)).mono b3.size)).mono (Nat.le_of_lt hlt2))⟩
theorem Awake1_any (w : World) (hg : Handle w) :
    Calls Tryz.prog 59 #[] w fun e w' => e = .returned (.bool true) ∧ Below w.heap.size w w' := by
  go_enter Tryz.func59, Tryz.ntmps59
  go_wp2_with (go_at_call 86; refine (awake1_any _ hg).mono ?_; rintro e w' ⟨rfl, hb⟩)
  go_ret
  exact ⟨rfl, hb⟩
theorem Chain.root {B : Nat} {w : World} {r : Base} : ∀ {l : List ByteArray} {v : Value}, Chain B w r l v → ∃ u, Root B w r u
  | [], v, h => ⟨v, h⟩
  | _ :: _, _, ⟨_, _, _, _, _, _, hr⟩ => Chain.root hr
theorem at_chain (b : Nat) (c a : Int) (ws : List ByteArray) (v : Value) (w : World) (hch : ChainAt w (.fault b c a) ws v) (hg : Handle w) :
    Calls Tryz.prog 108 #[v] w fun e w' => e = .returned (.int .i64 a) ∧ Below w.heap.size w w' := by
  obtain ⟨u, -, h2, -, h4⟩ := Chain.root hch
  exact at_fault b c a ws v w hch h2 h4 hg
theorem StrsAt.parts {w : World} {v : Value} {ws : List ByteArray} (h : StrsAt w v ws) : ∃ b o c, v = .slice b ws.length c ∧ Hid (∀ i, i < ws.length → ∃ b', b = some ⟨b', o, none⟩ ∧ b' < w.heap.size ∧ w.cell? ⟨b', o + i, none⟩ = some (.string (ws.getD i ByteArray.empty))) := by
  rcases h with ⟨a, c, e, e'⟩ | ⟨b, o, c, e, hb, hc⟩
  · exact ⟨a, 0, c, by rw [e, e']; rfl, fun i hi => by rw [e'] at hi; exact absurd hi (by simp)⟩
  · exact ⟨_, o, c, e, fun i hi => ⟨b, rfl, hb, hc i hi⟩⟩
theorem Chain.set {B : Nat} {w : World} {b0 t j : Nat} {c a z : Int} {x : Value} (hq : w.cell? ⟨t, 0, none⟩ = some (.int .i64 z)) (hne : b0 ≠ t) : ∀ {l : List ByteArray} {v : Value}, Chain B w (.fault b0 c a) l v → Chain B (w.setCell ⟨t, j, none⟩ x) (.fault b0 c a) l v
  | [], _, ⟨e, hb, h0, h1⟩ => ⟨e, hb, (World.cell?_setCell_other _ _ _ _ (by intro h; simp at h <;> omega)).trans h0, (World.cell?_setCell_other _ _ _ _ (by intro h; simp at h <;> omega)).trans h1⟩
  | _ :: _, _, ⟨b, u, e, hb, h0, h1, hr⟩ => by
    have hbt : b ≠ t := by
      intro h
      rw [h, hq] at h0
      cases h0
    exact ⟨b, u, e, hb, (World.cell?_setCell_other _ _ _ _ (by intro h; simp at h <;> omega)).trans h0, (World.cell?_setCell_other _ _ _ _ (by intro h; simp at h <;> omega)).trans h1, Chain.set hq hne hr⟩
set_option maxHeartbeats 400000 in
theorem lawIs_nil (a : Int) (w : World) : Calls Tryz.prog 112 #[.nilIface, .int .i64 0, .int .i64 a] w fun e w' => e = .returned (.bool true) ∧ w' = w := by
  go_enter Tryz.func112, Tryz.ntmps112
  go_wp2
  go_ret
  exact ⟨rfl, rfl⟩
set_option maxRecDepth 100000 in
set_option maxHeartbeats 1000000 in
theorem lawIs_fault (b : Nat) (c a : Int) (hc : c ≠ 0) (v : Value) (w : World) (hch : ChainAt w (.fault b c a) [] v) (hg : Handle w) :
    Calls Tryz.prog 112 #[v, .int .i64 c, .int .i64 a] w fun e w' => e = .returned (.bool true) ∧ Below w.heap.size w w' := by
  obtain ⟨T, V, rfl⟩ := hch.iface
  have hcb : (c == 0) = false := by simpa using hc
  clear hc
  go_enter Tryz.func112, Tryz.ntmps112
  go_wp2_with fail
  refine (code_some _ c rfl _ _ _ hch hg).mono ?_
  rintro e w1 ⟨rfl, b1⟩
  have c1 := Lib.hid (hch.keep b1)
  go_wp2_with fail
  refine (at_chain _ _ _ _ _ _ c1.out (hg.below b1)).mono ?_
  rintro e w2 ⟨rfl, b2⟩
  have c2 := Lib.hid (c1.out.keep b2)
  go_wp2_with fail
  refine (words_any _ _ _ _ c2.out ((hg.below b1).below b2) (by decide)).mono ?_
  rintro e w3 ⟨sl, rfl, hown, b3⟩
  have hs := strs_own hown
  clear hown
  obtain ⟨x, y, z, rfl, -⟩ := hs.parts
  go_wp2_with fail
  go_ret
  exact ⟨rfl, b1.trans ((b2.trans (b3.mono b2.size)).mono b1.size)⟩
end Go.Proofs.YtbhkfifmgbcknaaGreatDoor
