/-
  names.Of by a contract; and chapter 4's example.
-/
import Derived.Test.YtcnaffhdiodkhaaDoorNamesE
namespace Go.Proofs.YtcnaffhdiodkhaaDoor
open Go.RowKit Go.Extern.Stop Go.Stop Go.Extern

/-- One name after the other: the row, the error's number, its place. -/
def ofGo : List ByteArray → Nat → List ByteArray → List ByteArray × Int × Int
  | [], _, r => (r, 0, 0)
  | x :: xs, i, r => if withC r x = 0 then ofGo xs (i + 1) (insS r x) else ([], withC r x, i)
def ofR (l : List ByteArray) : List ByteArray × Int × Int := if 64 < l.length then ([], 6, 64) else ofGo l 0 []

structure OfRel (l : List ByteArray) (w0 : World) (k : Nat) (i : Value) (wr : World) : Prop where
  ex : ∃ (j : Nat) (r : List ByteArray) (A : Option Addr) (c : Nat), j ≤ l.length ∧ k = l.length - j ∧ i = .int .i64 j ∧ Rises r ∧ r.length ≤ j ∧ ofGo (l.drop j) j r = ofGo l 0 [] ∧
    BoxAt wr (w0.heap.size + 1) A r.length c ∧ RowAt wr (.slice A r.length c) r
  res : BoxAt wr w0.heap.size none 0 0
  below : Below w0.heap.size w0 wr

set_option maxRecDepth 100000 in
set_option maxHeartbeats 1600000 in
theorem of_many (A : Option Addr) (n c : Nat) (h : 64 < n) (w : World) :
    Calls Tryd.prog 35 #[.slice A n c] w (WithOut w [] 6 64) := by
  have hn : (64 : Int) < n := by omega
  have HX := Lib.hid (BoxAt.new w none 0 0 58)
  go_enter Tryd.func35, Tryd.ntmps35
  go_wp2_with fail
  refine (new_faults 6 64 (by decide) _).mono ?_
  rintro e w3 ⟨u, rfl, hu, b3⟩
  have HX3 := Lib.hid (HX.out.step b3)
  have HU := Lib.hid (hu.setBox HX3.out (.slice none 0 0))
  have HS := Lib.hid (HX3.out.set none 0 0)
  have HB := Lib.hid (((below_new w _).trans (b3.mono (by simp))).setCell (p := ⟨w.heap.size, 0, none⟩) (Nat.le_refl _) (.slice none 0 0))
  obtain ⟨-, x3, xf⟩ := HX3.out
  clear hu
  go_wp2_with fail
  have q0 := HS.out.2.1
  exact bodyPost_ret (v := .tuple #[.agg #[.slice none 0 0], u]) (by simp [results, Tryd.results35, go_sem, q0]) rfl ⟨_, u, rfl, RowAt.nil _, HU.out, HB.out⟩

set_option maxRecDepth 100000 in
set_option maxHeartbeats 3200000 in
theorem of_few (l : List ByteArray) (v : Value) (w : World) (hv : StrsAt w v l) (hlen : l.length ≤ 64) (hsz : ∀ x ∈ l, x.size ≤ maxLen) :
    Calls Tryd.prog 35 #[v] w (WithOut w (ofGo l 0 []).1 (ofGo l 0 []).2.1 (ofGo l 0 []).2.2) := by
  obtain ⟨b, o, c, rfl, HIN⟩ := hv.parts
  clear hv
  have hn : ¬ (64 : Int) < l.length := by omega
  have hnd : decide ((64 : Int) < l.length) = false := decide_eq_false hn
  have HZ := Lib.hid hsz
  clear hsz
  have H0 : Hid (OfRel l w l.length (.int .i64 0) ((w.alloc (.cells #[.slice none 0 0] 58)).alloc (.cells #[.slice none 0 0] 58))) :=
    Lib.hid ⟨⟨0, [], none, 0, Nat.zero_le _, rfl, rfl, List.Pairwise.nil, Nat.le_refl _, rfl, (by have := BoxAt.new (w.alloc (.cells #[.slice none 0 0] 58)) none 0 0 58; simpa using this), RowAt.nil _⟩, (BoxAt.new w none 0 0 58).step (below_new _ _), (below_new _ _).trans ((below_new _ _).mono (by simp))⟩
  go_enter Tryd.func35, Tryd.ntmps35
  go_wp2_with fail
  go_loopg [16] l.length (fun k i wr => OfRel l w k i wr)
  case atStart => exact H0.out
  case round =>
    obtain ⟨⟨j, r, A, cr, hj, hk, rfl, hrise, hrl, hof, hbox, hrow⟩, hres, hbel⟩ := hrel
    have HK := Lib.hid hk
    have HOF := Lib.hid hof
    have HBOX := Lib.hid hbox
    have HROW := Lib.hid hrow
    have HRES := Lib.hid hres
    clear hk hof hbox hrow hres
    obtain ⟨lb, xb, fb⟩ := HBOX.out
    by_cases hlt : j < l.length
    · obtain ⟨b', rfl, hb', hcell⟩ := HIN.out j hlt
      have hcell' := (hbel.cell (p := ⟨b', o + j, none⟩) hb').trans hcell
      clear hcell
      have HG : Hid (l.drop j = l.getD j ByteArray.empty :: l.drop (j + 1)) := by
        refine Lib.hid ?_
        rw [List.drop_eq_getElem_cons hlt, List.getD_eq_getElem?_getD, List.getElem?_eq_getElem hlt]
        rfl
      have hsy : (l.getD j ByteArray.empty).size ≤ maxLen := by
        rw [List.getD_eq_getElem?_getD, List.getElem?_eq_getElem hlt]
        exact HZ.out _ (List.getElem_mem hlt)
      generalize l.getD j ByteArray.empty = y at *
      rw [HG.out] at HOF
      have HW := Lib.hid (fun w' h => with_any r (.slice A r.length cr) y j w' h hrise (by omega) hsy)
      by_cases hc0 : withC r y = 0
      · have HR2 : Hid (ofGo (l.drop (j + 1)) (j + 1) (insS r y) = ofGo l 0 []) := by
          have := HOF.out
          rw [show ofGo (y :: l.drop (j + 1)) j r = if withC r y = 0 then ofGo (l.drop (j + 1)) (j + 1) (insS r y) else ([], withC r y, (j : Int)) from rfl, if_pos hc0] at this
          exact Lib.hid this
        have HRS : Hid (Rises (insS r y)) := by
          have := withL_rises hrise y
          unfold withL at this
          rw [if_pos hc0] at this
          exact Lib.hid this
        have HLEN : Hid ((insS r y).length ≤ j + 1) := Lib.hid (by rw [insS_length]; omega)
        rw [show withL r y = insS r y by unfold withL; rw [if_pos hc0], hc0] at HW
        clear hc0
        generalize insS r y = r2 at *
        go_wp2_with fail
        refine (HW.out _ HROW.out).mono ?_
        rintro e w3 ⟨v3, u, rfl, hrow3, hu, b3⟩
        obtain rfl := hu.nil_of
        have HBOX3 := Lib.hid (HBOX.out.step b3)
        have HRES3 := Lib.hid (HRES.out.step b3)
        have HB3 := Lib.hid (hbel.trans (b3.mono hbel.size))
        obtain ⟨A3, c3, rfl, h03, hc3⟩ := hrow3
        have HROW3 : Hid (RowAt w3 (.slice A3 r2.length c3) r2) := Lib.hid ⟨A3, c3, rfl, h03, hc3⟩
        clear h03 hc3
        have HN3 := Lib.hid (below_new w3 (.cells #[.slice A3 r2.length c3] 58))
        obtain ⟨l4, x4, f4⟩ := HBOX3.out.step HN3.out
        go_wp2_with fail
        go_roundg (l.length - (j + 1))
        case measure => have := HK.out; omega
        case rel =>
          exact ⟨⟨j + 1, r2, A3, c3, by omega, rfl, by go_num, HRS.out, HLEN.out, HR2.out, (HBOX3.out.step HN3.out).set A3 r2.length c3, (HROW3.out.keep HN3.out).set (HBOX3.out.step HN3.out) _⟩,
            (HRES3.out.step HN3.out).far (by simp) _, (HB3.out.trans (HN3.out.mono HB3.out.size)).setCell (by simp) _⟩
      · have HR2 : Hid (ofGo l 0 [] = ([], withC r y, (j : Int))) := by
          have := HOF.out
          rw [show ofGo (y :: l.drop (j + 1)) j r = if withC r y = 0 then ofGo (l.drop (j + 1)) (j + 1) (insS r y) else ([], withC r y, (j : Int)) from rfl, if_neg hc0] at this
          exact Lib.hid this.symm
        rw [show withL r y = [] by unfold withL; rw [if_neg hc0]] at HW
        have HFIN : Hid (∀ e w', WithOut w [] (withC r y) j e w' → WithOut w (ofGo l 0 []).1 (ofGo l 0 []).2.1 (ofGo l 0 []).2.2 e w') := Lib.hid (by rw [HR2.out]; exact fun _ _ h => h)
        clear HR2
        generalize withC r y = cc at *
        go_wp2_with fail
        refine (HW.out _ HROW.out).mono ?_
        rintro e w3 ⟨v3, u, rfl, hrow3, hu, b3⟩
        obtain ⟨fb2, rfl⟩ := hu.ptr hc0
        have HRES3 := Lib.hid (HRES.out.step b3)
        have HB3 := Lib.hid (hbel.trans (b3.mono hbel.size))
        obtain ⟨A3, c3, rfl, h03, -⟩ := hrow3
        obtain ⟨rfl, rfl⟩ := h03 rfl
        have HN3 := Lib.hid (below_new w3 (.cells #[.slice none 0 0] 58))
        have HU4 := Lib.hid ((hu.keep HN3.out).setBox (HRES3.out.step HN3.out) (.slice none 0 0))
        have HS4 := Lib.hid ((HRES3.out.step HN3.out).set none 0 0)
        have HB4 := Lib.hid ((HB3.out.trans (HN3.out.mono HB3.out.size)).setCell (p := ⟨w.heap.size, 0, none⟩) (Nat.le_refl _) (.slice none 0 0))
        obtain ⟨l4, x4, f4⟩ := HRES3.out.step HN3.out
        clear hu hc0 h03
        go_wp2_with fail
        have q0 := HS4.out.2.1
        exact bodyPost_ret (v := .tuple #[.agg #[.slice none 0 0], .iface 104 (.pointer (some ⟨fb2, 0, none⟩))]) (by simp [results, Tryd.results35, go_sem, q0]) rfl (HFIN.out _ _ ⟨_, _, rfl, RowAt.nil _, HU4.out, HB4.out⟩)
    · have HR2 : Hid (ofGo l 0 [] = (r, 0, 0)) := by
        have := HOF.out
        rw [List.drop_eq_nil_of_le (by omega)] at this
        exact Lib.hid this.symm
      have HFIN : Hid (∀ e w', WithOut w r 0 0 e w' → WithOut w (ofGo l 0 []).1 (ofGo l 0 []).2.1 (ofGo l 0 []).2.2 e w') := Lib.hid (by rw [HR2.out]; exact fun _ _ h => h)
      have HS4 := Lib.hid (HRES.out.set A r.length cr)
      have HR4 := Lib.hid (HROW.out.set HRES.out (.slice A r.length cr))
      have HB4 := Lib.hid (hbel.setCell (p := ⟨w.heap.size, 0, none⟩) (Nat.le_refl _) (.slice A r.length cr))
      obtain ⟨l4, x4, f4⟩ := HRES.out
      go_wp2_with fail
      have q0 := HS4.out.2.1
      exact bodyPost_ret (v := .tuple #[.agg #[.slice A r.length cr], .nilIface]) (by simp [results, Tryd.results35, go_sem, q0]) rfl (HFIN.out _ _ ⟨_, _, rfl, HR4.out, .nilE _ _, HB4.out⟩)

theorem of_any (l : List ByteArray) (v : Value) (w : World) (hv : StrsAt w v l) (hsz : ∀ x ∈ l, x.size ≤ maxLen) :
    Calls Tryd.prog 35 #[v] w (WithOut w (ofR l).1 (ofR l).2.1 (ofR l).2.2) := by
  unfold ofR
  by_cases h : 64 < l.length
  · rw [if_pos h]
    obtain ⟨b, o, c, rfl, -⟩ := hv.parts
    exact of_many b l.length c h w
  · rw [if_neg h]
    exact of_few l v w hv (by omega) hsz
end Go.Proofs.YtcnaffhdiodkhaaDoor
