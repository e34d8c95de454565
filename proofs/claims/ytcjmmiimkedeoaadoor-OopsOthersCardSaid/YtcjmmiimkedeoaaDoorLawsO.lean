/-
  The statement OopsOthers as a walk: whatever the text and the words, the law answers true, and all of old memory stays as it was.
-/
import Derived.Test.YtcjmmiimkedeoaaDoorSameC
namespace Go.Proofs.YtcjmmiimkedeoaaDoor
open Go.RowKit Go.Extern.Stop Go.Stop Go.Extern

set_option maxHeartbeats 1000000 in
theorem others_far (s : ByteArray) (n : Nat) (b : Option Addr) (cp : Nat) (w : World) (hg : Handle w) (hs : 20 < n) :
    Calls Tryd.prog 8 #[.string s, .slice b n cp] w fun e w' => e = .returned (.bool true) ∧ Below w.heap.size w w' := by
  have hsb : (20 : Int) < n := by omega
  go_enter Tryd.func8, Tryd.ntmps8
  go_wp2_with fail
  refine (awake1_any _ hg).mono ?_
  rintro e w1 ⟨rfl, b1⟩
  go_wp2_with fail
  go_ret
  exact ⟨rfl, b1⟩

structure OthRel (w1 : World) (ws : List ByteArray) (q : Nat) (k : Nat) (u i : Value) (wr : World) : Prop where
  ex : k ≤ ws.length ∧ i = .int .i64 ((k : Int) - 1)
  chain : ChainAt wr (.other q) (ws.drop k) u
  below : Below w1.heap.size w1 wr

set_option maxRecDepth 100000 in
set_option maxHeartbeats 4000000 in
theorem others_near (s : ByteArray) (ws : List ByteArray) (v : Value) (w : World) (hv : StrsAt w v ws) (hg : Handle w) (hlen : ws.length ≤ 20) :
    Calls Tryd.prog 8 #[.string s, v] w fun e w' => e = .returned (.bool true) ∧ Below w.heap.size w w' := by
  have hp := hv.parts
  obtain ⟨b, o, cp, rfl, -⟩ := hp
  have hlb : ¬ (20 : Int) < ws.length := by omega
  have HL := Lib.hid (show ws.length ≤ 1000 by omega)
  clear hlen
  go_enter Tryd.func8, Tryd.ntmps8
  go_wp2_with fail
  refine (awake1_any _ hg).mono ?_
  rintro e w1 ⟨rfl, b1⟩
  have hv1 := hv.keep b1
  have g1 := hg.below b1
  go_wp2_with fail
  refine (errs_any s w1).mono ?_
  rintro e w2 ⟨rfl, rfl⟩
  have b2 := below_alloc w1 (.cells #[.string s] 95)
  have c2 := errs_chain s w1
  generalize w1.alloc (.cells #[.string s] 95) = w2 at b2 c2 ⊢
  have H0 : Hid (OthRel w2 ws w1.heap.size ws.length (.iface 93 (.pointer (some ⟨w1.heap.size, 0, none⟩))) (.int .i64 ((ws.length : Int) - 1)) w2) := ⟨⟨Nat.le_refl _, rfl⟩, by rw [List.drop_length]; exact c2, Below.refl _ _⟩
  clear c2
  have b02 := b1.trans (b2.mono b1.size)
  obtain ⟨b', o', c', e', H⟩ := (hv.keep b02).parts
  obtain ⟨rfl, rfl⟩ : b = b' ∧ cp = c' := by injection e' with e1 e2 e3; exact ⟨e1, e3⟩
  clear e'
  go_wp2_with fail
  go_loopg [6, 7] ws.length (fun k u i wr => OthRel w2 ws w1.heap.size k u i wr)
  case atStart => exact H0.out
  case round =>
    obtain ⟨⟨hk, rfl⟩, hch, hbel⟩ := hrel
    cases gk with
    | zero =>
      rw [show ((0 : Nat) : Int) - 1 = -1 from rfl]
      rw [List.drop_zero] at hch
      obtain ⟨T, V, rfl⟩ := hch.iface
      have g3 := (g1.below b2).below hbel
      have v3 := (hv.keep b02).keep hbel
      have B3 := b02.trans (hbel.mono b02.size)
      have HC := Lib.hid hch
      clear hch
      go_wp2_with fail
      refine (code_other _ _ _ _ HC.out g3).mono ?_
      rintro e w4 ⟨rfl, b4⟩
      go_wp2_with fail
      refine (at_no _ (by intro b c a h; cases h) _ _ _ (HC.out.keep b4) (g3.below b4)).mono ?_
      rintro e w5 ⟨rfl, b5⟩
      have b35 := b4.trans (b5.mono b4.size)
      go_wp2_with fail
      refine (words_any _ _ _ _ (HC.out.keep b35) (g3.below b35) HL.out).mono ?_
      rintro e w6 ⟨sl, rfl, ho, b6⟩
      have b36 := b35.trans (b6.mono b35.size)
      have S6 := strs_own ho
      clear ho
      go_wp2_with fail
      refine (equalS_below _ _ _ _ _ S6 (v3.keep b36) HL.out).mono ?_
      rintro e w7 ⟨rfl, b7⟩
      have b37 := b36.trans (b7.mono b36.size)
      have hdd : decide (ws = ws) = true := by simp
      rw [hdd]
      go_wp2_with fail
      refine (is_other _ _ _ _ _ (HC.out.keep b37)).mono ?_
      rintro e w8 ⟨rfl, rfl⟩
      go_wp2_with fail
      go_ret
      exact ⟨rfl, B3.trans (b37.mono B3.size)⟩
    | succ m =>
      rw [show ((m + 1 : Nat) : Int) - 1 = m by omega]
      obtain ⟨b'', rfl, hb', hc⟩ := H.out m hk
      have hc' := (hbel.cell (p := ⟨b'', o' + m, none⟩) hb').trans hc
      have hd : ws.drop m = ws.getD m ByteArray.empty :: ws.drop (m + 1) := by
        rw [List.drop_eq_getElem_cons (show m < ws.length by omega)]
        simp [List.getD, List.getElem?_eq_getElem (show m < ws.length by omega)]
      have HD := Lib.hid hd
      clear hd hc
      obtain ⟨x, hs⟩ : ∃ x, ws.getD m ByteArray.empty = x := ⟨_, rfl⟩
      have HS := Lib.hid hs
      rw [hs] at hc'
      clear hs
      obtain ⟨Tu, Vu, rfl⟩ := hch.iface
      have HN2 := Lib.hid (in_any x Tu Vu wr)
      have HC2 := Lib.hid (in_chain x _ wr _ _ hch)
      clear hch
      go_wp2_with fail
      refine HN2.out.mono ?_
      rintro e w' ⟨rfl, rfl⟩
      go_wp2_with fail
      go_roundg m
      case measure => omega
      case rel => exact ⟨⟨by omega, rfl⟩, by rw [HD.out, HS.out]; exact HC2.out, hbel.trans ((below_alloc _ _).mono hbel.size)⟩

theorem others_any (s : ByteArray) (ws : List ByteArray) (v : Value) (w : World) (hv : StrsAt w v ws) (hg : Handle w) :
    Calls Tryd.prog 8 #[.string s, v] w fun e w' => e = .returned (.bool true) ∧ Below w.heap.size w w' := by
  by_cases h : 20 < ws.length
  · obtain ⟨b, o, cp, rfl, -⟩ := hv.parts
    exact others_far s _ b cp w hg h
  · exact others_near s ws v w hv hg (by omega)
end Go.Proofs.YtcjmmiimkedeoaaDoor
