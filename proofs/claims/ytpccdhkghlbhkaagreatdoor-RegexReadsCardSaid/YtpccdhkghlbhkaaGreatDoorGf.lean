/-
  The document's own reader of expressions by contracts: begins.
  The document's own reader of expressions by contracts: sign.
  Plain: where a word goes among rising ones.
-/
import Derived.Test.YtpccdhkghlbhkaaGreatDoorGe
namespace Go.Proofs.YtpccdhkghlbhkaaGreatDoor
open Go.RowKit Go.Extern.Stop Go.Stop Go.Extern

theorem begB_no {s : ByteArray} {k : Nat} (h : ¬ k < s.size) : begB s k = false := by
  unfold begB
  rw [byteI_ge h]
  rfl
set_option maxRecDepth 100000 in
set_option maxHeartbeats 4000000 in
theorem qbegins_any (s : ByteArray) (a n b : Nat) (c : Int) (hs : s.size ≤ 100000) (ha : a ≤ s.size) (w : World) (h : Qn w b s a n c) :
    Calls Tryz.prog 65 #[.pointer (some ⟨b, 0, none⟩)] w fun e w' => e = .returned (.bool (decide (c = 0) && begB s (skp s a))) ∧ Below w.heap.size w w' := by
  have HS : Hid (∀ W, Calls Tryz.prog 23 #[.string s, .int .i64 a] W fun e w' => e = .returned (.int .i64 (skp s a)) ∧ W = w') := Lib.hid (fun W => rskip_any s a hs ha W)
  have hI := h.step (Below.refl _ _).drew
  have kk := hI.cells
  obtain ⟨c0, c1, c2, c3⟩ := h.cells
  have hkb := (skp_le ha).2
  generalize skp s a = k at *
  by_cases hc : c = 0
  · subst hc
    rw [show (decide ((0 : Int) = 0) && begB s k) = begB s k by rfl]
    by_cases hlt : k < s.size
    · have hlti : (k : Int) < (s.size : Int) := by omega
      have hnge : ¬ (s.size : Int) ≤ (k : Int) := by omega
      have ha0 : (0 : Int) ≤ (k : Int) := by omega
      clear h
      by_cases he : byteI s k = 40
      · have hb := byteQ_eq hlt he
        rw [show begB s k = true by unfold begB; rw [he]; rfl]
        clear he
        go_enter Tryz.func65, Tryz.ntmps65
        go_wp2_with fail
        clear c0 c1 c2 c3
        go_region_held3 (fun W => W.cell? ⟨b, 0, none⟩ = some (.string s) ∧ W.cell? ⟨b, 1, none⟩ = some (.int .i64 a) ∧ W.cell? ⟨b, 2, none⟩ = some (.int .i64 n) ∧ W.cell? ⟨b, 3, none⟩ = some (.int .i64 0))
          (first | exact kk | exact hI.cells)
          ((go_at_call 23; refine (HS.out _).mono ?_; rintro e w5 ⟨rfl, rfl⟩))
        all_goals
          obtain ⟨k0, k1, k2, k3⟩ := kk
          go_wp2_with (go_at_call 84; refine (rletter_any _ _).mono ?_; rintro e w6 ⟨rfl, rfl⟩)
          go_ret
          exact ⟨rfl, (Below.refl _ _).drew⟩
      · have hb1 := byteQ_ne hlt he
        have n40 := decide_eq_false he
        clear he
        by_cases he : byteI s k = 91
        · have hb := byteQ_eq hlt he
          rw [show begB s k = true by unfold begB; rw [he]; rfl]
          clear n40
          clear he
          go_enter Tryz.func65, Tryz.ntmps65
          go_wp2_with fail
          clear c0 c1 c2 c3
          go_region_held3 (fun W => W.cell? ⟨b, 0, none⟩ = some (.string s) ∧ W.cell? ⟨b, 1, none⟩ = some (.int .i64 a) ∧ W.cell? ⟨b, 2, none⟩ = some (.int .i64 n) ∧ W.cell? ⟨b, 3, none⟩ = some (.int .i64 0))
            (first | exact kk | exact hI.cells)
            ((go_at_call 23; refine (HS.out _).mono ?_; rintro e w5 ⟨rfl, rfl⟩))
          all_goals
            obtain ⟨k0, k1, k2, k3⟩ := kk
            go_wp2_with (go_at_call 84; refine (rletter_any _ _).mono ?_; rintro e w6 ⟨rfl, rfl⟩)
            go_ret
            exact ⟨rfl, (Below.refl _ _).drew⟩
        · have hb2 := byteQ_ne hlt he
          have n91 := decide_eq_false he
          clear he
          by_cases he : byteI s k = 46
          · have hb := byteQ_eq hlt he
            rw [show begB s k = true by unfold begB; rw [he]; rfl]
            clear n40 n91
            clear he
            go_enter Tryz.func65, Tryz.ntmps65
            go_wp2_with fail
            clear c0 c1 c2 c3
            go_region_held3 (fun W => W.cell? ⟨b, 0, none⟩ = some (.string s) ∧ W.cell? ⟨b, 1, none⟩ = some (.int .i64 a) ∧ W.cell? ⟨b, 2, none⟩ = some (.int .i64 n) ∧ W.cell? ⟨b, 3, none⟩ = some (.int .i64 0))
              (first | exact kk | exact hI.cells)
              ((go_at_call 23; refine (HS.out _).mono ?_; rintro e w5 ⟨rfl, rfl⟩))
            all_goals
              obtain ⟨k0, k1, k2, k3⟩ := kk
              go_wp2_with (go_at_call 84; refine (rletter_any _ _).mono ?_; rintro e w6 ⟨rfl, rfl⟩)
              go_ret
              exact ⟨rfl, (Below.refl _ _).drew⟩
          · have hb3 := byteQ_ne hlt he
            have n46 := decide_eq_false he
            clear he
            by_cases he : byteI s k = 36
            · have hb := byteQ_eq hlt he
              rw [show begB s k = true by unfold begB; rw [he]; rfl]
              clear n40 n91 n46
              clear he
              go_enter Tryz.func65, Tryz.ntmps65
              go_wp2_with fail
              clear c0 c1 c2 c3
              go_region_held3 (fun W => W.cell? ⟨b, 0, none⟩ = some (.string s) ∧ W.cell? ⟨b, 1, none⟩ = some (.int .i64 a) ∧ W.cell? ⟨b, 2, none⟩ = some (.int .i64 n) ∧ W.cell? ⟨b, 3, none⟩ = some (.int .i64 0))
                (first | exact kk | exact hI.cells)
                ((go_at_call 23; refine (HS.out _).mono ?_; rintro e w5 ⟨rfl, rfl⟩))
              all_goals
                obtain ⟨k0, k1, k2, k3⟩ := kk
                go_wp2_with (go_at_call 84; refine (rletter_any _ _).mono ?_; rintro e w6 ⟨rfl, rfl⟩)
                go_ret
                exact ⟨rfl, (Below.refl _ _).drew⟩
            · have hb4 := byteQ_ne hlt he
              have n36 := decide_eq_false he
              rw [show begB s k = isLet (byteI s k) by unfold begB; rw [n40, n91, n46, n36]; rfl, byteI_lt hlt]
              clear n40 n91 n46 n36
              clear he
              go_enter Tryz.func65, Tryz.ntmps65
              go_wp2_with fail
              clear c0 c1 c2 c3
              go_region_held3 (fun W => W.cell? ⟨b, 0, none⟩ = some (.string s) ∧ W.cell? ⟨b, 1, none⟩ = some (.int .i64 a) ∧ W.cell? ⟨b, 2, none⟩ = some (.int .i64 n) ∧ W.cell? ⟨b, 3, none⟩ = some (.int .i64 0))
                (first | exact kk | exact hI.cells)
                ((go_at_call 23; refine (HS.out _).mono ?_; rintro e w5 ⟨rfl, rfl⟩))
              all_goals
                obtain ⟨k0, k1, k2, k3⟩ := kk
                go_wp2_with (go_at_call 84; refine (rletter_any _ _).mono ?_; rintro e w6 ⟨rfl, rfl⟩)
                go_ret
                exact ⟨rfl, (Below.refl _ _).drew⟩
    · have hge : (s.size : Int) ≤ (k : Int) := by omega
      rw [begB_no hlt]
      have he := hlt
      clear h hlt
      clear he
      go_enter Tryz.func65, Tryz.ntmps65
      go_wp2_with fail
      clear c0 c1 c2 c3
      go_region_held3 (fun W => W.cell? ⟨b, 0, none⟩ = some (.string s) ∧ W.cell? ⟨b, 1, none⟩ = some (.int .i64 a) ∧ W.cell? ⟨b, 2, none⟩ = some (.int .i64 n) ∧ W.cell? ⟨b, 3, none⟩ = some (.int .i64 0))
        (first | exact kk | exact hI.cells)
        ((go_at_call 23; refine (HS.out _).mono ?_; rintro e w5 ⟨rfl, rfl⟩))
      all_goals
        obtain ⟨k0, k1, k2, k3⟩ := kk
        go_wp2_with (go_at_call 84; refine (rletter_any _ _).mono ?_; rintro e w6 ⟨rfl, rfl⟩)
        go_ret
        exact ⟨rfl, (Below.refl _ _).drew⟩
  · have hne : (c == 0) = false := beq_eq_false_iff_ne.2 hc
    have hne2 : decide (c = 0) = false := decide_eq_false hc
    rw [show (decide (c = 0) && begB s k) = false by rw [hne2]; rfl]
    have he := hc
    clear h
    clear he
    go_enter Tryz.func65, Tryz.ntmps65
    go_wp2_with fail
    clear c0 c1 c2 c3
    go_region_held3 (fun W => W.cell? ⟨b, 0, none⟩ = some (.string s) ∧ W.cell? ⟨b, 1, none⟩ = some (.int .i64 a) ∧ W.cell? ⟨b, 2, none⟩ = some (.int .i64 n) ∧ W.cell? ⟨b, 3, none⟩ = some (.int .i64 c))
      (first | exact kk | exact hI.cells)
      ((go_at_call 23; refine (HS.out _).mono ?_; rintro e w5 ⟨rfl, rfl⟩))
    all_goals
      obtain ⟨k0, k1, k2, k3⟩ := kk
      go_wp2_with (go_at_call 84; refine (rletter_any _ _).mono ?_; rintro e w6 ⟨rfl, rfl⟩)
      go_ret
      exact ⟨rfl, (Below.refl _ _).drew⟩
end Go.Proofs.YtpccdhkghlbhkaaGreatDoor

namespace Go.Proofs.YtpccdhkghlbhkaaGreatDoor
open Go.RowKit Go.Extern.Stop Go.Stop Go.Extern

/-- Which of the three signs stands there; -1. -/
def sgnZ (P : Int → Bool) : Int := if P 42 then 0 else if P 43 then 1 else if P 63 then 2 else -1
def SgL (w : World) (P : Int → Bool) (m : Nat) (u : Value) (wr : World) : Prop :=
  ((m = 3 ∧ u = .int .i64 0) ∨ (m = 2 ∧ u = .int .i64 1 ∧ P 42 = false) ∨ (m = 1 ∧ u = .int .i64 2 ∧ P 42 = false ∧ P 43 = false) ∨ (m = 0 ∧ u = .int .i64 3 ∧ P 42 = false ∧ P 43 = false ∧ P 63 = false)) ∧ Below w.heap.size w wr
theorem ret_iz {a b : Int} (h : a = b) : Ending.returned (.int .i64 a) = .returned (.int .i64 b) := by rw [h]

set_option maxRecDepth 100000 in
set_option maxHeartbeats 2000000 in
theorem qsign_go (b : Nat) (P : Int → Bool) (w : World)
    (HI : Hid (∀ d : Int, d ≠ 0 → ∀ W, Below w.heap.size w W → Calls Tryz.prog 47 #[.pointer (some ⟨b, 0, none⟩), .int .u8 d] W fun e w' => e = .returned (.bool (P d)) ∧ Below W.heap.size W w')) :
    Calls Tryz.prog 83 #[.pointer (some ⟨b, 0, none⟩)] w fun e w' => e = .returned (.int .i64 (sgnZ P)) ∧ Below w.heap.size w w' := by
  have H0 := Lib.hid (Below.refl w.heap.size w)
  go_enter Tryz.func83, Tryz.ntmps83
  go_wp2_with fail
  go_loopg [3] 3 (fun m u wr => SgL w P m u wr)
  case atStart => exact ⟨.inl ⟨rfl, rfl⟩, H0.out⟩
  case round =>
    obtain ⟨hd, hb⟩ := hrel
    have HB := Lib.hid hb
    clear hb
    rcases hd with ⟨rfl, rfl⟩ | ⟨rfl, rfl, h1⟩ | ⟨rfl, rfl, h1, h2⟩ | ⟨rfl, rfl, h1, h2, h3⟩
    · skip
      have HID := Lib.hid (HI.out 42 (by decide))
      go_wp2_with fail
      refine (HID.out _ HB.out).mono ?_
      rintro e w1 ⟨rfl, b1⟩
      have HB1 := Lib.hid (HB.out.trans (b1.mono HB.out.size))
      clear b1 HB HID
      by_cases hp : P 42 = true
      · rw [hp]
        have HP := Lib.hid hp
        clear hp
        go_wp2_with fail
        go_ret
        exact ⟨ret_iz (by unfold sgnZ; rw [HP.out]; rfl), HB1.out⟩
      · have hp' : P 42 = false := by simpa using hp
        rw [hp']
        have HP := Lib.hid hp'
        clear hp hp'
        go_wp2_with fail
        go_roundg 2
        case measure => decide
        case rel => exact ⟨.inr (.inl ⟨rfl, rfl, HP.out⟩), HB1.out⟩
    · have H1 := Lib.hid h1
      clear h1
      have HID := Lib.hid (HI.out 43 (by decide))
      go_wp2_with fail
      refine (HID.out _ HB.out).mono ?_
      rintro e w1 ⟨rfl, b1⟩
      have HB1 := Lib.hid (HB.out.trans (b1.mono HB.out.size))
      clear b1 HB HID
      by_cases hp : P 43 = true
      · rw [hp]
        have HP := Lib.hid hp
        clear hp
        go_wp2_with fail
        go_ret
        exact ⟨ret_iz (by unfold sgnZ; rw [H1.out, HP.out]; rfl), HB1.out⟩
      · have hp' : P 43 = false := by simpa using hp
        rw [hp']
        have HP := Lib.hid hp'
        clear hp hp'
        go_wp2_with fail
        go_roundg 1
        case measure => decide
        case rel => exact ⟨.inr (.inr (.inl ⟨rfl, rfl, H1.out, HP.out⟩)), HB1.out⟩
    · have H1 := Lib.hid h1
      have H2 := Lib.hid h2
      clear h1 h2
      have HID := Lib.hid (HI.out 63 (by decide))
      go_wp2_with fail
      refine (HID.out _ HB.out).mono ?_
      rintro e w1 ⟨rfl, b1⟩
      have HB1 := Lib.hid (HB.out.trans (b1.mono HB.out.size))
      clear b1 HB HID
      by_cases hp : P 63 = true
      · rw [hp]
        have HP := Lib.hid hp
        clear hp
        go_wp2_with fail
        go_ret
        exact ⟨ret_iz (by unfold sgnZ; rw [H1.out, H2.out, HP.out]; rfl), HB1.out⟩
      · have hp' : P 63 = false := by simpa using hp
        rw [hp']
        have HP := Lib.hid hp'
        clear hp hp'
        go_wp2_with fail
        go_roundg 0
        case measure => decide
        case rel => exact ⟨.inr (.inr (.inr ⟨rfl, rfl, H1.out, H2.out, HP.out⟩)), HB1.out⟩
    · have H1 := Lib.hid h1
      have H2 := Lib.hid h2
      have H3 := Lib.hid h3
      clear h1 h2 h3
      go_wp2_with fail
      go_ret
      exact ⟨ret_iz (by unfold sgnZ; rw [H1.out, H2.out, H3.out]; rfl), HB.out⟩
theorem qsign_any (s : ByteArray) (a n b : Nat) (c : Int) (ha : a ≤ s.size) (w : World) (h : Qn w b s a n c) :
    Calls Tryz.prog 83 #[.pointer (some ⟨b, 0, none⟩)] w fun e w' => e = .returned (.int .i64 (sgnZ fun d => decide (c = 0) && decide (byteI s a = d))) ∧ Below w.heap.size w w' :=
  qsign_go b _ w (Lib.hid fun d hd W hb => qis_any s a n b c d hd ha W (h.step hb))
end Go.Proofs.YtpccdhkghlbhkaaGreatDoor

namespace Go.Proofs.YtpccdhkghlbhkaaGreatDoor
open Go.RowKit Go.Extern.Stop Go.Stop Go.Extern

/-- How many words stand ahead of it. -/
def putJ : List (List UInt8) → List UInt8 → Nat
  | [], _ => 0
  | x :: r, w => if w < x then 0 else putJ r w + 1
theorem putJ_le : ∀ (l : List (List UInt8)) (w : List UInt8), putJ l w ≤ l.length
  | [], _ => Nat.le_refl _
  | x :: r, w => by
    have := putJ_le r w
    rw [putJ]
    split <;> simp <;> omega
theorem putW_eq : ∀ (l : List (List UInt8)) (w : List UInt8), putW l w = l.take (putJ l w) ++ w :: l.drop (putJ l w)
  | [], _ => rfl
  | x :: r, w => by
    rw [putW, putJ]
    split
    · rfl
    · rw [putW_eq r w]; rfl
theorem putJ_below : ∀ (l : List (List UInt8)) (w : List UInt8) (i : Nat), i < putJ l w → ¬ w < l.getD i []
  | [], _, i, h => absurd h (Nat.not_lt_zero i)
  | x :: r, w, i, h => by
    rw [putJ] at h
    split at h
    · exact absurd h (Nat.not_lt_zero i)
    · rename_i hx
      cases i with
      | zero => simpa using hx
      | succ i =>
        have := putJ_below r w i (by omega)
        simpa using this
theorem putJ_above : ∀ (l : List (List UInt8)) (w : List UInt8) (i : Nat), l.Pairwise (fun a b => a ≤ b) → putJ l w ≤ i → i < l.length → w < l.getD i []
  | [], _, i, _, _, h => absurd h (Nat.not_lt_zero i)
  | x :: r, w, i, hs, h, hi => by
    obtain ⟨h1, h2⟩ := List.pairwise_cons.1 hs
    rw [putJ] at h
    split at h
    · rename_i hx
      cases i with
      | zero => simpa using hx
      | succ i =>
        have hi' : i < r.length := by simp at hi; omega
        have hm : r[i] ∈ r := List.getElem_mem hi'
        have : w < r[i] := by
          by_cases hw : w < r[i]
          · exact hw
          · exact absurd hx (List.not_lt.2 (List.le_trans (h1 _ hm) (List.not_lt.1 hw)))
        simpa [List.getD, List.getElem?_eq_getElem hi'] using this
    · cases i with
      | zero => omega
      | succ i =>
        have hi' : i < r.length := by simp at hi; omega
        have := putJ_above r w i h2 (by omega) hi'
        simpa using this
end Go.Proofs.YtpccdhkghlbhkaaGreatDoor
