/-
  The statements' example of chapter 1 holds, and what their helpers do: 'of' makes the chain of any number, place and words; 'Is' asks for a number and a place within nothing.
-/
import Derived.Test.YtcjmmiimkedeoaaDoorWords
import Derived.Test.YtcjmmiimkedeoaaDoorIsC
namespace Go.Proofs.YtcjmmiimkedeoaaDoor
open Go.RowKit Go.Extern.Stop Go.Stop Go.Extern

def netS : ByteArray := ⟨#[110, 101, 116]⟩

set_option maxRecDepth 100000 in
set_option maxHeartbeats 1600000 in
theorem awake1_any (w : World) (hg : Handle w) :
    Calls Tryd.prog 13 #[] w fun e w' => e = .returned (.bool true) ∧ Below w.heap.size w w' := by
  have h1 := new_any 4 7 (by decide) w
  have c1 := new_chain 4 7 w
  have b1 := below_alloc w (.cells #[.int .i64 4, .int .i64 7] 42)
  have g1 := hg.below b1
  have hsz1 : (w.alloc (.cells #[.int .i64 4, .int .i64 7] 42)).heap.size = w.heap.size + 1 := by simp
  have q1 : (w.alloc (.cells #[.int .i64 4, .int .i64 7] 42)).cell? ⟨w.heap.size, 1, none⟩ = some (.int .i64 7) := by simp
  generalize w.alloc (.cells #[.int .i64 4, .int .i64 7] 42) = w1 at *
  have h2 := in_any netS 36 (.pointer (some ⟨w.heap.size, 0, none⟩)) w1
  have c2 := in_chain netS _ w1 _ _ c1
  have b2 := below_alloc w1 (.cells #[.string netS, .iface 36 (.pointer (some ⟨w.heap.size, 0, none⟩))] 46)
  have g2 := g1.below b2
  have q2 := (b2.cell (p := ⟨w.heap.size, 1, none⟩) (by show w.heap.size < _; omega)).trans q1
  generalize w1.alloc (.cells #[.string netS, .iface 36 (.pointer (some ⟨w.heap.size, 0, none⟩))] 46) = w2 at *
  have hlt2 : w.heap.size < w2.heap.size := by have := b2.size; omega
  have B2 : Below w.heap.size w w2 := b1.trans (b2.mono (by omega))
  obtain ⟨W1, HW1⟩ : ∃ n, n = w1.heap.size := ⟨_, rfl⟩
  rw [← HW1] at h2 c2
  have H1 := Lib.hid h1
  have H2 := Lib.hid h2
  have HC := Lib.hid c2
  have HS1 := Lib.hid hsz1
  have HWW := Lib.hid HW1
  clear h1 h2 c1 c2 hsz1 HW1 q1 b1 b2
  go_enter Tryd.func13, Tryd.ntmps13
  go_wp2_with fail
  refine H1.out.mono ?_
  rintro e w' ⟨rfl, rfl⟩
  go_wp2_with fail
  refine H2.out.mono ?_
  rintro e w' ⟨rfl, rfl⟩
  go_wp2_with fail
  refine (words_any _ _ _ _ HC.out g2 (by decide)).mono ?_
  rintro e w3 ⟨sl, rfl, hown, b3⟩
  have hs := strs_own hown
  clear hown
  rcases hs with ⟨a, cap, rfl, h0⟩ | ⟨b, off, cap, rfl, hb, hc⟩
  · cases h0
  have hc0 := hc 0 (by decide)
  clear hc
  have c3 := Lib.hid (HC.out.keep b3)
  have g3 := g2.below b3
  have q3 := (b3.cell (p := ⟨w.heap.size, 1, none⟩) hlt2).trans q2
  go_wp2_with fail
  refine (code_some _ 4 rfl _ _ _ c3.out g3).mono ?_
  rintro e w4 ⟨rfl, b4⟩
  have c4 := Lib.hid (c3.out.keep b4)
  have g4 := g3.below b4
  have q4 := (b4.cell (p := ⟨w.heap.size, 1, none⟩) (Nat.lt_of_lt_of_le hlt2 b3.size)).trans q3
  go_wp2_with fail
  refine (at_fault _ _ _ _ _ _ c4.out (Nat.lt_of_lt_of_le hlt2 (Nat.le_trans b3.size b4.size)) q4 g4).mono ?_
  rintro e w5 ⟨rfl, b5⟩
  have k5 := (b5.cell (p := ⟨b, off + 0, none⟩) (Nat.lt_of_lt_of_le hb b4.size)).trans ((b4.cell (p := ⟨b, off + 0, none⟩) hb).trans hc0)
  simp [netS] at k5
  go_wp2_with fail
  refine (code_nil _).mono ?_
  rintro e w6 ⟨rfl, rfl⟩
  go_wp2_with fail
  go_ret
  exact ⟨rfl, B2.trans ((b3.trans ((b4.trans (b5.mono b4.size)).mono b3.size)).mono (Nat.le_of_lt hlt2))⟩

theorem Awake1_any (w : World) (hg : Handle w) :
    Calls Tryd.prog 56 #[] w fun e w' => e = .returned (.bool true) ∧ Below w.heap.size w w' := by
  go_enter Tryd.func56, Tryd.ntmps56
  go_wp2_with (go_at_call 13; refine (awake1_any _ hg).mono ?_; rintro e w' ⟨rfl, hb⟩)
  go_ret
  exact ⟨rfl, hb⟩

/-! ### of -/
/-- The innermost error of a chain. -/
theorem Chain.root {B : Nat} {w : World} {r : Base} : ∀ {l : List ByteArray} {v : Value}, Chain B w r l v → ∃ u, Root B w r u
  | [], v, h => ⟨v, h⟩
  | _ :: _, _, ⟨_, _, _, _, _, _, hr⟩ => Chain.root hr

theorem at_chain (b : Nat) (c a : Int) (ws : List ByteArray) (v : Value) (w : World) (hch : ChainAt w (.fault b c a) ws v) (hg : Handle w) :
    Calls Tryd.prog 16 #[v] w fun e w' => e = .returned (.int .i64 a) ∧ Below w.heap.size w w' := by
  obtain ⟨u, -, h2, -, h4⟩ := Chain.root hch
  exact at_fault b c a ws v w hch h2 h4 hg

/-- A slice value by its parts: its cells are known where there are any. -/
theorem StrsAt.parts {w : World} {v : Value} {ws : List ByteArray} (h : StrsAt w v ws) : ∃ b o c, v = .slice b ws.length c ∧ Hid (∀ i, i < ws.length → ∃ b', b = some ⟨b', o, none⟩ ∧ b' < w.heap.size ∧ w.cell? ⟨b', o + i, none⟩ = some (.string (ws.getD i ByteArray.empty))) := by
  rcases h with ⟨a, c, e, e'⟩ | ⟨b, o, c, e, hb, hc⟩
  · exact ⟨a, 0, c, by rw [e, e']; rfl, fun i hi => by rw [e'] at hi; exact absurd hi (by simp)⟩
  · exact ⟨_, o, c, e, fun i hi => ⟨b, rfl, hb, hc i hi⟩⟩

structure OfNil (w1 : World) (n : Nat) (k : Nat) (u i : Value) (wr : World) : Prop where
  ex : u = .nilIface ∧ k ≤ n ∧ i = .int .i64 ((k : Int) - 1)
  world : wr = w1

set_option maxRecDepth 100000 in
set_option maxHeartbeats 1600000 in
theorem of_nil (a : Int) (ws : List ByteArray) (v : Value) (w : World) (hv : StrsAt w v ws) (hlen : ws.length ≤ 1000) :
    Calls Tryd.prog 14 #[.int .i64 0, .int .i64 a, v] w fun e w' => e = .returned (.tuple #[.nilIface, .agg #[.int .i64 0, .int .i64 0, .slice none 0 0]]) ∧ Below w.heap.size w w' := by
  obtain ⟨b, o, c, rfl, H⟩ := hv.parts
  clear hv
  have H0 : Hid (OfNil (w.alloc (.cells #[.int .i64 0, .int .i64 0, .slice none 0 0] 28)) ws.length ws.length .nilIface (.int .i64 ((ws.length : Int) - 1)) (w.alloc (.cells #[.int .i64 0, .int .i64 0, .slice none 0 0] 28))) := ⟨⟨rfl, Nat.le_refl _, rfl⟩, rfl⟩
  go_enter Tryd.func14, Tryd.ntmps14
  go_wp2_with (go_at_call 46; refine (new_nil _ _).mono ?_; rintro e w' ⟨rfl, rfl⟩)
  go_loopg [8, 9] ws.length (fun k u i wr => OfNil (w.alloc (.cells #[.int .i64 0, .int .i64 0, .slice none 0 0] 28)) ws.length k u i wr)
  case atStart => exact H0.out
  case round =>
    obtain ⟨⟨rfl, hk, rfl⟩, rfl⟩ := hrel
    cases gk with
    | zero =>
      rw [show ((0 : Nat) : Int) - 1 = -1 from rfl]
      go_wp2
      refine bodyPost_ret (v := .tuple #[.nilIface, .agg #[.int .i64 0, .int .i64 0, .slice none 0 0]]) (by simp [results, Tryd.results14, go_sem]) rfl ⟨rfl, below_alloc _ _⟩
    | succ m =>
      rw [show ((m + 1 : Nat) : Int) - 1 = m by omega]
      obtain ⟨b', rfl, hb', hc⟩ := H.out m hk
      have hc' := ((below_alloc w (.cells #[.int .i64 0, .int .i64 0, .slice none 0 0] 28)).cell (p := ⟨b', o + m, none⟩) hb').trans hc
      generalize ws.getD m ByteArray.empty = s at hc'
      clear hc
      go_wp2_with (go_at_call 29; refine (in_nil _ _).mono ?_; rintro e w' ⟨rfl, rfl⟩)
      go_roundg m
      case measure => omega
      case rel => exact ⟨⟨rfl, by omega, rfl⟩, rfl⟩

/-- A chain of a fault stays where a number in another block is written over. -/
theorem Chain.set {B : Nat} {w : World} {b0 t j : Nat} {c a z : Int} {x : Value} (hq : w.cell? ⟨t, 0, none⟩ = some (.int .i64 z)) (hne : b0 ≠ t) : ∀ {l : List ByteArray} {v : Value}, Chain B w (.fault b0 c a) l v → Chain B (w.setCell ⟨t, j, none⟩ x) (.fault b0 c a) l v
  | [], _, ⟨e, hb, h0, h1⟩ => ⟨e, hb, (World.cell?_setCell_other _ _ _ _ (by intro h; simp at h <;> omega)).trans h0, (World.cell?_setCell_other _ _ _ _ (by intro h; simp at h <;> omega)).trans h1⟩
  | _ :: _, _, ⟨b, u, e, hb, h0, h1, hr⟩ => by
    have hbt : b ≠ t := by
      intro h
      rw [h, hq] at h0
      cases h0
    exact ⟨b, u, e, hb, (World.cell?_setCell_other _ _ _ _ (by intro h; simp at h <;> omega)).trans h0, (World.cell?_setCell_other _ _ _ _ (by intro h; simp at h <;> omega)).trans h1, Chain.set hq hne hr⟩

structure OfRel (w1 : World) (c a : Int) (ws : List ByteArray) (b0 : Nat) (k : Nat) (u i : Value) (wr : World) : Prop where
  ex : k ≤ ws.length ∧ i = .int .i64 ((k : Int) - 1)
  chain : ChainAt wr (.fault b0 c a) (ws.drop k) u
  below : Below w1.heap.size w1 wr

set_option maxRecDepth 100000 in
set_option maxHeartbeats 1600000 in
theorem of_any (c a : Int) (hc0 : c ≠ 0) (ws : List ByteArray) (v : Value) (w : World) (hv : StrsAt w v ws) (hlen : ws.length ≤ 1000) :
    Calls Tryd.prog 14 #[.int .i64 c, .int .i64 a, v] w fun e w' => ∃ u fb, e = .returned (.tuple #[u, .agg #[.int .i64 c, .int .i64 a, v]]) ∧ ChainAt w' (.fault fb c a) ws u ∧ Below w.heap.size w w' := by
  obtain ⟨b, o, cp, rfl, H⟩ := hv.parts
  clear hv
  have hcb : (c == 0) = false := by simpa using hc0
  obtain ⟨W1, hW1⟩ : ∃ W1, W1 = w.alloc (.cells #[.int .i64 0, .int .i64 0, .slice none 0 0] 28) := ⟨_, rfl⟩
  have B1 : Below w.heap.size w W1 := by rw [hW1]; exact below_alloc _ _
  have s1 : W1.heap.size = w.heap.size + 1 := by rw [hW1]; simp
  have k0 : W1.cell? ⟨w.heap.size, 0, none⟩ = some (.int .i64 0) := by rw [hW1]; simp
  have k1 : W1.cell? ⟨w.heap.size, 1, none⟩ = some (.int .i64 0) := by rw [hW1]; simp
  have k2 : W1.cell? ⟨w.heap.size, 2, none⟩ = some (.slice none 0 0) := by rw [hW1]; simp
  have kf : ∀ j, W1.frozen? ⟨w.heap.size, j, none⟩ = false := by intro j; rw [hW1]; simp
  have B2 := below_alloc W1 (.cells #[.int .i64 c, .int .i64 a] 42)
  have C2 := new_chain c a W1
  have HN := Lib.hid (new_any c a hc0 W1)
  have H0 : Hid (OfRel W1 c a ws W1.heap.size ws.length (.iface 36 (.pointer (some ⟨W1.heap.size, 0, none⟩))) (.int .i64 ((ws.length : Int) - 1)) (W1.alloc (.cells #[.int .i64 c, .int .i64 a] 42))) := ⟨⟨Nat.le_refl _, rfl⟩, by rw [List.drop_length]; exact C2, B2⟩
  have HW1 := Lib.hid hW1
  have HS1 := Lib.hid s1
  clear C2 B2 hc0 s1 hW1
  go_enter Tryd.func14, Tryd.ntmps14
  go_wp2_with fail
  rw [← HW1.out]
  refine HN.out.mono ?_
  rintro e w' ⟨rfl, rfl⟩
  go_wp2_with fail
  go_loopg [8, 9] ws.length (fun k u i wr => OfRel W1 c a ws W1.heap.size k u i wr)
  case atStart => exact H0.out
  case round =>
    obtain ⟨⟨hk, rfl⟩, hch, hbel⟩ := hrel
    have hlt : w.heap.size < W1.heap.size := by have := HS1.out; omega
    have q0 := (hbel.cell (p := ⟨w.heap.size, 0, none⟩) hlt).trans k0
    have q1 := (hbel.cell (p := ⟨w.heap.size, 1, none⟩) hlt).trans k1
    have q2 := (hbel.cell (p := ⟨w.heap.size, 2, none⟩) hlt).trans k2
    have qf := fun j => (hbel.frozen (p := ⟨w.heap.size, j, none⟩) hlt).trans (kf j)
    have BB := B1.trans (hbel.mono (Nat.le_of_lt hlt))
    cases gk with
    | zero =>
      rw [show ((0 : Nat) : Int) - 1 = -1 from rfl]
      rw [List.drop_zero] at hch
      have ne : ∀ i j : Nat, i ≠ j → (⟨w.heap.size, i, none⟩ : Addr) ≠ ⟨w.heap.size, j, none⟩ := fun i j h e => h (by injection e)
      have r0 : (((wr.setCell ⟨w.heap.size, 0, none⟩ (.int .i64 c)).setCell ⟨w.heap.size, 1, none⟩ (.int .i64 a)).setCell ⟨w.heap.size, 2, none⟩ (.slice b ws.length cp)).cell? ⟨w.heap.size, 0, none⟩ = some (.int .i64 c) := by
        rw [World.cell?_setCell_other _ _ _ _ (ne 2 0 (by decide)), World.cell?_setCell_other _ _ _ _ (ne 1 0 (by decide))]; exact World.cell?_setCell_same _ _ _ q0
      have r1 : (((wr.setCell ⟨w.heap.size, 0, none⟩ (.int .i64 c)).setCell ⟨w.heap.size, 1, none⟩ (.int .i64 a)).setCell ⟨w.heap.size, 2, none⟩ (.slice b ws.length cp)).cell? ⟨w.heap.size, 1, none⟩ = some (.int .i64 a) := by
        rw [World.cell?_setCell_other _ _ _ _ (ne 2 1 (by decide))]; exact World.cell?_setCell_same _ _ _ ((World.cell?_setCell_other _ _ _ _ (ne 0 1 (by decide))).trans q1)
      have r2 : (((wr.setCell ⟨w.heap.size, 0, none⟩ (.int .i64 c)).setCell ⟨w.heap.size, 1, none⟩ (.int .i64 a)).setCell ⟨w.heap.size, 2, none⟩ (.slice b ws.length cp)).cell? ⟨w.heap.size, 2, none⟩ = some (.slice b ws.length cp) :=
        World.cell?_setCell_same _ _ _ ((World.cell?_setCell_other _ _ _ _ (ne 1 2 (by decide))).trans ((World.cell?_setCell_other _ _ _ _ (ne 0 2 (by decide))).trans q2))
      have HC3 := Lib.hid (Chain.set (j := 2) (x := .slice b ws.length cp) (World.cell?_setCell_other _ _ _ _ (by intro h; simp at h) |>.trans (World.cell?_setCell_same _ _ _ q0)) (by have := HS1.out; omega) (Chain.set (j := 1) (x := .int .i64 a) (World.cell?_setCell_same _ _ _ q0) (by have := HS1.out; omega) (Chain.set (j := 0) (x := .int .i64 c) q0 (by have := HS1.out; omega) hch)))
      clear hch
      go_wp2
      refine bodyPost_ret (v := .tuple #[u8, .agg #[.int .i64 c, .int .i64 a, .slice b ws.length cp]]) (by simp [results, Tryd.results14, go_sem, r0, r1, r2]) rfl ⟨_, W1.heap.size, rfl, ?_, ?_⟩
      · show Chain _ _ _ _ _
        rw [World.size_setCell, World.size_setCell, World.size_setCell]
        exact HC3.out
      · exact ((BB.setCell (Nat.le_refl _) _).setCell (Nat.le_refl _) _).setCell (Nat.le_refl _) _
    | succ m =>
      rw [show ((m + 1 : Nat) : Int) - 1 = m by omega]
      obtain ⟨b', rfl, hb', hc⟩ := H.out m hk
      have hc' := (BB.cell (p := ⟨b', o + m, none⟩) hb').trans hc
      have hd : ws.drop m = ws.getD m ByteArray.empty :: ws.drop (m + 1) := by
        rw [List.drop_eq_getElem_cons (show m < ws.length by omega)]
        simp [List.getD, List.getElem?_eq_getElem (show m < ws.length by omega)]
      have HD := Lib.hid hd
      clear hd hc
      obtain ⟨s, hs⟩ : ∃ s, ws.getD m ByteArray.empty = s := ⟨_, rfl⟩
      have HS := Lib.hid hs
      rw [hs] at hc'
      clear hs
      obtain ⟨Tu, Vu, rfl⟩ := hch.iface
      have HN2 := Lib.hid (in_any s Tu Vu wr)
      have HC2 := Lib.hid (in_chain s _ wr _ _ hch)
      clear hch
      go_wp2_with fail
      refine HN2.out.mono ?_
      rintro e w' ⟨rfl, rfl⟩
      go_wp2_with fail
      go_roundg m
      case measure => omega
      case rel => exact ⟨⟨by omega, rfl⟩, by rw [HD.out, HS.out]; exact HC2.out, hbel.trans ((below_alloc _ _).mono hbel.size)⟩

/-! ### fairleadlaw01.Is -/
set_option maxHeartbeats 400000 in
theorem lawIs_nil (a : Int) (w : World) : Calls Tryd.prog 43 #[.nilIface, .int .i64 0, .int .i64 a] w fun e w' => e = .returned (.bool true) ∧ w' = w := by
  go_enter Tryd.func43, Tryd.ntmps43
  go_wp2
  go_ret
  exact ⟨rfl, rfl⟩

set_option maxRecDepth 100000 in
set_option maxHeartbeats 1000000 in
theorem lawIs_fault (b : Nat) (c a : Int) (hc : c ≠ 0) (v : Value) (w : World) (hch : ChainAt w (.fault b c a) [] v) (hg : Handle w) :
    Calls Tryd.prog 43 #[v, .int .i64 c, .int .i64 a] w fun e w' => e = .returned (.bool true) ∧ Below w.heap.size w w' := by
  obtain ⟨T, V, rfl⟩ := hch.iface
  have hcb : (c == 0) = false := by simpa using hc
  clear hc
  go_enter Tryd.func43, Tryd.ntmps43
  go_wp2_with fail
  refine (code_some _ c rfl _ _ _ hch hg).mono ?_
  rintro e w1 ⟨rfl, b1⟩
  have c1 := Lib.hid (hch.keep b1)
  go_wp2_with fail
  refine (at_chain _ _ _ _ _ _ c1.out (hg.below b1)).mono ?_
  rintro e w2 ⟨rfl, b2⟩
  have c2 := Lib.hid (c1.out.keep b2)
  go_wp2_with fail
  refine (words_any _ _ _ _ c2.out ((hg.below b1).below b2) (by decide)).mono ?_
  rintro e w3 ⟨sl, rfl, hown, b3⟩
  have hs := strs_own hown
  clear hown
  obtain ⟨x, y, z, rfl, -⟩ := hs.parts
  go_wp2_with fail
  go_ret
  exact ⟨rfl, b1.trans ((b2.trans (b3.mono b2.size)).mono b1.size)⟩
end Go.Proofs.YtcjmmiimkedeoaaDoor
