/-
  The statements' example of chapter 1 holds, and what their helpers do: 'of' makes the chain of any number, place and words; 'Is' asks for a number and a place within nothing.
-/
import Derived.Test.YtajmlkephefapaaGreatDoorWords
namespace Go.Proofs.YtajmlkephefapaaGreatDoor
open Go.RowKit Go.Extern.Stop Go.Stop Go.Extern

def netS : ByteArray := ⟨#[110, 101, 116]⟩

set_option maxRecDepth 100000 in
set_option maxHeartbeats 1600000 in
theorem awake1_any (w : World) (hg : Handle w) :
    Calls Tryz.prog 114 #[] w fun e w' => e = .returned (.bool true) ∧ Below w.heap.size w w' := by
  have h1 := new_any 4 7 (by decide) w
  have c1 := new_chain 4 7 w
  have b1 := below_alloc w (.cells #[.int .i64 4, .int .i64 7] 102)
  have g1 := hg.below b1
  have hsz1 : (w.alloc (.cells #[.int .i64 4, .int .i64 7] 102)).heap.size = w.heap.size + 1 := by simp
  have q1 : (w.alloc (.cells #[.int .i64 4, .int .i64 7] 102)).cell? ⟨w.heap.size, 1, none⟩ = some (.int .i64 7) := by simp
  generalize w.alloc (.cells #[.int .i64 4, .int .i64 7] 102) = w1 at *
  have h2 := in_any netS 100 (.pointer (some ⟨w.heap.size, 0, none⟩)) w1
  have c2 := in_chain netS _ w1 _ _ c1
  have b2 := below_alloc w1 (.cells #[.string netS, .iface 100 (.pointer (some ⟨w.heap.size, 0, none⟩))] 116)
  have g2 := g1.below b2
  have q2 := (b2.cell (p := ⟨w.heap.size, 1, none⟩) (by show w.heap.size < _; omega)).trans q1
  generalize w1.alloc (.cells #[.string netS, .iface 100 (.pointer (some ⟨w.heap.size, 0, none⟩))] 116) = w2 at *
  have hlt2 : w.heap.size < w2.heap.size := by have := b2.size; omega
  have B2 : Below w.heap.size w w2 := b1.trans (b2.mono (by omega))
  obtain ⟨W1, HW1⟩ : ∃ n, n = w1.heap.size := ⟨_, rfl⟩
  rw [← HW1] at h2 c2
  have H1 := Lib.hid h1
  have H2 := Lib.hid h2
  have HC := Lib.hid c2
  have HS1 := Lib.hid hsz1
  have HWW := Lib.hid HW1
  clear h1 h2 c1 c2 hsz1 HW1 q1 b1 b2
  go_enter Tryz.func114, Tryz.ntmps114
  go_wp2_with fail
  refine H1.out.mono ?_
  rintro e w' ⟨rfl, rfl⟩
  go_wp2_with fail
  refine H2.out.mono ?_
  rintro e w' ⟨rfl, rfl⟩
  go_wp2_with fail
  refine (words_any _ _ _ _ HC.out g2 (by decide)).mono ?_
  rintro e w3 ⟨sl, rfl, hown, b3⟩
  have hs := strs_own hown
  clear hown
  rcases hs with ⟨a, cap, rfl, h0⟩ | ⟨b, off, cap, rfl, hb, hc⟩
  · cases h0
  have hc0 := hc 0 (by decide)
  clear hc
  have c3 := Lib.hid (HC.out.keep b3)
  have g3 := g2.below b3
  have q3 := (b3.cell (p := ⟨w.heap.size, 1, none⟩) hlt2).trans q2
  go_wp2_with fail
  refine (code_some _ 4 rfl _ _ _ c3.out g3).mono ?_
  rintro e w4 ⟨rfl, b4⟩
  have c4 := Lib.hid (c3.out.keep b4)
  have g4 := g3.below b4
  have q4 := (b4.cell (p := ⟨w.heap.size, 1, none⟩) (Nat.lt_of_lt_of_le hlt2 b3.size)).trans q3
  go_wp2_with fail
  refine (at_fault _ _ _ _ _ _ c4.out (Nat.lt_of_lt_of_le hlt2 (Nat.le_trans b3.size b4.size)) q4 g4).mono ?_
  rintro e w5 ⟨rfl, b5⟩
  have k5 := (b5.cell (p := ⟨b, off + 0, none⟩) (Nat.lt_of_lt_of_le hb b4.size)).trans ((b4.cell (p := ⟨b, off + 0, none⟩) hb).trans hc0)
  simp [netS] at k5
  go_wp2_with fail
  refine (code_nil _).mono ?_
  rintro e w6 ⟨rfl, rfl⟩
  go_wp2_with fail
  go_ret
  exact ⟨rfl, B2.trans ((b3.trans ((b4.trans (b5.mono b4.size)).mono b3.size)).mono (Nat.le_of_lt hlt2))⟩

theorem Awake1_any (w : World) (hg : Handle w) :
    Calls Tryz.prog 82 #[] w fun e w' => e = .returned (.bool true) ∧ Below w.heap.size w w' := by
  go_enter Tryz.func82, Tryz.ntmps82
  go_wp2_with (go_at_call 114; refine (awake1_any _ hg).mono ?_; rintro e w' ⟨rfl, hb⟩)
  go_ret
  exact ⟨rfl, hb⟩

/-! ### of -/
/-- The innermost error of a chain. -/
theorem Chain.root {B : Nat} {w : World} {r : Base} : ∀ {l : List ByteArray} {v : Value}, Chain B w r l v → ∃ u, Root B w r u
  | [], v, h => ⟨v, h⟩
  | _ :: _, _, ⟨_, _, _, _, _, _, hr⟩ => Chain.root hr

theorem at_chain (b : Nat) (c a : Int) (ws : List ByteArray) (v : Value) (w : World) (hch : ChainAt w (.fault b c a) ws v) (hg : Handle w) :
    Calls Tryz.prog 36 #[v] w fun e w' => e = .returned (.int .i64 a) ∧ Below w.heap.size w w' := by
  obtain ⟨u, -, h2, -, h4⟩ := Chain.root hch
  exact at_fault b c a ws v w hch h2 h4 hg

/-- A slice value by its parts: its cells are known where there are any. -/
theorem StrsAt.parts {w : World} {v : Value} {ws : List ByteArray} (h : StrsAt w v ws) : ∃ b o c, v = .slice b ws.length c ∧ Hid (∀ i, i < ws.length → ∃ b', b = some ⟨b', o, none⟩ ∧ b' < w.heap.size ∧ w.cell? ⟨b', o + i, none⟩ = some (.string (ws.getD i ByteArray.empty))) := by
  rcases h with ⟨a, c, e, e'⟩ | ⟨b, o, c, e, hb, hc⟩
  · exact ⟨a, 0, c, by rw [e, e']; rfl, fun i hi => by rw [e'] at hi; exact absurd hi (by simp)⟩
  · exact ⟨_, o, c, e, fun i hi => ⟨b, rfl, hb, hc i hi⟩⟩

/-- A chain of a fault stays where a number in another block is written over. -/
theorem Chain.set {B : Nat} {w : World} {b0 t j : Nat} {c a z : Int} {x : Value} (hq : w.cell? ⟨t, 0, none⟩ = some (.int .i64 z)) (hne : b0 ≠ t) : ∀ {l : List ByteArray} {v : Value}, Chain B w (.fault b0 c a) l v → Chain B (w.setCell ⟨t, j, none⟩ x) (.fault b0 c a) l v
  | [], _, ⟨e, hb, h0, h1⟩ => ⟨e, hb, (World.cell?_setCell_other _ _ _ _ (by intro h; simp at h <;> omega)).trans h0, (World.cell?_setCell_other _ _ _ _ (by intro h; simp at h <;> omega)).trans h1⟩
  | _ :: _, _, ⟨b, u, e, hb, h0, h1, hr⟩ => by
    have hbt : b ≠ t := by
      intro h
      rw [h, hq] at h0
      cases h0
    exact ⟨b, u, e, hb, (World.cell?_setCell_other _ _ _ _ (by intro h; simp at h <;> omega)).trans h0, (World.cell?_setCell_other _ _ _ _ (by intro h; simp at h <;> omega)).trans h1, Chain.set hq hne hr⟩

/-! ### fairleadlaw01.Is -/
set_option maxHeartbeats 400000 in
theorem lawIs_nil (a : Int) (w : World) : Calls Tryz.prog 9 #[.nilIface, .int .i64 0, .int .i64 a] w fun e w' => e = .returned (.bool true) ∧ w' = w := by
  go_enter Tryz.func9, Tryz.ntmps9
  go_wp2
  go_ret
  exact ⟨rfl, rfl⟩

set_option maxRecDepth 100000 in
set_option maxHeartbeats 1000000 in
theorem lawIs_fault (b : Nat) (c a : Int) (hc : c ≠ 0) (v : Value) (w : World) (hch : ChainAt w (.fault b c a) [] v) (hg : Handle w) :
    Calls Tryz.prog 9 #[v, .int .i64 c, .int .i64 a] w fun e w' => e = .returned (.bool true) ∧ Below w.heap.size w w' := by
  obtain ⟨T, V, rfl⟩ := hch.iface
  have hcb : (c == 0) = false := by simpa using hc
  clear hc
  go_enter Tryz.func9, Tryz.ntmps9
  go_wp2_with fail
  refine (code_some _ c rfl _ _ _ hch hg).mono ?_
  rintro e w1 ⟨rfl, b1⟩
  have c1 := Lib.hid (hch.keep b1)
  go_wp2_with fail
  refine (at_chain _ _ _ _ _ _ c1.out (hg.below b1)).mono ?_
  rintro e w2 ⟨rfl, b2⟩
  have c2 := Lib.hid (c1.out.keep b2)
  go_wp2_with fail
  refine (words_any _ _ _ _ c2.out ((hg.below b1).below b2) (by decide)).mono ?_
  rintro e w3 ⟨sl, rfl, hown, b3⟩
  have hs := strs_own hown
  clear hown
  obtain ⟨x, y, z, rfl, -⟩ := hs.parts
  go_wp2_with fail
  go_ret
  exact ⟨rfl, b1.trans ((b2.trans (b3.mono b2.size)).mono b1.size)⟩
end Go.Proofs.YtajmlkephefapaaGreatDoor
