/-
  The statement OopsSame as a walk: whatever the two numbers, places and rows of words, the law answers true, and all of old memory stays as it was.
-/
import Derived.Test.YtcjmmiimkedeoaaDoorRSame
import Derived.Deep.RegionHeld3
namespace Go.Proofs.YtcjmmiimkedeoaaDoor
open Go.RowKit Go.Extern.Stop Go.Stop Go.Extern

/-- What 'of' answers: no error, and the reference's none; or a chain of a fault, and the reference's error with the words themselves. -/
def OfRes (w : World) (c a : Int) (ws : List ByteArray) (u : Value) (c1 a1 : Int) (v1 : Value) (ws1 : List ByteArray) : Prop :=
  (c = 0 ∧ u = .nilIface ∧ c1 = 0 ∧ a1 = 0 ∧ v1 = .slice none 0 0 ∧ ws1 = []) ∨ (c ≠ 0 ∧ (∃ fb, ChainAt w (.fault fb c a) ws u) ∧ c1 = c ∧ a1 = a ∧ StrsAt w v1 ws ∧ ws1 = ws)

section
variable {w w' : World} {c a : Int} {ws : List ByteArray} {u : Value} {c1 a1 : Int} {v1 : Value} {ws1 : List ByteArray} {c' a' : Int} {ws' : List ByteArray} {u' : Value} {c1' a1' : Int} {v1' : Value} {ws1' : List ByteArray}
theorem OfRes.keep (h : OfRes w c a ws u c1 a1 v1 ws1) (hb : Below w.heap.size w w') : OfRes w' c a ws u c1 a1 v1 ws1 := by
  rcases h with h | ⟨h0, ⟨fb, h1⟩, h2, h3, h4, h5⟩
  · exact .inl h
  · exact .inr ⟨h0, ⟨fb, h1.keep hb⟩, h2, h3, h4.keep hb, h5⟩
theorem OfRes.strs (h : OfRes w c a ws u c1 a1 v1 ws1) : StrsAt w v1 ws1 := by
  rcases h with ⟨-, -, -, -, rfl, rfl⟩ | ⟨-, -, -, -, h4, rfl⟩
  · exact .inl ⟨none, 0, rfl, rfl⟩
  · exact h4
theorem OfRes.len (h : OfRes w c a ws u c1 a1 v1 ws1) (hl : ws.length ≤ 1000) : ws1.length ≤ 1000 := by
  rcases h with ⟨-, -, -, -, -, rfl⟩ | ⟨-, -, -, -, -, rfl⟩
  · simp
  · exact hl
theorem OfRes.same (h : OfRes w c a ws u c1 a1 v1 ws1) (h' : OfRes w c' a' ws' u' c1' a1' v1' ws1') : rsameB c1 a1 ws1 c1' a1' ws1' = rsameB c a ws c' a' ws' := by
  unfold rsameB
  rcases h with ⟨rfl, -, rfl, -⟩ | ⟨h0, -, rfl, rfl, -, rfl⟩ <;> rcases h' with ⟨rfl, -, rfl, -⟩ | ⟨h0', -, rfl, rfl, -, rfl⟩ <;> simp

theorem of_u (v : Value) (hv : StrsAt w v ws) (hlen : ws.length ≤ 1000) : Calls Tryd.prog 14 #[.int .i64 c, .int .i64 a, v] w fun e w' =>
    ∃ u c1 a1 x y z ws1, e = .returned (.tuple #[u, .agg #[.int .i64 c1, .int .i64 a1, .slice x y z]]) ∧ OfRes w' c a ws u c1 a1 (.slice x y z) ws1 ∧ Below w.heap.size w w' := by
  by_cases h : c = 0
  · subst h
    exact (of_nil a ws v w hv hlen).mono fun _ _ ⟨he, hb⟩ => ⟨.nilIface, 0, 0, none, 0, 0, [], he, .inl ⟨rfl, rfl, rfl, rfl, rfl, rfl⟩, hb⟩
  · have hp := hv.parts
    obtain ⟨x, o, z, rfl, -⟩ := hp
    exact (of_any c a h ws _ w hv hlen).mono fun _ _ ⟨u, fb, he, hch, hb⟩ => ⟨u, c, a, x, ws.length, z, ws, he, .inr ⟨h, ⟨fb, hch⟩, rfl, rfl, hv.keep hb, rfl⟩, hb⟩

theorem same_u (h : OfRes w c a ws u c1 a1 v1 ws1) (h' : OfRes w c' a' ws' u' c1' a1' v1' ws1') (hg : Handle w) (hl : ws.length ≤ 1000) (hl' : ws'.length ≤ 1000) :
    Calls Tryd.prog 24 #[u, u'] w fun e w' => e = .returned (.bool (rsameB c a ws c' a' ws')) ∧ Below w.heap.size w w' := by
  rcases h with ⟨rfl, rfl, -⟩ | ⟨h0, ⟨fb, hc⟩, -⟩ <;> rcases h' with ⟨rfl, rfl, -⟩ | ⟨h0', ⟨fb', hc'⟩, -⟩
  · exact (same_nils w).mono fun _ _ ⟨he, hb⟩ => ⟨by rw [he]; simp [rsameB], hb⟩
  · obtain ⟨T, V, rfl⟩ := hc'.iface
    exact (same_nil_left T V w).mono fun _ _ ⟨he, hb⟩ => ⟨by rw [he]; simp [rsameB, Ne.symm h0'], hb⟩
  · obtain ⟨T, V, rfl⟩ := hc.iface
    exact (same_nil_right T V w).mono fun _ _ ⟨he, hb⟩ => ⟨by rw [he]; simp [rsameB, h0], hb⟩
  · exact (same_faults fb c a ws u fb' c' a' ws' u' w hc hc' hg hl hl').mono fun _ _ ⟨he, hb⟩ => ⟨by rw [he]; simp [rsameB, h0, h0'], hb⟩

theorem rsame_u (h : OfRes w c a ws u c1 a1 v1 ws1) (h' : OfRes w c' a' ws' u' c1' a1' v1' ws1') (hl : ws.length ≤ 1000) :
    Calls Tryd.prog 27 #[.agg #[.int .i64 c1, .int .i64 a1, v1], .agg #[.int .i64 c1', .int .i64 a1', v1']] w fun e w' => e = .returned (.bool (rsameB c a ws c' a' ws')) ∧ Below w.heap.size w w' := by
  rw [← h.same h']
  exact rsame_any c1 a1 v1 c1' a1' v1' ws1 ws1' w h.strs h'.strs (h.len hl)
theorem rsameB_self : rsameB c a ws c a ws = true := by simp [rsameB, sameB]
end

/-- What holds in the last region of the law. -/
structure SInv (W : World) (c a : Int) (ws : List ByteArray) (u : Value) (c1 a1 : Int) (v1 : Value) (ws1 : List ByteArray) (q : Nat) (c' a' : Int) (ws' : List ByteArray) (u' : Value) (c1' a1' : Int) (v1' : Value) (ws1' : List ByteArray) (q' : Nat) (w : World) : Prop where
  below : Below W.heap.size W w
  handle : Handle w
  one : OfRes w c a ws u c1 a1 v1 ws1
  two : OfRes w c' a' ws' u' c1' a1' v1' ws1'
  hq : q < w.heap.size
  hq' : q' < w.heap.size
  k0 : w.cell? ⟨q, 0, none⟩ = some (.int .i64 c1)
  k1 : w.cell? ⟨q, 1, none⟩ = some (.int .i64 a1)
  k2 : w.cell? ⟨q, 2, none⟩ = some v1
  j0 : w.cell? ⟨q', 0, none⟩ = some (.int .i64 c1')
  j1 : w.cell? ⟨q', 1, none⟩ = some (.int .i64 a1')
  j2 : w.cell? ⟨q', 2, none⟩ = some v1'

section
variable {W w w' : World} {c a : Int} {ws : List ByteArray} {u : Value} {c1 a1 : Int} {v1 : Value} {ws1 : List ByteArray} {q : Nat} {c' a' : Int} {ws' : List ByteArray} {u' : Value} {c1' a1' : Int} {v1' : Value} {ws1' : List ByteArray} {q' : Nat}
theorem SInv.step (h : SInv W c a ws u c1 a1 v1 ws1 q c' a' ws' u' c1' a1' v1' ws1' q' w) (hb : Below w.heap.size w w') : SInv W c a ws u c1 a1 v1 ws1 q c' a' ws' u' c1' a1' v1' ws1' q' w' :=
  ⟨h.below.trans (hb.mono h.below.size), h.handle.below hb, h.one.keep hb, h.two.keep hb, Nat.lt_of_lt_of_le h.hq hb.size, Nat.lt_of_lt_of_le h.hq' hb.size,
    (hb.cell (p := ⟨q, 0, none⟩) h.hq).trans h.k0, (hb.cell (p := ⟨q, 1, none⟩) h.hq).trans h.k1, (hb.cell (p := ⟨q, 2, none⟩) h.hq).trans h.k2,
    (hb.cell (p := ⟨q', 0, none⟩) h.hq').trans h.j0, (hb.cell (p := ⟨q', 1, none⟩) h.hq').trans h.j1, (hb.cell (p := ⟨q', 2, none⟩) h.hq').trans h.j2⟩
theorem SInv.drew (h : SInv W c a ws u c1 a1 v1 ws1 q c' a' ws' u' c1' a1' v1' ws1' q' w) : SInv W c a ws u c1 a1 v1 ws1 q c' a' ws' u' c1' a1' v1' ws1' q' w.drew := h.step (below_drewN w 1)

theorem s_any {cx ax : Int} {wsx : List ByteArray} {ux : Value} {cx1 ax1 : Int} {vx1 : Value} {wsx1 : List ByteArray} {cy ay : Int} {wsy : List ByteArray} {uy : Value} {cy1 ay1 : Int} {vy1 : Value} {wsy1 : List ByteArray}
    (hx : OfRes w cx ax wsx ux cx1 ax1 vx1 wsx1) (hy : OfRes w cy ay wsy uy cy1 ay1 vy1 wsy1) (h : SInv W c a ws u c1 a1 v1 ws1 q c' a' ws' u' c1' a1' v1' ws1' q' w) (hl : wsx.length ≤ 1000) (hl' : wsy.length ≤ 1000) :
    Calls Tryd.prog 24 #[ux, uy] w fun e w' => e = .returned (.bool (rsameB cx ax wsx cy ay wsy)) ∧ SInv W c a ws u c1 a1 v1 ws1 q c' a' ws' u' c1' a1' v1' ws1' q' w' :=
  (same_u hx hy h.handle hl hl').mono fun _ _ ⟨he, hb⟩ => ⟨he, h.step hb⟩
theorem s_ref {cx ax : Int} {wsx : List ByteArray} {ux : Value} {cx1 ax1 : Int} {vx1 : Value} {wsx1 : List ByteArray} {cy ay : Int} {wsy : List ByteArray} {uy : Value} {cy1 ay1 : Int} {vy1 : Value} {wsy1 : List ByteArray}
    (hx : OfRes w cx ax wsx ux cx1 ax1 vx1 wsx1) (hy : OfRes w cy ay wsy uy cy1 ay1 vy1 wsy1) (h : SInv W c a ws u c1 a1 v1 ws1 q c' a' ws' u' c1' a1' v1' ws1' q' w) (hl : wsx.length ≤ 1000) :
    Calls Tryd.prog 27 #[.agg #[.int .i64 cx1, .int .i64 ax1, vx1], .agg #[.int .i64 cy1, .int .i64 ay1, vy1]] w fun e w' => e = .returned (.bool (rsameB cx ax wsx cy ay wsy)) ∧ SInv W c a ws u c1 a1 v1 ws1 q c' a' ws' u' c1' a1' v1' ws1' q' w' :=
  (rsame_u hx hy hl).mono fun _ _ ⟨he, hb⟩ => ⟨he, h.step hb⟩
end

set_option maxHeartbeats 1000000 in
theorem sameLaw_far (c d a p : Int) (n m : Nat) (b b' : Option Addr) (cp cp' : Nat) (w : World) (hg : Handle w) (h : 20 < n ∨ 20 < m) :
    Calls Tryd.prog 7 #[.int .i64 c, .int .i64 d, .int .i64 a, .int .i64 p, .slice b n cp, .slice b' m cp'] w fun e w' => e = .returned (.bool true) ∧ Below w.heap.size w w' := by
  by_cases hs : 20 < n
  · have hsb : (20 : Int) < n := by omega
    clear h
    go_enter Tryd.func7, Tryd.ntmps7
    go_wp2_with fail
    refine (awake1_any _ hg).mono ?_
    rintro e w1 ⟨rfl, b1⟩
    go_wp2_with fail
    go_ret
    exact ⟨rfl, b1⟩
  · have hsb : ¬ (20 : Int) < n := by omega
    have hsc : (20 : Int) < m := by omega
    clear h
    go_enter Tryd.func7, Tryd.ntmps7
    go_wp2_with fail
    refine (awake1_any _ hg).mono ?_
    rintro e w1 ⟨rfl, b1⟩
    go_wp2_with fail
    go_ret
    exact ⟨rfl, b1⟩

set_option maxRecDepth 100000 in
set_option maxHeartbeats 4000000 in
theorem sameLaw_near (c d a p : Int) (ws ws' : List ByteArray) (v v' : Value) (w : World) (hv : StrsAt w v ws) (hv' : StrsAt w v' ws') (hg : Handle w) (hl : ws.length ≤ 20) (hl' : ws'.length ≤ 20) :
    Calls Tryd.prog 7 #[.int .i64 c, .int .i64 d, .int .i64 a, .int .i64 p, v, v'] w fun e w' => e = .returned (.bool true) ∧ Below w.heap.size w w' := by
  have hp := hv.parts
  have hp' := hv'.parts
  obtain ⟨b, o, cp, rfl, -⟩ := hp
  obtain ⟨b', o', cp', rfl, -⟩ := hp'
  have hlb : ¬ (20 : Int) < ws.length := by omega
  have hlb' : ¬ (20 : Int) < ws'.length := by omega
  have h1000 : ws.length ≤ 1000 := by omega
  have h1000' : ws'.length ≤ 1000 := by omega
  clear hl hl'
  go_enter Tryd.func7, Tryd.ntmps7
  go_wp2_with fail
  refine (awake1_any _ hg).mono ?_
  rintro e w1 ⟨rfl, b1⟩
  go_wp2_with fail
  refine (of_u _ (hv.keep b1) h1000).mono ?_
  rintro e w2 ⟨u, c1, a1, x, y, z, ws1, rfl, r1, b2⟩
  have b02 := b1.trans (b2.mono b1.size)
  have b3 := below_alloc w2 (.cells #[.int .i64 c1, .int .i64 a1, (.slice x y z)] 28)
  have b03 := b02.trans (b3.mono b02.size)
  have x0 : (w2.alloc (.cells #[.int .i64 c1, .int .i64 a1, (.slice x y z)] 28)).cell? ⟨w2.heap.size, 0, none⟩ = some (.int .i64 c1) := by simp
  have x1 : (w2.alloc (.cells #[.int .i64 c1, .int .i64 a1, (.slice x y z)] 28)).cell? ⟨w2.heap.size, 1, none⟩ = some (.int .i64 a1) := by simp
  have x2 : (w2.alloc (.cells #[.int .i64 c1, .int .i64 a1, (.slice x y z)] 28)).cell? ⟨w2.heap.size, 2, none⟩ = some (.slice x y z) := by simp
  have xs : w2.heap.size < (w2.alloc (.cells #[.int .i64 c1, .int .i64 a1, (.slice x y z)] 28)).heap.size := by simp
  go_wp2_with fail
  generalize w2.alloc (.cells #[.int .i64 c1, .int .i64 a1, (.slice x y z)] 28) = w3 at b3 b03 x0 x1 x2 xs ⊢
  refine (of_u _ (hv'.keep b03) h1000').mono ?_
  rintro e w4 ⟨u', c1', a1', x', y', z', ws1', rfl, r2, b4⟩
  have b04 := b03.trans (b4.mono b03.size)
  have b5 := below_alloc w4 (.cells #[.int .i64 c1', .int .i64 a1', (.slice x' y' z')] 28)
  have b35 := b4.trans (b5.mono b4.size)
  have hI : SInv w c a ws u c1 a1 (.slice x y z) ws1 w2.heap.size d p ws' u' c1' a1' (.slice x' y' z') ws1' w4.heap.size (w4.alloc (.cells #[.int .i64 c1', .int .i64 a1', (.slice x' y' z')] 28)) :=
    ⟨b04.trans (b5.mono b04.size), (hg.below b04).below b5, (r1.keep b3).keep b35, r2.keep b5, Nat.lt_of_lt_of_le xs b35.size, by simp,
      (b35.cell (p := ⟨w2.heap.size, 0, none⟩) xs).trans x0, (b35.cell (p := ⟨w2.heap.size, 1, none⟩) xs).trans x1, (b35.cell (p := ⟨w2.heap.size, 2, none⟩) xs).trans x2, by simp, by simp, by simp⟩
  clear r1 r2 x0 x1 x2
  go_wp2_with fail
  generalize w4.alloc (.cells #[.int .i64 c1', .int .i64 a1', (.slice x' y' z')] 28) = w5 at hI ⊢
  generalize w2.heap.size = q at *
  generalize w4.heap.size = q' at *
  have k0 := hI.k0
  have k1 := hI.k1
  have k2 := hI.k2
  have j0 := hI.j0
  have j1 := hI.j1
  have j2 := hI.j2
  have hK := hI.drew
  have r1 := hK.one
  have r2 := hK.two
  have hself : rsameB c a ws c a ws = true := rsameB_self
  go_region_held3 (fun w' => w'.cell? ⟨q, 0, none⟩ = some (.int .i64 c1) ∧ w'.cell? ⟨q, 1, none⟩ = some (.int .i64 a1) ∧ w'.cell? ⟨q, 2, none⟩ = some (.slice x y z) ∧ w'.cell? ⟨q', 0, none⟩ = some (.int .i64 c1') ∧ w'.cell? ⟨q', 1, none⟩ = some (.int .i64 a1') ∧ w'.cell? ⟨q', 2, none⟩ = some (.slice x' y' z'))
    (first | go_keep | exact ⟨hJ.k0, hJ.k1, hJ.k2, hJ.j0, hJ.j1, hJ.j2⟩)
    (first
    | (go_at_call 24; refine (s_any (by assumption) (by assumption) (by assumption) (by assumption) (by assumption)).mono ?_; rintro e w' ⟨rfl, hJ⟩; have r1 := hJ.one; have r2 := hJ.two)
    | (go_at_call 27; refine (s_ref (by assumption) (by assumption) (by assumption) (by assumption)).mono ?_; rintro e w' ⟨rfl, hJ⟩; have r1 := hJ.one; have r2 := hJ.two))
  go_wp2
  go_ret
  exact ⟨rfl, hJ.below⟩

theorem sameLaw_any (c d a p : Int) (ws ws' : List ByteArray) (v v' : Value) (w : World) (hv : StrsAt w v ws) (hv' : StrsAt w v' ws') (hg : Handle w) :
    Calls Tryd.prog 7 #[.int .i64 c, .int .i64 d, .int .i64 a, .int .i64 p, v, v'] w fun e w' => e = .returned (.bool true) ∧ Below w.heap.size w w' := by
  by_cases h : 20 < ws.length ∨ 20 < ws'.length
  · obtain ⟨b, o, cp, rfl, -⟩ := hv.parts
    obtain ⟨b', o', cp', rfl, -⟩ := hv'.parts
    exact sameLaw_far c d a p _ _ b b' cp cp' w hg h
  · exact sameLaw_near c d a p ws ws' v v' w hv hv' hg (by omega) (by omega)
end Go.Proofs.YtcjmmiimkedeoaaDoor
