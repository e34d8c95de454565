/-
  BitsWalks holds, by contract.
-/
import Derived.Test.YtplfnhnipdfglaaDoorBitH
namespace Go.Proofs.YtplfnhnipdfglaaDoor
open Go.RowKit Go.Extern.Stop Go.Stop Go.Extern Go.Shelf
attribute [local go_sem] Oper.semAt_some

/-- The last of a row; -1 of none. -/
def lastN (l : List N128) : Int := (l.getLast?.map fun x => ((x.1 : Nat) : Int)).getD (-1)
theorem lastN_snoc (l : List N128) (x : N128) : lastN (l ++ [x]) = ((x.1 : Nat) : Int) := by unfold lastN; simp
theorem setL_sorted (a b : Nat) : (setL a b).Pairwise (· < ·) := by
  rw [setL_eq]
  exact List.Pairwise.filter _ List.pairwise_lt_range
theorem listN_next {a b : Nat} {pre : List N128} {x : N128} (h : pre ++ [x] <+: listN a b) : lastN pre < ((x.1 : Nat) : Int) ∧ hasI a b ((x.1 : Nat) : Int) = true := by
  obtain ⟨r, hr⟩ := h
  have hs := setL_sorted a b
  rw [← listN_val, ← hr] at hs
  constructor
  · rcases List.eq_nil_or_concat pre with h | ⟨p, y, h⟩
    · subst h; unfold lastN; simp; omega
    · rw [List.concat_eq_append] at h
      subst h
      rw [lastN_snoc]
      simp only [List.map_append, List.map_cons, List.map_nil, List.append_assoc] at hs
      have h2 := (List.pairwise_append.1 hs).2.1
      simp at h2
      have := h2.1.1
      omega
  · have hm : x.1 ∈ setL a b := by
      rw [← listN_val, ← hr]
      simp
    rw [setL_mem] at hm
    unfold hasI
    simp [hm]
/-- What the loop's own cells hold. -/
def BI (V B k a b : Nat) (m : Nat) (l : Int) (W : World) : Prop :=
  (W.cell? ⟨V, 0, none⟩ = some (.int .i64 (m : Int)) ∧ W.frozen? ⟨V, 0, none⟩ = false) ∧ (W.cell? ⟨V + 1, 0, none⟩ = some (.int .i64 l) ∧ W.frozen? ⟨V + 1, 0, none⟩ = false) ∧
    W.cell? ⟨B, 0, none⟩ = some (.int .u64 (a : Int)) ∧ W.cell? ⟨B, 1, none⟩ = some (.int .u64 (b : Int)) ∧ W.cell? ⟨B + 1, 0, none⟩ = some (.int .u8 (k : Int)) ∧ (W.cell? ⟨B + 1 + 1, 0, none⟩ = some (.bool false) ∧ W.frozen? ⟨B + 1 + 1, 0, none⟩ = false)
theorem BI.kept {V B k a b m : Nat} {l : Int} {W W' : World} {row : Option Nat} (h : BI V B k a b m l W) (hg : W.grownBy W' row) (hr : ∀ r, row = some r → ∃ o : Obj, W.heap[r]? = some o ∧ o.isCells = false) : BI V B k a b m l W' := by
  obtain ⟨⟨c0, f0⟩, ⟨c1, f1⟩, c2, c3, c4, c5, f5⟩ := h
  exact ⟨⟨cell_kept c0 hg hr, (frozen_kept c0 hg hr).trans f0⟩, ⟨cell_kept c1 hg hr, (frozen_kept c1 hg hr).trans f1⟩, cell_kept c2 hg hr, cell_kept c3 hg hr, cell_kept c4 hg hr, cell_kept c5 hg hr, (frozen_kept c5 hg hr).trans f5⟩
theorem lt_of_cell {W : World} {b o : Nat} {v : Value} (h : W.cell? ⟨b, o, none⟩ = some v) : b < W.heap.size := World.block_lt_of_cell? W _ h
theorem BI.step {V B k a b m : Nat} {l : Int} {W W' : World} (h : BI V B k a b m l W) (hb : Below W.heap.size W W') : BI V B k a b m l W' :=
  h.kept (row := none) ⟨hb.os, hb.tape, hb.output, hb.size, fun k hk _ => hb.block k hk⟩ (fun _ e => by cases e)
theorem keeps_below {W W' : World} (hb : Below W.heap.size W W') : KeepsOthers W W' := ⟨hb.size, fun k _ h _ => (hb.block k (Array.getElem?_eq_some_iff.1 h).1).trans h⟩
theorem far_cell {W : World} {q i r j : Nat} {v u : Value} (h : W.cell? ⟨q, i, none⟩ = some v) (hq : q ≠ r) : (W.setCell ⟨r, j, none⟩ u).cell? ⟨q, i, none⟩ = some v :=
  (World.cell?_of_block (w := W) (a := ⟨q, i, none⟩) (heap_setCell_other _ _ _ _ hq)).trans h
theorem BI.next {V B k a b m : Nat} {l : Int} {W : World} (h : BI V B k a b m l W) (hV : B + 1 + 1 < V) (x : Int) :
    BI V B k a b (m + 1) x ((W.setCell ⟨V + 1, 0, none⟩ (.int .i64 x)).setCell ⟨V, 0, none⟩ (.int .i64 ((m : Int) + 1))) := by
  obtain ⟨⟨c0, f0⟩, ⟨c1, f1⟩, c2, c3, c4, c5, f5⟩ := h
  have far : ∀ {q i j : Nat} {v u : Value} {W : World}, W.cell? ⟨q, i, none⟩ = some v → ∀ r, q ≠ r → (W.setCell ⟨r, j, none⟩ u).cell? ⟨q, i, none⟩ = some v := fun {q i j v u W} h r hq =>
    (World.cell?_of_block (w := W) (a := ⟨q, i, none⟩) (heap_setCell_other _ _ _ _ hq)).trans h
  refine ⟨⟨?_, ?_⟩, ⟨?_, ?_⟩, far (far c2 _ (by omega)) _ (by omega), far (far c3 _ (by omega)) _ (by omega), far (far c4 _ (by omega)) _ (by omega), far (far c5 _ (by omega)) _ (by omega), ?_⟩
  · exact (World.cell?_setCell_same' _ _ _ (by rw [far c0 _ (by omega)]; rfl)).trans (by simp)
  · rw [World.frozen?_setCell, World.frozen?_setCell]; exact f0
  · exact far (World.cell?_setCell_same' _ _ _ (by rw [c1]; rfl)) _ (by omega)
  · rw [World.frozen?_setCell, World.frozen?_setCell]; exact f1
  · rw [World.frozen?_setCell, World.frozen?_setCell]; exact f5

set_option maxRecDepth 100000 in
set_option maxHeartbeats 4000000 in
theorem bitsWalks_any (a b : Nat) (ha : U64 a) (hb : U64 b) (k : Nat) (hk : k ≤ 255) (w : World) (ht : TabB w) :
    Calls Tryd.prog 6 #[setV a b, .int .u8 (k : Int)] w fun e w' => e = .returned (.bool true) ∧ Below w.heap.size w w' := by
  refine (callsIn_wide (n := 3)).1 ?_
  have h1 : 1 ≤ 3 := by omega
  obtain ⟨W0, hW0⟩ : ∃ W0, W0 = ((w.alloc (.cells #[.int .u64 (a : Int), .int .u64 (b : Int)] 26)).alloc (.cells #[.int .u8 (k : Int)] 5)).alloc (.cells #[.bool false] 4) := ⟨_, rfl⟩
  have hB0 : Below w.heap.size w W0 := by rw [hW0]; exact (((Below.refl _ w).alloc (Nat.le_refl _) _).alloc (by simp) _).alloc (by simp; omega) _
  have hA := awake7_any W0 (ht.below ht.lt hB0)
  rw [hW0] at hA
  have HA := Lib.hid hA
  have HW0 := Lib.hid hW0
  have HB0 := Lib.hid hB0
  have HT := Lib.hid ht
  clear hA hW0 hB0 ht
  refine callsIn_of_wp_marks Tryd.func6 rfl trivial ?_ rfl
  simp only [Tryd.ntmps6, List.size_toArray, List.length_cons, List.length_nil, Nat.reduceAdd, Nat.reduceSub, Array.replicate_succ, Array.replicate_zero, List.push_toArray, List.append_toArray, List.nil_append, List.cons_append]
  gi_wp2
  refine ⟨trivial, ?_⟩
  refine (callsIn_wide.2 HA.out).mono ?_
  rintro e w1 ⟨rfl, b1⟩
  have hw1 : ∀ k, k < W0.heap.size → w1.heap[k]? = W0.heap[k]? := by rw [HW0.out]; exact b1.block
  have hz1 : W0.heap.size ≤ w1.heap.size := by rw [HW0.out]; exact b1.size
  have hS1 : SetAt w1 w.heap.size a b := (hw1 _ (by rw [HW0.out]; simp; omega)).trans (by
    rw [HW0.out]; exact ((heap_alloc_old _ _ (by simp; omega)).trans (heap_alloc_old _ _ (by simp))).trans (heap_alloc_new w _))
  have hK1 : w1.heap[w.heap.size + 1]? = some (.cells #[.int .u8 (k : Int)] 5 (0, 0)) := (hw1 _ (by rw [HW0.out]; simp)).trans (by
    rw [HW0.out]
    have := heap_alloc_new (w.alloc (.cells #[.int .u64 (a : Int), .int .u64 (b : Int)] 26)) (.cells #[.int .u8 (k : Int)] 5)
    rw [World.size_alloc] at this
    exact (heap_alloc_old _ _ (by simp)).trans this)
  have hR1 : w1.heap[w.heap.size + 1 + 1]? = some (.cells #[.bool false] 4 (0, 0)) := (hw1 _ (by rw [HW0.out]; simp)).trans (by
    rw [HW0.out]
    have := heap_alloc_new ((w.alloc (.cells #[.int .u64 (a : Int), .int .u64 (b : Int)] 26)).alloc (.cells #[.int .u8 (k : Int)] 5)) (.cells #[.bool false] 4)
    rwa [World.size_alloc, World.size_alloc] at this)
  have hB1 : Below w.heap.size w w1 := HB0.out.trans ⟨by rw [HW0.out]; exact b1.os, by rw [HW0.out]; exact b1.tape, by rw [HW0.out]; exact b1.output, hz1, fun k' hk' => hw1 k' (Nat.lt_of_lt_of_le hk' HB0.out.size)⟩
  have hsz : w.heap.size + 1 + 1 < w1.heap.size := (Array.getElem?_eq_some_iff.1 hR1).1
  have HS1 := Lib.hid hS1
  have HK1 := Lib.hid hK1
  have HR1 := Lib.hid hR1
  have HB1 := Lib.hid hB1
  have hS2 : SetAt ((w1.alloc (.cells #[.int .i64 0] 3)).alloc (.cells #[.int .i64 (-1)] 3)) w.heap.size a b := (hS1.step (below_new _ _)).step (below_new _ _)
  obtain ⟨k0, k1, -⟩ := hS2.cells
  clear hS2 hw1 hz1 hS1 hK1 hR1 hB1 b1 HA
  gi_wp2_with (refine ⟨trivial, ?_⟩; gi_at_call 26; refine (callsIn_wide.2 (all_any a b _)).mono ?_; rintro e w' ⟨rfl, rfl⟩)
  obtain ⟨W2, hW2⟩ : ∃ W2, W2 = ((w1.alloc (.cells #[.int .i64 0] 3)).alloc (.cells #[.int .i64 (-1)] 3)).alloc (.cells #[.int .u64 (a : Int), .int .u64 (b : Int)] 26) := ⟨_, rfl⟩
  have hBW : Below w1.heap.size w1 W2 := by rw [hW2]; exact (((Below.refl _ w1).alloc (Nat.le_refl _) _).alloc (by simp) _).alloc (by simp; omega) _
  have hB2 : Below w.heap.size w W2 := HB1.out.trans (hBW.mono HB1.out.size)
  have hsW : W2.heap.size = w1.heap.size + 1 + 1 + 1 := by rw [hW2]; simp
  have hSet2 : SetAt W2 (w1.heap.size + 1 + 1) a b := by
    rw [hW2]
    have := heap_alloc_new ((w1.alloc (.cells #[.int .i64 0] 3)).alloc (.cells #[.int .i64 (-1)] 3)) (.cells #[.int .u64 (a : Int), .int .u64 (b : Int)] 26)
    rwa [World.size_alloc, World.size_alloc] at this
  have hN : W2.heap[w1.heap.size]? = some (.cells #[.int .i64 0] 3 (0, 0)) := by
    rw [hW2]; exact ((heap_alloc_old _ _ (by simp; omega)).trans (heap_alloc_old _ _ (by simp))).trans (heap_alloc_new w1 _)
  have hL : W2.heap[w1.heap.size + 1]? = some (.cells #[.int .i64 (-1)] 3 (0, 0)) := by
    rw [hW2]
    have := heap_alloc_new (w1.alloc (.cells #[.int .i64 0] 3)) (.cells #[.int .i64 (-1)] 3)
    rw [World.size_alloc] at this
    exact (heap_alloc_old _ _ (by simp)).trans this
  have fz : ∀ {q : Nat} {cs : Array Value} {T : TypeId}, W2.heap[q]? = some (.cells cs T (0, 0)) → W2.frozen? ⟨q, 0, none⟩ = false := fun h => by unfold World.frozen?; rw [h]; simp
  have hR2 := (hBW.block _ hsz).trans HR1.out
  have hI0 : BI w1.heap.size w.heap.size k a b 0 (-1) W2 := by
    refine ⟨⟨by rw [Lib.cell_of_heap hN]; rfl, fz hN⟩, ⟨by rw [Lib.cell_of_heap hL]; rfl, fz hL⟩, ?_, ?_, ?_, ?_, fz hR2⟩
    · exact (HS1.out.step hBW).cells.1
    · exact (HS1.out.step hBW).cells.2.1
    · rw [Lib.cell_of_heap ((hBW.block _ (by omega)).trans HK1.out)]; rfl
    · rw [Lib.cell_of_heap hR2]; rfl
  have hT2 := HT.out.below HT.out.lt hB2
  have hlt := HT.out.lt
  clear fz hR2 hN hL k0 k1
  rw [← hW2]
  generalize hV : w1.heap.size = V at *
  clear hW2 HB1 HS1 HK1 HR1 hBW
  refine wpIn_rangeFunc_ownF rfl h1 (gf := 31) (lb := #[.pointer (some ⟨V + 1 + 1, 0, none⟩)]) rfl trivial (enters_of Tryd.func31 (by kernel_rfl) rfl)
    (all1_stops 2 (by omega) (V + 1 + 1) w.heap.size a b ha hb _ hSet2 hT2 hlt) belowK_t (belowK_b (by omega)) (Below.refl _ _) (fun _ => rfl)
    (fun pre W => (pre.length ≤ k ∧ BI V w.heap.size k a b pre.length (lastN pre) W) ∧ Below w.heap.size w W)
    (fun c pre W => ((c = .ret ∧ ¬ pre <+: listN a b) ∨ (c = .exit 0 ∧ pre.length = k + 1 ∧ BI V w.heap.size k a b pre.length (lastN pre) W)) ∧ Below w.heap.size w W)
    (OwnFrom.and (Own.from (fun s A B row hs hg hr => ⟨hs.1, hs.2.kept hg hr⟩) _) (ownFrom_below (Nat.le_refl _) (by omega)))
    (fun c => OwnFrom.and (Own.from (fun s A B row hs hg hr => by
      rcases hs with hs | ⟨h1, h2, h3⟩
      · exact .inl hs
      · exact .inr ⟨h1, h2, h3.kept hg hr⟩) _) (ownFrom_below (Nat.le_refl _) (by omega)))
    ⟨⟨Nat.zero_le _, hI0⟩, hB2⟩
    (fun x => { tmps := #[setV a b, .int .u8 (k : Int), .pointer (some ⟨w.heap.size, 0, none⟩), .pointer (some ⟨w.heap.size + 1, 0, none⟩), .pointer (some ⟨w.heap.size + 1 + 1, 0, none⟩), .pointer (some ⟨V, 0, none⟩), .pointer (some ⟨V + 1, 0, none⟩), .int .i64 ((x.1 : Nat) : Int), .bool true, .bool false, .agg #[.int .u64 (a : Int), .int .u64 (b : Int)], .func (.func 31) #[] #[.pointer (some ⟨V + 1 + 1, 0, none⟩)], .int .i64 ((x.1 : Nat) : Int), undef, undef, undef, undef, undef, undef, undef, undef, undef, undef, undef, undef, undef, undef, undef, undef, undef, undef, undef, undef, undef, undef, undef, undef, undef, undef, undef, undef], defers := [] }) ?assign ?body ?done ?stop
  case assign =>
    intro l x W K hK
    gi_wp2
    exact hK
  case body =>
    rintro l pre x W ⟨⟨hpk, hI⟩, hB⟩ _
    have hx2 := x.2
    have HI := Lib.hid hI
    have HBB := Lib.hid hB
    obtain ⟨⟨c0, f0⟩, ⟨c1, f1⟩, c2, c3, c4, c5, f5⟩ := hI
    have HNX := Lib.hid (fun h : pre ++ [x] <+: listN a b => listN_next h)
    have hln := lastN_snoc pre x
    have HLN := Lib.hid hln
    clear hB hln
    by_cases hle : ((x.1 : Nat) : Int) ≤ lastN pre
    · generalize lastN pre = l0 at *
      gi_wp2
      refine ⟨trivial, ?_⟩
      gi_wp2
      exact ⟨KeepsOthers.setCell _ _ _, .inl ⟨rfl, fun h => by have := (HNX.out h).1; omega⟩, HBB.out.setCell (p := ⟨w.heap.size + 1 + 1, 0, none⟩) (by show _ ≤ w.heap.size + 1 + 1; omega) _⟩
    · have HH := Lib.hid (has_any a b ((x.1 : Nat) : Int) ha hb W)
      have hd1 : decide (((x.1 : Nat) : Int) ≤ lastN pre) = false := decide_eq_false hle
      have hd2 : ((x.1 : Nat) : Int) ≤ 127 := by omega
      cases hh : hasI a b ((x.1 : Nat) : Int) with
      | false =>
        rw [hh] at HH HNX
        generalize lastN pre = l0 at *
        gi_wp2_with (refine ⟨trivial, ?_⟩; gi_at_call 13; refine (CallsIn.inRound l (callsIn_wide.2 HH.out)).mono ?_; rintro e w3 ⟨rfl, b3⟩; have f5' := (b3.frozen (p := ⟨w.heap.size + 1 + 1, 0, none⟩) (lt_of_cell c5)).trans f5; have c5' := (b3.cell (p := ⟨w.heap.size + 1 + 1, 0, none⟩) (lt_of_cell c5)).trans c5)
        exact ⟨(keeps_below b3).trans (KeepsOthers.setCell _ _ _), .inl ⟨rfl, fun h => by have := (HNX.out h).2; cases this⟩, (HBB.out.trans (b3.mono HBB.out.size)).setCell (p := ⟨w.heap.size + 1 + 1, 0, none⟩) (by show _ ≤ w.heap.size + 1 + 1; omega) _⟩
      | true =>
        rw [hh] at HH HNX
        have hV2 : w.heap.size + 1 + 1 < V := hsz
        have HNext := Lib.hid (fun w3 (b3 : Below W.heap.size W w3) => (HI.out.step b3).next hV2 ((x.1 : Nat) : Int))
        have HLE : Hid ((pre ++ [x]).length = pre.length + 1) := Lib.hid (by simp)
        generalize lastN pre = l0 at *
        generalize pre.length = m at *
        by_cases hmk : m + 1 ≤ k
        · gi_wp2_with (refine ⟨trivial, ?_⟩; gi_at_call 13; refine (CallsIn.inRound l (callsIn_wide.2 HH.out)).mono ?_; rintro e w3 ⟨rfl, b3⟩; have n0 := (b3.cell (p := ⟨V, 0, none⟩) (lt_of_cell c0)).trans c0; have g0 := (b3.frozen (p := ⟨V, 0, none⟩) (lt_of_cell c0)).trans f0; have n1 := (b3.cell (p := ⟨V + 1, 0, none⟩) (lt_of_cell c1)).trans c1; have g1 := (b3.frozen (p := ⟨V + 1, 0, none⟩) (lt_of_cell c1)).trans f1; have n4 := (b3.cell (p := ⟨w.heap.size + 1, 0, none⟩) (lt_of_cell c4)).trans c4)
          exact ⟨((keeps_below b3).trans (KeepsOthers.setCell _ _ _)).trans (KeepsOthers.setCell _ _ _), ((b3.mono HBB.out.size).setCell (p := ⟨V + 1, 0, none⟩) (by show _ ≤ V + 1; omega) _).setCell (p := ⟨V, 0, none⟩) (by show _ ≤ V; omega) _, ⟨by rw [HLE.out]; exact hmk, by rw [HLE.out, HLN.out]; exact HNext.out _ b3⟩, ((HBB.out.trans (b3.mono HBB.out.size)).setCell (p := ⟨V + 1, 0, none⟩) (by show _ ≤ V + 1; omega) _).setCell (p := ⟨V, 0, none⟩) (by show _ ≤ V; omega) _⟩
        · have hmk' : (k : Int) < (m : Int) + 1 := by omega
          gi_wp2_with (refine ⟨trivial, ?_⟩; gi_at_call 13; refine (CallsIn.inRound l (callsIn_wide.2 HH.out)).mono ?_; rintro e w3 ⟨rfl, b3⟩; have n0 := (b3.cell (p := ⟨V, 0, none⟩) (lt_of_cell c0)).trans c0; have g0 := (b3.frozen (p := ⟨V, 0, none⟩) (lt_of_cell c0)).trans f0; have n1 := (b3.cell (p := ⟨V + 1, 0, none⟩) (lt_of_cell c1)).trans c1; have g1 := (b3.frozen (p := ⟨V + 1, 0, none⟩) (lt_of_cell c1)).trans f1; have n4 := (b3.cell (p := ⟨w.heap.size + 1, 0, none⟩) (lt_of_cell c4)).trans c4)
          exact ⟨((keeps_below b3).trans (KeepsOthers.setCell _ _ _)).trans (KeepsOthers.setCell _ _ _), .inr ⟨rfl, by rw [HLE.out]; omega, by rw [HLE.out, HLN.out]; exact HNext.out _ b3⟩, ((HBB.out.trans (b3.mono HBB.out.size)).setCell (p := ⟨V + 1, 0, none⟩) (by show _ ≤ V + 1; omega) _).setCell (p := ⟨V, 0, none⟩) (by show _ ≤ V; omega) _⟩
  case done =>
    rintro D xs W hD hxs ⟨⟨hpk, hI⟩, hB⟩ hK
    have HL := Lib.hid (fun W' => len_any a b ha hb W')
    have hlen : (setL a b).length = xs.length := by rw [hxs, ← listN_val, List.length_map]
    rw [hlen] at HL
    clear hlen hxs
    generalize lastN xs = l0 at *
    generalize xs.length = m at *
    have hmk : ¬ (k : Int) + 1 < (m : Int) := by omega
    have hw1 : IntKind.i64.wrap (k : Int) = (k : Int) := IntWalk.i64_in _ (by omega)
    have hw2 : IntKind.i64.wrap ((k : Int) + 1) = (k : Int) + 1 := IntWalk.i64_in _ (by omega)
    have HI := Lib.hid hI
    have HBB := Lib.hid hB
    have HKK := Lib.hid hK
    clear hI hB hK
    gi_wp2
    refine wpIn_wide.2 ?_
    have hJ : BI V w.heap.size k a b m l0 W.drew := HI.out.step (Below.refl _ _).drew
    have hBJ : Below w.heap.size w W.drew := HBB.out.drew
    have hKJ : W.drew.heap[D]? = some (.deferred (some [])) := HKK.out
    have k0 := hJ.1.1
    have k1 := hJ.2.2.1
    have k2 := hJ.2.2.2.1
    have k3 := hJ.2.2.2.2.1
    have k4 := hJ.2.2.2.2.2.1
    have k5 := hJ.2.2.2.2.2.2
    go_region_held3 (fun w' => w'.cell? ⟨V, 0, none⟩ = some (.int .i64 (m : Int)) ∧ w'.cell? ⟨w.heap.size, 0, none⟩ = some (.int .u64 (a : Int)) ∧ w'.cell? ⟨w.heap.size, 1, none⟩ = some (.int .u64 (b : Int)) ∧ w'.cell? ⟨w.heap.size + 1, 0, none⟩ = some (.int .u8 (k : Int)))
      (first | exact ⟨k0, k1, k2, k3⟩ | exact ⟨hJ.1.1, hJ.2.2.1, hJ.2.2.2.1, hJ.2.2.2.2.1⟩ | exact ⟨far_cell r0 (by omega), far_cell r1 (by omega), far_cell r2 (by omega), far_cell r3 (by omega)⟩)
      ((go_at_call 27; refine (HL.out _).mono ?_; rintro e w4 ⟨rfl, b4⟩; replace hKJ := (b4.block _ (Array.getElem?_eq_some_iff.1 hKJ).1).trans hKJ; replace hJ := hJ.step b4; replace hBJ := hBJ.trans (b4.mono hBJ.size); have r0 := hJ.1.1; have r1 := hJ.2.2.1; have r2 := hJ.2.2.2.1; have r3 := hJ.2.2.2.2.1; have r4 := hJ.2.2.2.2.2.1; have r5 := hJ.2.2.2.2.2.2))
    have HR := Lib.hid r4
    have HKF : Hid ((w4.setCell ⟨w.heap.size + 1 + 1, 0, none⟩ (.bool true)).heap[D]? = some (.deferred (some []))) := Lib.hid ((KeepsOthers.setCell w4 ⟨w.heap.size + 1 + 1, 0, none⟩ (.bool true)).same D _ hKJ rfl)
    have HBF : Hid (Below w.heap.size w (w4.setCell ⟨w.heap.size + 1 + 1, 0, none⟩ (.bool true))) := Lib.hid (hBJ.setCell (p := ⟨w.heap.size + 1 + 1, 0, none⟩) (by show _ ≤ w.heap.size + 1 + 1; omega) _)
    clear hKJ hJ hBJ
    gi_wp2
    refine ⟨by simp, .inl ⟨_, _, rfl, run_takeDeferred HKF.out, ?_⟩⟩
    have hc5 := cell_kept (World.cell?_setCell_same' w4 ⟨w.heap.size + 1 + 1, 0, none⟩ (.bool true) (by rw [HR.out]; rfl)) (grownBy_putObj' _ D (.deferred none)) (fun r e => by cases e; exact ⟨_, HKF.out, rfl⟩)
    refine ⟨.bool true, ?_, rfl, HBF.out.trans (belowK_b (w := w) (Nat.le_refl _) _ D _ _ (by omega) HKF.out rfl rfl)⟩
    simp [results, Tryd.f6, go_sem, hc5]
  case stop =>
    rintro D c pre W hD hpre ⟨hx, hB⟩ hK
    rcases hx with ⟨-, hbad⟩ | ⟨rfl, hlen, hI⟩
    · exact absurd hpre hbad
    · have HL := Lib.hid (fun W' => len_any a b ha hb W')
      have hll : k + 1 ≤ (setL a b).length := by
        have h1 := hpre.length_le
        have h2 := congrArg List.length (listN_val a b)
        rw [List.length_map] at h2
        omega
      rw [hlen] at hI
      obtain ⟨m, hm⟩ : ∃ m : Nat, m = k + 1 := ⟨_, rfl⟩
      have hmi : (k : Int) + 1 = m := by omega
      generalize (setL a b).length = len at *
      rw [← hm] at hI
      generalize lastN pre = l0 at *
      clear hlen hpre
      by_cases hml : m < len
      · skip
        have hw1 : IntKind.i64.wrap (k : Int) = (k : Int) := IntWalk.i64_in _ (by omega)
        have hw2 : IntKind.i64.wrap ((k : Int) + 1) = (m : Int) := hmi ▸ IntWalk.i64_in _ (by omega)
        clear hm hmi
        have HI := Lib.hid hI
        have HBB := Lib.hid hB
        have HKK := Lib.hid hK
        clear hI hB hK
        gi_wp2
        refine wpIn_wide.2 ?_
        have hJ : BI V w.heap.size k a b m l0 W.drew := HI.out.step (Below.refl _ _).drew
        have hBJ : Below w.heap.size w W.drew := HBB.out.drew
        have hKJ : W.drew.heap[D]? = some (.deferred (some [])) := HKK.out
        have k0 := hJ.1.1
        have k1 := hJ.2.2.1
        have k2 := hJ.2.2.2.1
        have k3 := hJ.2.2.2.2.1
        have k4 := hJ.2.2.2.2.2.1
        have k5 := hJ.2.2.2.2.2.2
        go_region_held3 (fun w' => w'.cell? ⟨V, 0, none⟩ = some (.int .i64 (m : Int)) ∧ w'.cell? ⟨w.heap.size, 0, none⟩ = some (.int .u64 (a : Int)) ∧ w'.cell? ⟨w.heap.size, 1, none⟩ = some (.int .u64 (b : Int)) ∧ w'.cell? ⟨w.heap.size + 1, 0, none⟩ = some (.int .u8 (k : Int)))
          (first | exact ⟨k0, k1, k2, k3⟩ | exact ⟨hJ.1.1, hJ.2.2.1, hJ.2.2.2.1, hJ.2.2.2.2.1⟩ | exact ⟨far_cell r0 (by omega), far_cell r1 (by omega), far_cell r2 (by omega), far_cell r3 (by omega)⟩)
          ((go_at_call 27; refine (HL.out _).mono ?_; rintro e w4 ⟨rfl, b4⟩; replace hKJ := (b4.block _ (Array.getElem?_eq_some_iff.1 hKJ).1).trans hKJ; replace hJ := hJ.step b4; replace hBJ := hBJ.trans (b4.mono hBJ.size); have r0 := hJ.1.1; have r1 := hJ.2.2.1; have r2 := hJ.2.2.2.1; have r3 := hJ.2.2.2.2.1; have r4 := hJ.2.2.2.2.2.1; have r5 := hJ.2.2.2.2.2.2))
        have HR := Lib.hid r4
        have HKF : Hid ((w4.setCell ⟨w.heap.size + 1 + 1, 0, none⟩ (.bool true)).heap[D]? = some (.deferred (some []))) := Lib.hid ((KeepsOthers.setCell w4 ⟨w.heap.size + 1 + 1, 0, none⟩ (.bool true)).same D _ hKJ rfl)
        have HBF : Hid (Below w.heap.size w (w4.setCell ⟨w.heap.size + 1 + 1, 0, none⟩ (.bool true))) := Lib.hid (hBJ.setCell (p := ⟨w.heap.size + 1 + 1, 0, none⟩) (by show _ ≤ w.heap.size + 1 + 1; omega) _)
        clear hKJ hJ hBJ
        gi_wp2
        refine ⟨by simp, .inl ⟨_, _, rfl, run_takeDeferred HKF.out, ?_⟩⟩
        have hc5 := cell_kept (World.cell?_setCell_same' w4 ⟨w.heap.size + 1 + 1, 0, none⟩ (.bool true) (by rw [HR.out]; rfl)) (grownBy_putObj' _ D (.deferred none)) (fun r e => by cases e; exact ⟨_, HKF.out, rfl⟩)
        refine ⟨.bool true, ?_, rfl, HBF.out.trans (belowK_b (w := w) (Nat.le_refl _) _ D _ _ (by omega) HKF.out rfl rfl)⟩
        simp [results, Tryd.f6, go_sem, hc5]
      · obtain rfl : m = len := by omega
        clear hml hll
        have hw1 : IntKind.i64.wrap (k : Int) = (k : Int) := IntWalk.i64_in _ (by omega)
        have hw2 : IntKind.i64.wrap ((k : Int) + 1) = (m : Int) := hmi ▸ IntWalk.i64_in _ (by omega)
        clear hm hmi
        have HI := Lib.hid hI
        have HBB := Lib.hid hB
        have HKK := Lib.hid hK
        clear hI hB hK
        gi_wp2
        refine wpIn_wide.2 ?_
        have hJ : BI V w.heap.size k a b m l0 W.drew := HI.out.step (Below.refl _ _).drew
        have hBJ : Below w.heap.size w W.drew := HBB.out.drew
        have hKJ : W.drew.heap[D]? = some (.deferred (some [])) := HKK.out
        have k0 := hJ.1.1
        have k1 := hJ.2.2.1
        have k2 := hJ.2.2.2.1
        have k3 := hJ.2.2.2.2.1
        have k4 := hJ.2.2.2.2.2.1
        have k5 := hJ.2.2.2.2.2.2
        go_region_held3 (fun w' => w'.cell? ⟨V, 0, none⟩ = some (.int .i64 (m : Int)) ∧ w'.cell? ⟨w.heap.size, 0, none⟩ = some (.int .u64 (a : Int)) ∧ w'.cell? ⟨w.heap.size, 1, none⟩ = some (.int .u64 (b : Int)) ∧ w'.cell? ⟨w.heap.size + 1, 0, none⟩ = some (.int .u8 (k : Int)))
          (first | exact ⟨k0, k1, k2, k3⟩ | exact ⟨hJ.1.1, hJ.2.2.1, hJ.2.2.2.1, hJ.2.2.2.2.1⟩ | exact ⟨far_cell r0 (by omega), far_cell r1 (by omega), far_cell r2 (by omega), far_cell r3 (by omega)⟩)
          ((go_at_call 27; refine (HL.out _).mono ?_; rintro e w4 ⟨rfl, b4⟩; replace hKJ := (b4.block _ (Array.getElem?_eq_some_iff.1 hKJ).1).trans hKJ; replace hJ := hJ.step b4; replace hBJ := hBJ.trans (b4.mono hBJ.size); have r0 := hJ.1.1; have r1 := hJ.2.2.1; have r2 := hJ.2.2.2.1; have r3 := hJ.2.2.2.2.1; have r4 := hJ.2.2.2.2.2.1; have r5 := hJ.2.2.2.2.2.2))
        have HR := Lib.hid r4
        have HKF : Hid ((w4.setCell ⟨w.heap.size + 1 + 1, 0, none⟩ (.bool true)).heap[D]? = some (.deferred (some []))) := Lib.hid ((KeepsOthers.setCell w4 ⟨w.heap.size + 1 + 1, 0, none⟩ (.bool true)).same D _ hKJ rfl)
        have HBF : Hid (Below w.heap.size w (w4.setCell ⟨w.heap.size + 1 + 1, 0, none⟩ (.bool true))) := Lib.hid (hBJ.setCell (p := ⟨w.heap.size + 1 + 1, 0, none⟩) (by show _ ≤ w.heap.size + 1 + 1; omega) _)
        clear hKJ hJ hBJ
        gi_wp2
        refine ⟨by simp, .inl ⟨_, _, rfl, run_takeDeferred HKF.out, ?_⟩⟩
        have hc5 := cell_kept (World.cell?_setCell_same' w4 ⟨w.heap.size + 1 + 1, 0, none⟩ (.bool true) (by rw [HR.out]; rfl)) (grownBy_putObj' _ D (.deferred none)) (fun r e => by cases e; exact ⟨_, HKF.out, rfl⟩)
        refine ⟨.bool true, ?_, rfl, HBF.out.trans (belowK_b (w := w) (Nat.le_refl _) _ D _ _ (by omega) HKF.out rfl rfl)⟩
        simp [results, Tryd.f6, go_sem, hc5]
end Go.Proofs.YtplfnhnipdfglaaDoor
