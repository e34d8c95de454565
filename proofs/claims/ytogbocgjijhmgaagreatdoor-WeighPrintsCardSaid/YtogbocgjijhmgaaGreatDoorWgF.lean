/-
  A weight's reader by contracts: partOf, sign, factor, word, term.
-/
import Derived.Test.YtogbocgjijhmgaaGreatDoorWgD
import Derived.Test.YtogbocgjijhmgaaGreatDoorScanE
namespace Go.Proofs.YtogbocgjijhmgaaGreatDoor
open Go.RowKit Go.Extern.Stop Go.Stop Go.Extern

/-! ### Whose word -/
theorem idxS0 (x y z : ByteArray) (w : World) : (Instr.index 96 (.agg #[.string x, .string y, .string z]) (.int .i64 0)).run Tryz.prog w = .ok (.string x) w := by kernel_rfl
theorem idxS1 (x y z : ByteArray) (w : World) : (Instr.index 96 (.agg #[.string x, .string y, .string z]) (.int .i64 1)).run Tryz.prog w = .ok (.string y) w := by kernel_rfl
theorem idxS2 (x y z : ByteArray) (w : World) : (Instr.index 96 (.agg #[.string x, .string y, .string z]) (.int .i64 2)).run Tryz.prog w = .ok (.string z) w := by kernel_rfl
set_option maxRecDepth 100000 in
set_option maxHeartbeats 4000000 in
theorem gpartOf_any (t : ByteArray) (w : World) (hw : Wds w) :
    Calls Tryz.prog 137 #[.string t] w fun e w' => e = .returned (.int .i64 (if wIdx t = 3 then -1 else wIdx t)) ∧ w' = w := by
  have g0 := hw.2 0 (by decide)
  have g1 := hw.2 1 (by decide)
  have g2 := hw.2 2 (by decide)
  unfold wIdx
  generalize wordB 0 = x at *
  generalize wordB 1 = y at *
  generalize wordB 2 = z at *
  have i0 := idxS0 x y z
  have i1 := idxS1 x y z
  have i2 := idxS2 x y z
  clear hw
  cases h0 : x.toList == t.toList with
  | true =>
    rw [show (if (if true = true then 0 else if (y.toList == t.toList) = true then 1 else if (z.toList == t.toList) = true then 2 else 3) = 3 then (-1 : Int) else ((if true = true then 0 else if (y.toList == t.toList) = true then 1 else if (z.toList == t.toList) = true then 2 else 3 : Nat) : Int)) = 0 from rfl]
    go_enter Tryz.func137, Tryz.ntmps137
    go_wp2_with fail
    refine wp_loop_rounds 1 ?_
    rw [rounds_succ]
    go_wp2_with fail
    go_ret
    exact ⟨rfl, rfl⟩
  | false =>
    cases h1 : y.toList == t.toList with
    | true =>
      rw [show (if (if false = true then 0 else if true = true then 1 else if (z.toList == t.toList) = true then 2 else 3) = 3 then (-1 : Int) else ((if false = true then 0 else if true = true then 1 else if (z.toList == t.toList) = true then 2 else 3 : Nat) : Int)) = 1 from rfl]
      go_enter Tryz.func137, Tryz.ntmps137
      go_wp2_with fail
      refine wp_loop_rounds 2 ?_
      rw [rounds_succ]
      go_wp2_with fail
      rw [rounds_succ]
      go_wp2_with fail
      go_ret
      exact ⟨rfl, rfl⟩
    | false =>
      cases h2 : z.toList == t.toList with
      | true =>
        rw [show (if (if false = true then 0 else if false = true then 1 else if true = true then 2 else 3) = 3 then (-1 : Int) else ((if false = true then 0 else if false = true then 1 else if true = true then 2 else 3 : Nat) : Int)) = 2 from rfl]
        go_enter Tryz.func137, Tryz.ntmps137
        go_wp2_with fail
        refine wp_loop_rounds 3 ?_
        rw [rounds_succ]
        go_wp2_with fail
        rw [rounds_succ]
        go_wp2_with fail
        rw [rounds_succ]
        go_wp2_with fail
        go_ret
        exact ⟨rfl, rfl⟩
      | false =>
        rw [show (if (if false = true then 0 else if false = true then 1 else if false = true then 2 else 3) = 3 then (-1 : Int) else ((if false = true then 0 else if false = true then 1 else if false = true then 2 else 3 : Nat) : Int)) = -1 from rfl]
        go_enter Tryz.func137, Tryz.ntmps137
        go_wp2_with fail
        refine wp_loop_rounds 4 ?_
        rw [rounds_succ]
        go_wp2_with fail
        rw [rounds_succ]
        go_wp2_with fail
        rw [rounds_succ]
        go_wp2_with fail
        rw [rounds_succ]
        go_wp2_with fail
        go_ret
        exact ⟨rfl, rfl⟩

/-! ### The reader in memory -/
def gq (q : Nat → Bool) (i : Nat) : Int := if q i then 1 else 0
def Wr (w : World) (b : Nat) (s : ByteArray) (k : Nat) (p : Nat → Int) (q : Nat → Bool) : Prop :=
  w.heap[b]? = some (.cells #[.string s, .int .i64 k, .int .u64 (p 0), .int .u64 (p 1), .int .u64 (p 2), .int .i64 (gq q 0), .int .i64 (gq q 1), .int .i64 (gq q 2)] 103 (0, 0))
section
variable {w w' : World} {b k : Nat} {s : ByteArray} {p : Nat → Int} {q : Nat → Bool}
theorem Wr.lt (h : Wr w b s k p q) : b < w.heap.size := (Array.getElem?_eq_some_iff.1 h).1
theorem Wr.step (h : Wr w b s k p q) (hb : Below w.heap.size w w') : Wr w' b s k p q := (hb.block b h.lt).trans h
theorem Wr.keeps {D : Nat → Prop} (h : Wr w b s k p q) (hk : Keeps D w w') (hD : ¬ D b) : Wr w' b s k p q := (hk.block b h.lt hD).trans h
theorem Wr.fz (h : Wr w b s k p q) (i : Nat) : w.frozen? ⟨b, i, none⟩ = false := by
  unfold World.frozen?
  rw [h]
  simp
theorem Wr.scan (h : Wr w b s k p q) : w.cell? ⟨b, 0, none⟩ = some (.string s) ∧ w.cell? ⟨b, 1, none⟩ = some (.int .i64 k) := ⟨by rw [Lib.cell_of_heap h]; rfl, by rw [Lib.cell_of_heap h]; rfl⟩
theorem Wr.parts (h : Wr w b s k p q) : w.cell? ⟨b, 2, none⟩ = some (.int .u64 (p 0)) ∧ w.cell? ⟨b, 3, none⟩ = some (.int .u64 (p 1)) ∧ w.cell? ⟨b, 4, none⟩ = some (.int .u64 (p 2)) :=
  ⟨by rw [Lib.cell_of_heap h]; rfl, by rw [Lib.cell_of_heap h]; rfl, by rw [Lib.cell_of_heap h]; rfl⟩
theorem Wr.seen (h : Wr w b s k p q) : w.cell? ⟨b, 5, none⟩ = some (.int .i64 (gq q 0)) ∧ w.cell? ⟨b, 6, none⟩ = some (.int .i64 (gq q 1)) ∧ w.cell? ⟨b, 7, none⟩ = some (.int .i64 (gq q 2)) :=
  ⟨by rw [Lib.cell_of_heap h]; rfl, by rw [Lib.cell_of_heap h]; rfl, by rw [Lib.cell_of_heap h]; rfl⟩
theorem Wr.putc (h : Wr w b s k p q) (k' : Nat) : Wr ((w.setCell ⟨b, 0, none⟩ (.string s)).setCell ⟨b, 1, none⟩ (.int .i64 k')) b s k' p q := by
  have h0 : Wr (w.setCell ⟨b, 0, none⟩ (.string s)) b s k p q := heap_setCell_same w b 0 _ _ (.string s) h
  exact heap_setCell_same _ b 1 _ _ (.int .i64 k') h0
theorem Wr.putp0 (h : Wr w b s k p q) (m : Int) : Wr (w.setCell ⟨b, 2, none⟩ (.int .u64 m)) b s k (upd p 0 m) q := heap_setCell_same w b 2 _ _ (.int .u64 m) h
theorem Wr.putp1 (h : Wr w b s k p q) (m : Int) : Wr (w.setCell ⟨b, 3, none⟩ (.int .u64 m)) b s k (upd p 1 m) q := heap_setCell_same w b 3 _ _ (.int .u64 m) h
theorem Wr.putp2 (h : Wr w b s k p q) (m : Int) : Wr (w.setCell ⟨b, 4, none⟩ (.int .u64 m)) b s k (upd p 2 m) q := heap_setCell_same w b 4 _ _ (.int .u64 m) h
theorem Wr.putq0 (h : Wr w b s k p q) : Wr (w.setCell ⟨b, 5, none⟩ (.int .i64 1)) b s k p (upd q 0 true) := heap_setCell_same w b 5 _ _ (.int .i64 1) h
theorem Wr.putq1 (h : Wr w b s k p q) : Wr (w.setCell ⟨b, 6, none⟩ (.int .i64 1)) b s k p (upd q 1 true) := heap_setCell_same w b 6 _ _ (.int .i64 1) h
theorem Wr.putq2 (h : Wr w b s k p q) : Wr (w.setCell ⟨b, 7, none⟩ (.int .i64 1)) b s k p (upd q 2 true) := heap_setCell_same w b 7 _ _ (.int .i64 1) h
end
theorem keepsW2 (w : World) (rb : Nat) (u v : Value) : Keeps (· = rb) w ((w.setCell ⟨rb, 0, none⟩ u).setCell ⟨rb, 1, none⟩ v) :=
  ((Keeps.refl (· = rb) w).setCell (q := ⟨rb, 0, none⟩) (.inr rfl) u).setCell (q := ⟨rb, 1, none⟩) (.inr rfl) v
theorem keepsW1 (w : World) (rb i : Nat) (u : Value) : Keeps (· = rb) w (w.setCell ⟨rb, i, none⟩ u) := (Keeps.refl (· = rb) w).setCell (q := ⟨rb, i, none⟩) (.inr rfl) u
def ErrW (w : World) (rb : Nat) (c : Int) (a : Nat) (e : Ending) (w' : World) : Prop := ∃ fb, e = .returned (pf fb) ∧ FaultAt w' fb c a ∧ Keeps (· = rb) w w'

/-! ### sign -/
set_option maxRecDepth 100000 in
set_option maxHeartbeats 1000000 in
theorem gsign_yes (s : ByteArray) (k rb : Nat) (p : Nat → Int) (q : Nat → Bool) (b : Int) (hb0 : b ≠ 0) (hb : byteI s (skp s k) = b) (hs : s.size ≤ 100000) (hk : k ≤ s.size) (w : World) (hr : Wr w rb s k p q) :
    Calls Tryz.prog 88 #[.pointer (some ⟨rb, 0, none⟩), .int .u8 b] w fun e w' => e = .returned .nilIface ∧ Wr w' rb s (skp s k + 1) p q ∧ Keeps (· = rb) w w' := by
  have hlt := byteI_in hb hb0
  have HS := Lib.hid (fun W => skip_any s k hs hk W)
  have HT := Lib.hid (fun W => take_is s (skp s k) hs hlt b hb W)
  have HR := Lib.hid hr
  obtain ⟨c0, c1⟩ := hr.scan
  unfold skp at *
  generalize runTo isBl s k = j at *
  clear hr hb hlt
  go_enter Tryz.func88, Tryz.ntmps88
  go_wp2_with fail
  refine (HS.out _).mono ?_
  rintro e w1 ⟨rfl, b1⟩
  clear c0 c1
  go_wp2_with fail
  refine (HT.out _).mono ?_
  rintro e w2 ⟨rfl, b2⟩
  have H3 := Lib.hid (((HR.out.step b1).step b2).step (sbelow_new w2 (.cells #[.string s, .int .i64 ((j : Int) + 1)] 42)))
  have HB := Lib.hid ((b1.trans (b2.mono b1.size)).trans ((sbelow_new w2 (.cells #[.string s, .int .i64 ((j : Int) + 1)] 42)).mono (b1.trans (b2.mono b1.size)).size))
  obtain ⟨c0, c1⟩ := H3.out.scan
  have f0 := H3.out.fz 0
  have f1 := H3.out.fz 1
  clear b1 b2
  go_wp2_with fail
  go_ret
  exact ⟨rfl, H3.out.putc (j + 1), (Keeps.of_below HB.out).trans (keepsW2 _ rb _ _)⟩
set_option maxRecDepth 100000 in
set_option maxHeartbeats 1000000 in
theorem gsign_no (s : ByteArray) (k rb : Nat) (p : Nat → Int) (q : Nat → Bool) (b : Int) (hb : ¬ byteI s (skp s k) = b) (hs : s.size ≤ 100000) (hk : k ≤ s.size) (w : World) (hr : Wr w rb s k p q) :
    Calls Tryz.prog 88 #[.pointer (some ⟨rb, 0, none⟩), .int .u8 b] w (ErrW w rb (missC s (skp s k)) (skp s k)) := by
  have HS := Lib.hid (fun W => skip_any s k hs hk W)
  have HT := Lib.hid (fun W => take_not s (skp s k) hs (skp_le hk).2 b (fun h => hb h.1) W)
  obtain ⟨c0, c1⟩ := hr.scan
  unfold skp at *
  generalize runTo isBl s k = j at *
  clear hr hb
  go_enter Tryz.func88, Tryz.ntmps88
  go_wp2_with fail
  refine (HS.out _).mono ?_
  rintro e w1 ⟨rfl, b1⟩
  clear c0 c1
  go_wp2_with fail
  refine (HT.out _).mono ?_
  rintro e w2 ⟨fb, rfl, hf, b2⟩
  have HF := Lib.hid (hf.keep (sbelow_new w2 (.cells #[.string s, .int .i64 j] 42)))
  have HB := Lib.hid ((b1.trans (b2.mono b1.size)).trans ((sbelow_new w2 (.cells #[.string s, .int .i64 j] 42)).mono (b1.trans (b2.mono b1.size)).size))
  clear b1 b2 hf
  unfold pf
  go_wp2_with fail
  go_ret
  exact ⟨fb, rfl, HF.out, Keeps.of_below HB.out⟩

/-! ### factor -/
def FcOut (w : World) (rb : Nat) (s : ByteArray) (p : Nat → Int) (q : Nat → Bool) : FcO → Ending → World → Prop
  | .er c a, e, w' => ∃ (z : Int) (fb : Nat), e = .returned (.tuple #[.int .u64 z, pf fb]) ∧ FaultAt w' fb c a ∧ Keeps (· = rb) w w'
  | .ok m k1, e, w' => e = .returned (.tuple #[.int .u64 m, .nilIface]) ∧ Wr w' rb s k1 p q ∧ Keeps (· = rb) w w'
set_option maxRecDepth 100000 in
set_option maxHeartbeats 2000000 in
theorem gfac_none (s : ByteArray) (k rb : Nat) (p : Nat → Int) (q : Nat → Bool) (hd : isDig (byteI s (skp s k)) = false) (hs : s.size ≤ 100000) (hk : k ≤ s.size) (w : World) (hr : Wr w rb s k p q) (hg : Handle w) :
    Calls Tryz.prog 114 #[.pointer (some ⟨rb, 0, none⟩)] w (FcOut w rb s p q (.ok 1 k)) := by
  have HS : Hid (∀ W, Calls Tryz.prog 35 #[.agg #[.string s, .int .i64 k]] W fun e w' => e = .returned (.agg #[.string s, .int .i64 (skp s k)]) ∧ Below W.heap.size W w') := Lib.hid (fun W => skip_any s k hs hk W)
  have HPK := Lib.hid (fun W => peek_any s (skp s k) (skp_le hk).2 W)
  have HR := Lib.hid hr
  have HG := Lib.hid hg
  obtain ⟨c0, c1⟩ := hr.scan
  have hz : byteI s (skp s k) < 48 ∨ (48 ≤ byteI s (skp s k) ∧ 57 < byteI s (skp s k)) := by
    rw [Bool.eq_false_iff, ne_eq, isDig_iff] at hd; omega
  generalize byteI s (skp s k) = z at *
  generalize skp s k = j at *
  clear hr hg hd
  rcases hz with hz | ⟨hz1, hz2⟩
  · skip
    go_enter Tryz.func114, Tryz.ntmps114
    go_wp2_with fail
    refine (HS.out _).mono ?_
    rintro e w1 ⟨rfl, b1⟩
    have bn := sbelow_new w1 (.cells #[.string s, .int .i64 j] 42)
    have HB1 := Lib.hid (b1.trans (bn.mono b1.size))
    have H1 := Lib.hid ((HR.out.step b1).step bn)
    have HF1 := Lib.hid (ScanAt.new w1 s j 42)
    clear c0 c1 b1 bn
    go_wp2_with fail
    generalize w1.alloc (.cells #[.string s, .int .i64 j] 42) = w2 at *
    generalize w1.heap.size = sb at *
    refine (HPK.out _).mono ?_
    rintro e w3 ⟨rfl, b3⟩
    have HB3 := Lib.hid (HB1.out.trans (b3.mono HB1.out.size))
    have H3 := Lib.hid (H1.out.step b3)
    have HF3 := Lib.hid (HF1.out.step b3)
    clear b3 HB1 H1 HF1
    go_wp2_with fail
    go_ret2
    exact ⟨rfl, H3.out, Keeps.of_below HB3.out⟩
  · have hz3 : ¬ z < 48 := by omega
    go_enter Tryz.func114, Tryz.ntmps114
    go_wp2_with fail
    refine (HS.out _).mono ?_
    rintro e w1 ⟨rfl, b1⟩
    have bn := sbelow_new w1 (.cells #[.string s, .int .i64 j] 42)
    have HB1 := Lib.hid (b1.trans (bn.mono b1.size))
    have H1 := Lib.hid ((HR.out.step b1).step bn)
    have HF1 := Lib.hid (ScanAt.new w1 s j 42)
    clear c0 c1 b1 bn
    go_wp2_with fail
    generalize w1.alloc (.cells #[.string s, .int .i64 j] 42) = w2 at *
    generalize w1.heap.size = sb at *
    refine (HPK.out _).mono ?_
    rintro e w3 ⟨rfl, b3⟩
    have HB3 := Lib.hid (HB1.out.trans (b3.mono HB1.out.size))
    have H3 := Lib.hid (H1.out.step b3)
    have HF3 := Lib.hid (HF1.out.step b3)
    clear b3 HB1 H1 HF1
    go_wp2_with fail
    go_ret2
    exact ⟨rfl, H3.out, Keeps.of_below HB3.out⟩
set_option maxRecDepth 100000 in
set_option maxHeartbeats 2000000 in
theorem gfac_err (s : ByteArray) (k rb : Nat) (p : Nat → Int) (q : Nat → Bool) (hd : isDig (byteI s (skp s k)) = true) (hc : numC s (skp s k) ≠ 0) (hs : s.size ≤ 100000) (hk : k ≤ s.size) (w : World) (hr : Wr w rb s k p q) (hg : Handle w) :
    Calls Tryz.prog 114 #[.pointer (some ⟨rb, 0, none⟩)] w (FcOut w rb s p q (.er (numC s (skp s k)) (skp s k))) := by
  have HS : Hid (∀ W, Calls Tryz.prog 35 #[.agg #[.string s, .int .i64 k]] W fun e w' => e = .returned (.agg #[.string s, .int .i64 (skp s k)]) ∧ Below W.heap.size W w') := Lib.hid (fun W => skip_any s k hs hk W)
  have HPK := Lib.hid (fun W => peek_any s (skp s k) (skp_le hk).2 W)
  have HR := Lib.hid hr
  have HG := Lib.hid hg
  obtain ⟨c0, c1⟩ := hr.scan
  have HN := Lib.hid (fun W hg => number_any s (skp s k) hs (skp_le hk).2 W hg)
  have ek : numK s (skp s k) = skp s k := by
    unfold numK
    unfold numC at hc
    split
    · rfl
    · rename_i h1
      rw [if_neg h1] at hc
      rw [if_neg hc]
  rw [ek] at HN
  obtain ⟨hz1, hz2⟩ := (isDig_iff _).1 hd
  have hz3 : ¬ byteI s (skp s k) < 48 := by omega
  have hz4 : ¬ 57 < byteI s (skp s k) := by omega
  have HC := Lib.hid hc
  generalize numC s (skp s k) = cc at *
  generalize numN s (skp s k) = nn at *
  generalize byteI s (skp s k) = z at *
  generalize skp s k = j at *
  clear hr hg hd ek hc
  go_enter Tryz.func114, Tryz.ntmps114
  go_wp2_with fail
  refine (HS.out _).mono ?_
  rintro e w1 ⟨rfl, b1⟩
  have bn := sbelow_new w1 (.cells #[.string s, .int .i64 j] 42)
  have HB1 := Lib.hid (b1.trans (bn.mono b1.size))
  have H1 := Lib.hid ((HR.out.step b1).step bn)
  have HF1 := Lib.hid (ScanAt.new w1 s j 42)
  clear c0 c1 b1 bn
  go_wp2_with fail
  generalize w1.alloc (.cells #[.string s, .int .i64 j] 42) = w2 at *
  generalize w1.heap.size = sb at *
  refine (HPK.out _).mono ?_
  rintro e w3 ⟨rfl, b3⟩
  have HB3 := Lib.hid (HB1.out.trans (b3.mono HB1.out.size))
  have H3 := Lib.hid (H1.out.step b3)
  have HF3 := Lib.hid (HF1.out.step b3)
  clear b3 HB1 H1 HF1
  obtain ⟨-, c0, c1, -⟩ := HF3.out
  go_wp2_with fail
  refine (HN.out _ (HG.out.below HB3.out)).mono ?_
  rintro e w4 ⟨v, rfl, hv, b4⟩
  have HV := Lib.hid hv
  obtain ⟨fb, rfl, hf⟩ := hv.fb HC.out
  have bn := sbelow_new w4 (.cells #[.string s, .int .i64 j] 42)
  have HF := Lib.hid (hf.keep bn)
  have HB4 := Lib.hid ((HB3.out.trans (b4.mono HB3.out.size)).trans (bn.mono (HB3.out.trans (b4.mono HB3.out.size)).size))
  clear hv hf b4 bn HV
  unfold pf
  go_wp2_with fail
  go_ret2
  exact ⟨_, fb, rfl, HF.out, Keeps.of_below HB4.out⟩
set_option maxRecDepth 100000 in
set_option maxHeartbeats 2000000 in
theorem gfac_big (s : ByteArray) (k rb : Nat) (p : Nat → Int) (q : Nat → Bool) (hd : isDig (byteI s (skp s k)) = true) (hc : numC s (skp s k) = 0) (hm : 1000000 < numN s (skp s k)) (hs : s.size ≤ 100000) (hk : k ≤ s.size) (w : World) (hr : Wr w rb s k p q) (hg : Handle w) :
    Calls Tryz.prog 114 #[.pointer (some ⟨rb, 0, none⟩)] w (FcOut w rb s p q (.er 7 (skp s k))) := by
  have HS : Hid (∀ W, Calls Tryz.prog 35 #[.agg #[.string s, .int .i64 k]] W fun e w' => e = .returned (.agg #[.string s, .int .i64 (skp s k)]) ∧ Below W.heap.size W w') := Lib.hid (fun W => skip_any s k hs hk W)
  have HPK := Lib.hid (fun W => peek_any s (skp s k) (skp_le hk).2 W)
  have HR := Lib.hid hr
  have HG := Lib.hid hg
  obtain ⟨c0, c1⟩ := hr.scan
  have HN := Lib.hid (fun W hg => number_any s (skp s k) hs (skp_le hk).2 W hg)
  rw [hc] at HN
  obtain ⟨hz1, hz2⟩ := (isDig_iff _).1 hd
  have hz3 : ¬ byteI s (skp s k) < 48 := by omega
  have hz4 : ¬ 57 < byteI s (skp s k) := by omega
  have HAT := Lib.hid (fun W => at_any s (skp s k) W)
  have HNE := Lib.hid (fun W => new_err 7 (skp s k) (by decide) W)
  generalize numN s (skp s k) = nn at *
  generalize byteI s (skp s k) = z at *
  generalize numK s (skp s k) = e at *
  generalize skp s k = j at *
  clear hr hg hd hc
  go_enter Tryz.func114, Tryz.ntmps114
  go_wp2_with fail
  refine (HS.out _).mono ?_
  rintro e w1 ⟨rfl, b1⟩
  have bn := sbelow_new w1 (.cells #[.string s, .int .i64 j] 42)
  have HB1 := Lib.hid (b1.trans (bn.mono b1.size))
  have H1 := Lib.hid ((HR.out.step b1).step bn)
  have HF1 := Lib.hid (ScanAt.new w1 s j 42)
  clear c0 c1 b1 bn
  go_wp2_with fail
  generalize w1.alloc (.cells #[.string s, .int .i64 j] 42) = w2 at *
  generalize w1.heap.size = sb at *
  refine (HPK.out _).mono ?_
  rintro e w3 ⟨rfl, b3⟩
  have HB3 := Lib.hid (HB1.out.trans (b3.mono HB1.out.size))
  have H3 := Lib.hid (H1.out.step b3)
  have HF3 := Lib.hid (HF1.out.step b3)
  clear b3 HB1 H1 HF1
  obtain ⟨-, c0, c1, -⟩ := HF3.out
  go_wp2_with fail
  refine (HN.out _ (HG.out.below HB3.out)).mono ?_
  rintro e w4 ⟨v, rfl, hv, b4⟩
  have HV := Lib.hid hv
  obtain rfl := HV.out.nil_of
  have bn := sbelow_new w4 (.cells #[.string s, .int .i64 e] 42)
  have HB4 := Lib.hid ((HB3.out.trans (b4.mono HB3.out.size)).trans (bn.mono (HB3.out.trans (b4.mono HB3.out.size)).size))
  have H5 := Lib.hid ((H3.out.step b4).step bn)
  have HF5 := Lib.hid ((HF3.out.step b4).step bn)
  have HC5 := Lib.hid (ScanAt.new w4 s e 42)
  clear hv b4 bn HV c0 c1
  obtain ⟨-, c0, c1, -⟩ := HF5.out
  go_wp2_with fail
  refine (HAT.out _).mono ?_
  rintro e w6 ⟨rfl, b6⟩
  have HB6 := Lib.hid (HB4.out.trans (b6.mono HB4.out.size))
  clear b6 c0 c1
  go_wp2_with fail
  refine (HNE.out _).mono ?_
  rintro e w7 ⟨fb, rfl, hf, b7⟩
  have HF := Lib.hid hf
  have HB7 := Lib.hid (HB6.out.trans (b7.mono HB6.out.size))
  clear b7 hf
  unfold pf
  go_wp2_with fail
  go_ret2
  exact ⟨_, fb, rfl, HF.out, Keeps.of_below HB7.out⟩
set_option maxRecDepth 100000 in
set_option maxHeartbeats 2000000 in
theorem gfac_star (s : ByteArray) (k rb : Nat) (p : Nat → Int) (q : Nat → Bool) (hd : isDig (byteI s (skp s k)) = true) (hc : numC s (skp s k) = 0) (hm : ¬ 1000000 < numN s (skp s k)) (h42 : byteI s (skp s (numK s (skp s k))) = 42) (hs : s.size ≤ 100000) (hk : k ≤ s.size) (w : World) (hr : Wr w rb s k p q) (hg : Handle w) :
    Calls Tryz.prog 114 #[.pointer (some ⟨rb, 0, none⟩)] w (FcOut w rb s p q (.ok (numN s (skp s k)) (skp s (numK s (skp s k)) + 1))) := by
  have HS : Hid (∀ W, Calls Tryz.prog 35 #[.agg #[.string s, .int .i64 k]] W fun e w' => e = .returned (.agg #[.string s, .int .i64 (skp s k)]) ∧ Below W.heap.size W w') := Lib.hid (fun W => skip_any s k hs hk W)
  have HPK := Lib.hid (fun W => peek_any s (skp s k) (skp_le hk).2 W)
  have HR := Lib.hid hr
  have HG := Lib.hid hg
  obtain ⟨c0, c1⟩ := hr.scan
  have HN := Lib.hid (fun W hg => number_any s (skp s k) hs (skp_le hk).2 W hg)
  rw [hc] at HN
  obtain ⟨hz1, hz2⟩ := (isDig_iff _).1 hd
  have hz3 : ¬ byteI s (skp s k) < 48 := by omega
  have hz4 : ¬ 57 < byteI s (skp s k) := by omega
  have hek := numK_le s (skp s k) (skp_le hk).2
  have HSG := Lib.hid (fun W (h : Wr W rb s (numK s (skp s k)) p q) => gsign_yes s (numK s (skp s k)) rb p q 42 (by decide) h42 hs hek W h)
  generalize numN s (skp s k) = nn at *
  generalize byteI s (skp s k) = z at *
  generalize numK s (skp s k) = e at *
  generalize skp s k = j at *
  clear hr hg hd hc h42 hek
  go_enter Tryz.func114, Tryz.ntmps114
  go_wp2_with fail
  refine (HS.out _).mono ?_
  rintro e w1 ⟨rfl, b1⟩
  have bn := sbelow_new w1 (.cells #[.string s, .int .i64 j] 42)
  have HB1 := Lib.hid (b1.trans (bn.mono b1.size))
  have H1 := Lib.hid ((HR.out.step b1).step bn)
  have HF1 := Lib.hid (ScanAt.new w1 s j 42)
  clear c0 c1 b1 bn
  go_wp2_with fail
  generalize w1.alloc (.cells #[.string s, .int .i64 j] 42) = w2 at *
  generalize w1.heap.size = sb at *
  refine (HPK.out _).mono ?_
  rintro e w3 ⟨rfl, b3⟩
  have HB3 := Lib.hid (HB1.out.trans (b3.mono HB1.out.size))
  have H3 := Lib.hid (H1.out.step b3)
  have HF3 := Lib.hid (HF1.out.step b3)
  clear b3 HB1 H1 HF1
  obtain ⟨-, c0, c1, -⟩ := HF3.out
  go_wp2_with fail
  refine (HN.out _ (HG.out.below HB3.out)).mono ?_
  rintro e w4 ⟨v, rfl, hv, b4⟩
  have HV := Lib.hid hv
  obtain rfl := HV.out.nil_of
  have bn := sbelow_new w4 (.cells #[.string s, .int .i64 e] 42)
  have HB4 := Lib.hid ((HB3.out.trans (b4.mono HB3.out.size)).trans (bn.mono (HB3.out.trans (b4.mono HB3.out.size)).size))
  have H5 := Lib.hid ((H3.out.step b4).step bn)
  have HF5 := Lib.hid ((HF3.out.step b4).step bn)
  have HC5 := Lib.hid (ScanAt.new w4 s e 42)
  clear hv b4 bn HV c0 c1
  obtain ⟨-, c0, c1, -⟩ := HC5.out
  have f0 := H5.out.fz 0
  have f1 := H5.out.fz 1
  obtain ⟨d0, d1⟩ := H5.out.scan
  have H6 := Lib.hid (H5.out.putc e)
  have HK6 := Lib.hid ((Keeps.of_below (D := (· = rb)) HB4.out).trans (keepsW2 (w4.alloc (.cells #[.string s, .int .i64 e] 42)) rb (.string s) (.int .i64 e)))
  go_upto_region 11 with (fail)
  generalize ((w4.alloc (.cells #[.string s, .int .i64 e] 42)).setCell ⟨rb, 0, none⟩ (.string s)).setCell ⟨rb, 1, none⟩ (.int .i64 e) = w6 at *
  clear c0 c1 f0 f1 d0 d1
  go_wp2_with fail
  refine (HSG.out _ H6.out).mono ?_
  rintro e w7 ⟨rfl, hr7, hk7⟩
  go_wp2_with fail
  go_ret2
  exact ⟨rfl, hr7, HK6.out.trans hk7⟩
set_option maxRecDepth 100000 in
set_option maxHeartbeats 2000000 in
theorem gfac_no (s : ByteArray) (k rb : Nat) (p : Nat → Int) (q : Nat → Bool) (hd : isDig (byteI s (skp s k)) = true) (hc : numC s (skp s k) = 0) (hm : ¬ 1000000 < numN s (skp s k)) (h42 : ¬ byteI s (skp s (numK s (skp s k))) = 42) (hs : s.size ≤ 100000) (hk : k ≤ s.size) (w : World) (hr : Wr w rb s k p q) (hg : Handle w) :
    Calls Tryz.prog 114 #[.pointer (some ⟨rb, 0, none⟩)] w (FcOut w rb s p q (.er (missC s (skp s (numK s (skp s k)))) (skp s (numK s (skp s k))))) := by
  have HS : Hid (∀ W, Calls Tryz.prog 35 #[.agg #[.string s, .int .i64 k]] W fun e w' => e = .returned (.agg #[.string s, .int .i64 (skp s k)]) ∧ Below W.heap.size W w') := Lib.hid (fun W => skip_any s k hs hk W)
  have HPK := Lib.hid (fun W => peek_any s (skp s k) (skp_le hk).2 W)
  have HR := Lib.hid hr
  have HG := Lib.hid hg
  obtain ⟨c0, c1⟩ := hr.scan
  have HN := Lib.hid (fun W hg => number_any s (skp s k) hs (skp_le hk).2 W hg)
  rw [hc] at HN
  obtain ⟨hz1, hz2⟩ := (isDig_iff _).1 hd
  have hz3 : ¬ byteI s (skp s k) < 48 := by omega
  have hz4 : ¬ 57 < byteI s (skp s k) := by omega
  have hek := numK_le s (skp s k) (skp_le hk).2
  have HSG := Lib.hid (fun W (h : Wr W rb s (numK s (skp s k)) p q) => gsign_no s (numK s (skp s k)) rb p q 42 h42 hs hek W h)
  generalize numN s (skp s k) = nn at *
  generalize byteI s (skp s k) = z at *
  generalize numK s (skp s k) = e at *
  generalize skp s k = j at *
  clear hr hg hd hc h42 hek
  go_enter Tryz.func114, Tryz.ntmps114
  go_wp2_with fail
  refine (HS.out _).mono ?_
  rintro e w1 ⟨rfl, b1⟩
  have bn := sbelow_new w1 (.cells #[.string s, .int .i64 j] 42)
  have HB1 := Lib.hid (b1.trans (bn.mono b1.size))
  have H1 := Lib.hid ((HR.out.step b1).step bn)
  have HF1 := Lib.hid (ScanAt.new w1 s j 42)
  clear c0 c1 b1 bn
  go_wp2_with fail
  generalize w1.alloc (.cells #[.string s, .int .i64 j] 42) = w2 at *
  generalize w1.heap.size = sb at *
  refine (HPK.out _).mono ?_
  rintro e w3 ⟨rfl, b3⟩
  have HB3 := Lib.hid (HB1.out.trans (b3.mono HB1.out.size))
  have H3 := Lib.hid (H1.out.step b3)
  have HF3 := Lib.hid (HF1.out.step b3)
  clear b3 HB1 H1 HF1
  obtain ⟨-, c0, c1, -⟩ := HF3.out
  go_wp2_with fail
  refine (HN.out _ (HG.out.below HB3.out)).mono ?_
  rintro e w4 ⟨v, rfl, hv, b4⟩
  have HV := Lib.hid hv
  obtain rfl := HV.out.nil_of
  have bn := sbelow_new w4 (.cells #[.string s, .int .i64 e] 42)
  have HB4 := Lib.hid ((HB3.out.trans (b4.mono HB3.out.size)).trans (bn.mono (HB3.out.trans (b4.mono HB3.out.size)).size))
  have H5 := Lib.hid ((H3.out.step b4).step bn)
  have HF5 := Lib.hid ((HF3.out.step b4).step bn)
  have HC5 := Lib.hid (ScanAt.new w4 s e 42)
  clear hv b4 bn HV c0 c1
  obtain ⟨-, c0, c1, -⟩ := HC5.out
  have f0 := H5.out.fz 0
  have f1 := H5.out.fz 1
  obtain ⟨d0, d1⟩ := H5.out.scan
  have H6 := Lib.hid (H5.out.putc e)
  have HK6 := Lib.hid ((Keeps.of_below (D := (· = rb)) HB4.out).trans (keepsW2 (w4.alloc (.cells #[.string s, .int .i64 e] 42)) rb (.string s) (.int .i64 e)))
  go_upto_region 11 with (fail)
  generalize ((w4.alloc (.cells #[.string s, .int .i64 e] 42)).setCell ⟨rb, 0, none⟩ (.string s)).setCell ⟨rb, 1, none⟩ (.int .i64 e) = w6 at *
  clear c0 c1 f0 f1 d0 d1
  go_wp2_with fail
  refine (HSG.out _ H6.out).mono ?_
  rintro e w7 ⟨fb, rfl, hf, hk7⟩
  unfold pf
  go_wp2_with fail
  go_ret2
  exact ⟨_, fb, rfl, hf, HK6.out.trans hk7⟩
theorem gfactor_any (s : ByteArray) (k rb : Nat) (p : Nat → Int) (q : Nat → Bool) (hs : s.size ≤ 100000) (hk : k ≤ s.size) (w : World) (hr : Wr w rb s k p q) (hg : Handle w) :
    Calls Tryz.prog 114 #[.pointer (some ⟨rb, 0, none⟩)] w (FcOut w rb s p q (fcR s k)) := by
  unfold fcR
  by_cases hd : isDig (byteI s (skp s k)) = true
  · rw [if_pos hd]
    by_cases hc : numC s (skp s k) = 0
    · rw [if_neg (fun e => e hc)]
      by_cases hm : 1000000 < numN s (skp s k)
      · rw [if_pos hm]; exact gfac_big s k rb p q hd hc hm hs hk w hr hg
      · rw [if_neg hm]
        by_cases h42 : byteI s (skp s (numK s (skp s k))) = 42
        · rw [if_pos h42]; exact gfac_star s k rb p q hd hc hm h42 hs hk w hr hg
        · rw [if_neg h42]; exact gfac_no s k rb p q hd hc hm h42 hs hk w hr hg
    · rw [if_pos hc]; exact gfac_err s k rb p q hd hc hs hk w hr hg
  · rw [if_neg hd]; exact gfac_none s k rb p q (by simpa using hd) hs hk w hr hg
end Go.Proofs.YtogbocgjijhmgaaGreatDoor
