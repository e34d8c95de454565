/-
  Package regex's reader by contracts: took, take, count, word; what begins a part.
-/
import Derived.Test.YtpccdhkghlbhkaaGreatDoorRxT
import Derived.Test.YtpccdhkghlbhkaaGreatDoorRxP
import Derived.Test.YtpccdhkghlbhkaaGreatDoorScanH
import Derived.Test.YtpccdhkghlbhkaaGreatDoorOIsC
namespace Go.Proofs.YtpccdhkghlbhkaaGreatDoor
open Go.RowKit Go.Extern.Stop Go.Stop Go.Extern

/-! ### A reader in memory -/
def Rd (w : World) (rb : Nat) (s : ByteArray) (k n d : Nat) : Prop := QuadAt 65 w rb (.string s) (.int .i64 k) (.int .i64 n) (.int .i64 d)
section
variable {w w' : World} {rb k n d : Nat} {s : ByteArray}
theorem Rd.step (h : Rd w rb s k n d) (hb : Below w.heap.size w w') : Rd w' rb s k n d := QuadAt.step h hb
theorem Rd.lt (h : Rd w rb s k n d) : rb < w.heap.size := QuadAt.lt h
theorem Rd.cells (h : Rd w rb s k n d) : w.cell? ⟨rb, 0, none⟩ = some (.string s) ∧ w.cell? ⟨rb, 1, none⟩ = some (.int .i64 k) ∧ w.cell? ⟨rb, 2, none⟩ = some (.int .i64 n) ∧ w.cell? ⟨rb, 3, none⟩ = some (.int .i64 d) := QuadAt.cells h
theorem Rd.fz (h : Rd w rb s k n d) (i : Nat) : w.frozen? ⟨rb, i, none⟩ = false := QuadAt.fz h i
theorem Rd.far (h : Rd w rb s k n d) {q : Addr} (hq : rb ≠ q.block) (u : Value) : Rd (w.setCell q u) rb s k n d := QuadAt.far h hq u
/-- Its place is stored. -/
theorem Rd.putc (h : Rd w rb s k n d) (k' : Nat) : Rd ((w.setCell ⟨rb, 0, none⟩ (.string s)).setCell ⟨rb, 1, none⟩ (.int .i64 k')) rb s k' n d := (QuadAt.put0 h _).put1 _
theorem keeps_putc (w : World) (rb : Nat) (u v : Value) : Keeps (· = rb) w ((w.setCell ⟨rb, 0, none⟩ u).setCell ⟨rb, 1, none⟩ v) :=
  ((Keeps.refl (· = rb) w).setCell (q := ⟨rb, 0, none⟩) (.inr rfl) u).setCell (q := ⟨rb, 1, none⟩) (.inr rfl) v
theorem keeps_put1 (w : World) (rb i : Nat) (u : Value) : Keeps (· = rb) w (w.setCell ⟨rb, i, none⟩ u) := (Keeps.refl (· = rb) w).setCell (q := ⟨rb, i, none⟩) (.inr rfl) u
end

/-! ### took, take, count -/
/-- The place behind a sign, if it stands there. -/
def tkK (s : ByteArray) (k : Nat) (c : Int) : Nat := if byteI s (skp s k) = c then skp s k + 1 else k
theorem tkK_le {s : ByteArray} {k : Nat} {c : Int} (hk : k ≤ s.size) (hc : c ≠ 0) : tkK s k c ≤ s.size := by
  unfold tkK
  split
  · have := byteI_in (by assumption) hc; omega
  · exact hk
set_option maxRecDepth 100000 in
set_option maxHeartbeats 1000000 in
theorem took_any (s : ByteArray) (k n d rb : Nat) (b : UInt8) (hb : b.toNat ≠ 0) (hs : s.size ≤ 100000) (hk : k ≤ s.size) (w : World) (hr : Rd w rb s k n d) :
    Calls Tryz.prog 44 #[.pointer (some ⟨rb, 0, none⟩), .string ⟨#[b]⟩] w fun e w' => e = .returned (.bool (decide (byteI s (skp s k) = b.toNat))) ∧ Rd w' rb s (tkK s k b.toNat) n d ∧ Keeps (· = rb) w w' := by
  have HS := Lib.hid (fun W => skip_any s k hs hk W)
  have HH := Lib.hid (fun W => has_one s (skp s k) b hb hs (skp_le hk).2 W)
  unfold tkK
  have HR := Lib.hid hr
  obtain ⟨c0, c1, -, -⟩ := hr.cells
  unfold skp at *
  generalize runTo isBl s k = j at *
  clear hr
  by_cases hit : byteI s j = b.toNat
  · rw [decide_eq_true hit, if_pos hit] at *
    clear hit
    go_enter Tryz.func44, Tryz.ntmps44
    go_wp2_with fail
    refine (HS.out _).mono ?_
    rintro e w1 ⟨rfl, b1⟩
    clear c0 c1
    go_wp2_with fail
    refine (HH.out _).mono ?_
    rintro e w2 ⟨rfl, b2⟩
    have H3 := Lib.hid (((HR.out.step b1).step b2).step (sbelow_new w2 (.cells #[.string s, .int .i64 ((j : Int) + 1)] 42)))
    have HB := Lib.hid ((b1.trans (b2.mono b1.size)).trans ((sbelow_new w2 (.cells #[.string s, .int .i64 ((j : Int) + 1)] 42)).mono (b1.trans (b2.mono b1.size)).size))
    obtain ⟨c0, c1, -, -⟩ := H3.out.cells
    have f0 := H3.out.fz 0
    have f1 := H3.out.fz 1
    clear b1 b2
    go_wp2_with fail
    go_ret
    exact ⟨rfl, H3.out.putc (j + 1), (Keeps.of_below HB.out).trans (keeps_putc _ rb _ _)⟩
  · rw [decide_eq_false hit, if_neg hit] at *
    clear hit
    go_enter Tryz.func44, Tryz.ntmps44
    go_wp2_with fail
    refine (HS.out _).mono ?_
    rintro e w1 ⟨rfl, b1⟩
    clear c0 c1
    go_wp2_with fail
    refine (HH.out _).mono ?_
    rintro e w2 ⟨rfl, b2⟩
    have H3 := Lib.hid (((HR.out.step b1).step b2).step (sbelow_new w2 (.cells #[.string s, .int .i64 j] 42)))
    have HB := Lib.hid ((b1.trans (b2.mono b1.size)).trans ((sbelow_new w2 (.cells #[.string s, .int .i64 j] 42)).mono (b1.trans (b2.mono b1.size)).size))
    clear b1 b2
    go_wp2_with fail
    go_ret
    exact ⟨rfl, H3.out, Keeps.of_below HB.out⟩

/-- What a call answers that tells an error. -/
def ErrK (w : World) (rb : Nat) (c : Int) (a : Nat) (e : Ending) (w' : World) : Prop := ∃ fb, e = .returned (pf fb) ∧ FaultAt w' fb c a ∧ Keeps (· = rb) w w'
theorem FaultAt.mono {w : World} {fb : Nat} {c c' a a' : Int} (h : FaultAt w fb c a) (hc : c = c') (ha : a = a') : FaultAt w fb c' a' := by subst hc ha; exact h
set_option maxRecDepth 100000 in
set_option maxHeartbeats 1000000 in
theorem rtake_yes (s : ByteArray) (k n d rb : Nat) (b : Int) (hb0 : b ≠ 0) (hb : byteI s (skp s k) = b) (hs : s.size ≤ 100000) (hk : k ≤ s.size) (w : World) (hr : Rd w rb s k n d) :
    Calls Tryz.prog 99 #[.pointer (some ⟨rb, 0, none⟩), .int .u8 b] w fun e w' => e = .returned .nilIface ∧ Rd w' rb s (skp s k + 1) n d ∧ Keeps (· = rb) w w' := by
  have hlt := byteI_in hb hb0
  have HS := Lib.hid (fun W => skip_any s k hs hk W)
  have HT := Lib.hid (fun W => take_is s (skp s k) hs hlt b hb W)
  have HR := Lib.hid hr
  obtain ⟨c0, c1, -, -⟩ := hr.cells
  unfold skp at *
  generalize runTo isBl s k = j at *
  clear hr hb hlt
  go_enter Tryz.func99, Tryz.ntmps99
  go_wp2_with fail
  refine (HS.out _).mono ?_
  rintro e w1 ⟨rfl, b1⟩
  clear c0 c1
  go_wp2_with fail
  refine (HT.out _).mono ?_
  rintro e w2 ⟨rfl, b2⟩
  have H3 := Lib.hid (((HR.out.step b1).step b2).step (sbelow_new w2 (.cells #[.string s, .int .i64 ((j : Int) + 1)] 42)))
  have HB := Lib.hid ((b1.trans (b2.mono b1.size)).trans ((sbelow_new w2 (.cells #[.string s, .int .i64 ((j : Int) + 1)] 42)).mono (b1.trans (b2.mono b1.size)).size))
  obtain ⟨c0, c1, -, -⟩ := H3.out.cells
  have f0 := H3.out.fz 0
  have f1 := H3.out.fz 1
  clear b1 b2
  go_wp2_with fail
  go_ret
  exact ⟨rfl, H3.out.putc (j + 1), (Keeps.of_below HB.out).trans (keeps_putc _ rb _ _)⟩
set_option maxRecDepth 100000 in
set_option maxHeartbeats 1000000 in
theorem rtake_no (s : ByteArray) (k n d rb : Nat) (b : Int) (hb : ¬ byteI s (skp s k) = b) (hs : s.size ≤ 100000) (hk : k ≤ s.size) (w : World) (hr : Rd w rb s k n d) :
    Calls Tryz.prog 99 #[.pointer (some ⟨rb, 0, none⟩), .int .u8 b] w (ErrK w rb (missC s (skp s k)) (skp s k)) := by
  have HS := Lib.hid (fun W => skip_any s k hs hk W)
  have HT := Lib.hid (fun W => take_not s (skp s k) hs (skp_le hk).2 b (fun h => hb h.1) W)
  obtain ⟨c0, c1, -, -⟩ := hr.cells
  unfold skp at *
  generalize runTo isBl s k = j at *
  clear hr hb
  go_enter Tryz.func99, Tryz.ntmps99
  go_wp2_with fail
  refine (HS.out _).mono ?_
  rintro e w1 ⟨rfl, b1⟩
  clear c0 c1
  go_wp2_with fail
  refine (HT.out _).mono ?_
  rintro e w2 ⟨fb, rfl, hf, b2⟩
  have HF := Lib.hid (hf.keep (sbelow_new w2 (.cells #[.string s, .int .i64 j] 42)))
  have HB := Lib.hid ((b1.trans (b2.mono b1.size)).trans ((sbelow_new w2 (.cells #[.string s, .int .i64 j] 42)).mono (b1.trans (b2.mono b1.size)).size))
  clear b1 b2 hf
  unfold pf
  go_wp2_with fail
  go_ret
  exact ⟨fb, rfl, HF.out, Keeps.of_below HB.out⟩
set_option maxRecDepth 100000 in
set_option maxHeartbeats 1000000 in
theorem count_yes (s : ByteArray) (k n d rb a : Nat) (hn : n + 1 ≤ 100) (w : World) (hr : Rd w rb s k n d) :
    Calls Tryz.prog 60 #[.pointer (some ⟨rb, 0, none⟩), .int .i64 a] w fun e w' => e = .returned .nilIface ∧ Rd w' rb s k (n + 1) d ∧ Keeps (· = rb) w w' := by
  have HR := Lib.hid hr
  obtain ⟨-, -, c2, -⟩ := hr.cells
  have f2 := hr.fz 2
  have HP : Hid (Rd (w.setCell ⟨rb, 2, none⟩ (.int .i64 ((n : Int) + 1))) rb s k (n + 1) d) := Lib.hid (QuadAt.put2 hr _)
  have q2 := HP.out.cells.2.2.1
  clear hr
  go_enter Tryz.func60, Tryz.ntmps60
  go_wp2_with fail
  go_ret
  exact ⟨rfl, HP.out, keeps_put1 w rb 2 _⟩
set_option maxRecDepth 100000 in
set_option maxHeartbeats 1000000 in
theorem count_no (s : ByteArray) (k n d rb a : Nat) (hn : 100 < n + 1) (hn2 : n ≤ 1000) (w : World) (hr : Rd w rb s k n d) :
    Calls Tryz.prog 60 #[.pointer (some ⟨rb, 0, none⟩), .int .i64 a] w (ErrK w rb 6 a) := by
  obtain ⟨-, -, c2, -⟩ := hr.cells
  have f2 := hr.fz 2
  have HP : Hid (Rd (w.setCell ⟨rb, 2, none⟩ (.int .i64 ((n : Int) + 1))) rb s k (n + 1) d) := Lib.hid (QuadAt.put2 hr _)
  have q2 := HP.out.cells.2.2.1
  have HNW := Lib.hid (fun W => new_err 6 a (by decide) W)
  have HK := Lib.hid (keeps_put1 w rb 2 (.int .i64 ((n : Int) + 1)))
  clear hr
  go_enter Tryz.func60, Tryz.ntmps60
  go_wp2_with fail
  refine (HNW.out _).mono ?_
  rintro e w2 ⟨fb, rfl, hf, b2⟩
  have HF := Lib.hid hf
  have HK2 := Lib.hid (HK.out.next b2)
  clear hf b2
  unfold pf
  go_wp2_with fail
  go_ret
  exact ⟨fb, rfl, HF.out, HK2.out⟩
end Go.Proofs.YtpccdhkghlbhkaaGreatDoor
