/-
  Numbers in digits, by contracts: strconv.FormatUint and strconv.Itoa at base 10 (by the library's contracts for their parts): the decimal numeral; old memory stays as it was.
  The references' numbers in digits, by contracts: the decimal numeral; old memory stays as it was.
  From a law's walk to its row, for the laws whose row lists the library's two tables of lowest bits, its powers of ten, and the handle of 'error': what the condition gives a walk.
-/
import Derived.Test.YtlcpbfklnjlgnaaGreatDoorShelf
import Derived.WalkKit
import Derived.Lib.Walk
import Derived.Lib.ItoaMem
import Derived.Lib.ItoaLen
import Derived.BigCall
import Derived.BigGuard
import Derived.Outline
import Derived.Deep.LoopGhost
import Derived.Deep.RegionWith
import Derived.Test.YtlcpbfklnjlgnaaGreatDoorGk
namespace Go.Proofs.YtlcpbfklnjlgnaaGreatDoor
open Go.RowKit Go.Sort Go.Lib

theorem below_grow (w : World) (os : Array Obj) : Below w.heap.size w (grow w os) :=
  ⟨rfl, rfl, rfl, by simp, fun k hk => heap_grow_old w os hk⟩
theorem size_drewN (w : World) (k : Nat) : (w.drewN k).heap.size = w.heap.size := by
  induction k with
  | zero => rfl
  | succ n ih => exact ih
theorem below_drews (w : World) (k : Nat) : Below w.heap.size w (w.drewN k) := by
  induction k with
  | zero => exact Below.refl _ _
  | succ n ih => exact ⟨ih.os, ih.tape, ih.output, ih.size, ih.block⟩
theorem below_grown (w : World) (k : Nat) (os : Array Obj) : Below w.heap.size w (grow (w.drewN k) os) := by
  have h := below_grow (w.drewN k) os
  rw [size_drewN] at h
  exact (below_drews w k).trans h

/-- The library's table of powers of ten is there. -/
def Tab (w : World) : Prop := Lib.TabIs Tryz.prog w "internal/strconv.uint64pow10" .u64 Lib.pow10Tab
theorem powGlobal : Tryz.prog.globalNamed "internal/strconv.uint64pow10" = some 2 := by kernel_rfl
theorem Tab.lt {w : World} (h : Tab w) : 2 < w.heap.size := by
  unfold Tab Lib.TabIs World.var? at h
  rw [powGlobal] at h
  rcases Nat.lt_or_ge 2 w.heap.size with h' | h'
  · exact h'
  · rw [Option.bind_some, Array.getElem?_eq_none h'] at h; simp at h
theorem Tab.below {w w' : World} (h : Tab w) (hb : Below w.heap.size w w') : Tab w' := by
  have hl := h.lt
  unfold Tab Lib.TabIs World.var? at *
  rw [powGlobal] at *
  rw [Option.bind_some] at *
  rw [hb.block _ hl]
  exact h

theorem itoa_any (n : Int) (h0 : -9223372036854775808 ≤ n) (h1 : n ≤ 9223372036854775807) (w : World) (ht : Tab w) :
    Calls Tryz.prog 44 #[.int .i64 n] w fun e w' => e = .returned (.string ⟨(Lib.itoa n).toArray⟩) ∧ Below w.heap.size w w' :=
  (Tryz.strconv_Itoa n h0 h1 w ht).mono fun _ _ ⟨he, k, os, hw⟩ => ⟨he, by rw [hw]; exact below_grown w k os⟩

theorem holds_zero0 (w : World) (T : TypeId) (nd : Nat) (hs : nd ≤ 24) : Holds (fun (b : UInt8) => Value.int .u8 (b.toNat : Int)) (w.alloc (.cells Lib.zeros24 T)) w.heap.size 0 (Array.replicate nd (0 : UInt8)) := fun j hj => by
  have hj' : j < nd := by simpa using hj
  refine ⟨?_, World.frozen?_alloc_new _ _ _ _⟩
  rw [World.cell?_alloc_new, Lib.zeros24_at _ (by omega), getElem!_pos _ j hj]
  simp

end Go.Proofs.YtlcpbfklnjlgnaaGreatDoor

namespace Go.Proofs.YtlcpbfklnjlgnaaGreatDoor
open Go.RowKit Go.Lib

/-- One byte in a new block, as a text. -/
theorem conv_one (x : Int) (h0 : 0 ≤ x) (h1 : x ≤ 9) (W : World) : (convert 92 9 (.slice (some ⟨W.heap.size, 0, none⟩) 1 1)).run Tryz.prog (W.alloc (.cells #[.int .u8 (48 + x)] 5)) = .ok (.string ⟨[UInt8.ofNat (48 + x.toNat)].toArray⟩) (W.alloc (.cells #[.int .u8 (48 + x)] 5)) := by
  refine run_convert_bytes_back (P := Tryz.prog) _ 92 9 5 ⟨W.heap.size, 0, none⟩ 1 [UInt8.ofNat (48 + x.toNat)] Tryz.underlying92 Tryz.underlying5 Tryz.underlying9 (fun j hj => ?_)
  obtain rfl : j = 0 := by simpa using hj
  have e : ((UInt8.ofNat (48 + x.toNat)).toNat : Int) = 48 + x := by
    rw [UInt8.toNat_ofNat_of_lt' (by show 48 + x.toNat < 256; omega)]
    omega
  show World.cell? _ _ = some (.int .u8 ((UInt8.ofNat (48 + x.toNat)).toNat : Int))
  rw [e]
  simp [Addr.add]

theorem str_cons (a : Nat) (l : List UInt8) : Value.string ((⟨#[48 + UInt8.ofNat a]⟩ : ByteArray) ++ (⟨l.toArray⟩ : ByteArray)) = Value.string ⟨(UInt8.ofNat (48 + a) :: l).toArray⟩ := by
  congr 1
  apply ByteArray.ext
  simp [ByteArray.data_append]
/-- The numeral so far: all that is left, ahead of what is laid. -/
def DigRel (N m : Nat) (l : List UInt8) : Prop := (m = 0 → l = Lib.decDigits N) ∧ (0 < m → Lib.decDigits N = Lib.decDigits m ++ l)
theorem DigRel.step {N m : Nat} {l : List UInt8} (h : DigRel N m l) (hm : 0 < m) : DigRel N (m / 10) (UInt8.ofNat (48 + m % 10) :: l) := by
  have e := h.2 hm
  by_cases h10 : m < 10
  · rw [Lib.decDigits_one h10] at e
    refine ⟨fun _ => ?_, fun h' => by omega⟩
    rw [e, Nat.mod_eq_of_lt h10]
    rfl
  · refine ⟨fun h' => by omega, fun _ => ?_⟩
    rw [e, Lib.decDigits, dif_neg h10]
    simp

structure DigLoop (N : Nat) (w : World) (m : Nat) (n s : Value) (wr : World) : Prop where
  ex : ∃ l : List UInt8, m ≤ N ∧ n = .int .i64 m ∧ s = .string ⟨l.toArray⟩ ∧ DigRel N m l
  below : Below w.heap.size w wr

theorem digitsRef_zero (w : World) : Calls Tryz.prog 19 #[.int .i64 0] w fun e w' => e = .returned (.string ⟨(Lib.itoa 0).toArray⟩) ∧ Below w.heap.size w w' := by
  go_enter Tryz.func19, Tryz.ntmps19
  go_wp2
  go_ret
  have e : Lib.itoa 0 = [48] := by rw [show (0 : Int) = ((0 : Nat) : Int) from rfl, Lib.itoa_nonneg, Lib.decDigits_one (by decide)]; rfl
  rw [e]
  exact ⟨rfl, Below.refl _ _⟩

set_option maxHeartbeats 1600000 in
set_option maxRecDepth 100000 in
theorem digitsRef_pos (N : Nat) (h0 : 0 < N) (h1 : N ≤ 9223372036854775807) (w : World) :
    Calls Tryz.prog 19 #[.int .i64 N] w fun e w' => e = .returned (.string ⟨(Lib.decDigits N).toArray⟩) ∧ Below w.heap.size w w' := by
  have hb : ((N : Int) == 0) = false := by rw [beq_eq_false_iff_ne]; omega
  have hb2 : ¬ (N : Int) < 0 := by omega
  go_enter Tryz.func19, Tryz.ntmps19
  go_wp2
  have H0 : Hid (DigLoop N w N (.int .i64 N) (.string ⟨#[]⟩) w) := ⟨⟨[], Nat.le_refl _, rfl, rfl, ⟨fun h => by omega, fun _ => by simp⟩⟩, Below.refl _ _⟩
  go_loopg [0, 3] N (fun k n s wr => DigLoop N w k n s wr)
  case atStart => exact H0.out
  case round =>
    obtain ⟨⟨l, hm, rfl, rfl, hD⟩, hbel⟩ := hrel
    have HD := Lib.hid hD
    clear hD
    by_cases hz : gk = 0
    · subst hz
      have HL := Lib.hid (HD.out.1 rfl)
      rw [show ((0 : Nat) : Int) = 0 from rfl]
      go_wp2
      go_ret
      exact ⟨by rw [← HL.out]; rfl, hbel⟩
    · have hnb : ((gk : Int) != 0) = true := by rw [bne_iff_ne]; omega
      have hd1 : 0 ≤ (gk : Int) % 10 := by omega
      have hd2 : (gk : Int) % 10 ≤ 9 := by omega
      have hcv := conv_one ((gk : Int) % 10) hd1 hd2 wr
      have hll : l.length ≤ 20 := by
        have e := congrArg List.length (HD.out.2 (by omega))
        rw [Lib.decDigits_length, List.length_append] at e
        have := Lib.nDigits_le20 N (by omega)
        omega
      go_wp2
      go_roundg (gk / 10)
      case measure => omega
      case rel => exact ⟨⟨UInt8.ofNat (48 + gk % 10) :: l, by omega, by go_num, str_cons _ _, HD.out.step (by omega)⟩, hbel.alloc hbel.size _⟩

structure NegLoop (N : Nat) (w : World) (m : Nat) (n s : Value) (wr : World) : Prop where
  ex : ∃ l : List UInt8, m ≤ N ∧ n = .int .i64 (-(m : Int)) ∧ s = .string ⟨l.toArray⟩ ∧ DigRel N m l
  below : Below w.heap.size w wr

theorem ret_v {a b : Value} (h : a = b) : Ending.returned a = .returned b := by rw [h]
theorem str_neg (l : List UInt8) : Value.string ((⟨#[45]⟩ : ByteArray) ++ (⟨l.toArray⟩ : ByteArray)) = Value.string ⟨(45 :: l).toArray⟩ := by
  congr 1
theorem str_nought (l : List UInt8) (x : Nat) (h : x = 0) : Value.string ((⟨#[48]⟩ : ByteArray) ++ (⟨l.toArray⟩ : ByteArray)) = Value.string ⟨(UInt8.ofNat (48 + x) :: l).toArray⟩ := by
  subst h
  congr 1
theorem neg_tmod (k : Nat) : (-(k : Int)).tmod 10 = -((k : Int) % 10) := by rw [Int.neg_tmod, Int.tmod_eq_emod_of_nonneg (by omega)]
theorem neg_tdiv (k : Nat) : (-(k : Int)).tdiv 10 = -((k : Int) / 10) := by rw [Int.neg_tdiv, Int.tdiv_eq_ediv_of_nonneg (by omega)]

set_option maxHeartbeats 1600000 in
set_option maxRecDepth 100000 in
theorem digitsRef_neg (N : Nat) (h0 : 0 < N) (h1 : N ≤ 9223372036854775808) (w : World) :
    Calls Tryz.prog 19 #[.int .i64 (-(N : Int))] w fun e w' => e = .returned (.string ⟨(45 :: Lib.decDigits N).toArray⟩) ∧ Below w.heap.size w w' := by
  have hb : (-(N : Int) == 0) = false := by rw [beq_eq_false_iff_ne]; omega
  have hb2 : -(N : Int) < 0 := by omega
  have H0 : Hid (NegLoop N w N (.int .i64 (-(N : Int))) (.string ⟨#[]⟩) w) := ⟨⟨[], Nat.le_refl _, rfl, rfl, ⟨fun h => by omega, fun _ => by simp⟩⟩, Below.refl _ _⟩
  have hlen : (Lib.decDigits N).length ≤ 20 := by rw [Lib.decDigits_length]; exact Lib.nDigits_le20 N (by omega)
  go_enter Tryz.func19, Tryz.ntmps19
  go_wp2
  go_loopg [0, 3] N (fun k n s wr => NegLoop N w k n s wr)
  case atStart => exact H0.out
  case round =>
    obtain ⟨⟨l, hm, rfl, rfl, hD⟩, hbel⟩ := hrel
    have HD := Lib.hid hD
    clear hD
    by_cases hz : gk = 0
    · subst hz
      have HL := HD.out.1 rfl
      subst HL
      rw [show (-((0 : Nat) : Int)) = 0 from rfl]
      go_wp2
      go_ret
      exact ⟨ret_v (str_neg _), hbel⟩
    · have hnb : (-(gk : Int) != 0) = true := by rw [bne_iff_ne]; omega
      have hd1 : 0 ≤ (gk : Int) % 10 := by omega
      have hd2 : (gk : Int) % 10 ≤ 9 := by omega
      have hcv := conv_one ((gk : Int) % 10) hd1 hd2 wr
      have ht := neg_tmod gk
      have hq := neg_tdiv gk
      have hll : l.length ≤ 20 := by
        have e := congrArg List.length (HD.out.2 (by omega))
        rw [Lib.decDigits_length, List.length_append] at e
        have := Lib.nDigits_le20 N (by omega)
        omega
      by_cases hp : 0 < (gk : Int) % 10
      · go_wp2
        go_roundg (gk / 10)
        case measure => omega
        case rel => exact ⟨⟨UInt8.ofNat (48 + gk % 10) :: l, by omega, by congr 1, str_cons _ _, HD.out.step (by omega)⟩, hbel.alloc hbel.size _⟩
      · have h10 : (gk : Int) % 10 = 0 := by omega
        have ht0 : (-(gk : Int)).tmod 10 = 0 := by rw [ht, h10]; rfl
        have hcv0 : (convert 92 9 (.slice (some ⟨wr.heap.size, 0, none⟩) 1 1)).run Tryz.prog (wr.alloc (.cells #[.int .u8 48] 5)) = .ok (.string ⟨#[48]⟩) (wr.alloc (.cells #[.int .u8 48] 5)) := conv_one 0 (by decide) (by decide) wr
        clear ht hcv hd1 hd2 hp h10
        go_wp2
        go_roundg (gk / 10)
        case measure => omega
        case rel => exact ⟨⟨UInt8.ofNat (48 + gk % 10) :: l, by omega, by congr 1, str_nought _ _ (by have := neg_tmod gk; omega), HD.out.step (by omega)⟩, hbel.alloc hbel.size _⟩

theorem digitsRef_any (n : Int) (h0 : -9223372036854775808 ≤ n) (h1 : n ≤ 9223372036854775807) (w : World) :
    Calls Tryz.prog 19 #[.int .i64 n] w fun e w' => e = .returned (.string ⟨(Lib.itoa n).toArray⟩) ∧ Below w.heap.size w w' := by
  by_cases hz : n = 0
  · subst hz; exact digitsRef_zero w
  · by_cases hn : n < 0
    · obtain ⟨u, rfl⟩ : ∃ u : Nat, n = -(u : Int) := ⟨n.natAbs, by omega⟩
      rw [Lib.itoa_neg u (by omega)]
      exact digitsRef_neg u (by omega) (by omega) w
    · obtain ⟨u, rfl⟩ : ∃ u : Nat, n = u := ⟨n.toNat, by omega⟩
      rw [Lib.itoa_nonneg]
      exact digitsRef_pos u (by omega) (by omega) w
end Go.Proofs.YtlcpbfklnjlgnaaGreatDoor

namespace Go.Proofs.YtlcpbfklnjlgnaaGreatDoor
open Go.ChangeShapes Go.WideShapes Go.ChangeAt Go.RowKit

/-- The four listed variables. -/
def loneQ : List (String × DataW Unit) := [("math/bits.deBruijn32tab", Rows.laid_math_bits_deBruijn32tab), ("math/bits.deBruijn64tab", Rows.laid_math_bits_deBruijn64tab), ("internal/strconv.uint64pow10", Rows.laid_internal_strconv_uint64pow10), ("errors.errorType", Rows.laid_errors_errorType)]
theorem pow10_data : (Rows.laid_internal_strconv_uint64pow10 : DataW Unit) = Lib.tabData .u64 Lib.pow10Tab := by kernel_rfl
theorem powType : (Tryz.prog.globals[2]?).map (·.type) = some 227 := by kernel_rfl
theorem powCells : Tryz.prog.cellsOf 227 = 20 := by kernel_rfl
theorem powCell : Tryz.prog.cellsOf 54 = 1 := by kernel_rfl
theorem handle_of_laidQ {W : World} (h : laidMetH Tryz.prog loneQ W) : Handle W := by
  have h' : laidMet Tryz.prog (loneQ.take 3) W ∧ handlesMet Tryz.prog [("errors.errorType", Rows.laid_errors_errorType)] W := h
  exact handle_of_met (List.mem_singleton.2 rfl) h'.2
theorem pow_of_laidQ {W : World} (h : laidMetH Tryz.prog loneQ W) : Tab W := by
  have h' : laidMet Tryz.prog (loneQ.take 3) W ∧ handlesMet Tryz.prog [("errors.errorType", Rows.laid_errors_errorType)] W := h
  obtain ⟨ps, ⟨_, _, _, _, _, _, _, _, _, _, ⟨_, _, _, _, _, _, _, _, _, _, ⟨g, t, cs, fuel, p, q, hg, ht, hvar, hd, _, _⟩, _⟩, _⟩, _⟩ := h'.1
  obtain rfl := Option.some.inj (powGlobal.symm.trans hg)
  obtain rfl := Option.some.inj (powType.symm.trans ht)
  rw [pow10_data] at hd
  unfold Tab Lib.TabIs
  rw [hvar, ← Lib.cells_of_tab Tryz.underlying227 Tryz.underlying54 powCell powCells hd]
theorem tab_of_laidQ {W : World} (h : laidMetH Tryz.prog loneQ W) : TabB W := by
  have h' : laidMet Tryz.prog (loneQ.take 3) W ∧ handlesMet Tryz.prog [("errors.errorType", Rows.laid_errors_errorType)] W := h
  obtain ⟨ps, ⟨_, _, _, _, _, _, _, _, _, _, ⟨g, t, cs, fuel, p, q, hg, ht, hvar, hd, _, _⟩, _⟩, _⟩ := h'.1
  obtain rfl := Option.some.inj (tabGlobal.symm.trans hg)
  obtain rfl := Option.some.inj (tabType.symm.trans ht)
  rw [tab_data] at hd
  have hs : Lib.TabIs Tryz.prog W "math/bits.deBruijn64tab" .u8 (Lib.deBruijn64tab.map Int.ofNat) := by
    unfold Lib.TabIs
    rw [hvar, ← Lib.cells_of_tab Tryz.underlying212 Tryz.underlying5 tabCell tabCells hd]
  unfold Lib.TabIs at hs
  have hc := fun i => World.var?_cell tabGlobal hs i
  refine ⟨?_, fun j hj => ?_⟩
  · have := hc 0
    exact World.block_lt_of_cell? W ⟨1, 0, none⟩ (this.trans rfl)
  · have := hc j
    rw [this]
    simp [hj]
theorem laidWorldT_metQ (os : Os) (args : Array Value) : laidMetH Tryz.prog loneQ ((laidWorldT os).forCall (fun _ _ => 0) ⟨#[], args, []⟩).memory :=
  laidMetH_of_parts3 (fuel := 8) (laidMet_of_run' 8 (by kernel_rfl) (by kernel_rfl)) (by kernel_rfl) (by kernel_rfl)
end Go.Proofs.YtlcpbfklnjlgnaaGreatDoor
