/-
  Package ink by contracts: an array's values written into a builder.
-/
import Derived.Test.YtabcbeolhhdkpaaGreatDoorInkE
namespace Go.Proofs.YtabcbeolhhdkpaaGreatDoor
open Go.RowKit Go.Extern.Stop Go.Stop Go.Extern

set_option maxRecDepth 100000 in
set_option maxHeartbeats 16000000 in
theorem writeArr_any (m : Nat) (ih : WrSpec m) (B b : Nat) (l : List UInt8) (list : List Val) (keys : List ByteArray) (xs : List Value) (w : World) (k : Int) (t : ByteArray) (u : Int) (a : Option Addr) (c : Nat) (a' : Option Addr) (c' : Nat) (z : Int)
    (hk6 : k ≠ 6) (hsz : SizeOf.sizeOf list ≤ m) (hw : ∀ x ∈ list, WholeV x) (hl : RowIn (fun q => q < B) w (.slice a list.length c) list.length xs) (hv : ValsC (fun q => q < B) w xs list)
    (h : BldAt B b (Lib.byteCells l) w) (hB : B ≤ w.heap.size) (hpw : 1 < B) (hT : Tab w) (hle : (l ++ inkJ false keys (inkVs list) list.length).length ≤ 1000000) (hll : list.length ≤ 1000000) :
    Calls Tryz.prog 39 #[.pointer (some ⟨b, 0, none⟩), .agg #[.int .i64 k, .string t, .int .u64 u, .slice a list.length c, .slice a' keys.length c', .int .i64 z]] w (SgP B b (l ++ inkJ false keys (inkVs list) list.length) w) := by
  have HIH := Lib.hid ih
  have HVS := Lib.hid hv
  have HROW := Lib.hid hl
  have H0 := Lib.hid (WvS.start h hB (.int .i64 k) (.string t) (.int .u64 u) (.slice a list.length c) (.slice a' keys.length c') (.int .i64 z))
  have HTab := Lib.hid (fun W (hW : Below B w W) => hT.keepB hW hpw)
  have HBy := Lib.hid (fun (l : List UInt8) (c : UInt8) (x : Int) (hx : x = (c.toNat : Int)) W h hl hB => byte_any B b l c x hx W h hl hB)
  have HSt := Lib.hid (fun l s W h hl hB => string_any B b l s W h hl hB)
  have HQu := Lib.hid (fun s hs W => quote_any s hs W)
  have q6 : (k == 6) = false := by rw [beq_eq_false_iff_ne]; exact hk6
  clear ih hv hl h hT
  obtain ⟨s0, s1, s2, s3, s4, s5⟩ := H0.out.six.cells
  go_enter Tryz.func39, Tryz.ntmps39
  go_wp2_with fail
  clear s0 s1 s2 s3 s4 s5
  go_loopg [9] list.length (fun g v wr => WvR B b l w w.heap.size (.int .i64 k) (.string t) (.int .u64 u) (.slice a list.length c) (.slice a' keys.length c') (.int .i64 z) (inkJ false keys (inkVs list)) list.length g v wr)
  case atStart => exact ⟨0, Nat.zero_le _, by omega, rfl, by simpa [inkJ] using H0.out⟩
  case round =>
    clear H0
    obtain ⟨i, hi, hgi, rfl, hst⟩ := hrel
    by_cases hlt : i < list.length
    · obtain ⟨x, hx⟩ : ∃ x, list[i]? = some x := ⟨_, List.getElem?_eq_getElem hlt⟩
      obtain ⟨d0, d1, d2, d3, d4, d5, hvx, e0, e1, e2, e3, e4, e5⟩ := ValsC.at' HVS.out hx
      obtain ⟨b0, o, rfl, hc⟩ : ∃ b0 o, a = some ⟨b0, o, none⟩ ∧ b0 < B ∧ ∀ j u, xs[j]? = some u → w.cell? ⟨b0, o + j, none⟩ = some u := by
        rcases HROW.out with ⟨h0, -⟩ | ⟨b0, o, c, e, hP, -, hc⟩
        · omega
        · injection e with e; exact ⟨b0, o, e, hP, hc⟩
      obtain ⟨k2, t2, n2, a2, l2, c2, a3, l3, c3, z2, ed⟩ := hvx.form
      simp only [List.cons.injEq, and_true] at ed
      obtain ⟨rfl, rfl, rfl, rfl, rfl, rfl⟩ := ed
      have hj : ∀ j u, xs[6 * i + j]? = some u → wr.cell? ⟨b0, o + i * 6 + j, none⟩ = some u := fun j u hu => by
        rw [show o + i * 6 + j = o + (6 * i + j) by omega]
        exact (hst.below.cell (p := ⟨b0, _, none⟩) hc.1).trans (hc.2 _ _ hu)
      have f0 := hj 0 _ e0
      rw [Nat.add_zero] at f0
      have f1 := hj 1 _ e1
      have f2 := hj 2 _ e2
      have f3 := hj 3 _ e3
      have f4 := hj 4 _ e4
      have f5 := hj 5 _ e5
      have HVX := Lib.hid (fun W (hW : Below B w W) => hvx.move (P' := fun q => q < B) hW.size (fun q hP _ => ⟨hP, hW.block q hP⟩))
      have HSX : Hid (SizeOf.sizeOf x < m) := Lib.hid (by have := sizeOf_mem hx; omega)
      have HWX : Hid (WholeV x) := Lib.hid (hw x (List.mem_of_getElem? hx))
      have hJ : inkJ false keys (inkVs list) (i + 1) = inkJ false keys (inkVs list) i ++ (if i = 0 then [] else [44]) ++ [] ++ inkV x := by rw [inkV_pos, inkVs_at hx]; simp
      have HLEN : Hid (l.length + (inkJ false keys (inkVs list) i).length + 1 + (inkV x).length ≤ 1000001) := Lib.hid (by
        have h1 := inkJ_le false keys (inkVs list) list.length (i + 1) hlt
        rw [hJ] at h1
        simp only [List.length_append, List.length_cons, List.length_nil] at h1 hle
        split at h1 <;> (simp only [List.length_cons, List.length_nil] at h1; omega))
      have HLE2 : i ≠ 0 → l.length + (inkJ false keys (inkVs list) i).length + 1 + (inkV x).length ≤ 1000000 := fun h => by
        have h1 := inkJ_le false keys (inkVs list) list.length (i + 1) hlt
        rw [hJ, if_neg h] at h1
        simp only [List.length_append, List.length_cons, List.length_nil] at h1 hle
        omega
      have bn := sbelow_new wr (.cells #[.int .i64 k2, .string t2, .int .u64 n2, .slice a2 l2 c2, .slice a3 l3 c3, .int .i64 z2] 28)
      have HS1 := Lib.hid (hst.next bn)
      have HT1 : Hid (SixAt (wr.alloc (.cells #[.int .i64 k2, .string t2, .int .u64 n2, .slice a2 l2 c2, .slice a3 l3 c3, .int .i64 z2] 28)) wr.heap.size (.int .i64 k2) (.string t2) (.int .u64 n2) (.slice a2 l2 c2) (.slice a3 l3 c3) (.int .i64 z2)) := Lib.hid (heap_alloc_new wr _)
      have HNE : Hid (wr.heap.size ≠ b) := Lib.hid (by have := hst.bld.lt; omega)
      obtain ⟨s0, s1, s2, s3, s4, s5⟩ := HS1.out.six.cells
      clear hx hvx e0 e1 e2 e3 e4 e5 hc hj hst bn
      by_cases h0 : i = 0
      · subst h0
        clear HLE2
        rw [if_pos rfl] at hJ
        have HE := Lib.hid hJ
        have hi0 : ¬ (0 : Int) < ((0 : Nat) : Int) := by omega
        simp only [Nat.zero_mul, Nat.add_zero] at f0 f1 f2 f3 f4 f5
        clear hJ
        have HS2 := Lib.hid HS1.out
        have HT2 := Lib.hid HT1.out
        obtain ⟨y0, y1, y2, y3, y4, y5⟩ := HT2.out.cells
        clear HS1 HT1
        go_wp2_with fail
        have HS := Lib.hid HS2.out
        clear HS2 HT2
        refine (HIH.out x HSX.out HWX.out B b _ _ k2 t2 n2 a2 l2 c2 a3 l3 c3 z2 (HVX.out _ HS.out.below) HS.out.bld HS.out.size hpw (HTab.out _ HS.out.below) (by have := HLEN.out; simp only [List.length_append, List.length_cons, List.length_nil]; omega)).mono ?_
        rintro e w9 ⟨rfl, h9, b9, o9⟩
        have hS9 := HS.out.more h9 b9 o9
        have HN : Hid (WvR B b l w w.heap.size (.int .i64 k) (.string t) (.int .u64 u) (.slice (some ⟨b0, o, none⟩) list.length c) (.slice a' keys.length c') (.int .i64 z) (inkJ false keys (inkVs list)) list.length (list.length - (0 + 1)) (.int .i64 ((0 : Nat) + 1 : Int)) w9) := Lib.hid ⟨0 + 1, by omega, rfl, by go_num, by rw [HE.out]; simpa using hS9⟩
        clear hS9 h9 b9 o9 HS y0 y1 y2 y3 y4 y5
        go_wp2_with fail
        go_roundg (list.length - (0 + 1))
        case measure => omega
        case rel => exact HN.out
      · have HLEN := Lib.hid (HLE2 h0)
        clear HLE2
        rw [if_neg h0] at hJ
        have HE := Lib.hid hJ
        have hi0 : (0 : Int) < (i : Int) := by omega
        have hi0n : 0 < i := by omega
        clear hJ h0
        go_wp2_with fail
        refine (HBy.out _ 44 44 rfl _ HS1.out.bld (by have := HLEN.out; simp only [List.length_append]; omega) HS1.out.size).mono ?_
        rintro e w2 ⟨rfl, h2, b2, o2⟩
        have HS2 := Lib.hid (HS1.out.more h2 b2 o2)
        have HT2 := Lib.hid (six_others HT1.out o2 HNE.out)
        clear h2 b2 o2 HS1 HT1 s0 s1 s2 s3 s4 s5
        obtain ⟨s0, s1, s2, s3, s4, s5⟩ := HS2.out.six.cells
        obtain ⟨y0, y1, y2, y3, y4, y5⟩ := HT2.out.cells
        go_wp2_with fail
        have HS := Lib.hid HS2.out
        clear HS2 HT2
        refine (HIH.out x HSX.out HWX.out B b _ _ k2 t2 n2 a2 l2 c2 a3 l3 c3 z2 (HVX.out _ HS.out.below) HS.out.bld HS.out.size hpw (HTab.out _ HS.out.below) (by have := HLEN.out; simp only [List.length_append, List.length_cons, List.length_nil]; omega)).mono ?_
        rintro e w9 ⟨rfl, h9, b9, o9⟩
        have hS9 := HS.out.more h9 b9 o9
        have HN : Hid (WvR B b l w w.heap.size (.int .i64 k) (.string t) (.int .u64 u) (.slice (some ⟨b0, o, none⟩) list.length c) (.slice a' keys.length c') (.int .i64 z) (inkJ false keys (inkVs list)) list.length (list.length - (i + 1)) (.int .i64 ((i : Nat) + 1 : Int)) w9) := Lib.hid ⟨i + 1, by omega, rfl, by go_num, by rw [HE.out]; simpa using hS9⟩
        clear hS9 h9 b9 o9 HS y0 y1 y2 y3 y4 y5
        go_wp2_with fail
        go_roundg (list.length - (i + 1))
        case measure => omega
        case rel => exact HN.out
    · obtain rfl : i = list.length := by omega
      have HP := Lib.hid hst.post
      clear hst
      go_wp2_with fail
      go_end0
      exact HP.out
end Go.Proofs.YtabcbeolhhdkpaaGreatDoor
