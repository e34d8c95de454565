/-
  Package ink by contracts: a value written into a builder.
-/
import Derived.Test.YtabcbeolhhdkpaaGreatDoorInkD
namespace Go.Proofs.YtabcbeolhhdkpaaGreatDoor
open Go.RowKit Go.Extern.Stop Go.Stop Go.Extern

/-- A block that is no row of bytes, and not the builder's, stands as it stood. -/
theorem six_others {b q : Nat} {w w' : World} {c0 c1 c2 c3 c4 c5 : Value} (h : SixAt w q c0 c1 c2 c3 c4 c5) (ho : Others b w w') (hq : q ≠ b) : SixAt w' q c0 c1 c2 c3 c4 c5 :=
  ho q _ h (fun e => hq (by injection e)) (fun c fz e => by injection e with _ e; exact absurd e (by decide))
theorem others_below {b : Nat} {w w' : World} (h : Below w.heap.size w w') : Others b w w' := fun k _ hk _ _ => (h.block k (Array.getElem?_eq_some_iff.1 hk).1).trans hk
theorem BldAt.lt {B b : Nat} {bs : List Value} {w : World} (h : BldAt B b bs w) : b < w.heap.size := by
  rcases h with ⟨_, v, hbk, -⟩ | ⟨_, v, hbk, -⟩ <;> exact (Array.getElem?_eq_some_iff.1 hbk).1
/-- Within a call that writes: the builder, the box of the value. -/
structure WvS (B b : Nat) (l : List UInt8) (w : World) (q : Nat) (c0 c1 c2 c3 c4 c5 : Value) (W : World) : Prop where
  bld : BldAt B b (Lib.byteCells l) W
  below : Below B w W
  oth : Others b w W
  six : SixAt W q c0 c1 c2 c3 c4 c5
  ne : q ≠ b
  sz : B ≤ w.heap.size
theorem WvS.size {B b : Nat} {l : List UInt8} {w : World} {q : Nat} {c0 c1 c2 c3 c4 c5 : Value} {W : World} (h : WvS B b l w q c0 c1 c2 c3 c4 c5 W) : B ≤ W.heap.size := Nat.le_trans h.sz h.below.size
theorem WvS.start {B b : Nat} {l : List UInt8} {w : World} (h : BldAt B b (Lib.byteCells l) w) (hB : B ≤ w.heap.size) (c0 c1 c2 c3 c4 c5 : Value) : WvS B b l w w.heap.size c0 c1 c2 c3 c4 c5 (w.alloc (.cells #[c0, c1, c2, c3, c4, c5] 28)) :=
  have hb := sbelow_new w (.cells #[c0, c1, c2, c3, c4, c5] 28)
  ⟨h.step hb, hb.mono hB, others_below hb, heap_alloc_new w _, by have := h.lt; omega, hB⟩
theorem WvS.more {B b : Nat} {l l' : List UInt8} {w : World} {q : Nat} {c0 c1 c2 c3 c4 c5 : Value} {W W' : World} (h : WvS B b l w q c0 c1 c2 c3 c4 c5 W) (h1 : BldAt B b (Lib.byteCells l') W') (h2 : Below B W W') (h3 : Others b W W') : WvS B b l' w q c0 c1 c2 c3 c4 c5 W' :=
  ⟨h1, h.below.trans h2, h.oth.trans h3, six_others h.six h3 h.ne, h.ne, h.sz⟩
theorem WvS.next {B b : Nat} {l : List UInt8} {w : World} {q : Nat} {c0 c1 c2 c3 c4 c5 : Value} {W W' : World} (h : WvS B b l w q c0 c1 c2 c3 c4 c5 W) (hb : Below W.heap.size W W') : WvS B b l w q c0 c1 c2 c3 c4 c5 W' :=
  h.more (h.bld.step hb) (hb.mono h.size) (others_below hb)
theorem WvS.post {B b : Nat} {l : List UInt8} {w : World} {q : Nat} {c0 c1 c2 c3 c4 c5 : Value} {W : World} (h : WvS B b l w q c0 c1 c2 c3 c4 c5 W) : SgP B b l w (.returned (.tuple #[])) W := ⟨rfl, h.bld, h.below, h.oth⟩
/-- What writing a value answers, for values of less than so much. -/
def WrSpec (n : Nat) : Prop := ∀ x : Val, SizeOf.sizeOf x < n → WholeV x → ∀ (B b : Nat) (l : List UInt8) (w : World) (k : Int) (t : ByteArray) (u : Int) (a : Option Addr) (c d : Nat) (a' : Option Addr) (c' d' : Nat) (z : Int),
  ValC (fun q => q < B) w [.int .i64 k, .string t, .int .u64 u, .slice a c d, .slice a' c' d', .int .i64 z] x → BldAt B b (Lib.byteCells l) w → B ≤ w.heap.size → 1 < B → Tab w → (l ++ inkV x).length ≤ 1000000 →
  Calls Tryz.prog 23 #[.pointer (some ⟨b, 0, none⟩), .agg #[.int .i64 k, .string t, .int .u64 u, .slice a c d, .slice a' c' d', .int .i64 z]] w (SgP B b (l ++ inkV x) w)
theorem inkV_pos (obj : Bool) (keys : List ByteArray) (ts : List (List UInt8)) (i : Nat) : inkJ obj keys ts (i + 1) = inkJ obj keys ts i ++ (if i = 0 then [] else [44]) ++ (if obj then quoL (keys.getD i ⟨#[]⟩).data.toList ++ [58] else []) ++ ts.getD i [] := rfl
def WvR (B b : Nat) (l : List UInt8) (w : World) (q : Nat) (c0 c1 c2 c3 c4 c5 : Value) (J : Nat → List UInt8) (n g : Nat) (v : Value) (wr : World) : Prop :=
  ∃ i : Nat, i ≤ n ∧ g = n - i ∧ v = .int .i64 i ∧ WvS B b (l ++ J i) w q c0 c1 c2 c3 c4 c5 wr
theorem Tab.keepB {w W : World} {B : Nat} (h : Tab w) (hW : Below B w W) (hp : 1 < B) : Tab W := by
  unfold Tab Lib.TabIs World.var? at *
  rw [powGlobal] at *
  rw [Option.bind_some] at *
  rw [hW.block _ hp]
  exact h
set_option maxRecDepth 100000 in
set_option maxHeartbeats 16000000 in
theorem writeObj_any (m : Nat) (ih : WrSpec m) (B b : Nat) (l : List UInt8) (list : List Val) (keys : List ByteArray) (xs : List Value) (w : World) (k : Int) (t : ByteArray) (u : Int) (a : Option Addr) (c : Nat) (a' : Option Addr) (c' : Nat) (z : Int)
    (hk6 : k = 6) (hsz : SizeOf.sizeOf list ≤ m) (hw : ∀ x ∈ list, WholeV x) (hkn : keys.length = list.length) (hks : ∀ s ∈ keys, s.size ≤ 100000) (hk : RowIn (fun q => q < B) w (.slice a' keys.length c') keys.length (keys.map Value.string)) (hl : RowIn (fun q => q < B) w (.slice a list.length c) list.length xs) (hv : ValsC (fun q => q < B) w xs list)
    (h : BldAt B b (Lib.byteCells l) w) (hB : B ≤ w.heap.size) (hpw : 1 < B) (hT : Tab w) (hle : (l ++ inkJ true keys (inkVs list) list.length).length ≤ 1000000) (hll : list.length ≤ 1000000) :
    Calls Tryz.prog 39 #[.pointer (some ⟨b, 0, none⟩), .agg #[.int .i64 k, .string t, .int .u64 u, .slice a list.length c, .slice a' keys.length c', .int .i64 z]] w (SgP B b (l ++ inkJ true keys (inkVs list) list.length) w) := by
  have HIH := Lib.hid ih
  have HVS := Lib.hid hv
  have HROW := Lib.hid hl
  have HKR := Lib.hid hk
  have HKN := Lib.hid hkn
  clear hk hkn
  have H0 := Lib.hid (WvS.start h hB (.int .i64 k) (.string t) (.int .u64 u) (.slice a list.length c) (.slice a' keys.length c') (.int .i64 z))
  have HTab := Lib.hid (fun W (hW : Below B w W) => hT.keepB hW hpw)
  have HBy := Lib.hid (fun (l : List UInt8) (c : UInt8) (x : Int) (hx : x = (c.toNat : Int)) W h hl hB => byte_any B b l c x hx W h hl hB)
  have HSt := Lib.hid (fun l s W h hl hB => string_any B b l s W h hl hB)
  have HQu := Lib.hid (fun s hs W => quote_any s hs W)
  have q6 : (k == 6) = true := by rw [hk6]; rfl
  clear ih hv hl h hT hk6
  obtain ⟨s0, s1, s2, s3, s4, s5⟩ := H0.out.six.cells
  go_enter Tryz.func39, Tryz.ntmps39
  go_wp2_with fail
  clear s0 s1 s2 s3 s4 s5
  go_loopg [9] list.length (fun g v wr => WvR B b l w w.heap.size (.int .i64 k) (.string t) (.int .u64 u) (.slice a list.length c) (.slice a' keys.length c') (.int .i64 z) (inkJ true keys (inkVs list)) list.length g v wr)
  case atStart => exact ⟨0, Nat.zero_le _, by omega, rfl, by simpa [inkJ] using H0.out⟩
  case round =>
    clear H0
    obtain ⟨i, hi, hgi, rfl, hst⟩ := hrel
    by_cases hlt : i < list.length
    · obtain ⟨x, hx⟩ : ∃ x, list[i]? = some x := ⟨_, List.getElem?_eq_getElem hlt⟩
      obtain ⟨d0, d1, d2, d3, d4, d5, hvx, e0, e1, e2, e3, e4, e5⟩ := ValsC.at' HVS.out hx
      obtain ⟨b0, o, rfl, hc⟩ : ∃ b0 o, a = some ⟨b0, o, none⟩ ∧ b0 < B ∧ ∀ j u, xs[j]? = some u → w.cell? ⟨b0, o + j, none⟩ = some u := by
        rcases HROW.out with ⟨h0, -⟩ | ⟨b0, o, c, e, hP, -, hc⟩
        · omega
        · injection e with e; exact ⟨b0, o, e, hP, hc⟩
      obtain ⟨k2, t2, n2, a2, l2, c2, a3, l3, c3, z2, ed⟩ := hvx.form
      simp only [List.cons.injEq, and_true] at ed
      obtain ⟨rfl, rfl, rfl, rfl, rfl, rfl⟩ := ed
      have hj : ∀ j u, xs[6 * i + j]? = some u → wr.cell? ⟨b0, o + i * 6 + j, none⟩ = some u := fun j u hu => by
        rw [show o + i * 6 + j = o + (6 * i + j) by omega]
        exact (hst.below.cell (p := ⟨b0, _, none⟩) hc.1).trans (hc.2 _ _ hu)
      have f0 := hj 0 _ e0
      rw [Nat.add_zero] at f0
      have f1 := hj 1 _ e1
      have f2 := hj 2 _ e2
      have f3 := hj 3 _ e3
      have f4 := hj 4 _ e4
      have f5 := hj 5 _ e5
      have hkl : i < keys.length := by rw [HKN.out]; exact hlt
      obtain ⟨ky, hky⟩ : ∃ ky, keys[i]? = some ky := ⟨_, List.getElem?_eq_getElem hkl⟩
      obtain ⟨kb, ko, rfl, hkc⟩ : ∃ kb ko, a' = some ⟨kb, ko, none⟩ ∧ kb < B ∧ w.cell? ⟨kb, ko + i, none⟩ = some (.string ky) := by
        rcases HKR.out with ⟨h0, -⟩ | ⟨kb, ko, c, e, hP, -, hc⟩
        · omega
        · injection e with e
          exact ⟨kb, ko, e, hP, hc i _ (by rw [List.getElem?_map, hky]; rfl)⟩
      have HKC := Lib.hid (fun W (hW : Below B w W) => (hW.cell (p := ⟨kb, ko + i, none⟩) hkc.1).trans hkc.2)
      have HKL : Hid (ky.size ≤ 100000) := Lib.hid (hks ky (List.mem_of_getElem? hky))
      have hgd : keys.getD i ⟨#[]⟩ = ky := by rw [List.getD, hky]; rfl
      have HVX := Lib.hid (fun W (hW : Below B w W) => hvx.move (P' := fun q => q < B) hW.size (fun q hP _ => ⟨hP, hW.block q hP⟩))
      have HSX : Hid (SizeOf.sizeOf x < m) := Lib.hid (by have := sizeOf_mem hx; omega)
      have HWX : Hid (WholeV x) := Lib.hid (hw x (List.mem_of_getElem? hx))
      have hJ : inkJ true keys (inkVs list) (i + 1) = inkJ true keys (inkVs list) i ++ (if i = 0 then [] else [44]) ++ (quoL ky.data.toList ++ [58]) ++ inkV x := by rw [inkV_pos, inkVs_at hx, hgd]; simp
      have HLEN : Hid (l.length + (inkJ true keys (inkVs list) i).length + 1 + (quoL ky.data.toList).length + 1 + (inkV x).length ≤ 1000001) := Lib.hid (by
        have h1 := inkJ_le true keys (inkVs list) list.length (i + 1) hlt
        rw [hJ] at h1
        simp only [List.length_append, List.length_cons, List.length_nil] at h1 hle
        split at h1 <;> (simp only [List.length_cons, List.length_nil] at h1; omega))
      have HLE2 : i ≠ 0 → l.length + (inkJ true keys (inkVs list) i).length + 1 + (quoL ky.data.toList).length + 1 + (inkV x).length ≤ 1000000 := fun h => by
        have h1 := inkJ_le true keys (inkVs list) list.length (i + 1) hlt
        rw [hJ, if_neg h] at h1
        simp only [List.length_append, List.length_cons, List.length_nil] at h1 hle
        omega
      have bn := sbelow_new wr (.cells #[.int .i64 k2, .string t2, .int .u64 n2, .slice a2 l2 c2, .slice a3 l3 c3, .int .i64 z2] 28)
      have HS1 := Lib.hid (hst.next bn)
      have HT1 : Hid (SixAt (wr.alloc (.cells #[.int .i64 k2, .string t2, .int .u64 n2, .slice a2 l2 c2, .slice a3 l3 c3, .int .i64 z2] 28)) wr.heap.size (.int .i64 k2) (.string t2) (.int .u64 n2) (.slice a2 l2 c2) (.slice a3 l3 c3) (.int .i64 z2)) := Lib.hid (heap_alloc_new wr _)
      have HNE : Hid (wr.heap.size ≠ b) := Lib.hid (by have := hst.bld.lt; omega)
      obtain ⟨s0, s1, s2, s3, s4, s5⟩ := HS1.out.six.cells
      clear hx hvx e0 e1 e2 e3 e4 e5 hc hj hst bn
      by_cases h0 : i = 0
      · subst h0
        clear HLE2
        rw [if_pos rfl] at hJ
        have HE := Lib.hid hJ
        have hi0 : ¬ (0 : Int) < ((0 : Nat) : Int) := by omega
        simp only [Nat.zero_mul, Nat.add_zero] at f0 f1 f2 f3 f4 f5
        clear hJ
        have HS2 := Lib.hid HS1.out
        have HT2 := Lib.hid HT1.out
        have kc := HKC.out _ HS2.out.below
        rw [Nat.add_zero] at kc
        clear HS1 HT1
        go_wp2_with fail
        refine (HQu.out ky HKL.out _).mono ?_
        rintro e w3 ⟨rfl, b3⟩
        have HS3 := Lib.hid (HS2.out.next b3)
        have HT3 := Lib.hid (HT2.out.step b3)
        clear b3 HS2 HT2 s0 s1 s2 s3 s4 s5 kc
        go_wp2_with fail
        refine (HSt.out _ _ _ HS3.out.bld (by have := HLEN.out; rw [sizeQ]; simp only [List.length_append, List.length_cons, List.length_nil]; omega) HS3.out.size).mono ?_
        rintro e w4 ⟨rfl, h4, b4, o4⟩
        have HS4 := Lib.hid (HS3.out.more h4 b4 o4)
        have HT4 := Lib.hid (six_others HT3.out o4 HNE.out)
        clear h4 b4 o4 HS3 HT3
        go_wp2_with fail
        refine (HBy.out _ 58 58 rfl _ HS4.out.bld (by have := HLEN.out; simp only [List.length_append, List.length_cons, List.length_nil, List.toList_toArray]; omega) HS4.out.size).mono ?_
        rintro e w5 ⟨rfl, h5, b5, o5⟩
        have HS := Lib.hid (HS4.out.more h5 b5 o5)
        have HT := Lib.hid (six_others HT4.out o5 HNE.out)
        clear h5 b5 o5 HS4 HT4
        obtain ⟨y0, y1, y2, y3, y4, y5⟩ := HT.out.cells
        go_wp2_with fail
        refine (HIH.out x HSX.out HWX.out B b _ _ k2 t2 n2 a2 l2 c2 a3 l3 c3 z2 (HVX.out _ HS.out.below) HS.out.bld HS.out.size hpw (HTab.out _ HS.out.below) (by have := HLEN.out; simp only [List.length_append, List.length_cons, List.length_nil]; omega)).mono ?_
        rintro e w9 ⟨rfl, h9, b9, o9⟩
        have hS9 := HS.out.more h9 b9 o9
        have HN : Hid (WvR B b l w w.heap.size (.int .i64 k) (.string t) (.int .u64 u) (.slice (some ⟨b0, o, none⟩) list.length c) (.slice (some ⟨kb, ko, none⟩) keys.length c') (.int .i64 z) (inkJ true keys (inkVs list)) list.length (list.length - (0 + 1)) (.int .i64 ((0 : Nat) + 1 : Int)) w9) := Lib.hid ⟨0 + 1, by omega, rfl, by go_num, by rw [HE.out]; simpa using hS9⟩
        clear hS9 h9 b9 o9 HS y0 y1 y2 y3 y4 y5
        go_wp2_with fail
        go_roundg (list.length - (0 + 1))
        case measure => omega
        case rel => exact HN.out
      · have HLEN := Lib.hid (HLE2 h0)
        clear HLE2
        rw [if_neg h0] at hJ
        have HE := Lib.hid hJ
        have hi0 : (0 : Int) < (i : Int) := by omega
        have hi0n : 0 < i := by omega
        clear hJ h0
        go_wp2_with fail
        refine (HBy.out _ 44 44 rfl _ HS1.out.bld (by have := HLEN.out; simp only [List.length_append]; omega) HS1.out.size).mono ?_
        rintro e w2 ⟨rfl, h2, b2, o2⟩
        have HS2 := Lib.hid (HS1.out.more h2 b2 o2)
        have HT2 := Lib.hid (six_others HT1.out o2 HNE.out)
        clear h2 b2 o2 HS1 HT1 s0 s1 s2 s3 s4 s5
        obtain ⟨s0, s1, s2, s3, s4, s5⟩ := HS2.out.six.cells
        have kc := HKC.out _ HS2.out.below
        go_wp2_with fail
        refine (HQu.out ky HKL.out _).mono ?_
        rintro e w3 ⟨rfl, b3⟩
        have HS3 := Lib.hid (HS2.out.next b3)
        have HT3 := Lib.hid (HT2.out.step b3)
        clear b3 HS2 HT2 s0 s1 s2 s3 s4 s5 kc
        go_wp2_with fail
        refine (HSt.out _ _ _ HS3.out.bld (by have := HLEN.out; rw [sizeQ]; simp only [List.length_append, List.length_cons, List.length_nil]; omega) HS3.out.size).mono ?_
        rintro e w4 ⟨rfl, h4, b4, o4⟩
        have HS4 := Lib.hid (HS3.out.more h4 b4 o4)
        have HT4 := Lib.hid (six_others HT3.out o4 HNE.out)
        clear h4 b4 o4 HS3 HT3
        go_wp2_with fail
        refine (HBy.out _ 58 58 rfl _ HS4.out.bld (by have := HLEN.out; simp only [List.length_append, List.length_cons, List.length_nil, List.toList_toArray]; omega) HS4.out.size).mono ?_
        rintro e w5 ⟨rfl, h5, b5, o5⟩
        have HS := Lib.hid (HS4.out.more h5 b5 o5)
        have HT := Lib.hid (six_others HT4.out o5 HNE.out)
        clear h5 b5 o5 HS4 HT4
        obtain ⟨y0, y1, y2, y3, y4, y5⟩ := HT.out.cells
        go_wp2_with fail
        refine (HIH.out x HSX.out HWX.out B b _ _ k2 t2 n2 a2 l2 c2 a3 l3 c3 z2 (HVX.out _ HS.out.below) HS.out.bld HS.out.size hpw (HTab.out _ HS.out.below) (by have := HLEN.out; simp only [List.length_append, List.length_cons, List.length_nil]; omega)).mono ?_
        rintro e w9 ⟨rfl, h9, b9, o9⟩
        have hS9 := HS.out.more h9 b9 o9
        have HN : Hid (WvR B b l w w.heap.size (.int .i64 k) (.string t) (.int .u64 u) (.slice (some ⟨b0, o, none⟩) list.length c) (.slice (some ⟨kb, ko, none⟩) keys.length c') (.int .i64 z) (inkJ true keys (inkVs list)) list.length (list.length - (i + 1)) (.int .i64 ((i : Nat) + 1 : Int)) w9) := Lib.hid ⟨i + 1, by omega, rfl, by go_num, by rw [HE.out]; simpa using hS9⟩
        clear hS9 h9 b9 o9 HS y0 y1 y2 y3 y4 y5
        go_wp2_with fail
        go_roundg (list.length - (i + 1))
        case measure => omega
        case rel => exact HN.out
    · obtain rfl : i = list.length := by omega
      have HP := Lib.hid hst.post
      clear hst
      go_wp2_with fail
      go_end0
      exact HP.out
end Go.Proofs.YtabcbeolhhdkpaaGreatDoor
