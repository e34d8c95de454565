/-
  Package ink by contracts: a text written into a builder; what a value's text is, plain.
  Package ink by contracts: a value written into a builder.
  Package ink by contracts: an array's values written into a builder.
  Package ink by contracts: a value written into a builder, by induction.
  Package ink by contracts: may a value be written: chapter 6's example.
  Package ink by contracts: chapter 6's example may be written: its key, its members.
  Package ink by contracts: chapter 6's awake.
  Package ink by contracts: chapter 6's awake itself.
-/
import Derived.Test.YtajmlkephefapaaGreatDoorInkC
import Derived.Test.YtajmlkephefapaaGreatDoorTreeP
import Derived.Test.YtajmlkephefapaaGreatDoorFmtB
import Derived.Lib.FrozenHead
import Derived.Test.YtajmlkephefapaaGreatDoorTreeE
import Derived.Test.YtajmlkephefapaaGreatDoorGi6
import Derived.Test.YtajmlkephefapaaGreatDoorGtr
namespace Go.Proofs.YtajmlkephefapaaGreatDoor
open Go.RowKit Go.Extern.Stop Go.Stop Go.Extern

theorem cells_append (a b : List UInt8) : Lib.byteCells a ++ Lib.byteCells b = Lib.byteCells (a ++ b) := by unfold Lib.byteCells; rw [List.map_append]
set_option maxHeartbeats 2000000 in
set_option maxRecDepth 100000 in
theorem string_any (B b : Nat) (l : List UInt8) (s : ByteArray) (w : World) (h : BldAt B b (Lib.byteCells l) w) (hlen : l.length + s.size ≤ 10000000) (hBw : B ≤ w.heap.size) :
    Calls Tryz.prog 72 #[.pointer (some ⟨b, 0, none⟩), .string s] w fun e w' => e = .returned (.tuple #[.int .i64 s.size, .nilIface]) ∧ BldAt B b (Lib.byteCells (l ++ s.data.toList)) w' ∧ Below B w w' ∧ Others b w w' := by
  obtain ⟨i0, hi, hz0, hz1, hz2⟩ := info_parts infoByte
  have hcl := cells_len l
  go_enter Tryz.func72, Tryz.ntmps72
  go_wp2_with fail
  refine (copyCheck_any B b _ _ h).mono ?_
  rintro e w1 ⟨rfl, ⟨h1, hb1, hk1⟩, -⟩
  obtain ⟨hB, v, hbk, hown, hne⟩ := h1
  have c0 : w1.cell? ⟨b, 0, none⟩ = some (.pointer (some ⟨b, 0, none⟩)) := by rw [Lib.cell_of_heap hbk]; rfl
  have c1 : w1.cell? ⟨b, 1, none⟩ = some v := by rw [Lib.cell_of_heap hbk]; rfl
  go_wp2_with (at_builtin; refine Lib.wpList_append_own_stringF _ rfl _ _ 78 9 rfl B 5 i0 Tryz.underlying78 Tryz.underlying9 hi hz0 hz1 hz2 _ _ _ rfl hown s rfl ?c3 ?c4 ?c5 ?_)
  case c3 => unfold maxLen; omega
  case c4 => omega
  case c5 => have := hb1.size; omega
  intro v' w2 hown' hgrow _
  have hlt : b < w1.heap.size := by
    rcases Nat.lt_or_ge b w1.heap.size with h' | h'
    · exact h'
    · simp [Array.getElem?_eq_none h'] at hbk
  have hb2 : w2.heap[b]? = some (.cells #[.pointer (some ⟨b, 0, none⟩), v] 80 (0, 0)) := by
    rw [hgrow.block b hlt (fun e => hne e.symm)]
    exact hbk
  have d0 : w2.cell? ⟨b, 0, none⟩ = some (.pointer (some ⟨b, 0, none⟩)) := by rw [Lib.cell_of_heap hb2]; rfl
  have d1 : w2.cell? ⟨b, 1, none⟩ = some v := by rw [Lib.cell_of_heap hb2]; rfl
  have f1 : w2.frozen? ⟨b, 1, none⟩ = false := Lib.frozen_of_heap hb2 1
  obtain ⟨ao, n', cap, rfl⟩ : ∃ ao n' cap, v' = .slice ao n' cap := by
    rcases hown'.2 with ⟨hv, _⟩ | ⟨g, cap, cur, fz, hv, _⟩
    · exact ⟨_, _, _, hv⟩
    · exact ⟨_, _, _, hv⟩
  go_wp2
  go_ret2
  refine ⟨rfl, .inr ?_, ?_, (hk1.grown hgrow (Lib.ownsRowF_kind hown)).setCell ⟨b, 1, none⟩ rfl _⟩
  · rw [← cells_append]
    exact Lib.BuilderAtF.put (T := 80) (e := 5) hB hb2 (bs' := Lib.byteCells l ++ Lib.strCells s) (by simpa [Lib.strCells_length, hcl] using hown') (by decide)
  · exact (hb1.grown hgrow (by have := hb1.size; omega) (fun k hk => (hown.lt k hk).1)).setCell (p := ⟨b, 1, none⟩) hB _

/-! ### Plain -/
/-- The first so many items between brackets. -/
def inkJ (obj : Bool) (keys : List ByteArray) (ts : List (List UInt8)) : Nat → List UInt8
  | 0 => []
  | i + 1 => inkJ obj keys ts i ++ (if i = 0 then [] else [44]) ++ (if obj then quoL (keys.getD i ⟨#[]⟩).data.toList ++ [58] else []) ++ ts.getD i []
mutual
/-- A value's text. -/
def inkV : Val → List UInt8
  | .mk kind text num list keys _ =>
    if kind = 0 then [110, 117, 108, 108] else if kind = 1 then [102, 97, 108, 115, 101] else if kind = 2 then [116, 114, 117, 101]
    else if kind = 3 then Lib.decDigits (capI num).toNat else if kind = 4 then quoL text.data.toList
    else if kind = 5 then 91 :: (inkJ false keys (inkVs list) (inkVs list).length ++ [93])
    else if kind = 6 then 123 :: (inkJ true keys (inkVs list) (inkVs list).length ++ [125]) else []
def inkVs : List Val → List (List UInt8)
  | [] => []
  | v :: r => inkV v :: inkVs r
end
theorem inkVs_map : ∀ l : List Val, inkVs l = l.map inkV
  | [] => rfl
  | v :: r => by rw [inkVs, inkVs_map r, List.map_cons]
theorem inkVs_len (l : List Val) : (inkVs l).length = l.length := by rw [inkVs_map, List.length_map]
theorem inkVs_at {l : List Val} {i : Nat} {x : Val} (h : l[i]? = some x) : (inkVs l).getD i [] = inkV x := by
  rw [inkVs_map, List.getD, List.getElem?_map, h]; rfl
theorem inkJ_le (obj : Bool) (keys : List ByteArray) (ts : List (List UInt8)) : ∀ (n i : Nat), i ≤ n → (inkJ obj keys ts i).length ≤ (inkJ obj keys ts n).length
  | 0, i, h => by obtain rfl : i = 0 := by omega
                  exact Nat.le_refl _
  | n + 1, i, h => by
    rcases Nat.lt_or_ge i (n + 1) with h' | h'
    · have := inkJ_le obj keys ts n i (by omega)
      rw [inkJ]
      simp only [List.length_append]
      omega
    · obtain rfl : i = n + 1 := by omega
      exact Nat.le_refl _
/-- A value whose keys are as many as its members, its texts and keys of no great length, throughout. -/
inductive WholeV : Val → Prop
  | mk (kind : Int) (text : ByteArray) (num : Int) (list : List Val) (keys : List ByteArray) (a : Int) : (kind = 6 → keys.length = list.length) → text.size ≤ 100000 → (∀ s ∈ keys, s.size ≤ 100000) → ((kind = 5 ∨ kind = 6) → ∀ x ∈ list, WholeV x) → 0 ≤ num → WholeV (.mk kind text num list keys a)
end Go.Proofs.YtajmlkephefapaaGreatDoor

namespace Go.Proofs.YtajmlkephefapaaGreatDoor
open Go.RowKit Go.Extern.Stop Go.Stop Go.Extern

/-- A block that is no row of bytes, and not the builder's, stands as it stood. -/
theorem six_others {b q : Nat} {w w' : World} {c0 c1 c2 c3 c4 c5 : Value} (h : SixAt w q c0 c1 c2 c3 c4 c5) (ho : Others b w w') (hq : q ≠ b) : SixAt w' q c0 c1 c2 c3 c4 c5 :=
  ho q _ h (fun e => hq (by injection e)) (fun c fz e => by injection e with _ e; exact absurd e (by decide))
theorem others_below {b : Nat} {w w' : World} (h : Below w.heap.size w w') : Others b w w' := fun k _ hk _ _ => (h.block k (Array.getElem?_eq_some_iff.1 hk).1).trans hk
theorem BldAt.lt {B b : Nat} {bs : List Value} {w : World} (h : BldAt B b bs w) : b < w.heap.size := by
  rcases h with ⟨_, v, hbk, -⟩ | ⟨_, v, hbk, -⟩ <;> exact (Array.getElem?_eq_some_iff.1 hbk).1
/-- Within a call that writes: the builder, the box of the value. -/
structure WvS (B b : Nat) (l : List UInt8) (w : World) (q : Nat) (c0 c1 c2 c3 c4 c5 : Value) (W : World) : Prop where
  bld : BldAt B b (Lib.byteCells l) W
  below : Below B w W
  oth : Others b w W
  six : SixAt W q c0 c1 c2 c3 c4 c5
  ne : q ≠ b
  sz : B ≤ w.heap.size
theorem WvS.size {B b : Nat} {l : List UInt8} {w : World} {q : Nat} {c0 c1 c2 c3 c4 c5 : Value} {W : World} (h : WvS B b l w q c0 c1 c2 c3 c4 c5 W) : B ≤ W.heap.size := Nat.le_trans h.sz h.below.size
theorem WvS.start {B b : Nat} {l : List UInt8} {w : World} (h : BldAt B b (Lib.byteCells l) w) (hB : B ≤ w.heap.size) (c0 c1 c2 c3 c4 c5 : Value) : WvS B b l w w.heap.size c0 c1 c2 c3 c4 c5 (w.alloc (.cells #[c0, c1, c2, c3, c4, c5] 27)) :=
  have hb := sbelow_new w (.cells #[c0, c1, c2, c3, c4, c5] 27)
  ⟨h.step hb, hb.mono hB, others_below hb, heap_alloc_new w _, by have := h.lt; omega, hB⟩
theorem WvS.more {B b : Nat} {l l' : List UInt8} {w : World} {q : Nat} {c0 c1 c2 c3 c4 c5 : Value} {W W' : World} (h : WvS B b l w q c0 c1 c2 c3 c4 c5 W) (h1 : BldAt B b (Lib.byteCells l') W') (h2 : Below B W W') (h3 : Others b W W') : WvS B b l' w q c0 c1 c2 c3 c4 c5 W' :=
  ⟨h1, h.below.trans h2, h.oth.trans h3, six_others h.six h3 h.ne, h.ne, h.sz⟩
theorem WvS.next {B b : Nat} {l : List UInt8} {w : World} {q : Nat} {c0 c1 c2 c3 c4 c5 : Value} {W W' : World} (h : WvS B b l w q c0 c1 c2 c3 c4 c5 W) (hb : Below W.heap.size W W') : WvS B b l w q c0 c1 c2 c3 c4 c5 W' :=
  h.more (h.bld.step hb) (hb.mono h.size) (others_below hb)
theorem WvS.post {B b : Nat} {l : List UInt8} {w : World} {q : Nat} {c0 c1 c2 c3 c4 c5 : Value} {W : World} (h : WvS B b l w q c0 c1 c2 c3 c4 c5 W) : SgP B b l w (.returned (.tuple #[])) W := ⟨rfl, h.bld, h.below, h.oth⟩
/-- What writing a value answers, for values of less than so much. -/
def WrSpec (n : Nat) : Prop := ∀ x : Val, SizeOf.sizeOf x < n → WholeV x → ∀ (B b : Nat) (l : List UInt8) (w : World) (k : Int) (t : ByteArray) (u : Int) (a : Option Addr) (c d : Nat) (a' : Option Addr) (c' d' : Nat) (z : Int),
  ValC (fun q => q < B) w [.int .i64 k, .string t, .int .u64 u, .slice a c d, .slice a' c' d', .int .i64 z] x → BldAt B b (Lib.byteCells l) w → B ≤ w.heap.size → 1 < B → Tab w → (l ++ inkV x).length ≤ 1000000 →
  Calls Tryz.prog 45 #[.pointer (some ⟨b, 0, none⟩), .agg #[.int .i64 k, .string t, .int .u64 u, .slice a c d, .slice a' c' d', .int .i64 z]] w (SgP B b (l ++ inkV x) w)
theorem inkV_pos (obj : Bool) (keys : List ByteArray) (ts : List (List UInt8)) (i : Nat) : inkJ obj keys ts (i + 1) = inkJ obj keys ts i ++ (if i = 0 then [] else [44]) ++ (if obj then quoL (keys.getD i ⟨#[]⟩).data.toList ++ [58] else []) ++ ts.getD i [] := rfl
def WvR (B b : Nat) (l : List UInt8) (w : World) (q : Nat) (c0 c1 c2 c3 c4 c5 : Value) (J : Nat → List UInt8) (n g : Nat) (v : Value) (wr : World) : Prop :=
  ∃ i : Nat, i ≤ n ∧ g = n - i ∧ v = .int .i64 i ∧ WvS B b (l ++ J i) w q c0 c1 c2 c3 c4 c5 wr
theorem Tab.keepB {w W : World} {B : Nat} (h : Tab w) (hW : Below B w W) (hp : 1 < B) : Tab W := by
  unfold Tab Lib.TabIs World.var? at *
  rw [powGlobal] at *
  rw [Option.bind_some] at *
  rw [hW.block _ hp]
  exact h
set_option maxRecDepth 100000 in
set_option maxHeartbeats 16000000 in
theorem writeObj_any (m : Nat) (ih : WrSpec m) (B b : Nat) (l : List UInt8) (list : List Val) (keys : List ByteArray) (xs : List Value) (w : World) (k : Int) (t : ByteArray) (u : Int) (a : Option Addr) (c : Nat) (a' : Option Addr) (c' : Nat) (z : Int)
    (hk6 : k = 6) (hsz : SizeOf.sizeOf list ≤ m) (hw : ∀ x ∈ list, WholeV x) (hkn : keys.length = list.length) (hks : ∀ s ∈ keys, s.size ≤ 100000) (hk : RowIn (fun q => q < B) w (.slice a' keys.length c') keys.length (keys.map Value.string)) (hl : RowIn (fun q => q < B) w (.slice a list.length c) list.length xs) (hv : ValsC (fun q => q < B) w xs list)
    (h : BldAt B b (Lib.byteCells l) w) (hB : B ≤ w.heap.size) (hpw : 1 < B) (hT : Tab w) (hle : (l ++ inkJ true keys (inkVs list) list.length).length ≤ 1000000) (hll : list.length ≤ 1000000) :
    Calls Tryz.prog 76 #[.pointer (some ⟨b, 0, none⟩), .agg #[.int .i64 k, .string t, .int .u64 u, .slice a list.length c, .slice a' keys.length c', .int .i64 z]] w (SgP B b (l ++ inkJ true keys (inkVs list) list.length) w) := by
  have HIH := Lib.hid ih
  have HVS := Lib.hid hv
  have HROW := Lib.hid hl
  have HKR := Lib.hid hk
  have HKN := Lib.hid hkn
  clear hk hkn
  have H0 := Lib.hid (WvS.start h hB (.int .i64 k) (.string t) (.int .u64 u) (.slice a list.length c) (.slice a' keys.length c') (.int .i64 z))
  have HTab := Lib.hid (fun W (hW : Below B w W) => hT.keepB hW hpw)
  have HBy := Lib.hid (fun (l : List UInt8) (c : UInt8) (x : Int) (hx : x = (c.toNat : Int)) W h hl hB => byte_any B b l c x hx W h hl hB)
  have HSt := Lib.hid (fun l s W h hl hB => string_any B b l s W h hl hB)
  have HQu := Lib.hid (fun s hs W => quote_any s hs W)
  have q6 : (k == 6) = true := by rw [hk6]; rfl
  clear ih hv hl h hT hk6
  obtain ⟨s0, s1, s2, s3, s4, s5⟩ := H0.out.six.cells
  go_enter Tryz.func76, Tryz.ntmps76
  go_wp2_with fail
  clear s0 s1 s2 s3 s4 s5
  go_loopg [9] list.length (fun g v wr => WvR B b l w w.heap.size (.int .i64 k) (.string t) (.int .u64 u) (.slice a list.length c) (.slice a' keys.length c') (.int .i64 z) (inkJ true keys (inkVs list)) list.length g v wr)
  case atStart => exact ⟨0, Nat.zero_le _, by omega, rfl, by simpa [inkJ] using H0.out⟩
  case round =>
    clear H0
    obtain ⟨i, hi, hgi, rfl, hst⟩ := hrel
    by_cases hlt : i < list.length
    · obtain ⟨x, hx⟩ : ∃ x, list[i]? = some x := ⟨_, List.getElem?_eq_getElem hlt⟩
      obtain ⟨d0, d1, d2, d3, d4, d5, hvx, e0, e1, e2, e3, e4, e5⟩ := ValsC.at' HVS.out hx
      obtain ⟨b0, o, rfl, hc⟩ : ∃ b0 o, a = some ⟨b0, o, none⟩ ∧ b0 < B ∧ ∀ j u, xs[j]? = some u → w.cell? ⟨b0, o + j, none⟩ = some u := by
        rcases HROW.out with ⟨h0, -⟩ | ⟨b0, o, c, e, hP, -, hc⟩
        · omega
        · injection e with e; exact ⟨b0, o, e, hP, hc⟩
      obtain ⟨k2, t2, n2, a2, l2, c2, a3, l3, c3, z2, ed⟩ := hvx.form
      simp only [List.cons.injEq, and_true] at ed
      obtain ⟨rfl, rfl, rfl, rfl, rfl, rfl⟩ := ed
      have hj : ∀ j u, xs[6 * i + j]? = some u → wr.cell? ⟨b0, o + i * 6 + j, none⟩ = some u := fun j u hu => by
        rw [show o + i * 6 + j = o + (6 * i + j) by omega]
        exact (hst.below.cell (p := ⟨b0, _, none⟩) hc.1).trans (hc.2 _ _ hu)
      have f0 := hj 0 _ e0
      rw [Nat.add_zero] at f0
      have f1 := hj 1 _ e1
      have f2 := hj 2 _ e2
      have f3 := hj 3 _ e3
      have f4 := hj 4 _ e4
      have f5 := hj 5 _ e5
      have hkl : i < keys.length := by rw [HKN.out]; exact hlt
      obtain ⟨ky, hky⟩ : ∃ ky, keys[i]? = some ky := ⟨_, List.getElem?_eq_getElem hkl⟩
      obtain ⟨kb, ko, rfl, hkc⟩ : ∃ kb ko, a' = some ⟨kb, ko, none⟩ ∧ kb < B ∧ w.cell? ⟨kb, ko + i, none⟩ = some (.string ky) := by
        rcases HKR.out with ⟨h0, -⟩ | ⟨kb, ko, c, e, hP, -, hc⟩
        · omega
        · injection e with e
          exact ⟨kb, ko, e, hP, hc i _ (by rw [List.getElem?_map, hky]; rfl)⟩
      have HKC := Lib.hid (fun W (hW : Below B w W) => (hW.cell (p := ⟨kb, ko + i, none⟩) hkc.1).trans hkc.2)
      have HKL : Hid (ky.size ≤ 100000) := Lib.hid (hks ky (List.mem_of_getElem? hky))
      have hgd : keys.getD i ⟨#[]⟩ = ky := by rw [List.getD, hky]; rfl
      have HVX := Lib.hid (fun W (hW : Below B w W) => hvx.move (P' := fun q => q < B) hW.size (fun q hP _ => ⟨hP, hW.block q hP⟩))
      have HSX : Hid (SizeOf.sizeOf x < m) := Lib.hid (by have := sizeOf_mem hx; omega)
      have HWX : Hid (WholeV x) := Lib.hid (hw x (List.mem_of_getElem? hx))
      have hJ : inkJ true keys (inkVs list) (i + 1) = inkJ true keys (inkVs list) i ++ (if i = 0 then [] else [44]) ++ (quoL ky.data.toList ++ [58]) ++ inkV x := by rw [inkV_pos, inkVs_at hx, hgd]; simp
      have HLEN : Hid (l.length + (inkJ true keys (inkVs list) i).length + 1 + (quoL ky.data.toList).length + 1 + (inkV x).length ≤ 1000001) := Lib.hid (by
        have h1 := inkJ_le true keys (inkVs list) list.length (i + 1) hlt
        rw [hJ] at h1
        simp only [List.length_append, List.length_cons, List.length_nil] at h1 hle
        split at h1 <;> (simp only [List.length_cons, List.length_nil] at h1; omega))
      have HLE2 : i ≠ 0 → l.length + (inkJ true keys (inkVs list) i).length + 1 + (quoL ky.data.toList).length + 1 + (inkV x).length ≤ 1000000 := fun h => by
        have h1 := inkJ_le true keys (inkVs list) list.length (i + 1) hlt
        rw [hJ, if_neg h] at h1
        simp only [List.length_append, List.length_cons, List.length_nil] at h1 hle
        omega
      have bn := sbelow_new wr (.cells #[.int .i64 k2, .string t2, .int .u64 n2, .slice a2 l2 c2, .slice a3 l3 c3, .int .i64 z2] 27)
      have HS1 := Lib.hid (hst.next bn)
      have HT1 : Hid (SixAt (wr.alloc (.cells #[.int .i64 k2, .string t2, .int .u64 n2, .slice a2 l2 c2, .slice a3 l3 c3, .int .i64 z2] 27)) wr.heap.size (.int .i64 k2) (.string t2) (.int .u64 n2) (.slice a2 l2 c2) (.slice a3 l3 c3) (.int .i64 z2)) := Lib.hid (heap_alloc_new wr _)
      have HNE : Hid (wr.heap.size ≠ b) := Lib.hid (by have := hst.bld.lt; omega)
      obtain ⟨s0, s1, s2, s3, s4, s5⟩ := HS1.out.six.cells
      clear hx hvx e0 e1 e2 e3 e4 e5 hc hj hst bn
      by_cases h0 : i = 0
      · subst h0
        clear HLE2
        rw [if_pos rfl] at hJ
        have HE := Lib.hid hJ
        have hi0 : ¬ (0 : Int) < ((0 : Nat) : Int) := by omega
        simp only [Nat.zero_mul, Nat.add_zero] at f0 f1 f2 f3 f4 f5
        clear hJ
        have HS2 := Lib.hid HS1.out
        have HT2 := Lib.hid HT1.out
        have kc := HKC.out _ HS2.out.below
        rw [Nat.add_zero] at kc
        clear HS1 HT1
        go_wp2_with fail
        refine (HQu.out ky HKL.out _).mono ?_
        rintro e w3 ⟨rfl, b3⟩
        have HS3 := Lib.hid (HS2.out.next b3)
        have HT3 := Lib.hid (HT2.out.step b3)
        clear b3 HS2 HT2 s0 s1 s2 s3 s4 s5 kc
        go_wp2_with fail
        refine (HSt.out _ _ _ HS3.out.bld (by have := HLEN.out; rw [sizeQ]; simp only [List.length_append, List.length_cons, List.length_nil]; omega) HS3.out.size).mono ?_
        rintro e w4 ⟨rfl, h4, b4, o4⟩
        have HS4 := Lib.hid (HS3.out.more h4 b4 o4)
        have HT4 := Lib.hid (six_others HT3.out o4 HNE.out)
        clear h4 b4 o4 HS3 HT3
        go_wp2_with fail
        refine (HBy.out _ 58 58 rfl _ HS4.out.bld (by have := HLEN.out; simp only [List.length_append, List.length_cons, List.length_nil, List.toList_toArray]; omega) HS4.out.size).mono ?_
        rintro e w5 ⟨rfl, h5, b5, o5⟩
        have HS := Lib.hid (HS4.out.more h5 b5 o5)
        have HT := Lib.hid (six_others HT4.out o5 HNE.out)
        clear h5 b5 o5 HS4 HT4
        obtain ⟨y0, y1, y2, y3, y4, y5⟩ := HT.out.cells
        go_wp2_with fail
        refine (HIH.out x HSX.out HWX.out B b _ _ k2 t2 n2 a2 l2 c2 a3 l3 c3 z2 (HVX.out _ HS.out.below) HS.out.bld HS.out.size hpw (HTab.out _ HS.out.below) (by have := HLEN.out; simp only [List.length_append, List.length_cons, List.length_nil]; omega)).mono ?_
        rintro e w9 ⟨rfl, h9, b9, o9⟩
        have hS9 := HS.out.more h9 b9 o9
        have HN : Hid (WvR B b l w w.heap.size (.int .i64 k) (.string t) (.int .u64 u) (.slice (some ⟨b0, o, none⟩) list.length c) (.slice (some ⟨kb, ko, none⟩) keys.length c') (.int .i64 z) (inkJ true keys (inkVs list)) list.length (list.length - (0 + 1)) (.int .i64 ((0 : Nat) + 1 : Int)) w9) := Lib.hid ⟨0 + 1, by omega, rfl, by go_num, by rw [HE.out]; simpa using hS9⟩
        clear hS9 h9 b9 o9 HS y0 y1 y2 y3 y4 y5
        go_wp2_with fail
        go_roundg (list.length - (0 + 1))
        case measure => omega
        case rel => exact HN.out
      · have HLEN := Lib.hid (HLE2 h0)
        clear HLE2
        rw [if_neg h0] at hJ
        have HE := Lib.hid hJ
        have hi0 : (0 : Int) < (i : Int) := by omega
        have hi0n : 0 < i := by omega
        clear hJ h0
        go_wp2_with fail
        refine (HBy.out _ 44 44 rfl _ HS1.out.bld (by have := HLEN.out; simp only [List.length_append]; omega) HS1.out.size).mono ?_
        rintro e w2 ⟨rfl, h2, b2, o2⟩
        have HS2 := Lib.hid (HS1.out.more h2 b2 o2)
        have HT2 := Lib.hid (six_others HT1.out o2 HNE.out)
        clear h2 b2 o2 HS1 HT1 s0 s1 s2 s3 s4 s5
        obtain ⟨s0, s1, s2, s3, s4, s5⟩ := HS2.out.six.cells
        have kc := HKC.out _ HS2.out.below
        go_wp2_with fail
        refine (HQu.out ky HKL.out _).mono ?_
        rintro e w3 ⟨rfl, b3⟩
        have HS3 := Lib.hid (HS2.out.next b3)
        have HT3 := Lib.hid (HT2.out.step b3)
        clear b3 HS2 HT2 s0 s1 s2 s3 s4 s5 kc
        go_wp2_with fail
        refine (HSt.out _ _ _ HS3.out.bld (by have := HLEN.out; rw [sizeQ]; simp only [List.length_append, List.length_cons, List.length_nil]; omega) HS3.out.size).mono ?_
        rintro e w4 ⟨rfl, h4, b4, o4⟩
        have HS4 := Lib.hid (HS3.out.more h4 b4 o4)
        have HT4 := Lib.hid (six_others HT3.out o4 HNE.out)
        clear h4 b4 o4 HS3 HT3
        go_wp2_with fail
        refine (HBy.out _ 58 58 rfl _ HS4.out.bld (by have := HLEN.out; simp only [List.length_append, List.length_cons, List.length_nil, List.toList_toArray]; omega) HS4.out.size).mono ?_
        rintro e w5 ⟨rfl, h5, b5, o5⟩
        have HS := Lib.hid (HS4.out.more h5 b5 o5)
        have HT := Lib.hid (six_others HT4.out o5 HNE.out)
        clear h5 b5 o5 HS4 HT4
        obtain ⟨y0, y1, y2, y3, y4, y5⟩ := HT.out.cells
        go_wp2_with fail
        refine (HIH.out x HSX.out HWX.out B b _ _ k2 t2 n2 a2 l2 c2 a3 l3 c3 z2 (HVX.out _ HS.out.below) HS.out.bld HS.out.size hpw (HTab.out _ HS.out.below) (by have := HLEN.out; simp only [List.length_append, List.length_cons, List.length_nil]; omega)).mono ?_
        rintro e w9 ⟨rfl, h9, b9, o9⟩
        have hS9 := HS.out.more h9 b9 o9
        have HN : Hid (WvR B b l w w.heap.size (.int .i64 k) (.string t) (.int .u64 u) (.slice (some ⟨b0, o, none⟩) list.length c) (.slice (some ⟨kb, ko, none⟩) keys.length c') (.int .i64 z) (inkJ true keys (inkVs list)) list.length (list.length - (i + 1)) (.int .i64 ((i : Nat) + 1 : Int)) w9) := Lib.hid ⟨i + 1, by omega, rfl, by go_num, by rw [HE.out]; simpa using hS9⟩
        clear hS9 h9 b9 o9 HS y0 y1 y2 y3 y4 y5
        go_wp2_with fail
        go_roundg (list.length - (i + 1))
        case measure => omega
        case rel => exact HN.out
    · obtain rfl : i = list.length := by omega
      have HP := Lib.hid hst.post
      clear hst
      go_wp2_with fail
      go_end0
      exact HP.out
end Go.Proofs.YtajmlkephefapaaGreatDoor

namespace Go.Proofs.YtajmlkephefapaaGreatDoor
open Go.RowKit Go.Extern.Stop Go.Stop Go.Extern

set_option maxRecDepth 100000 in
set_option maxHeartbeats 16000000 in
theorem writeArr_any (m : Nat) (ih : WrSpec m) (B b : Nat) (l : List UInt8) (list : List Val) (keys : List ByteArray) (xs : List Value) (w : World) (k : Int) (t : ByteArray) (u : Int) (a : Option Addr) (c : Nat) (a' : Option Addr) (c' : Nat) (z : Int)
    (hk6 : k ≠ 6) (hsz : SizeOf.sizeOf list ≤ m) (hw : ∀ x ∈ list, WholeV x) (hl : RowIn (fun q => q < B) w (.slice a list.length c) list.length xs) (hv : ValsC (fun q => q < B) w xs list)
    (h : BldAt B b (Lib.byteCells l) w) (hB : B ≤ w.heap.size) (hpw : 1 < B) (hT : Tab w) (hle : (l ++ inkJ false keys (inkVs list) list.length).length ≤ 1000000) (hll : list.length ≤ 1000000) :
    Calls Tryz.prog 76 #[.pointer (some ⟨b, 0, none⟩), .agg #[.int .i64 k, .string t, .int .u64 u, .slice a list.length c, .slice a' keys.length c', .int .i64 z]] w (SgP B b (l ++ inkJ false keys (inkVs list) list.length) w) := by
  have HIH := Lib.hid ih
  have HVS := Lib.hid hv
  have HROW := Lib.hid hl
  have H0 := Lib.hid (WvS.start h hB (.int .i64 k) (.string t) (.int .u64 u) (.slice a list.length c) (.slice a' keys.length c') (.int .i64 z))
  have HTab := Lib.hid (fun W (hW : Below B w W) => hT.keepB hW hpw)
  have HBy := Lib.hid (fun (l : List UInt8) (c : UInt8) (x : Int) (hx : x = (c.toNat : Int)) W h hl hB => byte_any B b l c x hx W h hl hB)
  have HSt := Lib.hid (fun l s W h hl hB => string_any B b l s W h hl hB)
  have HQu := Lib.hid (fun s hs W => quote_any s hs W)
  have q6 : (k == 6) = false := by rw [beq_eq_false_iff_ne]; exact hk6
  clear ih hv hl h hT
  obtain ⟨s0, s1, s2, s3, s4, s5⟩ := H0.out.six.cells
  go_enter Tryz.func76, Tryz.ntmps76
  go_wp2_with fail
  clear s0 s1 s2 s3 s4 s5
  go_loopg [9] list.length (fun g v wr => WvR B b l w w.heap.size (.int .i64 k) (.string t) (.int .u64 u) (.slice a list.length c) (.slice a' keys.length c') (.int .i64 z) (inkJ false keys (inkVs list)) list.length g v wr)
  case atStart => exact ⟨0, Nat.zero_le _, by omega, rfl, by simpa [inkJ] using H0.out⟩
  case round =>
    clear H0
    obtain ⟨i, hi, hgi, rfl, hst⟩ := hrel
    by_cases hlt : i < list.length
    · obtain ⟨x, hx⟩ : ∃ x, list[i]? = some x := ⟨_, List.getElem?_eq_getElem hlt⟩
      obtain ⟨d0, d1, d2, d3, d4, d5, hvx, e0, e1, e2, e3, e4, e5⟩ := ValsC.at' HVS.out hx
      obtain ⟨b0, o, rfl, hc⟩ : ∃ b0 o, a = some ⟨b0, o, none⟩ ∧ b0 < B ∧ ∀ j u, xs[j]? = some u → w.cell? ⟨b0, o + j, none⟩ = some u := by
        rcases HROW.out with ⟨h0, -⟩ | ⟨b0, o, c, e, hP, -, hc⟩
        · omega
        · injection e with e; exact ⟨b0, o, e, hP, hc⟩
      obtain ⟨k2, t2, n2, a2, l2, c2, a3, l3, c3, z2, ed⟩ := hvx.form
      simp only [List.cons.injEq, and_true] at ed
      obtain ⟨rfl, rfl, rfl, rfl, rfl, rfl⟩ := ed
      have hj : ∀ j u, xs[6 * i + j]? = some u → wr.cell? ⟨b0, o + i * 6 + j, none⟩ = some u := fun j u hu => by
        rw [show o + i * 6 + j = o + (6 * i + j) by omega]
        exact (hst.below.cell (p := ⟨b0, _, none⟩) hc.1).trans (hc.2 _ _ hu)
      have f0 := hj 0 _ e0
      rw [Nat.add_zero] at f0
      have f1 := hj 1 _ e1
      have f2 := hj 2 _ e2
      have f3 := hj 3 _ e3
      have f4 := hj 4 _ e4
      have f5 := hj 5 _ e5
      have HVX := Lib.hid (fun W (hW : Below B w W) => hvx.move (P' := fun q => q < B) hW.size (fun q hP _ => ⟨hP, hW.block q hP⟩))
      have HSX : Hid (SizeOf.sizeOf x < m) := Lib.hid (by have := sizeOf_mem hx; omega)
      have HWX : Hid (WholeV x) := Lib.hid (hw x (List.mem_of_getElem? hx))
      have hJ : inkJ false keys (inkVs list) (i + 1) = inkJ false keys (inkVs list) i ++ (if i = 0 then [] else [44]) ++ [] ++ inkV x := by rw [inkV_pos, inkVs_at hx]; simp
      have HLEN : Hid (l.length + (inkJ false keys (inkVs list) i).length + 1 + (inkV x).length ≤ 1000001) := Lib.hid (by
        have h1 := inkJ_le false keys (inkVs list) list.length (i + 1) hlt
        rw [hJ] at h1
        simp only [List.length_append, List.length_cons, List.length_nil] at h1 hle
        split at h1 <;> (simp only [List.length_cons, List.length_nil] at h1; omega))
      have HLE2 : i ≠ 0 → l.length + (inkJ false keys (inkVs list) i).length + 1 + (inkV x).length ≤ 1000000 := fun h => by
        have h1 := inkJ_le false keys (inkVs list) list.length (i + 1) hlt
        rw [hJ, if_neg h] at h1
        simp only [List.length_append, List.length_cons, List.length_nil] at h1 hle
        omega
      have bn := sbelow_new wr (.cells #[.int .i64 k2, .string t2, .int .u64 n2, .slice a2 l2 c2, .slice a3 l3 c3, .int .i64 z2] 27)
      have HS1 := Lib.hid (hst.next bn)
      have HT1 : Hid (SixAt (wr.alloc (.cells #[.int .i64 k2, .string t2, .int .u64 n2, .slice a2 l2 c2, .slice a3 l3 c3, .int .i64 z2] 27)) wr.heap.size (.int .i64 k2) (.string t2) (.int .u64 n2) (.slice a2 l2 c2) (.slice a3 l3 c3) (.int .i64 z2)) := Lib.hid (heap_alloc_new wr _)
      have HNE : Hid (wr.heap.size ≠ b) := Lib.hid (by have := hst.bld.lt; omega)
      obtain ⟨s0, s1, s2, s3, s4, s5⟩ := HS1.out.six.cells
      clear hx hvx e0 e1 e2 e3 e4 e5 hc hj hst bn
      by_cases h0 : i = 0
      · subst h0
        clear HLE2
        rw [if_pos rfl] at hJ
        have HE := Lib.hid hJ
        have hi0 : ¬ (0 : Int) < ((0 : Nat) : Int) := by omega
        simp only [Nat.zero_mul, Nat.add_zero] at f0 f1 f2 f3 f4 f5
        clear hJ
        have HS2 := Lib.hid HS1.out
        have HT2 := Lib.hid HT1.out
        obtain ⟨y0, y1, y2, y3, y4, y5⟩ := HT2.out.cells
        clear HS1 HT1
        go_wp2_with fail
        have HS := Lib.hid HS2.out
        clear HS2 HT2
        refine (HIH.out x HSX.out HWX.out B b _ _ k2 t2 n2 a2 l2 c2 a3 l3 c3 z2 (HVX.out _ HS.out.below) HS.out.bld HS.out.size hpw (HTab.out _ HS.out.below) (by have := HLEN.out; simp only [List.length_append, List.length_cons, List.length_nil]; omega)).mono ?_
        rintro e w9 ⟨rfl, h9, b9, o9⟩
        have hS9 := HS.out.more h9 b9 o9
        have HN : Hid (WvR B b l w w.heap.size (.int .i64 k) (.string t) (.int .u64 u) (.slice (some ⟨b0, o, none⟩) list.length c) (.slice a' keys.length c') (.int .i64 z) (inkJ false keys (inkVs list)) list.length (list.length - (0 + 1)) (.int .i64 ((0 : Nat) + 1 : Int)) w9) := Lib.hid ⟨0 + 1, by omega, rfl, by go_num, by rw [HE.out]; simpa using hS9⟩
        clear hS9 h9 b9 o9 HS y0 y1 y2 y3 y4 y5
        go_wp2_with fail
        go_roundg (list.length - (0 + 1))
        case measure => omega
        case rel => exact HN.out
      · have HLEN := Lib.hid (HLE2 h0)
        clear HLE2
        rw [if_neg h0] at hJ
        have HE := Lib.hid hJ
        have hi0 : (0 : Int) < (i : Int) := by omega
        have hi0n : 0 < i := by omega
        clear hJ h0
        go_wp2_with fail
        refine (HBy.out _ 44 44 rfl _ HS1.out.bld (by have := HLEN.out; simp only [List.length_append]; omega) HS1.out.size).mono ?_
        rintro e w2 ⟨rfl, h2, b2, o2⟩
        have HS2 := Lib.hid (HS1.out.more h2 b2 o2)
        have HT2 := Lib.hid (six_others HT1.out o2 HNE.out)
        clear h2 b2 o2 HS1 HT1 s0 s1 s2 s3 s4 s5
        obtain ⟨s0, s1, s2, s3, s4, s5⟩ := HS2.out.six.cells
        obtain ⟨y0, y1, y2, y3, y4, y5⟩ := HT2.out.cells
        go_wp2_with fail
        have HS := Lib.hid HS2.out
        clear HS2 HT2
        refine (HIH.out x HSX.out HWX.out B b _ _ k2 t2 n2 a2 l2 c2 a3 l3 c3 z2 (HVX.out _ HS.out.below) HS.out.bld HS.out.size hpw (HTab.out _ HS.out.below) (by have := HLEN.out; simp only [List.length_append, List.length_cons, List.length_nil]; omega)).mono ?_
        rintro e w9 ⟨rfl, h9, b9, o9⟩
        have hS9 := HS.out.more h9 b9 o9
        have HN : Hid (WvR B b l w w.heap.size (.int .i64 k) (.string t) (.int .u64 u) (.slice (some ⟨b0, o, none⟩) list.length c) (.slice a' keys.length c') (.int .i64 z) (inkJ false keys (inkVs list)) list.length (list.length - (i + 1)) (.int .i64 ((i : Nat) + 1 : Int)) w9) := Lib.hid ⟨i + 1, by omega, rfl, by go_num, by rw [HE.out]; simpa using hS9⟩
        clear hS9 h9 b9 o9 HS y0 y1 y2 y3 y4 y5
        go_wp2_with fail
        go_roundg (list.length - (i + 1))
        case measure => omega
        case rel => exact HN.out
    · obtain rfl : i = list.length := by omega
      have HP := Lib.hid hst.post
      clear hst
      go_wp2_with fail
      go_end0
      exact HP.out
end Go.Proofs.YtajmlkephefapaaGreatDoor

namespace Go.Proofs.YtajmlkephefapaaGreatDoor
open Go.RowKit Go.Extern.Stop Go.Stop Go.Extern

theorem inkJ_ge (obj : Bool) (keys : List ByteArray) (ts : List (List UInt8)) : ∀ i : Nat, i ≤ (inkJ obj keys ts i).length + 1
  | 0 => by omega
  | i + 1 => by
    have := inkJ_ge obj keys ts i
    rw [inkJ]
    by_cases h : i = 0
    · omega
    · rw [if_neg h]
      simp only [List.length_append, List.length_cons, List.length_nil]
      omega
set_option maxRecDepth 100000 in
set_option maxHeartbeats 16000000 in
theorem write_go (HDg : ∀ (u : Int) (W : World), 0 ≤ u → Tab W → Calls Tryz.prog 73 #[.int .u64 u] W fun e w' => e = .returned (.string ⟨(Lib.decDigits (capI u).toNat).toArray⟩) ∧ Below W.heap.size W w') : ∀ m, WrSpec m := by
  intro m
  induction m with
  | zero => intro x hx; exact absurd hx (Nat.not_lt_zero _)
  | succ m ih =>
    intro x hx hw B b l w k t u a c d a' c' d' z hv h hB hpw hT hle
    have HIH := Lib.hid ih
    clear ih
    cases hw with
    | mk k1 t1 n1 list keys z1 hkn htx hks hws hnn =>
      unfold ValC at hv
      obtain ⟨sl, sk', xs, e, hk, hl, hvs⟩ := hv
      simp only [List.cons.injEq, Value.int.injEq, Value.string.injEq, true_and, and_true] at e
      obtain ⟨rfl, rfl, rfl, rfl, rfl, rfl⟩ := e
      obtain ⟨a0, c0, es⟩ := hl.form
      injection es with ea el ec
      subst ea; subst el; subst ec
      obtain ⟨a1, c1, es⟩ := hk.form
      injection es with ea el ec
      subst ea; subst el; subst ec
      simp only [Val.mk.sizeOf_spec] at hx
      have H0 := Lib.hid (WvS.start h hB (.int .i64 k) (.string t) (.int .u64 u) (.slice a list.length d) (.slice a' keys.length d') (.int .i64 z))
      have HBy := Lib.hid (fun (l : List UInt8) (c : UInt8) (x : Int) (hx : x = (c.toNat : Int)) W h hl hB => byte_any B b l c x hx W h hl hB)
      have HSt := Lib.hid (fun l s W h hl hB => string_any B b l s W h hl hB)
      have HQu := Lib.hid (fun W => quote_any t htx W)
      obtain ⟨s0, s1, s2, s3, s4, s5⟩ := H0.out.six.cells
      unfold inkV at hle ⊢
      by_cases g0 : k = 0
      · subst g0
        rw [if_pos rfl] at hle ⊢
        clear hk hl hvs hkn hws hks
        go_enter Tryz.func45, Tryz.ntmps45
        go_wp2_with fail
        refine (HSt.out _ _ _ H0.out.bld (by simp only [List.length_append] at hle; have : (⟨#[110, 117, 108, 108]⟩ : ByteArray).size = 4 := rfl; omega) H0.out.size).mono ?_
        rintro e w2 ⟨rfl, h2, b2, o2⟩
        have HP := Lib.hid (H0.out.more h2 b2 o2).post
        clear h2 b2 o2
        go_wp2_with fail
        go_end0
        exact HP.out
      by_cases g1 : k = 1
      · subst g1
        rw [if_neg (by decide), if_pos rfl] at hle ⊢
        clear hk hl hvs hkn hws hks
        go_enter Tryz.func45, Tryz.ntmps45
        go_wp2_with fail
        refine (HSt.out _ _ _ H0.out.bld (by simp only [List.length_append] at hle; have : (⟨#[102, 97, 108, 115, 101]⟩ : ByteArray).size = 5 := rfl; omega) H0.out.size).mono ?_
        rintro e w2 ⟨rfl, h2, b2, o2⟩
        have HP := Lib.hid (H0.out.more h2 b2 o2).post
        clear h2 b2 o2
        go_wp2_with fail
        go_end0
        exact HP.out
      by_cases g2 : k = 2
      · subst g2
        rw [if_neg (by decide), if_neg (by decide), if_pos rfl] at hle ⊢
        clear hk hl hvs hkn hws hks
        go_enter Tryz.func45, Tryz.ntmps45
        go_wp2_with fail
        refine (HSt.out _ _ _ H0.out.bld (by simp only [List.length_append] at hle; have : (⟨#[116, 114, 117, 101]⟩ : ByteArray).size = 4 := rfl; omega) H0.out.size).mono ?_
        rintro e w2 ⟨rfl, h2, b2, o2⟩
        have HP := Lib.hid (H0.out.more h2 b2 o2).post
        clear h2 b2 o2
        go_wp2_with fail
        go_end0
        exact HP.out
      by_cases g3 : k = 3
      · subst g3
        rw [if_neg (by decide), if_neg (by decide), if_neg (by decide), if_pos rfl] at hle ⊢
        have HD := Lib.hid (fun W hW => HDg u W hnn hW)
        have HTab := Lib.hid (fun W (hW : Below B w W) => hT.keepB hW hpw)
        clear hk hl hvs hkn hws hks
        go_enter Tryz.func45, Tryz.ntmps45
        go_wp2_with fail
        refine (HD.out _ (HTab.out _ H0.out.below)).mono ?_
        rintro e w1 ⟨rfl, b1⟩
        have HS1 := Lib.hid (H0.out.next b1)
        clear b1 s0 s1 s2 s3 s4 s5
        go_wp2_with fail
        refine (HSt.out _ _ _ HS1.out.bld (by rw [sizeQ]; simp only [List.length_append] at hle; omega) HS1.out.size).mono ?_
        rintro e w2 ⟨rfl, h2, b2, o2⟩
        have HP : Hid (SgP B b (l ++ Lib.decDigits (capI u).toNat) w (.returned (.tuple #[])) w2) := Lib.hid (by have := (HS1.out.more h2 b2 o2).post; simpa using this)
        clear h2 b2 o2
        go_wp2_with fail
        go_end0
        exact HP.out
      by_cases g4 : k = 4
      · subst g4
        rw [if_neg (by decide), if_neg (by decide), if_neg (by decide), if_neg (by decide), if_pos rfl] at hle ⊢
        clear hk hl hvs hkn hws hks
        go_enter Tryz.func45, Tryz.ntmps45
        go_wp2_with fail
        refine (HQu.out _).mono ?_
        rintro e w1 ⟨rfl, b1⟩
        have HS1 := Lib.hid (H0.out.next b1)
        clear b1 s0 s1 s2 s3 s4 s5
        go_wp2_with fail
        refine (HSt.out _ _ _ HS1.out.bld (by rw [sizeQ]; simp only [List.length_append] at hle; omega) HS1.out.size).mono ?_
        rintro e w2 ⟨rfl, h2, b2, o2⟩
        have HP : Hid (SgP B b (l ++ quoL t.data.toList) w (.returned (.tuple #[])) w2) := Lib.hid (by have := (HS1.out.more h2 b2 o2).post; simpa using this)
        clear h2 b2 o2
        go_wp2_with fail
        go_end0
        exact HP.out
      by_cases g5 : k = 5
      · subst g5
        rw [if_neg (by decide), if_neg (by decide), if_neg (by decide), if_neg (by decide), if_neg (by decide), if_pos rfl, inkVs_len] at hle ⊢
        have hle' : l.length + (inkJ false keys (inkVs list) list.length).length + 2 ≤ 1000000 := by
          simp only [List.length_append, List.length_cons, List.length_nil] at hle
          omega
        have hll : list.length ≤ 1000000 := by
          have := inkJ_ge false keys (inkVs list) list.length
          omega
        have HL := Lib.hid hle'
        have HWr : Hid (∀ l' W, Below B w W → BldAt B b (Lib.byteCells l') W → (l' ++ inkJ false keys (inkVs list) list.length).length ≤ 1000000 →
            Calls Tryz.prog 76 #[.pointer (some ⟨b, 0, none⟩), .agg #[.int .i64 5, .string t, .int .u64 u, .slice a list.length d, .slice a' keys.length d', .int .i64 z]] W (SgP B b (l' ++ inkJ false keys (inkVs list) list.length) W)) :=
          Lib.hid fun l' W hW hb hl' => writeArr_any m HIH.out B b l' list keys xs W 5 t u a d a' d' z (by decide) (by omega) (hws (.inl rfl)) (hl.move hW.size fun q hP _ => ⟨hP, hW.block q hP⟩) (hvs.move hW.size fun q hP _ => ⟨hP, hW.block q hP⟩) hb (Nat.le_trans hB hW.size) hpw (hT.keepB hW hpw) hl' hll
        clear hk hl hvs hkn hws hks hle hle' hll
        go_enter Tryz.func45, Tryz.ntmps45
        go_wp2_with fail
        refine (HBy.out _ 91 91 rfl _ H0.out.bld (by have := HL.out; omega) H0.out.size).mono ?_
        rintro e w1 ⟨rfl, h1, b1, o1⟩
        have HS1 := Lib.hid (H0.out.more h1 b1 o1)
        clear h1 b1 o1 s0 s1 s2 s3 s4 s5
        obtain ⟨s0, s1, s2, s3, s4, s5⟩ := HS1.out.six.cells
        go_wp2_with fail
        refine (HWr.out _ _ HS1.out.below HS1.out.bld (by have := HL.out; simp only [List.length_append, List.length_cons, List.length_nil]; omega)).mono ?_
        rintro e w2 ⟨rfl, h2, b2, o2⟩
        have HS2 := Lib.hid (HS1.out.more h2 b2 o2)
        clear h2 b2 o2 s0 s1 s2 s3 s4 s5
        go_wp2_with fail
        refine (HBy.out _ 93 93 rfl _ HS2.out.bld (by have := HL.out; simp only [List.length_append, List.length_cons, List.length_nil]; omega) HS2.out.size).mono ?_
        rintro e w3 ⟨rfl, h3, b3, o3⟩
        have HP : Hid (SgP B b (l ++ 91 :: (inkJ false keys (inkVs list) list.length ++ [93])) w (.returned (.tuple #[])) w3) := Lib.hid (by have := (HS2.out.more h3 b3 o3).post; simpa using this)
        clear h3 b3 o3
        go_wp2_with fail
        go_end0
        exact HP.out
      by_cases g6 : k = 6
      · subst g6
        rw [if_neg (by decide), if_neg (by decide), if_neg (by decide), if_neg (by decide), if_neg (by decide), if_neg (by decide), if_pos rfl, inkVs_len] at hle ⊢
        have hle' : l.length + (inkJ true keys (inkVs list) list.length).length + 2 ≤ 1000000 := by
          simp only [List.length_append, List.length_cons, List.length_nil] at hle
          omega
        have hll : list.length ≤ 1000000 := by
          have := inkJ_ge true keys (inkVs list) list.length
          omega
        have HL := Lib.hid hle'
        have HWr : Hid (∀ l' W, Below B w W → BldAt B b (Lib.byteCells l') W → (l' ++ inkJ true keys (inkVs list) list.length).length ≤ 1000000 →
            Calls Tryz.prog 76 #[.pointer (some ⟨b, 0, none⟩), .agg #[.int .i64 6, .string t, .int .u64 u, .slice a list.length d, .slice a' keys.length d', .int .i64 z]] W (SgP B b (l' ++ inkJ true keys (inkVs list) list.length) W)) :=
          Lib.hid fun l' W hW hb hl' => writeObj_any m HIH.out B b l' list keys xs W 6 t u a d a' d' z rfl (by omega) (hws (.inr rfl)) (hkn rfl) hks (hk.move hW.size fun q hP _ => ⟨hP, hW.block q hP⟩) (hl.move hW.size fun q hP _ => ⟨hP, hW.block q hP⟩) (hvs.move hW.size fun q hP _ => ⟨hP, hW.block q hP⟩) hb (Nat.le_trans hB hW.size) hpw (hT.keepB hW hpw) hl' hll
        clear hk hl hvs hkn hws hks hle hle' hll
        go_enter Tryz.func45, Tryz.ntmps45
        go_wp2_with fail
        refine (HBy.out _ 123 123 rfl _ H0.out.bld (by have := HL.out; omega) H0.out.size).mono ?_
        rintro e w1 ⟨rfl, h1, b1, o1⟩
        have HS1 := Lib.hid (H0.out.more h1 b1 o1)
        clear h1 b1 o1 s0 s1 s2 s3 s4 s5
        obtain ⟨s0, s1, s2, s3, s4, s5⟩ := HS1.out.six.cells
        go_wp2_with fail
        refine (HWr.out _ _ HS1.out.below HS1.out.bld (by have := HL.out; simp only [List.length_append, List.length_cons, List.length_nil]; omega)).mono ?_
        rintro e w2 ⟨rfl, h2, b2, o2⟩
        have HS2 := Lib.hid (HS1.out.more h2 b2 o2)
        clear h2 b2 o2 s0 s1 s2 s3 s4 s5
        go_wp2_with fail
        refine (HBy.out _ 125 125 rfl _ HS2.out.bld (by have := HL.out; simp only [List.length_append, List.length_cons, List.length_nil]; omega) HS2.out.size).mono ?_
        rintro e w3 ⟨rfl, h3, b3, o3⟩
        have HP : Hid (SgP B b (l ++ 123 :: (inkJ true keys (inkVs list) list.length ++ [125])) w (.returned (.tuple #[])) w3) := Lib.hid (by have := (HS2.out.more h3 b3 o3).post; simpa using this)
        clear h3 b3 o3
        go_wp2_with fail
        go_end0
        exact HP.out
      have HP : Hid (SgP B b (l ++ []) w (.returned (.tuple #[])) (w.alloc (.cells #[.int .i64 k, .string t, .int .u64 u, .slice a list.length d, .slice a' keys.length d', .int .i64 z] 27))) := Lib.hid (by rw [List.append_nil]; exact H0.out.post)
      rw [if_neg g0, if_neg g1, if_neg g2, if_neg g3, if_neg g4, if_neg g5, if_neg g6]
      have z0 : (k == 0) = false := beq_eq_false_iff_ne.2 g0
      have z1 : (k == 1) = false := beq_eq_false_iff_ne.2 g1
      have z2 : (k == 2) = false := beq_eq_false_iff_ne.2 g2
      have z3 : (k == 3) = false := beq_eq_false_iff_ne.2 g3
      have z4 : (k == 4) = false := beq_eq_false_iff_ne.2 g4
      have z5 : (k == 5) = false := beq_eq_false_iff_ne.2 g5
      have z6 : (k == 6) = false := beq_eq_false_iff_ne.2 g6
      clear hk hl hvs hkn hws hks g0 g1 g2 g3 g4 g5 g6
      go_enter Tryz.func45, Tryz.ntmps45
      go_wp2_with fail
      go_end0
      exact HP.out
end Go.Proofs.YtajmlkephefapaaGreatDoor

namespace Go.Proofs.YtajmlkephefapaaGreatDoor
open Go.RowKit Go.Extern.Stop Go.Stop Go.Extern Go.WideMaps

set_option maxRecDepth 100000 in
set_option maxHeartbeats 4000000 in
theorem mayBe_any (s : ByteArray) (hs : s.size ≤ 100000) (w : World) : Calls Tryz.prog 109 #[.string s] w fun e w' => e = .returned (.bool (s.data.toList.all mayS)) ∧ w' = w := by
  have hAll : s.data.toList.all mayS = true ↔ ∀ i (h : i < s.size), mayI s[i] = true := by
    rw [List.all_eq_true]
    constructor
    · intro h i hi
      rw [mayI_eq]
      exact h _ (List.getElem_mem (l := s.data.toList) (n := i) (by simpa using hi))
    · intro h x hx
      obtain ⟨i, hi, rfl⟩ := List.getElem_of_mem hx
      rw [← mayI_eq]
      exact h i (by simpa using hi)
  generalize s.data.toList.all mayS = r at *
  have HA := Lib.hid hAll
  clear hAll
  go_enter Tryz.func109, Tryz.ntmps109
  go_wp2_with fail
  go_loopg [6] s.size (fun g u wr => ∃ i : Nat, i ≤ s.size ∧ g = s.size - i ∧ u = .int .i64 i ∧ wr = w ∧ ∀ j (h : j < s.size), j < i → mayI s[j] = true)
  case atStart => exact ⟨0, Nat.zero_le _, by omega, rfl, rfl, fun j _ h => absurd h (Nat.not_lt_zero _)⟩
  case round =>
    obtain ⟨i, hi, hgi, rfl, rfl, hall⟩ := hrel
    have HL := Lib.hid hall
    clear hall
    by_cases hlt : i < s.size
    · have HNO : Hid (mayI s[i] = false → r = false) := Lib.hid (fun h => by
        cases hc : r
        · rfl
        · have := HA.out.1 hc i hlt
          rw [h] at this
          cases this)
      have HYES : Hid (mayI s[i] = true → ∀ j (h : j < s.size), j < i + 1 → mayI s[j] = true) := Lib.hid (fun h j hj hji => by
        by_cases e : j = i
        · subst e; exact h
        · exact HL.out j hj (by omega))
      unfold mayI at HNO HYES
      by_cases h10 : (s[i].toNat : Int) = 10
      · have q10 : ((s[i].toNat : Int) == 10) = true := by simpa using h10
        have q10' : ((s[i].toNat : Int) != 10) = false := by simpa using h10
        rw [q10] at HYES
        clear h10
        go_wp2_with fail
        go_roundg (s.size - (i + 1))
        case measure => omega
        case rel => exact ⟨i + 1, by omega, rfl, rfl, rfl, HYES.out (by simp)⟩
      · have q10 : ((s[i].toNat : Int) == 10) = false := by simpa using h10
        have q10' : ((s[i].toNat : Int) != 10) = true := by simpa using h10
        rw [q10] at HYES HNO
        clear h10
        by_cases h32 : (s[i].toNat : Int) < 32
        · have HN2 := Lib.hid (HNO.out (by simp; omega))
          clear HNO HYES
          go_wp2_with fail
          go_ret
          exact ⟨by rw [HN2.out]; rfl, rfl⟩
        · by_cases h126 : (126 : Int) < (s[i].toNat : Int)
          · have HN2 := Lib.hid (HNO.out (by simp; omega))
            clear HNO HYES
            go_wp2_with fail
            go_ret
            exact ⟨by rw [HN2.out]; rfl, rfl⟩
          · have HY2 := Lib.hid (HYES.out (by simp; omega))
            clear HNO HYES
            go_wp2_with fail
            go_roundg (s.size - (i + 1))
            case measure => omega
            case rel => exact ⟨i + 1, by omega, rfl, rfl, rfl, HY2.out⟩
    · obtain rfl : i = s.size := by omega
      have HE : Hid (r = true) := Lib.hid (HA.out.2 fun j h => HL.out j h h)
      go_wp2_with fail
      go_ret
      exact ⟨by rw [HE.out]; rfl, rfl⟩

theorem kbelow_drewN (w : World) (n : Nat) : Below w.heap.size w (w.drewN n) := by
  induction n with
  | zero => exact Below.refl _ _
  | succ n ih => exact ⟨ih.os, ih.tape, ih.output, ih.size, ih.block⟩
set_option maxHeartbeats 400000 in
theorem iholds_any (k : Int) (t : ByteArray) (n : Int) (a : Option Addr) (l c : Nat) (a' : Option Addr) (l' c' : Nat) (z : Int) (w : World) :
    Calls Tryz.prog 108 #[.agg #[.int .i64 k, .string t, .int .u64 n, .slice a l c, .slice a' l' c', .int .i64 z]] w fun e w' => e = .returned (.bool (decide (k = 5 ∨ k = 6))) ∧ Below w.heap.size w w' := by
  go_enter Tryz.func108, Tryz.ntmps108
  go_wp2
  all_goals
    go_ret
    refine ⟨congrArg (fun b => Ending.returned (.bool b)) ?_, (Below.refl _ _).alloc (Nat.le_refl _) _⟩
    rw [Bool.eq_iff_iff]
    simp_all

set_option maxHeartbeats 400000 in
theorem iwhole_any (k : Int) (t : ByteArray) (n : Int) (a : Option Addr) (l c : Nat) (a' : Option Addr) (l' c' : Nat) (z : Int) (w : World) :
    Calls Tryz.prog 110 #[.agg #[.int .i64 k, .string t, .int .u64 n, .slice a l c, .slice a' l' c', .int .i64 z]] w fun e w' => e = .returned (.bool ((l' : Int) == (l : Int))) ∧ Below w.heap.size w w' := by
  go_enter Tryz.func110, Tryz.ntmps110
  go_wp2
  go_ret
  exact ⟨rfl, (Below.refl _ _).alloc (Nat.le_refl _) _⟩
set_option maxHeartbeats 2000000 in
theorem flaw_obj (a : Option Addr) (c : Nat) (a' : Option Addr) (c' : Nat) (w : World) :
    Calls Tryz.prog 77 #[.agg #[.int .i64 6, .string ⟨#[]⟩, .int .u64 0, .slice a 1 c, .slice a' 1 c', .int .i64 0], .int .i64 0] w fun e w' => e = .returned (.int .i64 0) ∧ Below w.heap.size w w' := by
  have HH := Lib.hid (fun W => iholds_any 6 ⟨#[]⟩ 0 a 1 c a' 1 c' 0 W)
  have HW := Lib.hid (fun W => iwhole_any 6 ⟨#[]⟩ 0 a 1 c a' 1 c' 0 W)
  have HC := Lib.hid (fun a W => cap_any a W)
  have HM := Lib.hid (fun W => mayBe_any ⟨#[]⟩ (by decide) W)
  have H0 := Lib.hid (sbelow_new w (.cells #[.int .i64 6, .string ⟨#[]⟩, .int .u64 0, .slice a 1 c, .slice a' 1 c', .int .i64 0] 27))
  have H6 : Hid (SixAt (w.alloc (.cells #[.int .i64 6, .string ⟨#[]⟩, .int .u64 0, .slice a 1 c, .slice a' 1 c', .int .i64 0] 27)) w.heap.size (.int .i64 6) (.string ⟨#[]⟩) (.int .u64 0) (.slice a 1 c) (.slice a' 1 c') (.int .i64 0)) := Lib.hid (heap_alloc_new w _)
  obtain ⟨s0, s1, s2, s3, s4, s5⟩ := H6.out.cells
  go_enter Tryz.func77, Tryz.ntmps77
  go_wp2_with fail
  refine (HH.out _).mono ?_
  rintro e w1 ⟨rfl, b1⟩
  have HB1 := Lib.hid (H0.out.trans (b1.mono H0.out.size))
  have H61 := Lib.hid (H6.out.step b1)
  clear s0 s1 s2 s3 s4 s5 b1
  obtain ⟨s0, s1, s2, s3, s4, s5⟩ := H61.out.cells
  go_wp2_with fail
  go_quiet (first | (go_at_call 106; exact Calls.quiet_of_same (HC.out _ _)) | (go_at_call 109; exact Calls.quiet_of_same (HM.out _)))
  go_wp2_with fail
  refine (HW.out _).mono ?_
  rintro e w2 ⟨rfl, b2⟩
  have HB2 := Lib.hid (HB1.out.trans ((kbelow_drewN w1 _).trans (b2.mono (Nat.le_refl _)) |>.mono HB1.out.size))
  clear s0 s1 s2 s3 s4 s5 b2
  go_wp2_with fail
  go_ret
  exact ⟨rfl, HB2.out⟩
set_option maxHeartbeats 2000000 in
theorem flaw_true (w : World) :
    Calls Tryz.prog 77 #[.agg #[.int .i64 2, .string ⟨#[]⟩, .int .u64 0, .slice none 0 0, .slice none 0 0, .int .i64 0], .int .i64 1] w fun e w' => e = .returned (.int .i64 0) ∧ Below w.heap.size w w' := by
  have HH := Lib.hid (fun W => iholds_any 2 ⟨#[]⟩ 0 none 0 0 none 0 0 0 W)
  have HC := Lib.hid (fun a W => cap_any a W)
  have HM := Lib.hid (fun W => mayBe_any ⟨#[]⟩ (by decide) W)
  have H0 := Lib.hid (sbelow_new w (.cells #[.int .i64 2, .string ⟨#[]⟩, .int .u64 0, .slice none 0 0, .slice none 0 0, .int .i64 0] 27))
  have H6 : Hid (SixAt (w.alloc (.cells #[.int .i64 2, .string ⟨#[]⟩, .int .u64 0, .slice none 0 0, .slice none 0 0, .int .i64 0] 27)) w.heap.size (.int .i64 2) (.string ⟨#[]⟩) (.int .u64 0) (.slice none 0 0) (.slice none 0 0) (.int .i64 0)) := Lib.hid (heap_alloc_new w _)
  obtain ⟨s0, s1, s2, s3, s4, s5⟩ := H6.out.cells
  go_enter Tryz.func77, Tryz.ntmps77
  go_wp2_with fail
  refine (HH.out _).mono ?_
  rintro e w1 ⟨rfl, b1⟩
  have HB1 := Lib.hid (H0.out.trans (b1.mono H0.out.size))
  have H61 := Lib.hid (H6.out.step b1)
  clear s0 s1 s2 s3 s4 s5 b1
  obtain ⟨s0, s1, s2, s3, s4, s5⟩ := H61.out.cells
  go_wp2_with fail
  go_quiet (first | (go_at_call 106; exact Calls.quiet_of_same (HC.out _ _)) | (go_at_call 109; exact Calls.quiet_of_same (HM.out _)))
  go_wp2_with fail
  go_ret
  exact ⟨rfl, HB1.out.trans ((kbelow_drewN w1 _).mono HB1.out.size)⟩
set_option maxHeartbeats 2000000 in
theorem check_true (w : World) :
    Calls Tryz.prog 48 #[.agg #[.int .i64 2, .string ⟨#[]⟩, .int .u64 0, .slice none 0 0, .slice none 0 0, .int .i64 0], .int .i64 1] w fun e w' => e = .returned .nilIface ∧ Below w.heap.size w w' := by
  have HF := Lib.hid (fun W => flaw_true W)
  have H0 := Lib.hid (sbelow_new w (.cells #[.int .i64 2, .string ⟨#[]⟩, .int .u64 0, .slice none 0 0, .slice none 0 0, .int .i64 0] 27))
  have H6 : Hid (SixAt (w.alloc (.cells #[.int .i64 2, .string ⟨#[]⟩, .int .u64 0, .slice none 0 0, .slice none 0 0, .int .i64 0] 27)) w.heap.size (.int .i64 2) (.string ⟨#[]⟩) (.int .u64 0) (.slice none 0 0) (.slice none 0 0) (.int .i64 0)) := Lib.hid (heap_alloc_new w _)
  obtain ⟨s0, s1, s2, s3, s4, s5⟩ := H6.out.cells
  go_enter Tryz.func48, Tryz.ntmps48
  go_wp2_with fail
  refine (HF.out _).mono ?_
  rintro e w1 ⟨rfl, b1⟩
  have HB1 := Lib.hid (H0.out.trans (b1.mono H0.out.size))
  have H61 := Lib.hid (H6.out.step b1)
  clear s0 s1 s2 s3 s4 s5 b1
  obtain ⟨s0, s1, s2, s3, s4, s5⟩ := H61.out.cells
  go_wp2_with fail
  go_ret
  exact ⟨rfl, HB1.out⟩
end Go.Proofs.YtajmlkephefapaaGreatDoor

namespace Go.Proofs.YtajmlkephefapaaGreatDoor
open Go.RowKit Go.Extern.Stop Go.Stop Go.Extern Go.WideMaps

theorem key97 : keyOf Tryz.prog 9 (.string ⟨#[97]⟩) = some (.string [97]) := keyOf_string_mk Tryz.underlying9 (s := ⟨#[97]⟩) (by decide)
set_option maxRecDepth 100000 in
set_option maxHeartbeats 2000000 in
theorem checkKey_one (mb n : Nat) (w : World) (hm : KsAt w mb n []) :
    Calls Tryz.prog 112 #[.string ⟨#[97]⟩, .map (some mb)] w fun e w' => e = .returned .nilIface ∧ Below w.heap.size w w' := by
  have HM := Lib.hid (fun W => mayBe_any ⟨#[97]⟩ (by decide) W)
  have hkey := key97
  have hbe := sbelow_new w (.cells #[] 159)
  have HB := Lib.hid hbe
  obtain ⟨D, hown, hhas⟩ := hm
  obtain ⟨D', hown', hhas'⟩ := KsAt.step ⟨D, hown, hhas⟩ hbe
  have HH := Lib.hid (hhas ⟨#[97]⟩)
  have HH' := Lib.hid (hhas' ⟨#[97]⟩)
  clear hhas hhas' hbe
  go_enter Tryz.func112, Tryz.ntmps112
  go_wp2_with fail
  refine (HM.out _).mono ?_
  rintro e w1 ⟨rfl, rfl⟩
  go_wp2_with (at_lookup; first
    | (refine wpList_lookup_own_unit _ rfl _ _ 137 rfl 9 159 law9 Tryz.underlying137 (zeroE _) mb n _ rfl hown _ _ rfl hkey ?_; rw [HH.out])
    | (refine wpList_lookup_own_unit _ rfl _ _ 137 rfl 9 159 law9 Tryz.underlying137 (zeroE _) mb n _ rfl hown' _ _ rfl hkey ?_; rw [HH'.out]))
  go_ret
  exact ⟨rfl, HB.out⟩
/-- The one member's cells. -/
structure OneAt (W : World) (b0 kb : Nat) : Prop where
  lt : b0 < W.heap.size ∧ kb < W.heap.size
  k : W.cell? ⟨kb, 0, none⟩ = some (.string ⟨#[97]⟩)
  c0 : W.cell? ⟨b0, 0, none⟩ = some (.int .i64 2)
  c1 : W.cell? ⟨b0, 1, none⟩ = some (.string ⟨#[]⟩)
  c2 : W.cell? ⟨b0, 2, none⟩ = some (.int .u64 0)
  c3 : W.cell? ⟨b0, 3, none⟩ = some (.slice none 0 0)
  c4 : W.cell? ⟨b0, 4, none⟩ = some (.slice none 0 0)
  c5 : W.cell? ⟨b0, 5, none⟩ = some (.int .i64 0)
theorem OneAt.below {W W' : World} {b0 kb : Nat} (h : OneAt W b0 kb) (hb : Below W.heap.size W W') : OneAt W' b0 kb :=
  ⟨⟨Nat.lt_of_lt_of_le h.lt.1 hb.size, Nat.lt_of_lt_of_le h.lt.2 hb.size⟩, (hb.cell (p := ⟨kb, 0, none⟩) h.lt.2).trans h.k, (hb.cell (p := ⟨b0, 0, none⟩) h.lt.1).trans h.c0, (hb.cell (p := ⟨b0, 1, none⟩) h.lt.1).trans h.c1, (hb.cell (p := ⟨b0, 2, none⟩) h.lt.1).trans h.c2, (hb.cell (p := ⟨b0, 3, none⟩) h.lt.1).trans h.c3, (hb.cell (p := ⟨b0, 4, none⟩) h.lt.1).trans h.c4, (hb.cell (p := ⟨b0, 5, none⟩) h.lt.1).trans h.c5⟩
/-- On the way through the one member. -/
def CoR (w : World) (b0 kb c c' : Nat) (i : Nat) (wr : World) : Prop :=
  (i = 0 → KsAt wr (w.heap.size + 1) 0 []) ∧ SixAt wr w.heap.size (.int .i64 6) (.string ⟨#[]⟩) (.int .u64 0) (.slice (some ⟨b0, 0, none⟩) 1 c) (.slice (some ⟨kb, 0, none⟩) 1 c') (.int .i64 0) ∧ OneAt wr b0 kb ∧ Below w.heap.size w wr
set_option maxRecDepth 100000 in
set_option maxHeartbeats 4000000 in
theorem checkObject_one (b0 kb c c' : Nat) (w : World) (h1 : OneAt w b0 kb) :
    Calls Tryz.prog 79 #[.agg #[.int .i64 6, .string ⟨#[]⟩, .int .u64 0, .slice (some ⟨b0, 0, none⟩) 1 c, .slice (some ⟨kb, 0, none⟩) 1 c', .int .i64 0], .int .i64 1] w fun e w' => e = .returned .nilIface ∧ Below w.heap.size w w' := by
  have HK := Lib.hid (fun mb W hm => checkKey_one mb 0 W hm)
  have HC := Lib.hid (fun W => check_true W)
  have H0 := Lib.hid (sbelow_new w (.cells #[.int .i64 6, .string ⟨#[]⟩, .int .u64 0, .slice (some ⟨b0, 0, none⟩) 1 c, .slice (some ⟨kb, 0, none⟩) 1 c', .int .i64 0] 27))
  have H6 : Hid (SixAt (w.alloc (.cells #[.int .i64 6, .string ⟨#[]⟩, .int .u64 0, .slice (some ⟨b0, 0, none⟩) 1 c, .slice (some ⟨kb, 0, none⟩) 1 c', .int .i64 0] 27)) w.heap.size (.int .i64 6) (.string ⟨#[]⟩) (.int .u64 0) (.slice (some ⟨b0, 0, none⟩) 1 c) (.slice (some ⟨kb, 0, none⟩) 1 c') (.int .i64 0)) := Lib.hid (heap_alloc_new w _)
  have HO := Lib.hid h1
  have H1 := Lib.hid (h1.below H0.out)
  have hmm := @run_makeMap Tryz.prog
  clear h1
  obtain ⟨s0, s1, s2, s3, s4, s5⟩ := H6.out.cells
  go_enter Tryz.func79, Tryz.ntmps79
  go_wp2_with fail
  clear s0 s1 s2 s3 s4 s5
  have bm := sbelow_new (w.alloc (.cells #[.int .i64 6, .string ⟨#[]⟩, .int .u64 0, .slice (some ⟨b0, 0, none⟩) 1 c, .slice (some ⟨kb, 0, none⟩) 1 c', .int .i64 0] 27)) (.map #[] 0)
  have hks := KsAt.new (w.alloc (.cells #[.int .i64 6, .string ⟨#[]⟩, .int .u64 0, .slice (some ⟨b0, 0, none⟩) 1 c, .slice (some ⟨kb, 0, none⟩) 1 c', .int .i64 0] 27))
  rw [World.size_alloc] at hks
  have HR : Hid (CoR w b0 kb c c' 0 _) := Lib.hid ⟨fun _ => hks, H6.out.step bm, H1.out.below bm, H0.out.trans (bm.mono H0.out.size)⟩
  clear bm hks H6 H1 H0
  go_loopg [13] 1 (fun g u wr => ∃ i : Nat, i ≤ 1 ∧ g = 1 - i ∧ u = .int .i64 i ∧ CoR w b0 kb c c' i wr)
  case atStart => exact ⟨0, by omega, rfl, rfl, HR.out⟩
  case round =>
    clear HR
    obtain ⟨i, hi, hgi, rfl, hks, h6, h1, hb⟩ := hrel
    by_cases hlt : i < 1
    · obtain rfl : i = 0 := by omega
      have HKS := Lib.hid (hks rfl)
      have H6 := Lib.hid h6
      have H1 := Lib.hid h1
      have HB := Lib.hid hb
      clear hks h6 h1 hb
      have k0 := H1.out.k
      go_wp2_with fail
      refine (HK.out _ _ HKS.out).mono ?_
      rintro e w1 ⟨rfl, b1⟩
      have HKS1 := Lib.hid (HKS.out.step b1)
      have H61 := Lib.hid (H6.out.step b1)
      have H11 := Lib.hid (H1.out.below b1)
      have HB1 := Lib.hid (HB.out.trans (b1.mono HB.out.size))
      clear b1 k0 HKS H6 H1 HB
      obtain ⟨s0, s1, s2, s3, s4, s5⟩ := H61.out.cells
      have c0 := H11.out.c0
      have c1 := H11.out.c1
      have c2 := H11.out.c2
      have c3 := H11.out.c3
      have c4 := H11.out.c4
      have c5 := H11.out.c5
      go_wp2_with fail
      refine (HC.out _).mono ?_
      rintro e w2 ⟨rfl, b2⟩
      have HKS2 := Lib.hid (HKS1.out.step b2)
      have H62 := Lib.hid (H61.out.step b2)
      have H12 := Lib.hid (H11.out.below b2)
      have HB2 := Lib.hid (HB1.out.trans (b2.mono HB1.out.size))
      clear b2 s0 s1 s2 s3 s4 s5 c0 c1 c2 c3 c4 c5 HKS1 H61 H11 HB1
      obtain ⟨D, hown, hhas⟩ := HKS2.out
      have hkey := key97
      clear hhas
      go_wp2_with (at_mapUpdate; refine wpList_mapUpdate_own _ rfl _ _ _ 137 rfl 9 159 law9 Tryz.underlying137 (unitElem (H := Unit)) (w.heap.size + 1) 0 _ rfl hown (by unfold maxLen; omega) _ _ _ rfl rfl hkey _ [] unitElem_mk ?_)
      intro w6 hown6 hgrow6
      have HK6 : Hid (Keeps (· = w.heap.size + 1) w2 w6) := Lib.hid (Keeps.of_grown hgrow6 (fun k e => (by injection e with e; exact e.symm)))
      have HB6 : Hid (Below w.heap.size w w6) := Lib.hid (HB2.out.trans (HK6.out.below HB2.out.size (fun k e => by rw [e]; omega)))
      have HN : Hid (CoR w b0 kb c c' (0 + 1) w6) := Lib.hid ⟨fun h => by omega, H62.out.keeps HK6.out (fun e => by omega), HO.out.below HB6.out, HB6.out⟩
      clear hown6 hgrow6 hown HKS2 H62 H12 HB2 HK6
      go_wp2_with fail
      go_roundg (1 - (0 + 1))
      case measure => omega
      case rel => exact ⟨0 + 1, by omega, rfl, by go_num, HN.out⟩
    · obtain rfl : i = 1 := by omega
      have HB := Lib.hid hb
      clear hks h6 h1 hb
      go_wp2_with fail
      go_ret
      exact ⟨rfl, HB.out⟩
set_option maxHeartbeats 2000000 in
theorem check_one (b0 kb c c' : Nat) (w : World) (h1 : OneAt w b0 kb) :
    Calls Tryz.prog 48 #[.agg #[.int .i64 6, .string ⟨#[]⟩, .int .u64 0, .slice (some ⟨b0, 0, none⟩) 1 c, .slice (some ⟨kb, 0, none⟩) 1 c', .int .i64 0], .int .i64 0] w fun e w' => e = .returned .nilIface ∧ Below w.heap.size w w' := by
  have HF := Lib.hid (fun W => flaw_obj (some ⟨b0, 0, none⟩) c (some ⟨kb, 0, none⟩) c' W)
  have HO := Lib.hid (fun W (hW : Below w.heap.size w W) => checkObject_one b0 kb c c' W (h1.below hW))
  clear h1
  have H0 := Lib.hid (sbelow_new w (.cells #[.int .i64 6, .string ⟨#[]⟩, .int .u64 0, .slice (some ⟨b0, 0, none⟩) 1 c, .slice (some ⟨kb, 0, none⟩) 1 c', .int .i64 0] 27))
  have H6 : Hid (SixAt (w.alloc (.cells #[.int .i64 6, .string ⟨#[]⟩, .int .u64 0, .slice (some ⟨b0, 0, none⟩) 1 c, .slice (some ⟨kb, 0, none⟩) 1 c', .int .i64 0] 27)) w.heap.size (.int .i64 6) (.string ⟨#[]⟩) (.int .u64 0) (.slice (some ⟨b0, 0, none⟩) 1 c) (.slice (some ⟨kb, 0, none⟩) 1 c') (.int .i64 0)) := Lib.hid (heap_alloc_new w _)
  obtain ⟨s0, s1, s2, s3, s4, s5⟩ := H6.out.cells
  go_enter Tryz.func48, Tryz.ntmps48
  go_wp2_with fail
  refine (HF.out _).mono ?_
  rintro e w1 ⟨rfl, b1⟩
  have HB1 := Lib.hid (H0.out.trans (b1.mono H0.out.size))
  have H61 := Lib.hid (H6.out.step b1)
  clear s0 s1 s2 s3 s4 s5 b1
  obtain ⟨s0, s1, s2, s3, s4, s5⟩ := H61.out.cells
  go_wp2_with fail
  refine (HO.out _ HB1.out).mono ?_
  rintro e w2 ⟨rfl, b2⟩
  have HB2 := Lib.hid (HB1.out.trans (b2.mono HB1.out.size))
  clear b2 s0 s1 s2 s3 s4 s5
  go_wp2_with fail
  go_ret
  exact ⟨rfl, HB2.out⟩
set_option maxHeartbeats 2000000 in
theorem iCheck_one (b0 kb c c' : Nat) (w : World) (h1 : OneAt w b0 kb) :
    Calls Tryz.prog 23 #[.agg #[.int .i64 6, .string ⟨#[]⟩, .int .u64 0, .slice (some ⟨b0, 0, none⟩) 1 c, .slice (some ⟨kb, 0, none⟩) 1 c', .int .i64 0]] w fun e w' => e = .returned .nilIface ∧ Below w.heap.size w w' := by
  have HO := Lib.hid (fun W (hW : Below w.heap.size w W) => check_one b0 kb c c' W (h1.below hW))
  have HB0 := Lib.hid (sbelow_new w (.cells #[.int .i64 6, .string ⟨#[]⟩, .int .u64 0, .slice (some ⟨b0, 0, none⟩) 1 c, .slice (some ⟨kb, 0, none⟩) 1 c', .int .i64 0] 27))
  have H6 : Hid (SixAt (w.alloc (.cells #[.int .i64 6, .string ⟨#[]⟩, .int .u64 0, .slice (some ⟨b0, 0, none⟩) 1 c, .slice (some ⟨kb, 0, none⟩) 1 c', .int .i64 0] 27)) w.heap.size (.int .i64 6) (.string ⟨#[]⟩) (.int .u64 0) (.slice (some ⟨b0, 0, none⟩) 1 c) (.slice (some ⟨kb, 0, none⟩) 1 c') (.int .i64 0)) := Lib.hid (heap_alloc_new w _)
  obtain ⟨s0, s1, s2, s3, s4, s5⟩ := H6.out.cells
  clear h1
  go_enter Tryz.func23, Tryz.ntmps23
  go_wp2_with fail
  refine (HO.out _ HB0.out).mono ?_
  rintro e w2 ⟨rfl, b2⟩
  have HB2 := Lib.hid (HB0.out.trans (b2.mono HB0.out.size))
  clear b2
  go_wp2_with fail
  go_ret
  exact ⟨rfl, HB2.out⟩
end Go.Proofs.YtajmlkephefapaaGreatDoor

namespace Go.Proofs.YtajmlkephefapaaGreatDoor
open Go.RowKit Go.Extern.Stop Go.Stop Go.Extern Go.WideMaps

def v6 : Val := .mk 6 ⟨#[]⟩ 0 [.mk 2 ⟨#[]⟩ 0 [] [] 0] [⟨#[97]⟩] 0
def t6 : List UInt8 := [123, 34, 97, 34, 58, 116, 114, 117, 101, 125]
theorem inkV6 : inkV v6 = t6 := by
  simp [v6, t6, inkV, inkVs, inkJ, quoL, bodyQ, signQ]
theorem whole6 : WholeV v6 := .mk _ _ _ _ _ _ (fun _ => rfl) (by decide) (by intro s hs; simp at hs; subst hs; decide) (by
  intro _ x hx
  simp at hx
  subst hx
  exact .mk _ _ _ _ _ _ (fun h => absurd h (by decide)) (by decide) (by intro s hs; cases hs) (by intro _ x hx; cases hx) (by decide)) (by decide)
theorem val6 {W : World} {b0 kb c c' : Nat} (h : OneAt W b0 kb) : ValC (fun q => q < W.heap.size) W [.int .i64 6, .string ⟨#[]⟩, .int .u64 0, .slice (some ⟨b0, 0, none⟩) 1 c, .slice (some ⟨kb, 0, none⟩) 1 c', .int .i64 0] v6 := by
  unfold v6 ValC
  refine ⟨_, _, [.int .i64 2, .string ⟨#[]⟩, .int .u64 0, .slice none 0 0, .slice none 0 0, .int .i64 0], rfl, .inr ⟨kb, 0, c', rfl, h.lt.2, h.lt.2, ?_⟩, .inr ⟨b0, 0, c, rfl, h.lt.1, h.lt.1, ?_⟩, ?_⟩
  · intro j u hj
    match j, hj with
    | 0, hj => injection hj with hj; subst hj; exact h.k
    | j + 1, hj => simp at hj
  · intro j u hj
    match j, hj with
    | 0, hj => injection hj with hj; subst hj; exact h.c0
    | 1, hj => injection hj with hj; subst hj; exact h.c1
    | 2, hj => injection hj with hj; subst hj; exact h.c2
    | 3, hj => injection hj with hj; subst hj; exact h.c3
    | 4, hj => injection hj with hj; subst hj; exact h.c4
    | 5, hj => injection hj with hj; subst hj; exact h.c5
    | j + 6, hj => simp at hj
  · unfold ValsC
    exact ⟨_, [], by rw [List.append_nil], ValC.leaf _ _ 2 ⟨#[]⟩ 0 0, by unfold ValsC; rfl⟩
set_option maxRecDepth 100000 in
set_option maxHeartbeats 2000000 in
theorem iText_one (b0 kb c c' : Nat) (w : World) (h1 : OneAt w b0 kb) (hT : Tab w) :
    Calls Tryz.prog 21 #[.agg #[.int .i64 6, .string ⟨#[]⟩, .int .u64 0, .slice (some ⟨b0, 0, none⟩) 1 c, .slice (some ⟨kb, 0, none⟩) 1 c', .int .i64 0]] w fun e w' => e = .returned (.tuple #[.string ⟨t6.toArray⟩, .nilIface]) ∧ Below w.heap.size w w' := by
  have HO := Lib.hid (fun W (hW : Below w.heap.size w W) => iCheck_one b0 kb c c' W (h1.below hW))
  have HW : Hid (∀ W, Below w.heap.size w W → Calls Tryz.prog 45 #[.pointer (some ⟨W.heap.size, 0, none⟩), .agg #[.int .i64 6, .string ⟨#[]⟩, .int .u64 0, .slice (some ⟨b0, 0, none⟩) 1 c, .slice (some ⟨kb, 0, none⟩) 1 c', .int .i64 0]] (W.alloc (.cells #[.pointer none, .slice none 0 0] 80))
      fun e w' => e = .returned (.tuple #[]) ∧ BldAt W.heap.size W.heap.size (Lib.byteCells t6) w' ∧ Below W.heap.size W w') := Lib.hid (fun W hW => by
    have hb := sbelow_new W (.cells #[.pointer none, .slice none 0 0] 80)
    have hB : BldAt W.heap.size W.heap.size (Lib.byteCells []) (W.alloc (.cells #[.pointer none, .slice none 0 0] 80)) := BldAt.new W
    have hv : ValC (fun q => q < W.heap.size) (W.alloc (.cells #[.pointer none, .slice none 0 0] 80)) _ v6 := (val6 (c := c) (c' := c') (h1.below hW)).step hb
    have hTW := hT.below hW
    have := write_go (fun u W h0 ht => adigits_any u h0 W ht) (SizeOf.sizeOf v6 + 1) v6 (by omega) whole6 W.heap.size W.heap.size [] _ 6 ⟨#[]⟩ 0 _ 1 c _ 1 c' 0 hv hB hb.size hTW.lt (hTW.below hb) (by rw [inkV6]; decide)
    rw [inkV6] at this
    exact this.mono fun e w' h => ⟨h.1, h.2.1, hb.trans h.2.2.1⟩)
  have HSt := Lib.hid (fun B b l W h hB => bldString_any B b l W h hB)
  have HB0 := Lib.hid (sbelow_new w (.cells #[.int .i64 6, .string ⟨#[]⟩, .int .u64 0, .slice (some ⟨b0, 0, none⟩) 1 c, .slice (some ⟨kb, 0, none⟩) 1 c', .int .i64 0] 27))
  have H6 : Hid (SixAt (w.alloc (.cells #[.int .i64 6, .string ⟨#[]⟩, .int .u64 0, .slice (some ⟨b0, 0, none⟩) 1 c, .slice (some ⟨kb, 0, none⟩) 1 c', .int .i64 0] 27)) w.heap.size (.int .i64 6) (.string ⟨#[]⟩) (.int .u64 0) (.slice (some ⟨b0, 0, none⟩) 1 c) (.slice (some ⟨kb, 0, none⟩) 1 c') (.int .i64 0)) := Lib.hid (heap_alloc_new w _)
  obtain ⟨s0, s1, s2, s3, s4, s5⟩ := H6.out.cells
  clear h1 hT
  go_enter Tryz.func21, Tryz.ntmps21
  go_wp2_with fail
  refine (HO.out _ HB0.out).mono ?_
  rintro e w2 ⟨rfl, b2⟩
  have HB2 := Lib.hid (HB0.out.trans (b2.mono HB0.out.size))
  have H62 := Lib.hid ((H6.out.step b2).step (sbelow_new w2 (.cells #[.pointer none, .slice none 0 0] 80)))
  clear b2 s0 s1 s2 s3 s4 s5
  obtain ⟨s0, s1, s2, s3, s4, s5⟩ := H62.out.cells
  go_wp2_with fail
  refine (HW.out _ HB2.out).mono ?_
  rintro e w3 ⟨rfl, h3, b3⟩
  have H3 := Lib.hid h3
  have HB3 := Lib.hid (HB2.out.trans (b3.mono HB2.out.size))
  have HZ := Lib.hid b3.size
  clear h3 b3 s0 s1 s2 s3 s4 s5
  go_wp2_with fail
  refine (HSt.out _ _ _ _ H3.out HZ.out).mono ?_
  rintro e w4 ⟨rfl, -, b4, -⟩
  have HB4 := Lib.hid (HB3.out.trans (b4.mono HB2.out.size))
  clear b4
  go_wp2_with fail
  go_ret2
  exact ⟨rfl, HB4.out⟩
end Go.Proofs.YtajmlkephefapaaGreatDoor

namespace Go.Proofs.YtajmlkephefapaaGreatDoor
open Go.RowKit Go.Extern.Stop Go.Stop Go.Extern Go.WideMaps

set_option maxHeartbeats 2000000 in
theorem Awake5_any (w : World) (hg : Handle w) : Calls Tryz.prog 42 #[] w fun e w' => e = .returned (.bool true) ∧ Below w.heap.size w w' := by
  go_enter Tryz.func42, Tryz.ntmps42
  go_wp2_with (go_at_call 6; refine (awake5_any _ hg).mono ?_; rintro e w' ⟨rfl, hb⟩)
  go_ret
  exact ⟨rfl, hb⟩
theorem one_new (w : World) : OneAt ((w.alloc (.cells #[.string ⟨#[97]⟩] 9)).alloc (.cells #[.int .i64 2, .string ⟨#[]⟩, .int .u64 0, .slice none 0 0, .slice none 0 0, .int .i64 0] 27)) (w.heap.size + 1) w.heap.size := by
  have h := heap_alloc_new (w.alloc (.cells #[.string ⟨#[97]⟩] 9)) (.cells #[.int .i64 2, .string ⟨#[]⟩, .int .u64 0, .slice none 0 0, .slice none 0 0, .int .i64 0] 27)
  rw [World.size_alloc] at h
  have hk : ((w.alloc (.cells #[.string ⟨#[97]⟩] 9)).alloc (.cells #[.int .i64 2, .string ⟨#[]⟩, .int .u64 0, .slice none 0 0, .slice none 0 0, .int .i64 0] 27)).cell? ⟨w.heap.size, 0, none⟩ = some (.string ⟨#[97]⟩) :=
    ((sbelow_new (w.alloc (.cells #[.string ⟨#[97]⟩] 9)) _).cell (p := ⟨w.heap.size, 0, none⟩) (by rw [World.size_alloc]; exact Nat.lt_succ_self _)).trans (by rw [Lib.cell_of_heap (heap_alloc_new w _)]; rfl)
  exact ⟨⟨by rw [World.size_alloc, World.size_alloc]; omega, by rw [World.size_alloc, World.size_alloc]; omega⟩, hk, by rw [Lib.cell_of_heap h]; rfl, by rw [Lib.cell_of_heap h]; rfl, by rw [Lib.cell_of_heap h]; rfl, by rw [Lib.cell_of_heap h]; rfl, by rw [Lib.cell_of_heap h]; rfl, by rw [Lib.cell_of_heap h]; rfl⟩
set_option maxRecDepth 100000 in
set_option maxHeartbeats 2000000 in
theorem awake6_any (w : World) (hg : Handle w) (hT : Tab w) : Calls Tryz.prog 18 #[] w fun e w' => e = .returned (.bool true) ∧ Below w.heap.size w w' := by
  have HG := Lib.hid hg
  have HTb := Lib.hid hT
  have HA2 := Lib.hid (fun W (hW : Handle W) => Awake2_any W hW)
  have HA5 := Lib.hid (fun W (hW : Handle W) => Awake5_any W hW)
  have HO := Lib.hid (one_new w)
  have HB := Lib.hid ((sbelow_new w (.cells #[.string ⟨#[97]⟩] 9)).trans ((sbelow_new (w.alloc (.cells #[.string ⟨#[97]⟩] 9)) (.cells #[.int .i64 2, .string ⟨#[]⟩, .int .u64 0, .slice none 0 0, .slice none 0 0, .int .i64 0] 27)).mono (by rw [World.size_alloc]; omega)))
  clear hg hT
  go_enter Tryz.func18, Tryz.ntmps18
  go_wp2_with fail
  refine (iText_one _ _ 1 1 _ HO.out (HTb.out.below HB.out)).mono ?_
  rintro e w1 ⟨rfl, b1⟩
  have HB1 := Lib.hid (HB.out.trans (b1.mono HB.out.size))
  clear b1
  unfold t6
  go_wp2_with fail
  refine (HA2.out _ (HG.out.below HB1.out)).mono ?_
  rintro e w2 ⟨rfl, b2⟩
  have HB2 := Lib.hid (HB1.out.trans (b2.mono HB1.out.size))
  clear b2
  go_wp2_with fail
  refine (HA5.out _ (HG.out.below HB2.out)).mono ?_
  rintro e w3 ⟨rfl, b3⟩
  have HB3 := Lib.hid (HB2.out.trans (b3.mono HB2.out.size))
  clear b3
  go_wp2_with fail
  go_ret
  exact ⟨rfl, HB3.out⟩
end Go.Proofs.YtajmlkephefapaaGreatDoor
