/-
  Package ink by contracts: a text written into a builder; what a value's text is, plain.
-/
import Derived.Test.YtabcbeolhhdkpaaGreatDoorInkC
import Derived.Test.YtabcbeolhhdkpaaGreatDoorTreeP
import Derived.Test.YtabcbeolhhdkpaaGreatDoorFmtB
import Derived.Lib.FrozenHead
namespace Go.Proofs.YtabcbeolhhdkpaaGreatDoor
open Go.RowKit Go.Extern.Stop Go.Stop Go.Extern

theorem cells_append (a b : List UInt8) : Lib.byteCells a ++ Lib.byteCells b = Lib.byteCells (a ++ b) := by unfold Lib.byteCells; rw [List.map_append]
set_option maxHeartbeats 2000000 in
set_option maxRecDepth 100000 in
theorem string_any (B b : Nat) (l : List UInt8) (s : ByteArray) (w : World) (h : BldAt B b (Lib.byteCells l) w) (hlen : l.length + s.size ≤ 10000000) (hBw : B ≤ w.heap.size) :
    Calls Tryz.prog 37 #[.pointer (some ⟨b, 0, none⟩), .string s] w fun e w' => e = .returned (.tuple #[.int .i64 s.size, .nilIface]) ∧ BldAt B b (Lib.byteCells (l ++ s.data.toList)) w' ∧ Below B w w' ∧ Others b w w' := by
  obtain ⟨i0, hi, hz0, hz1, hz2⟩ := info_parts infoByte
  have hcl := cells_len l
  go_enter Tryz.func37, Tryz.ntmps37
  go_wp2_with fail
  refine (copyCheck_any B b _ _ h).mono ?_
  rintro e w1 ⟨rfl, ⟨h1, hb1, hk1⟩, -⟩
  obtain ⟨hB, v, hbk, hown, hne⟩ := h1
  have c0 : w1.cell? ⟨b, 0, none⟩ = some (.pointer (some ⟨b, 0, none⟩)) := by rw [Lib.cell_of_heap hbk]; rfl
  have c1 : w1.cell? ⟨b, 1, none⟩ = some v := by rw [Lib.cell_of_heap hbk]; rfl
  go_wp2_with (at_builtin; refine Lib.wpList_append_own_stringF _ rfl _ _ 38 9 rfl B 5 i0 Tryz.underlying38 Tryz.underlying9 hi hz0 hz1 hz2 _ _ _ rfl hown s rfl ?c3 ?c4 ?c5 ?_)
  case c3 => unfold maxLen; omega
  case c4 => omega
  case c5 => have := hb1.size; omega
  intro v' w2 hown' hgrow _
  have hlt : b < w1.heap.size := by
    rcases Nat.lt_or_ge b w1.heap.size with h' | h'
    · exact h'
    · simp [Array.getElem?_eq_none h'] at hbk
  have hb2 : w2.heap[b]? = some (.cells #[.pointer (some ⟨b, 0, none⟩), v] 40 (0, 0)) := by
    rw [hgrow.block b hlt (fun e => hne e.symm)]
    exact hbk
  have d0 : w2.cell? ⟨b, 0, none⟩ = some (.pointer (some ⟨b, 0, none⟩)) := by rw [Lib.cell_of_heap hb2]; rfl
  have d1 : w2.cell? ⟨b, 1, none⟩ = some v := by rw [Lib.cell_of_heap hb2]; rfl
  have f1 : w2.frozen? ⟨b, 1, none⟩ = false := Lib.frozen_of_heap hb2 1
  obtain ⟨ao, n', cap, rfl⟩ : ∃ ao n' cap, v' = .slice ao n' cap := by
    rcases hown'.2 with ⟨hv, _⟩ | ⟨g, cap, cur, fz, hv, _⟩
    · exact ⟨_, _, _, hv⟩
    · exact ⟨_, _, _, hv⟩
  go_wp2
  go_ret2
  refine ⟨rfl, .inr ?_, ?_, (hk1.grown hgrow (Lib.ownsRowF_kind hown)).setCell ⟨b, 1, none⟩ rfl _⟩
  · rw [← cells_append]
    exact Lib.BuilderAtF.put (T := 40) (e := 5) hB hb2 (bs' := Lib.byteCells l ++ Lib.strCells s) (by simpa [Lib.strCells_length, hcl] using hown') (by decide)
  · exact (hb1.grown hgrow (by have := hb1.size; omega) (fun k hk => (hown.lt k hk).1)).setCell (p := ⟨b, 1, none⟩) hB _

/-! ### Plain -/
/-- The first so many items between brackets. -/
def inkJ (obj : Bool) (keys : List ByteArray) (ts : List (List UInt8)) : Nat → List UInt8
  | 0 => []
  | i + 1 => inkJ obj keys ts i ++ (if i = 0 then [] else [44]) ++ (if obj then quoL (keys.getD i ⟨#[]⟩).data.toList ++ [58] else []) ++ ts.getD i []
mutual
/-- A value's text. -/
def inkV : Val → List UInt8
  | .mk kind text num list keys _ =>
    if kind = 0 then [110, 117, 108, 108] else if kind = 1 then [102, 97, 108, 115, 101] else if kind = 2 then [116, 114, 117, 101]
    else if kind = 3 then Lib.decDigits (capI num).toNat else if kind = 4 then quoL text.data.toList
    else if kind = 5 then 91 :: (inkJ false keys (inkVs list) (inkVs list).length ++ [93])
    else if kind = 6 then 123 :: (inkJ true keys (inkVs list) (inkVs list).length ++ [125]) else []
def inkVs : List Val → List (List UInt8)
  | [] => []
  | v :: r => inkV v :: inkVs r
end
theorem inkVs_map : ∀ l : List Val, inkVs l = l.map inkV
  | [] => rfl
  | v :: r => by rw [inkVs, inkVs_map r, List.map_cons]
theorem inkVs_len (l : List Val) : (inkVs l).length = l.length := by rw [inkVs_map, List.length_map]
theorem inkVs_at {l : List Val} {i : Nat} {x : Val} (h : l[i]? = some x) : (inkVs l).getD i [] = inkV x := by
  rw [inkVs_map, List.getD, List.getElem?_map, h]; rfl
theorem inkJ_le (obj : Bool) (keys : List ByteArray) (ts : List (List UInt8)) : ∀ (n i : Nat), i ≤ n → (inkJ obj keys ts i).length ≤ (inkJ obj keys ts n).length
  | 0, i, h => by obtain rfl : i = 0 := by omega
                  exact Nat.le_refl _
  | n + 1, i, h => by
    rcases Nat.lt_or_ge i (n + 1) with h' | h'
    · have := inkJ_le obj keys ts n i (by omega)
      rw [inkJ]
      simp only [List.length_append]
      omega
    · obtain rfl : i = n + 1 := by omega
      exact Nat.le_refl _
/-- A value whose keys are as many as its members, its texts and keys of no great length, throughout. -/
inductive WholeV : Val → Prop
  | mk (kind : Int) (text : ByteArray) (num : Int) (list : List Val) (keys : List ByteArray) (a : Int) : (kind = 6 → keys.length = list.length) → text.size ≤ 100000 → (∀ s ∈ keys, s.size ≤ 100000) → (∀ x ∈ list, WholeV x) → 0 ≤ num → WholeV (.mk kind text num list keys a)
end Go.Proofs.YtabcbeolhhdkpaaGreatDoor
