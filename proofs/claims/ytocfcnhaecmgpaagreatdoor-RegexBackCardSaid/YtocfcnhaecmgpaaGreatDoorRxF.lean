/-
  Package regex's reader by contracts: a set of words between brackets.
-/
import Derived.Test.YtocfcnhaecmgpaaGreatDoorRxE
import Derived.Test.YtocfcnhaecmgpaaGreatDoorIter
import Derived.Maps.OwnOps
namespace Go.Proofs.YtocfcnhaecmgpaaGreatDoor
open Go.RowKit Go.Extern.Stop Go.Stop Go.Extern Go.WideMaps

/-! ### Faults beside an expression's cells -/
theorem FaultAt.ne {ty : TypeId} {w : World} {fb b : Nat} {c a : Int} {c0 c2 c3 : Value} {t : Bool} (h : FaultAt w fb c a) (h0 : c ≠ 0) (hq : QuadAt ty w b c0 (.bool t) c2 c3) : fb ≠ b := by
  rcases h with ⟨h, -⟩ | ⟨-, fb', e, hlt, h1, h2⟩
  · exact absurd h h0
  · unfold pf at e
    simp only [Value.iface.injEq, Value.pointer.injEq, Option.some.injEq, Addr.mk.injEq, true_and, and_true] at e
    subst e
    rintro rfl
    rw [hq.cells.2.1] at h2
    cases h2
theorem FaultAt.far {w : World} {fb : Nat} {c a : Int} (h : FaultAt w fb c a) (h0 : c ≠ 0) {q : Addr} (hq : fb ≠ q.block) (u : Value) : FaultAt (w.setCell q u) fb c a := by
  rcases h with ⟨h, -⟩ | ⟨-, fb', e, hlt, h1, h2⟩
  · exact absurd h h0
  · have e' := e
    unfold pf at e
    simp only [Value.iface.injEq, Value.pointer.injEq, Option.some.injEq, Addr.mk.injEq, true_and, and_true] at e
    subst e
    refine .inr ⟨h0, fb, e', by rw [World.size_setCell]; exact hlt, ?_, ?_⟩
    · rw [World.cell?_setCell_other _ _ _ _ (by rintro rfl; exact hq rfl)]; exact h1
    · rw [World.cell?_setCell_other _ _ _ _ (by rintro rfl; exact hq rfl)]; exact h2
theorem FaultAt.setq {ty : TypeId} {w : World} {fb b : Nat} {c a : Int} {c0 c2 c3 : Value} {t : Bool} (h : FaultAt w fb c a) (h0 : c ≠ 0) (hq : QuadAt ty w b c0 (.bool t) c2 c3) (d0 d1 d2 d3 : Value) : FaultAt (set4 w b 0 d0 d1 d2 d3) fb c a := by
  have hne := h.ne h0 hq
  unfold set4
  exact (((h.far h0 (q := ⟨b, 0, none⟩) hne d0).far h0 (q := ⟨b, 0 + 1, none⟩) hne d1).far h0 (q := ⟨b, 0 + 2, none⟩) hne d2).far h0 (q := ⟨b, 0 + 3, none⟩) hne d3

/-- What the reader answers that reads an expression. -/
def XrOut (w : World) (rb : Nat) (s : ByteArray) (d : Nat) : RO Rx → Ending → World → Prop
  | .er c a, e, w' => ∃ (fb : Nat) (k : Int) (t : Bool) (a1 : Option Addr) (l1 c1 : Nat) (a2 : Option Addr) (l2 c2 : Nat), e = .returned (.tuple #[.agg #[.int .i64 k, .bool t, .slice a1 l1 c1, .slice a2 l2 c2], pf fb]) ∧ FaultAt w' fb c a ∧ Keeps (· = rb) w w'
  | .ok k' n' x, e, w' => ∃ (k : Int) (t : Bool) (a1 : Option Addr) (l1 c1 : Nat) (a2 : Option Addr) (l2 c2 : Nat), e = .returned (.tuple #[.agg #[.int .i64 k, .bool t, .slice a1 l1 c1, .slice a2 l2 c2], .nilIface]) ∧ ExC (fun q => w.heap.size ≤ q) w' [.int .i64 k, .bool t, .slice a1 l1 c1, .slice a2 l2 c2] x ∧ Rd w' rb s k' n' d ∧ Keeps (· = rb) w w'

/-! ### Words seen -/
theorem lawStrX : Maps.Keyed Tryz.prog 9 := Maps.string_keyed Tryz.underlying9
theorem zeroIntX (w : World) : (zeroValue 3).run Tryz.prog w = .ok (.int .i64 0) w := by kernel_rfl
/-- A map of so many updates at most that has just these words, each once. -/
def SeenAt (w : World) (mb n : Nat) (seen : List ByteArray) : Prop :=
  ∃ D : DataW Unit, w.ownsMap Tryz.prog 9 (plainElem Tryz.prog 3) mb n D ∧ seen.Nodup ∧ (∀ t : List UInt8, Maps.has D (.string t) = (seen.map (fun b => b.data.toList)).contains t) ∧
    ∀ t : List UInt8, D.atKey (.string t) (.lit (.int .i64 0)) = .lit (.int .i64 (if (seen.map (fun b => b.data.toList)).contains t then 1 else 0))
theorem SeenAt.lt {w : World} {mb n : Nat} {seen : List ByteArray} (h : SeenAt w mb n seen) : mb < w.heap.size := by obtain ⟨D, h, -⟩ := h; exact h.lt
theorem SeenAt.keeps {D : Nat → Prop} {w w' : World} {mb n : Nat} {seen : List ByteArray} (h : SeenAt w mb n seen) (hk : Keeps D w w') (hD : ¬ D mb) : SeenAt w' mb n seen := by
  have hlt := h.lt
  obtain ⟨M, ⟨es, clock, hb, r⟩, hh⟩ := h
  exact ⟨M, ⟨es, clock, by rw [hk.block mb hlt hD]; exact hb, r⟩, hh⟩
theorem SeenAt.new (w : World) : SeenAt (w.alloc (.map #[] 0)) w.heap.size 0 [] := ⟨_, World.ownsMap_made w _ _ _, List.nodup_nil, fun _ => rfl, fun _ => rfl⟩
theorem toList_injX {a b : ByteArray} (h : a.data.toList = b.data.toList) : a = b := ByteArray.ext (Array.ext' h)
/-- One word more. -/
theorem SeenAt.push {w w' : World} {mb n : Nat} {seen : List ByteArray} {D : DataW Unit} {key : ByteArray} (hown : w.ownsMap Tryz.prog 9 (plainElem Tryz.prog 3) mb n D) (hnd : seen.Nodup)
    (hh : ∀ t : List UInt8, Maps.has D (.string t) = (seen.map (fun b => b.data.toList)).contains t) (ha : ∀ t : List UInt8, D.atKey (.string t) (.lit (.int .i64 0)) = .lit (.int .i64 (if (seen.map (fun b => b.data.toList)).contains t then 1 else 0)))
    (hnew : (seen.map (fun b => b.data.toList)).contains key.data.toList = false) (hown' : w'.ownsMap Tryz.prog 9 (plainElem Tryz.prog 3) mb (n + 1) (D.put (.string key.data.toList) (.lit (.int .i64 1)))) : SeenAt w' mb (n + 1) (seen ++ [key]) := by
  have hIs : Maps.IsMap D := by obtain ⟨es, hD, _⟩ := hown.entries lawStrX; exact ⟨es, hD⟩
  have hc : ∀ t : List UInt8, ((seen ++ [key]).map (fun b => b.data.toList)).contains t = ((seen.map (fun b => b.data.toList)).contains t || decide (t = key.data.toList)) := fun t => by
    rw [Bool.eq_iff_iff]
    simp
  have hnd2 : (seen ++ [key]).Nodup := by
    refine List.nodup_append.2 ⟨hnd, by simp, fun x hx y hy e => ?_⟩
    simp at hy
    subst hy; subst e
    have : (seen.map (fun b => b.data.toList)).contains x.data.toList = true := List.contains_iff_mem.2 (List.mem_map.2 ⟨x, hx, rfl⟩)
    rw [hnew] at this
    cases this
  refine ⟨_, hown', hnd2, fun t => ?_, fun t => ?_⟩
  · rw [hc]
    by_cases e : t = key.data.toList
    · subst e
      rw [Maps.has_put_same hIs (k := .string key.data.toList) trivial, decide_eq_true rfl, Bool.or_true]
    · rw [Maps.has_put_other (by intro h; injection h with h; exact e h), hh t, decide_eq_false e, Bool.or_false]
  · rw [hc]
    by_cases e : t = key.data.toList
    · subst e
      rw [Maps.atKey_put_same hIs (k := .string key.data.toList) trivial, decide_eq_true rfl, Bool.or_true]
      rfl
    · rw [Maps.atKey_put_other (by intro h; injection h with h; exact e h), ha t, decide_eq_false e, Bool.or_false]
/-- The words, sorted. -/
theorem seen_perm {w : World} {mb n : Nat} {seen : List ByteArray} {D : DataW Unit} (hown : w.ownsMap Tryz.prog 9 (plainElem Tryz.prog 3) mb n D) (hnd : seen.Nodup)
    (hh : ∀ t : List UInt8, Maps.has D (.string t) = (seen.map (fun b => b.data.toList)).contains t) : (seen.map (fun b => b.data.toList)).Perm (strKeys D) := by
  have hC : Collected D (fun _ => false) (seen.map (fun b => b.data.toList)) := by
    refine ⟨?_, fun x => ?_⟩
    · exact List.pairwise_map.2 (hnd.imp fun hne e => hne (toList_injX e))
    · rw [hh x]; simp
  exact hC.perm hown lawStrX Tryz.underlying9 (fun _ => rfl)
theorem srt_enc {ss : List (List UInt8)} {seen : List ByteArray} (h : ss.Perm (seen.map (fun b => b.data.toList))) : (ss.mergeSort (fun x y => decide (x ≤ y))).map encStr = (srt seen).map Value.string ∧ ss.length = (srt seen).length := by
  have e := mergeSort_srt h
  constructor
  · rw [e]
    unfold srt
    rw [List.map_map]
    rfl
  · have h1 := congrArg List.length e
    rw [List.length_mergeSort] at h1
    rw [h1]
    unfold srt
    simp
end Go.Proofs.YtocfcnhaecmgpaaGreatDoor
