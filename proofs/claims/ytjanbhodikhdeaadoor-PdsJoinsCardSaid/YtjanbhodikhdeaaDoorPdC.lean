/-
  Package pds by contracts: what is wrong with a rule; Check.
-/
import Derived.Test.YtjanbhodikhdeaaDoorPdB
namespace Go.Proofs.YtjanbhodikhdeaaDoor
open Go.RowKit Go.Extern.Stop Go.Stop Go.Extern

abbrev sysV (S L : Int) (v : Value) : Value := .agg #[.int .i64 S, .int .i64 L, v]
theorem cells3 {W : World} {b : Nat} {v0 v1 v2 : Value} {T : TypeId} (h : W.heap[b]? = some (.cells #[v0, v1, v2] T (0, 0))) : W.cell? ⟨b, 0, none⟩ = some v0 ∧ W.cell? ⟨b, 1, none⟩ = some v1 ∧ W.cell? ⟨b, 2, none⟩ = some v2 :=
  ⟨by rw [Lib.cell_of_heap h]; rfl, by rw [Lib.cell_of_heap h]; rfl, by rw [Lib.cell_of_heap h]; rfl⟩
theorem cells2 {W : World} {b : Nat} {v0 v1 : Value} {T : TypeId} (h : W.heap[b]? = some (.cells #[v0, v1] T (0, 0))) : W.cell? ⟨b, 0, none⟩ = some v0 ∧ W.cell? ⟨b, 1, none⟩ = some v1 :=
  ⟨by rw [Lib.cell_of_heap h]; rfl, by rw [Lib.cell_of_heap h]; rfl⟩
theorem cells5 {W : World} {b : Nat} {v0 v1 v2 v3 v4 : Value} {T : TypeId} (h : W.heap[b]? = some (.cells #[v0, v1, v2, v3, v4] T (0, 0))) : W.cell? ⟨b, 0, none⟩ = some v0 ∧ W.cell? ⟨b, 1, none⟩ = some v1 ∧ W.cell? ⟨b, 2, none⟩ = some v2 ∧ W.cell? ⟨b, 3, none⟩ = some v3 ∧ W.cell? ⟨b, 4, none⟩ = some v4 :=
  ⟨by rw [Lib.cell_of_heap h]; rfl, by rw [Lib.cell_of_heap h]; rfl, by rw [Lib.cell_of_heap h]; rfl, by rw [Lib.cell_of_heap h]; rfl, by rw [Lib.cell_of_heap h]; rfl⟩
theorem blt {W : World} {b : Nat} {o : Obj} (h : W.heap[b]? = some o) : b < W.heap.size := (Array.getElem?_eq_some_iff.1 h).1
theorem blk {W W' : World} {b : Nat} {o : Obj} (h : W.heap[b]? = some o) (hb : Below W.heap.size W W') : W'.heap[b]? = some o := (hb.block _ (blt h)).trans h
theorem ret_bb {a b : Bool} (h : a = b) : Ending.returned (.bool a) = .returned (.bool b) := by rw [h]

set_option maxHeartbeats 1000000 in
theorem isBelow_any (n i : Int) (w : World) : Calls Tryd.prog 22 #[.int .i64 n, .int .i64 i] w fun e w' => e = .returned (.bool (inB n i)) ∧ w' = w := by
  by_cases h0 : 0 ≤ i
  · have e : inB n i = decide (i < n) := by unfold inB; rw [decide_eq_true h0, Bool.true_and]
    rw [e]
    have h1 : decide (i ≥ 0) = true := decide_eq_true h0
    go_enter Tryd.func22, Tryd.ntmps22
    go_wp2
    all_goals
      go_ret
      exact ⟨ret_bb (by simp_all), rfl⟩
  · have e : inB n i = false := by unfold inB; rw [decide_eq_false h0, Bool.false_and]
    rw [e]
    go_enter Tryd.func22, Tryd.ntmps22
    go_wp2
    all_goals
      go_ret
      exact ⟨ret_bb (by simp_all), rfl⟩

set_option maxHeartbeats 1000000 in
theorem isNoLabel_any (S L : Int) (v : Value) (x : Int) (C : Nat) (w : World) (hC : w.heap[C]? = some (.cells #[.int .i64 S, .int .i64 L, v] 24 (0, 0))) :
    Calls Tryd.prog 38 #[.int .i64 x, .pointer (some ⟨C, 0, none⟩)] w fun e w' => e = .returned (.bool (!inB L x)) ∧ w' = w := by
  have HB := Lib.hid (isBelow_any L x w)
  obtain ⟨-, c1, -⟩ := cells3 hC
  generalize inB L x = q at *
  clear hC
  go_enter Tryd.func38, Tryd.ntmps38
  go_wp2_with fail
  refine HB.out.mono ?_
  rintro e w1 ⟨rfl, rfl⟩
  go_wp2_with fail
  go_ret
  exact ⟨rfl, rfl⟩

def anyNo (L : Int) (l : List Int) : Bool := l.any fun x => !inB L x
theorem anyNo_drop {L : Int} {l : List Int} {i : Nat} {y : Int} (h : l[i]? = some y) : anyNo L (l.drop i) = (!inB L y || anyNo L (l.drop (i + 1))) := by
  obtain ⟨h1, rfl⟩ := List.getElem?_eq_some_iff.1 h
  rw [List.drop_eq_getElem_cons h1]
  rfl
set_option maxRecDepth 100000 in
set_option maxHeartbeats 4000000 in
theorem indexNo_any (S L : Int) (v : Value) (C : Nat) (l : List Int) (a : Option Addr) (c : Nat) (w : World) (hl : l.length ≤ 1000000) (hp : IntsAt w (.slice a l.length c) l) (hC : w.heap[C]? = some (.cells #[.int .i64 S, .int .i64 L, v] 24 (0, 0))) :
    Calls Tryd.prog 45 #[.slice a l.length c, .func (.func 38) #[] #[.pointer (some ⟨C, 0, none⟩)]] w fun e w' => ∃ i : Int, e = .returned (.int .i64 i) ∧ decide (i ≥ 0) = anyNo L l ∧ w' = w := by
  have HP := Lib.hid hp
  have HC := Lib.hid (fun x => isNoLabel_any S L v x C w hC)
  clear hp hC
  go_enter Tryd.func45, Tryd.ntmps45
  go_wp2_with fail
  go_loopg [8] l.length (fun g v wr => ∃ i : Nat, i ≤ l.length ∧ g = l.length - i ∧ v = .int .i64 i ∧ anyNo L (l.drop i) = anyNo L l ∧ wr = w)
  case atStart => exact ⟨0, Nat.zero_le _, by omega, rfl, by rw [List.drop_zero], rfl⟩
  case round =>
    obtain ⟨i, hi, hgk, rfl, hd, rfl⟩ := hrel
    have HD := Lib.hid hd
    clear hd
    by_cases hlt : i < l.length
    · obtain ⟨y, hy⟩ : ∃ y, l[i]? = some y := ⟨_, List.getElem?_eq_getElem hlt⟩
      obtain ⟨b, off, rfl, hcell⟩ := HP.out.at hy (Below.refl _ _)
      have HUP := Lib.hid ((anyNo_drop (L := L) hy).symm.trans HD.out)
      have HCy := Lib.hid (HC.out y)
      generalize inB L y = q at *
      clear hy HD HC
      go_wp2_with fail
      refine HCy.out.mono ?_
      rintro e w1 ⟨rfl, rfl⟩
      clear HCy
      cases q with
      | false =>
        go_wp2_with fail
        go_ret
        have hn : anyNo L l = true := by have hu := HUP.out; simpa using hu.symm
        exact ⟨i, rfl, by rw [hn]; exact decide_eq_true (Int.natCast_nonneg i), rfl⟩
      | true =>
        go_wp2_with fail
        go_roundg (l.length - (i + 1))
        case measure => omega
        case rel => exact ⟨i + 1, by omega, rfl, by go_num, by have hu := HUP.out; simpa using hu, rfl⟩
    · obtain rfl : i = l.length := by omega
      go_wp2_with fail
      go_ret
      have hu := HD.out
      rw [List.drop_length] at hu
      have hn : anyNo L l = false := hu.symm
      exact ⟨-1, rfl, by rw [hn]; decide, rfl⟩
set_option maxHeartbeats 1000000 in
theorem containsNo_any (S L : Int) (v : Value) (C : Nat) (l : List Int) (a : Option Addr) (c : Nat) (w : World) (hl : l.length ≤ 1000000) (hp : IntsAt w (.slice a l.length c) l) (hC : w.heap[C]? = some (.cells #[.int .i64 S, .int .i64 L, v] 24 (0, 0))) :
    Calls Tryd.prog 39 #[.slice a l.length c, .func (.func 38) #[] #[.pointer (some ⟨C, 0, none⟩)]] w fun e w' => e = .returned (.bool (anyNo L l)) ∧ w' = w := by
  have H := Lib.hid (indexNo_any S L v C l a c w hl hp hC)
  clear hp hC hl
  go_enter Tryd.func39, Tryd.ntmps39
  go_wp2_with fail
  refine H.out.mono ?_
  rintro e w1 ⟨i, rfl, hi, rfl⟩
  have HI := Lib.hid hi
  clear hi
  go_wp2_with fail
  go_ret
  exact ⟨ret_bb HI.out, rfl⟩

/-! ### fault -/
theorem ruF_eq (S L fr top to : Int) (push : List Int) (cost : Int) : ruF S L ⟨fr, top, to, push, cost⟩ =
    if (inB S fr && inB S to && inB L top && !anyNo L push) = true then if 2 < push.length then 6 else if most < cost then 19 else 0 else 7 := by
  unfold ruF
  have e : (push.any fun x => !inB L x) = anyNo L push := rfl
  simp only [e]
  cases inB S fr <;> cases inB S to <;> cases inB L top <;> cases anyNo L push <;> simp
theorem fault_shape (w : World) (S L fr top to cost : Int) (v pv : Value) :
    ((w.alloc (.cells #[.int .i64 S, .int .i64 L, v] 24)).alloc (.cells #[.int .i64 fr, .int .i64 top, .int .i64 to, pv, .int .u64 cost] 46)).heap[w.heap.size]? = some (.cells #[.int .i64 S, .int .i64 L, v] 24 (0, 0)) ∧
    ((w.alloc (.cells #[.int .i64 S, .int .i64 L, v] 24)).alloc (.cells #[.int .i64 fr, .int .i64 top, .int .i64 to, pv, .int .u64 cost] 46)).heap[w.heap.size + 1]? = some (.cells #[.int .i64 fr, .int .i64 top, .int .i64 to, pv, .int .u64 cost] 46 (0, 0)) ∧
    Below w.heap.size w ((w.alloc (.cells #[.int .i64 S, .int .i64 L, v] 24)).alloc (.cells #[.int .i64 fr, .int .i64 top, .int .i64 to, pv, .int .u64 cost] 46)) := by
  have b1 := sbelow_new w (.cells #[.int .i64 S, .int .i64 L, v] 24)
  have h1 := heap_alloc_new w (.cells #[.int .i64 S, .int .i64 L, v] 24)
  have z1 : (w.alloc (.cells #[.int .i64 S, .int .i64 L, v] 24)).heap.size = w.heap.size + 1 := World.size_alloc _ _
  generalize w.alloc (.cells #[.int .i64 S, .int .i64 L, v] 24) = w1 at *
  have b2 := sbelow_new w1 (.cells #[.int .i64 fr, .int .i64 top, .int .i64 to, pv, .int .u64 cost] 46)
  have h2 := heap_alloc_new w1 (.cells #[.int .i64 fr, .int .i64 top, .int .i64 to, pv, .int .u64 cost] 46)
  rw [z1] at h2
  exact ⟨blk h1 b2, h2, b1.trans (b2.mono (by omega))⟩
set_option maxRecDepth 100000 in
set_option maxHeartbeats 8000000 in
theorem fault_any (S L : Int) (v : Value) (r : Ru) (pa : Option Addr) (pc : Nat) (w : World) (hp : IntsAt w (.slice pa r.push.length pc) r.push) (hl : r.push.length ≤ 1000000) :
    Calls Tryd.prog 30 #[sysV S L v, ruV r pa pc] w fun e w' => e = .returned (.int .i64 (ruF S L r)) ∧ Below w.heap.size w w' := by
  obtain ⟨fr, top, to, push, cost⟩ := r
  have hp : IntsAt w (.slice pa push.length pc) push := hp
  have hl : push.length ≤ 1000000 := hl
  obtain ⟨hS, hR, hB⟩ := fault_shape w S L fr top to cost v (.slice pa push.length pc)
  have HF := Lib.hid (ruF_eq S L fr top to push cost)
  have HB := Lib.hid hB
  have H1 := Lib.hid (fun W => isBelow_any S fr W)
  have H2 := Lib.hid (fun W => isBelow_any S to W)
  have H3 := Lib.hid (isNoLabel_any S L v top w.heap.size _ hS)
  have H4 := Lib.hid (containsNo_any S L v w.heap.size push pa pc _ hl (hp.step hB) hS)
  obtain ⟨s0, s1, s2⟩ := cells3 hS
  obtain ⟨r0, r1, r2, r3, r4⟩ := cells5 hR
  generalize inB S fr = q1 at *
  generalize inB S to = q2 at *
  generalize inB L top = q3 at *
  generalize anyNo L push = q4 at *
  generalize ruF S L ⟨fr, top, to, push, cost⟩ = F at *
  clear hS hR hB hp
  go_enter Tryd.func30, Tryd.ntmps30
  go_wp2_with fail
  generalize (w.alloc (.cells #[.int .i64 S, .int .i64 L, v] 24)).alloc (.cells #[.int .i64 fr, .int .i64 top, .int .i64 to, .slice pa push.length pc, .int .u64 cost] 46) = w1 at *
  refine (H1.out _).mono ?_
  rintro e w2 ⟨rfl, rfl⟩
  cases q1 with
  | false =>
    go_wp2_with fail
    go_ret
    exact ⟨by rw [HF.out]; rfl, HB.out⟩
  | true =>
    go_wp2_with fail
    refine (H2.out _).mono ?_
    rintro e w2 ⟨rfl, rfl⟩
    cases q2 with
    | false =>
      go_wp2_with fail
      go_ret
      exact ⟨by rw [HF.out]; rfl, HB.out⟩
    | true =>
      go_wp2_with fail
      refine H3.out.mono ?_
      rintro e w2 ⟨rfl, rfl⟩
      cases q3 with
      | false =>
        go_wp2_with fail
        go_ret
        exact ⟨by rw [HF.out]; rfl, HB.out⟩
      | true =>
        go_wp2_with fail
        refine H4.out.mono ?_
        rintro e w2 ⟨rfl, rfl⟩
        cases q4 with
        | true =>
          go_wp2_with fail
          go_ret
          exact ⟨by rw [HF.out]; rfl, HB.out⟩
        | false =>
          by_cases h5 : 2 < push.length
          · have h5' : (2 : Int) < (push.length : Int) := by omega
            have H5 := Lib.hid h5
            go_wp2_with fail
            go_ret
            exact ⟨by rw [show F = 6 from HF.out.trans (by simp [H5.out])]; rfl, HB.out⟩
          · have h5' : ¬ (2 : Int) < (push.length : Int) := by omega
            have H5 := Lib.hid h5
            by_cases h6 : 9223372036854775807 < cost
            · have H6 := Lib.hid h6
              go_wp2_with fail
              go_ret
              exact ⟨by rw [show F = 19 from HF.out.trans (by simp [H5.out, show most < cost by have := H6.out; unfold most; omega])]; rfl, HB.out⟩
            · have H6 := Lib.hid h6
              go_wp2_with fail
              go_ret
              exact ⟨by rw [show F = 0 from HF.out.trans (by simp [H5.out, show ¬ most < cost by have := H6.out; unfold most; omega])]; rfl, HB.out⟩
theorem szF_false {S L : Int} (h : szF S L = false) : ¬ S < 0 ∧ ¬ 1048576 < S ∧ ¬ L < 0 ∧ ¬ 128 < L := by
  unfold szF at h
  simp only [Bool.or_eq_false_iff, decide_eq_false_iff_not] at h
  exact ⟨h.1.1.1, h.1.1.2, h.1.2, h.2⟩
/-- The system in its box, old memory as it was. -/
structure SyS (w : World) (C : Nat) (T : TypeId) (S L : Int) (v : Value) (W : World) : Prop where
  bx : W.heap[C]? = some (.cells #[.int .i64 S, .int .i64 L, v] T (0, 0))
  below : Below w.heap.size w W
theorem SyS.step {w : World} {C : Nat} {T : TypeId} {S L : Int} {v : Value} {W W' : World} (h : SyS w C T S L v W) (hb : Below W.heap.size W W') : SyS w C T S L v W' := ⟨blk h.bx hb, h.below.trans (hb.mono h.below.size)⟩
theorem SyS.start (w : World) (T : TypeId) (S L : Int) (v : Value) : SyS w w.heap.size T S L v (w.alloc (.cells #[.int .i64 S, .int .i64 L, v] T)) := ⟨heap_alloc_new w _, sbelow_new w _⟩
/-- What a rule's push is at most. -/
def Short (rs : List Ru) (n : Nat) : Prop := ∀ (i : Nat) (r : Ru), rs[i]? = some r → r.push.length ≤ n
def CkL (w : World) (C : Nat) (T : TypeId) (S L : Int) (v : Value) (rs : List Ru) (g : Nat) (u : Value) (wr : World) : Prop :=
  ∃ i : Nat, i ≤ rs.length ∧ g = rs.length - i ∧ u = .int .i64 i ∧ rusF S L rs 0 = rusF S L (rs.drop i) (i : Int) ∧ SyS w C T S L v wr

end Go.Proofs.YtjanbhodikhdeaaDoor
