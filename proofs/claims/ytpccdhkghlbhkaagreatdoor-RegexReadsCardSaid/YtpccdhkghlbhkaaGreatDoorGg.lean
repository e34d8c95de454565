/-
  The document's own reader of expressions by contracts: put, a word into its place among rising ones.
  Plain: words put one after another are the words in order.
  The document's own reader of expressions by contracts: a set of words.
-/
import Derived.Test.YtpccdhkghlbhkaaGreatDoorGf
import Derived.Test.YtpccdhkghlbhkaaGreatDoorGo
import Derived.Test.YtpccdhkghlbhkaaGreatDoorRxT
import Derived.Sort.Walk0
import Derived.Deep.CutBlock
import Derived.Deep.DeepCutAuto
namespace Go.Proofs.YtpccdhkghlbhkaaGreatDoor
open Go.RowKit Go.Extern.Stop Go.Stop Go.Extern

theorem leB_eq (y x : ByteArray) : leB y x = !decide (x.data.toList < y.data.toList) := by
  unfold leB
  rw [Go.Proofs.bytesLess_eq, Go.ByteArray.toList_eq, Go.ByteArray.toList_eq]
  by_cases h1 : y.data.toList < x.data.toList
  · rw [decide_eq_true h1, decide_eq_false (fun h => List.lt_irrefl _ (List.lt_trans h h1))]; rfl
  · by_cases h2 : x.data.toList < y.data.toList
    · have hne : (y.data.toList == x.data.toList) = false := beq_eq_false_iff_ne.2 (fun e => by rw [e] at h2; exact List.lt_irrefl _ h2)
      rw [decide_eq_false h1, decide_eq_true h2, hne]; rfl
    · have he : y.data.toList = x.data.toList := List.le_antisymm (List.not_lt.1 h2) (List.not_lt.1 h1)
      rw [decide_eq_false h1, decide_eq_false h2, he]; simp

def bL (l : List ByteArray) : List (List UInt8) := l.map (fun b => b.data.toList)
def pJ (l : List ByteArray) (x : ByteArray) : Nat := putJ (bL l) x.data.toList
/-- A word into its place. -/
def putB (l : List ByteArray) (x : ByteArray) : List ByteArray := l.take (pJ l x) ++ x :: l.drop (pJ l x)
theorem bL_get {l : List ByteArray} {i : Nat} {y : ByteArray} (h : l[i]? = some y) : (bL l).getD i [] = y.data.toList := by
  simp [bL, List.getD, h]
theorem putB_eq (l : List ByteArray) (x : ByteArray) : bL (putB l x) = putW (bL l) x.data.toList := by
  rw [putW_eq, putB]
  simp [bL, pJ]
theorem pJ_le (l : List ByteArray) (x : ByteArray) : pJ l x ≤ l.length := by
  have := putJ_le (bL l) x.data.toList
  simpa [pJ, bL] using this

theorem own_formQ {w : World} {base : Nat} {e : TypeId} {v : Value} {n : Nat} {xs : List Value} (h : w.ownsRow base e 1 v n xs) : ∃ a c, v = .slice a n c ∧ n ≤ c := by
  rcases h.2 with ⟨rfl, rfl⟩ | ⟨g, cap, cur, rfl, -, -, hc, -⟩
  · exact ⟨none, 0, rfl, Nat.le_refl _⟩
  · exact ⟨_, cap, rfl, hc⟩
theorem RowX.take {P : Nat → Prop} {w : World} {g c : Nat} {l : List ByteArray} (h : RowX P w (.slice (some ⟨g, 0, none⟩) l.length c) l.length (l.map Value.string)) {k : Nat} (hk : k ≤ l.length) : RowX P w (.slice (some ⟨g, 0, none⟩) k c) (l.take k).length ((l.take k).map Value.string) := by
  have hn : (l.take k).length = k := by simp; omega
  rw [hn]
  rcases h with ⟨h0, -, -⟩ | ⟨b, o, c', e, hP, hlt, hc⟩
  · obtain rfl : k = 0 := by omega
    exact .inl ⟨rfl, by simp, _, _, rfl⟩
  · refine .inr ⟨b, o, c', ?_, hP, hlt, fun j u hu => hc j u ?_⟩
    · simp only [Value.slice.injEq, Option.some.injEq] at e ⊢
      exact ⟨e.1, trivial, e.2.2⟩
    · rw [List.map_take, List.getElem?_take] at hu
      split at hu
      · exact hu
      · cases hu
theorem RowX.drop {P : Nat → Prop} {w : World} {g c : Nat} {l : List ByteArray} (h : RowX P w (.slice (some ⟨g, 0, none⟩) l.length c) l.length (l.map Value.string)) {k : Nat} (hk : k ≤ l.length) (hc : l.length ≤ c) : RowX P w (.slice (if c = k then some ⟨g, 0, none⟩ else some ⟨g, k, none⟩) (l.length - k) (c - k)) (l.drop k).length ((l.drop k).map Value.string) := by
  have hn : (l.drop k).length = l.length - k := by simp
  rw [hn]
  by_cases hz : l.length - k = 0
  · rw [hz]
    refine .inl ⟨rfl, ?_, _, _, rfl⟩
    rw [List.drop_of_length_le (by omega)]; rfl
  · rcases h with ⟨h0, -, -⟩ | ⟨b, o, c', e, hP, hlt, hcs⟩
    · omega
    · simp only [Value.slice.injEq, Option.some.injEq, Addr.mk.injEq, and_true] at e
      obtain ⟨⟨rfl, rfl⟩, -, rfl⟩ := e
      refine .inr ⟨g, k, c - k, ?_, hP, hlt, fun j u hu => ?_⟩
      · rw [if_neg (by omega)]
      · have := hcs (k + j) u (by rw [List.map_drop, List.getElem?_drop] at hu; exact hu)
        rwa [Nat.zero_add] at this

set_option maxRecDepth 100000 in
set_option maxHeartbeats 4000000 in
theorem qput_some (l : List ByteArray) (x : ByteArray) (hl : l.length ≤ 100000) (hs : (bL l).Pairwise (fun a b => a ≤ b)) (w : World) (g c : Nat) (hc : l.length ≤ c) (_hcb : c ≤ maxLen)
    (hr : RowX (fun _ => True) w (.slice (some ⟨g, 0, none⟩) l.length c) l.length (l.map Value.string)) :
    Calls Tryz.prog 105 #[.slice (some ⟨g, 0, none⟩) l.length c, .string x] w fun e w' => ∃ v', e = .returned v' ∧ w'.ownsRow w.heap.size 9 1 v' (l.length + 1) ((putB l x).map Value.string) ∧ Below w.heap.size w w' := by
  have HR := Lib.hid hr
  have HJ := Lib.hid (pJ_le l x)
  have HAb := Lib.hid (fun i (y : ByteArray) (h : l[i]? = some y) (hi : pJ l x ≤ i) => show leB y x = false by
    have hil := (List.getElem?_eq_some_iff.1 h).1
    rw [leB_eq, ← bL_get h, decide_eq_true (putJ_above (bL l) x.data.toList i hs hi (by simpa [bL] using hil))]; rfl)
  have HBe := Lib.hid (fun i (y : ByteArray) (h : l[i]? = some y) (hi : i < pJ l x) => show leB y x = true by
    rw [leB_eq, ← bL_get h, decide_eq_false (putJ_below (bL l) x.data.toList i hi)]; rfl)
  have HP : Hid ((putB l x).map Value.string = (l.take (pJ l x)).map Value.string ++ [Value.string x] ++ (l.drop (pJ l x)).map Value.string) := Lib.hid (by simp [putB])
  generalize putB l x = pb at *
  generalize pJ l x = J at *
  have HC := Lib.hid hc
  have HL := Lib.hid hl
  clear hr hs hc hl
  go_enter Tryz.func105, Tryz.ntmps105
  go_wp2_with fail
  go_loopg [5] l.length (fun m u wr => ∃ k : Nat, k ≤ l.length ∧ J ≤ k ∧ m = k ∧ u = .int .i64 k ∧ wr = w)
  case atStart => exact ⟨l.length, Nat.le_refl _, HJ.out, rfl, rfl, rfl⟩
  case round =>
    obtain ⟨k, hk, hJ, hm, rfl, rfl⟩ := hrel
    have HM := Lib.hid hm
    have HK := Lib.hid hk
    clear hm
    by_cases hJk : k = J
    · have HT := Lib.hid (HR.out.take hk)
      have HD := Lib.hid (HR.out.drop hk HC.out)
      have hk0 : (0 : Int) ≤ (k : Int) := by omega
      have hk1 : (k : Int) ≤ (l.length : Int) := by omega
      have hk2 : (k : Int) ≤ (c : Int) := by have := HC.out; omega
      have hk3 : k ≤ l.length := hk
      have HKJ := Lib.hid hJk
      rw [← HKJ.out] at HP
      clear hJ hk hJk
      by_cases h0 : k = 0
      · have h0i : ¬ (0 : Int) < (k : Int) := by omega
        clear h0
        go_wp2_with (at_builtin; refine wpList_append_words (P := fun _ => True) _ rfl _ _ rfl wr.heap.size (.slice none 0 0) 0 [] rfl (World.ownsRow_nil _ _ _ _) _ (l.take k) rfl HT.out ?boax (Nat.le_refl _) ?maax)
        case boax => have := HL.out; simp; omega
        intro v1 w1 hown1 hgrow1
        have HB1 := Lib.hid ((Below.refl wr.heap.size wr).grown hgrow1 (Nat.le_refl _) (fun q e => by cases e))
        obtain ⟨a1, c1, rfl, -⟩ := own_formQ hown1
        have HO1 := Lib.hid (ownX_up hown1 (sbelow_new w1 (.cells #[.string x] 9)))
        have hrow : RowX (fun _ => True) (w1.alloc (.cells #[.string x] 9)) (.slice (some ⟨w1.heap.size, 0, none⟩) 1 1) [(x : ByteArray)].length ([(x : ByteArray)].map Value.string) := .inr ⟨w1.heap.size, 0, 1, rfl, trivial, by simp, fun j u hu => by
          match j, hu with
          | 0, hu =>
            simp at hu
            subst hu
            rw [Lib.cell_of_heap (heap_alloc_new w1 _)]
            rfl⟩
        have HRW := Lib.hid hrow
        have HB2 := Lib.hid (HB1.out.trans ((sbelow_new w1 (.cells #[.string x] 9)).mono HB1.out.size))
        clear hown1 hgrow1 hrow HT
        go_wp2_with (at_builtin; refine wpList_append_words (P := fun _ => True) _ rfl _ _ rfl wr.heap.size _ _ _ rfl HO1.out _ [x] rfl HRW.out ?bobx ?babx ?mabx)
        case bobx => have := HL.out; simp; omega
        case babx => exact HB2.out.size
        intro v3 w3 hown3 hgrow3
        have HB3 := Lib.hid (HB2.out.grown hgrow3 HB2.out.size (fun q e => (HO1.out.lt q e).1))
        obtain ⟨a3, c3, rfl, -⟩ := own_formQ hown3
        have HO3 := Lib.hid hown3
        have HD3 := Lib.hid (HD.out.step HB3.out)
        clear hown3 hgrow3 HO1 HRW HB1 HB2 HD
        go_wp2_with (at_builtin; refine wpList_append_words (P := fun _ => True) _ rfl _ _ rfl wr.heap.size _ _ _ rfl HO3.out _ (l.drop k) rfl HD3.out (by have := HL.out; simp; omega) HB3.out.size ?_)
        all_goals
          intro v5 w5 hown5 hgrow5
          have HB5 := Lib.hid (HB3.out.grown hgrow5 HB3.out.size (fun q e => (HO3.out.lt q e).1))
          have HO5 := Lib.hid hown5
          clear hown5 hgrow5 HO3 HD3 HB3
          go_wp2_with fail
          go_ret
          refine ⟨_, rfl, ?_, HB5.out⟩
          rw [HP.out]
          have ho := HO5.out
          rw [show k + 1 + (l.length - k) = l.length + 1 by omega] at ho
          simpa using ho
      · obtain ⟨i, hi⟩ : ∃ i, k = i + 1 := ⟨k - 1, by omega⟩
        obtain ⟨y, hy⟩ : ∃ y, l[i]? = some y := ⟨_, List.getElem?_eq_getElem (by omega)⟩
        obtain ⟨b, o, eb, hbl, e1⟩ := text_at HR.out hy (Below.refl _ _)
        simp only [Option.some.injEq, Addr.mk.injEq, and_true] at eb
        obtain ⟨rfl, rfl⟩ := eb
        rw [Nat.zero_add] at e1
        have h0i : (0 : Int) < (k : Int) := by omega
        have hs1 : (k : Int) - 1 = (i : Int) := by omega
        have hs2 : IntKind.i64.wrap ((k : Int) - 1) = (i : Int) := by rw [hs1]; exact IntWalk.i64_in _ (by have := HL.out; omega)
        have hs3 : IntKind.i64.wrap (i : Int) = (i : Int) := IntWalk.i64_in _ (by have := HL.out; omega)
        have hs4 : (0 : Int) ≤ (i : Int) := by omega
        have hs5 : (i : Int) < (l.length : Int) := by omega
        have hle := HBe.out i y hy (by have := HKJ.out; omega)
        unfold leB at hle
        have hcs : (Op.bytesLess y.toList x.toList = true) ∨ (Op.bytesLess y.toList x.toList = false ∧ (y.toList == x.toList) = true) := by
          revert hle
          cases Op.bytesLess y.toList x.toList <;> cases (y.toList == x.toList) <;> simp
        have HI := Lib.hid hi
        clear hle hy h0 hi hbl
        rcases hcs with q1 | ⟨q1, q2⟩
        · skip
          go_wp2_with (at_builtin; refine wpList_append_words (P := fun _ => True) _ rfl _ _ rfl wr.heap.size (.slice none 0 0) 0 [] rfl (World.ownsRow_nil _ _ _ _) _ (l.take k) rfl HT.out ?boay (Nat.le_refl _) ?maay)
          case boay => have := HL.out; simp; omega
          intro v1 w1 hown1 hgrow1
          have HB1 := Lib.hid ((Below.refl wr.heap.size wr).grown hgrow1 (Nat.le_refl _) (fun q e => by cases e))
          obtain ⟨a1, c1, rfl, -⟩ := own_formQ hown1
          have HO1 := Lib.hid (ownX_up hown1 (sbelow_new w1 (.cells #[.string x] 9)))
          have hrow : RowX (fun _ => True) (w1.alloc (.cells #[.string x] 9)) (.slice (some ⟨w1.heap.size, 0, none⟩) 1 1) [(x : ByteArray)].length ([(x : ByteArray)].map Value.string) := .inr ⟨w1.heap.size, 0, 1, rfl, trivial, by simp, fun j u hu => by
            match j, hu with
            | 0, hu =>
              simp at hu
              subst hu
              rw [Lib.cell_of_heap (heap_alloc_new w1 _)]
              rfl⟩
          have HRW := Lib.hid hrow
          have HB2 := Lib.hid (HB1.out.trans ((sbelow_new w1 (.cells #[.string x] 9)).mono HB1.out.size))
          clear hown1 hgrow1 hrow HT
          go_wp2_with (at_builtin; refine wpList_append_words (P := fun _ => True) _ rfl _ _ rfl wr.heap.size _ _ _ rfl HO1.out _ [x] rfl HRW.out ?boby ?baby ?maby)
          case boby => have := HL.out; simp; omega
          case baby => exact HB2.out.size
          intro v3 w3 hown3 hgrow3
          have HB3 := Lib.hid (HB2.out.grown hgrow3 HB2.out.size (fun q e => (HO1.out.lt q e).1))
          obtain ⟨a3, c3, rfl, -⟩ := own_formQ hown3
          have HO3 := Lib.hid hown3
          have HD3 := Lib.hid (HD.out.step HB3.out)
          clear hown3 hgrow3 HO1 HRW HB1 HB2 HD
          go_wp2_with (at_builtin; refine wpList_append_words (P := fun _ => True) _ rfl _ _ rfl wr.heap.size _ _ _ rfl HO3.out _ (l.drop k) rfl HD3.out (by have := HL.out; simp; omega) HB3.out.size ?_)
          all_goals
            intro v5 w5 hown5 hgrow5
            have HB5 := Lib.hid (HB3.out.grown hgrow5 HB3.out.size (fun q e => (HO3.out.lt q e).1))
            have HO5 := Lib.hid hown5
            clear hown5 hgrow5 HO3 HD3 HB3
            go_wp2_with fail
            go_ret
            refine ⟨_, rfl, ?_, HB5.out⟩
            rw [HP.out]
            have ho := HO5.out
            rw [show k + 1 + (l.length - k) = l.length + 1 by omega] at ho
            simpa using ho
        · skip
          go_wp2_with (at_builtin; refine wpList_append_words (P := fun _ => True) _ rfl _ _ rfl wr.heap.size (.slice none 0 0) 0 [] rfl (World.ownsRow_nil _ _ _ _) _ (l.take k) rfl HT.out ?boaz (Nat.le_refl _) ?maaz)
          case boaz => have := HL.out; simp; omega
          intro v1 w1 hown1 hgrow1
          have HB1 := Lib.hid ((Below.refl wr.heap.size wr).grown hgrow1 (Nat.le_refl _) (fun q e => by cases e))
          obtain ⟨a1, c1, rfl, -⟩ := own_formQ hown1
          have HO1 := Lib.hid (ownX_up hown1 (sbelow_new w1 (.cells #[.string x] 9)))
          have hrow : RowX (fun _ => True) (w1.alloc (.cells #[.string x] 9)) (.slice (some ⟨w1.heap.size, 0, none⟩) 1 1) [(x : ByteArray)].length ([(x : ByteArray)].map Value.string) := .inr ⟨w1.heap.size, 0, 1, rfl, trivial, by simp, fun j u hu => by
            match j, hu with
            | 0, hu =>
              simp at hu
              subst hu
              rw [Lib.cell_of_heap (heap_alloc_new w1 _)]
              rfl⟩
          have HRW := Lib.hid hrow
          have HB2 := Lib.hid (HB1.out.trans ((sbelow_new w1 (.cells #[.string x] 9)).mono HB1.out.size))
          clear hown1 hgrow1 hrow HT
          go_wp2_with (at_builtin; refine wpList_append_words (P := fun _ => True) _ rfl _ _ rfl wr.heap.size _ _ _ rfl HO1.out _ [x] rfl HRW.out ?bobz ?babz ?mabz)
          case bobz => have := HL.out; simp; omega
          case babz => exact HB2.out.size
          intro v3 w3 hown3 hgrow3
          have HB3 := Lib.hid (HB2.out.grown hgrow3 HB2.out.size (fun q e => (HO1.out.lt q e).1))
          obtain ⟨a3, c3, rfl, -⟩ := own_formQ hown3
          have HO3 := Lib.hid hown3
          have HD3 := Lib.hid (HD.out.step HB3.out)
          clear hown3 hgrow3 HO1 HRW HB1 HB2 HD
          go_wp2_with (at_builtin; refine wpList_append_words (P := fun _ => True) _ rfl _ _ rfl wr.heap.size _ _ _ rfl HO3.out _ (l.drop k) rfl HD3.out (by have := HL.out; simp; omega) HB3.out.size ?_)
          all_goals
            intro v5 w5 hown5 hgrow5
            have HB5 := Lib.hid (HB3.out.grown hgrow5 HB3.out.size (fun q e => (HO3.out.lt q e).1))
            have HO5 := Lib.hid hown5
            clear hown5 hgrow5 HO3 HD3 HB3
            go_wp2_with fail
            go_ret
            refine ⟨_, rfl, ?_, HB5.out⟩
            rw [HP.out]
            have ho := HO5.out
            rw [show k + 1 + (l.length - k) = l.length + 1 by omega] at ho
            simpa using ho
    · obtain ⟨i, hi⟩ : ∃ i, k = i + 1 := ⟨k - 1, by omega⟩
      obtain ⟨y, hy⟩ : ∃ y, l[i]? = some y := ⟨_, List.getElem?_eq_getElem (by omega)⟩
      obtain ⟨b, o, eb, hbl, e1⟩ := text_at HR.out hy (Below.refl _ _)
      simp only [Option.some.injEq, Addr.mk.injEq, and_true] at eb
      obtain ⟨rfl, rfl⟩ := eb
      rw [Nat.zero_add] at e1
      have h0i : (0 : Int) < (k : Int) := by omega
      have hs1 : (k : Int) - 1 = (i : Int) := by omega
      have hs2 : IntKind.i64.wrap ((k : Int) - 1) = (i : Int) := by rw [hs1]; exact IntWalk.i64_in _ (by have := HL.out; omega)
      have hs3 : IntKind.i64.wrap (i : Int) = (i : Int) := IntWalk.i64_in _ (by have := HL.out; omega)
      have hs4 : (0 : Int) ≤ (i : Int) := by omega
      have hs5 : (i : Int) < (l.length : Int) := by omega
      have hji : J ≤ i := by omega
      have hle := HAb.out i y hy hji
      unfold leB at hle
      obtain ⟨q1, q2⟩ := Bool.or_eq_false_iff.1 hle
      have HJ2 := Lib.hid hji
      have HI := Lib.hid hi
      clear hle hy hJ hk hJk hi hji hbl
      go_wp2_with fail
      go_roundg i
      case measure => have := HM.out; have := HI.out; omega
      case rel => exact ⟨i, by have := HK.out; have := HI.out; omega, HJ2.out, rfl, rfl, rfl⟩
set_option maxRecDepth 100000 in
set_option maxHeartbeats 2000000 in
theorem qput_nil (x : ByteArray) (wr : World) :
    Calls Tryz.prog 105 #[.slice none 0 0, .string x] wr fun e w' => ∃ v', e = .returned v' ∧ w'.ownsRow wr.heap.size 9 1 v' 1 [Value.string x] ∧ Below wr.heap.size wr w' := by
  have HT := Lib.hid (RowX.nil (fun _ => True) wr)
  have HD := Lib.hid (RowX.nil (fun _ => True) wr)
  go_enter Tryz.func105, Tryz.ntmps105
  go_wp2_with fail
  go_loopg [5] 0 (fun m u w' => u = .int .i64 0 ∧ w' = wr)
  case atStart => exact ⟨rfl, rfl⟩
  case round =>
  obtain ⟨rfl, rfl⟩ := hrel
  go_wp2_with (at_builtin; refine wpList_append_words (P := fun _ => True) _ rfl _ _ rfl wr.heap.size (.slice none 0 0) 0 [] rfl (World.ownsRow_nil _ _ _ _) _ [] rfl HT.out ?boax (Nat.le_refl _) ?maax)
  case boax => decide
  intro v1 w1 hown1 hgrow1
  have HB1 := Lib.hid ((Below.refl wr.heap.size wr).grown hgrow1 (Nat.le_refl _) (fun q e => by cases e))
  obtain ⟨a1, c1, rfl, -⟩ := own_formQ hown1
  have HO1 := Lib.hid (ownX_up hown1 (sbelow_new w1 (.cells #[.string x] 9)))
  have hrow : RowX (fun _ => True) (w1.alloc (.cells #[.string x] 9)) (.slice (some ⟨w1.heap.size, 0, none⟩) 1 1) [(x : ByteArray)].length ([(x : ByteArray)].map Value.string) := .inr ⟨w1.heap.size, 0, 1, rfl, trivial, by simp, fun j u hu => by
    match j, hu with
    | 0, hu =>
      simp at hu
      subst hu
      rw [Lib.cell_of_heap (heap_alloc_new w1 _)]
      rfl⟩
  have HRW := Lib.hid hrow
  have HB2 := Lib.hid (HB1.out.trans ((sbelow_new w1 (.cells #[.string x] 9)).mono HB1.out.size))
  clear hown1 hgrow1 hrow HT
  go_wp2_with (at_builtin; refine wpList_append_words (P := fun _ => True) _ rfl _ _ rfl wr.heap.size _ _ _ rfl HO1.out _ [x] rfl HRW.out ?bobx ?babx ?mabx)
  case bobx => simp
  case babx => exact HB2.out.size
  intro v3 w3 hown3 hgrow3
  have HB3 := Lib.hid (HB2.out.grown hgrow3 HB2.out.size (fun q e => (HO1.out.lt q e).1))
  obtain ⟨a3, c3, rfl, -⟩ := own_formQ hown3
  have HO3 := Lib.hid hown3
  have HD3 := Lib.hid (HD.out.step HB3.out)
  clear hown3 hgrow3 HO1 HRW HB1 HB2 HD
  go_wp2_with (at_builtin; refine wpList_append_words (P := fun _ => True) _ rfl _ _ rfl wr.heap.size _ _ _ rfl HO3.out _ [] rfl HD3.out (by decide) HB3.out.size ?_)
  all_goals
    intro v5 w5 hown5 hgrow5
    have HB5 := Lib.hid (HB3.out.grown hgrow5 HB3.out.size (fun q e => (HO3.out.lt q e).1))
    have HO5 := Lib.hid hown5
    clear hown5 hgrow5 HO3 HD3 HB3
    go_wp2_with fail
    go_ret
    refine ⟨_, rfl, ?_, HB5.out⟩
    simpa using HO5.out
/-- put, of a row that is its own. -/
theorem qput_any (l : List ByteArray) (x : ByteArray) (hl : l.length ≤ 100000) (hs : (bL l).Pairwise (fun a b => a ≤ b)) (w : World) (B : Nat) (v : Value) (ho : w.ownsRow B 9 1 v l.length (l.map Value.string)) :
    Calls Tryz.prog 105 #[v, .string x] w fun e w' => ∃ v', e = .returned v' ∧ w'.ownsRow w.heap.size 9 1 v' (l.length + 1) ((putB l x).map Value.string) ∧ Below w.heap.size w w' := by
  have hr := RowX.of_own (P := fun _ => True) ho (fun _ _ => trivial)
  rcases ho.2 with ⟨rfl, h0⟩ | ⟨g, cap, cur, rfl, -, -, hc, hm, -⟩
  · obtain rfl : l = [] := List.eq_nil_of_length_eq_zero h0
    exact qput_nil x w
  · exact qput_some l x hl hs w g cap hc hm hr
end Go.Proofs.YtpccdhkghlbhkaaGreatDoor

namespace Go.Proofs.YtpccdhkghlbhkaaGreatDoor
open Go.RowKit Go.Extern.Stop Go.Stop Go.Extern

theorem bL_back (l : List (List UInt8)) : bL (l.map (fun b => (⟨b.toArray⟩ : ByteArray))) = l := by
  induction l with
  | nil => rfl
  | cons x r ih => simp only [bL, List.map_cons] at ih ⊢; rw [ih]
theorem back_bL (l : List ByteArray) : (bL l).map (fun b => (⟨b.toArray⟩ : ByteArray)) = l := by
  induction l with
  | nil => rfl
  | cons x r ih => simp only [bL, List.map_cons] at ih ⊢; rw [ih]
theorem bL_srt (l : List ByteArray) : bL (srt l) = srtL (bL l) := by
  unfold srt
  rw [bL_back]
  rfl
theorem srt_nil : srt [] = [] := rfl
theorem srt_push (l : List ByteArray) (w : ByteArray) : srt (l ++ [w]) = putB (srt l) w := by
  have h : bL (srt (l ++ [w])) = bL (putB (srt l) w) := by
    rw [bL_srt, putB_eq, bL_srt]
    simp [bL, srtL]
  rw [← back_bL (srt (l ++ [w])), h, back_bL]
theorem srt_sorted (l : List ByteArray) : (bL (srt l)).Pairwise (fun a b => a ≤ b) := by
  rw [bL_srt]
  exact (srtL_go (bL l) [] List.Pairwise.nil).1
theorem srt_perm (l : List ByteArray) : (bL (srt l)).Perm (bL l) := by
  rw [bL_srt]
  exact (srtL_go (bL l) [] List.Pairwise.nil).2
theorem srt_len (l : List ByteArray) : (srt l).length = l.length := by
  have := (srt_perm l).length_eq
  simpa [bL] using this
theorem srt_has (l : List ByteArray) (w : ByteArray) : (bL l).contains w.data.toList = true ↔ w ∈ srt l := by
  rw [List.contains_iff_mem, ← (srt_perm l).mem_iff]
  unfold bL
  rw [List.mem_map]
  constructor
  · rintro ⟨y, hy, e⟩
    obtain rfl : y = w := ByteArray.ext (Array.toList_inj.1 e)
    exact hy
  · intro h
    exact ⟨w, h, rfl⟩
end Go.Proofs.YtpccdhkghlbhkaaGreatDoor

namespace Go.Proofs.YtpccdhkghlbhkaaGreatDoor
open Go.RowKit Go.Extern.Stop Go.Stop Go.Extern

/-! ### take, where an error was met -/
set_option maxRecDepth 100000 in
set_option maxHeartbeats 2000000 in
theorem qtake_idle (s : ByteArray) (a n b : Nat) (c d : Int) (hd : d ≠ 0) (ha : a ≤ s.size) (hc : c ≠ 0) (w : World) (h : Qn w b s a n c) :
    Calls Tryz.prog 95 #[.pointer (some ⟨b, 0, none⟩), .int .u8 d] w fun e w' => e = .returned (.tuple #[]) ∧ Below w.heap.size w w' := by
  have HI := Lib.hid (qis_any s a n b c d hd ha w h)
  rw [show (decide (c = 0) && decide (byteI s a = d)) = false by rw [decide_eq_false hc]; rfl] at HI
  have HF := Lib.hid (fun W => rfails_any s a W)
  have HL := Lib.hid (fun W => qfail_no s a n b c (missC s a) hc W)
  have HH := Lib.hid h
  generalize missC s a = m at *
  clear h
  go_enter Tryz.func95, Tryz.ntmps95
  go_wp2_with fail
  refine HI.out.mono ?_
  rintro e w1 ⟨rfl, b1⟩
  have h1 := HH.out.step b1
  have HK := Lib.hid b1
  have hI := h1.step (Below.refl _ _).drew
  obtain ⟨c0, c1, c2, c3⟩ := h1.cells
  clear b1 h1 HH HI
  go_wp2_with fail
  go_region_with (first
    | (go_at_call 104; refine (HF.out _).mono ?_; rintro e w5 ⟨rfl, rfl⟩)
    | (go_at_call 66; refine (HL.out _ hI).mono ?_; rintro e w6 ⟨rfl, rfl⟩))
  all_goals
    go_wp2
    go_end0
    exact ⟨rfl, HK.out.drew⟩

/-! ### The set in memory -/
theorem own_base {w : World} {B B' : Nat} {e : TypeId} {sz : Nat} {v : Value} {n : Nat} {xs : List Value} (h : w.ownsRow B e sz v n xs) (hB : B' ≤ B) : w.ownsRow B' e sz v n xs :=
  ⟨h.1, h.2.imp id fun ⟨g, cap, cur, e, hb, rest⟩ => ⟨g, cap, cur, e, Nat.le_trans hB hb, rest⟩⟩
/-- On the way through a set: ws stands in order. -/
structure QsSt (w0 : World) (b : Nat) (s : ByteArray) (a n : Nat) (c : Int) (neg : Bool) (ws : List ByteArray) (vW : Value) (w : World) : Prop where
  rd : Qn w b s a n c
  res : QuadAt 33 w w0.heap.size (.int .i64 0) (.bool false) (.slice none 0 0) (.slice none 0 0)
  x : QuadAt 33 w (w0.heap.size + 1) (.int .i64 1) (.bool neg) vW (.slice none 0 0)
  own : w.ownsRow (w0.heap.size + 2) 9 1 vW ws.length (ws.map Value.string)
  keep : Keeps (· = b) w0 w
  ord : b < w0.heap.size
section
variable {w0 w w' : World} {b a n : Nat} {s : ByteArray} {c : Int} {neg : Bool} {ws : List ByteArray} {vW : Value}
theorem QsSt.lt2 (h : QsSt w0 b s a n c neg ws vW w) : w0.heap.size + 2 ≤ w.heap.size := h.x.lt
theorem QsSt.step (h : QsSt w0 b s a n c neg ws vW w) (hb : Below w.heap.size w w') : QsSt w0 b s a n c neg ws vW w' :=
  ⟨h.rd.step hb, h.res.step hb, h.x.step hb, ownX_up h.own hb, h.keep.next hb, h.ord⟩
/-- The reader alone turned. -/
theorem QsSt.go {a' : Nat} {c' : Int} (h : QsSt w0 b s a n c neg ws vW w) (hr : Qn w' b s a' n c') (hk : Keeps (· = b) w w') : QsSt w0 b s a' n c' neg ws vW w' :=
  ⟨hr, h.res.keeps hk (fun e => by have := h.ord; omega), h.x.keeps hk (fun e => by have := h.ord; omega), ownX_keeps h.own hk (fun q hq e => by have := (h.own.lt q hq).1; have := h.ord; omega), h.keep.trans hk, h.ord⟩
/-- Other words. -/
theorem QsSt.put {ws' : List ByteArray} {va : Option Addr} {vl vc : Nat} (h : QsSt w0 b s a n c neg ws vW w) (ho : w.ownsRow (w0.heap.size + 2) 9 1 (.slice va vl vc) ws'.length (ws'.map Value.string)) :
    QsSt w0 b s a n c neg ws' (.slice va vl vc) (w.setCell ⟨w0.heap.size + 1, 2, none⟩ (.slice va vl vc)) := by
  have hk : Keeps (· = w0.heap.size + 1) w (w.setCell ⟨w0.heap.size + 1, 2, none⟩ (.slice va vl vc)) := (Keeps.refl (· = w0.heap.size + 1) w).setCell (q := ⟨w0.heap.size + 1, 2, none⟩) (.inr rfl) _
  exact ⟨h.rd.keeps hk (fun e => by have := h.ord; omega), h.res.keeps hk (fun e => by omega), h.x.put2 _, ownX_keeps ho hk (fun q hq e => by have := (ho.lt q hq).1; omega),
    h.keep.setCell (q := ⟨w0.heap.size + 1, 2, none⟩) (.inl (by show w0.heap.size ≤ w0.heap.size + 1; omega)) _, h.ord⟩
end
def QsOut (w : World) (b : Nat) (s : ByteArray) (n : Nat) (neg : Bool) : RO (List ByteArray) → Ending → World → Prop
  | .er c p, e, w' => ∃ (k : Int) (t : Bool) (a1 : Option Addr) (l1 c1 : Nat) (a2 : Option Addr) (l2 c2 : Nat), e = .returned (.agg #[.int .i64 k, .bool t, .slice a1 l1 c1, .slice a2 l2 c2]) ∧ Qn w' b s p n c ∧ c ≠ 0 ∧ Keeps (· = b) w w'
  | .ok k' _ ws, e, w' => ∃ (k : Int) (t : Bool) (a1 : Option Addr) (l1 c1 : Nat) (a2 : Option Addr) (l2 c2 : Nat), e = .returned (.agg #[.int .i64 k, .bool t, .slice a1 l1 c1, .slice a2 l2 c2]) ∧ ExC (fun q => w.heap.size ≤ q) w' [.int .i64 k, .bool t, .slice a1 l1 c1, .slice a2 l2 c2] (.mk 1 neg (srt ws) []) ∧ Qn w' b s k' n 0 ∧ Keeps (· = b) w w'
end Go.Proofs.YtpccdhkghlbhkaaGreatDoor
