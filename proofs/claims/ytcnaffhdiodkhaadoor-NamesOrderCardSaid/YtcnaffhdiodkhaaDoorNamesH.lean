/-
  Rows of names hang on no order: plain lemmas; slices.Grow of nil, slices.Concat of two cuts, slices.Reverse, slices.IsSorted at texts, by contracts.
-/
import Derived.Test.YtcnaffhdiodkhaaDoorNamesF
import Derived.Shelf.Slices.Cells
import Derived.Laws.OwnMore
import Derived.Laws.AppendOwnNone
namespace Go.Proofs.YtcnaffhdiodkhaaDoor
open Go.RowKit Go.Extern.Stop Go.Stop Go.Extern

/-! ### Plain -/
theorem withC_zero {r : List ByteArray} (hr : Rises r) (x : ByteArray) : withC r x = 0 ↔ isNameB x = true ∧ x ∉ r ∧ r.length < 64 := by
  unfold withC
  by_cases hn : isNameB x = true
  · rw [if_pos hn]
    by_cases hf : foundB r x = true
    · rw [if_pos hf]
      have := (found_iff hr x).1 hf
      simp [this]
    · rw [if_neg hf]
      have hx : x ∉ r := fun h => hf ((found_iff hr x).2 h)
      by_cases h : 64 ≤ r.length
      · rw [if_pos h]; simp; intro _ _; omega
      · rw [if_neg h]; simp [hn, hx]; omega
  · rw [if_neg hn]; simp [hn]
def okRow (xs r : List ByteArray) : Prop := (∀ x ∈ xs, isNameB x = true) ∧ xs.Nodup ∧ ∀ x ∈ xs, x ∉ r
theorem ofGo_ok : ∀ (xs : List ByteArray) (i : Nat) (r : List ByteArray), Rises r → r.length + xs.length ≤ 64 → okRow xs r → (ofGo xs i r).2.1 = 0 ∧ Rises (ofGo xs i r).1 ∧ (ofGo xs i r).1.Perm (xs ++ r)
  | [], _, _, hr, _, _ => ⟨rfl, hr, List.Perm.refl _⟩
  | x :: xs, i, r, hr, hl, ⟨h1, h2, h3⟩ => by
    have hc : withC r x = 0 := (withC_zero hr x).2 ⟨h1 x (by simp), h3 x (by simp), by simp at hl; omega⟩
    have e : ofGo (x :: xs) i r = ofGo xs (i + 1) (insS r x) := by show (if withC r x = 0 then _ else _) = _; rw [if_pos hc]
    have hp := insS_perm r x
    have hr' : Rises (insS r x) := insS_rises hr (h3 x (by simp))
    rw [e]
    obtain ⟨k1, k2, k3⟩ := ofGo_ok xs (i + 1) (insS r x) hr' (by rw [insS_length]; simp at hl; omega) ⟨fun y hy => h1 y (by simp [hy]), (List.nodup_cons.1 h2).2, fun y hy h => by
      rcases List.mem_cons.1 (hp.subset h) with rfl | h
      · exact (List.nodup_cons.1 h2).1 hy
      · exact h3 y (by simp [hy]) h⟩
    refine ⟨k1, k2, k3.trans ?_⟩
    exact (List.Perm.append_left xs hp).trans List.perm_middle
theorem ofGo_bad : ∀ (xs : List ByteArray) (i : Nat) (r : List ByteArray), Rises r → r.length + xs.length ≤ 64 → ¬ okRow xs r → (ofGo xs i r).2.1 ≠ 0 ∧ (ofGo xs i r).1 = []
  | [], _, _, _, _, h => absurd ⟨by simp, List.nodup_nil, by simp⟩ h
  | x :: xs, i, r, hr, hl, h => by
    by_cases hc : withC r x = 0
    · have e : ofGo (x :: xs) i r = ofGo xs (i + 1) (insS r x) := by show (if withC r x = 0 then _ else _) = _; rw [if_pos hc]
      obtain ⟨c1, c2, c3⟩ := (withC_zero hr x).1 hc
      have hp := insS_perm r x
      rw [e]
      refine ofGo_bad xs (i + 1) (insS r x) (insS_rises hr c2) (by rw [insS_length]; simp at hl; omega) (fun ⟨h1, h2, h3⟩ => h ⟨?_, ?_, ?_⟩)
      · intro y hy
        rcases List.mem_cons.1 hy with rfl | hy
        · exact c1
        · exact h1 y hy
      · exact List.nodup_cons.2 ⟨fun hx => h3 x hx (hp.symm.subset (by simp)), h2⟩
      · intro y hy
        rcases List.mem_cons.1 hy with rfl | hy
        · exact c2
        · exact fun hyr => h3 y hy (hp.symm.subset (by simp [hyr]))
    · have e : ofGo (x :: xs) i r = ([], withC r x, (i : Int)) := by show (if withC r x = 0 then _ else _) = _; rw [if_neg hc]
      rw [e]
      exact ⟨hc, rfl⟩
/-- The row of texts hangs on no order. -/
theorem ofR_perm {l l' : List ByteArray} (hp : l.Perm l') : ((ofR l).2.1 = 0 ↔ (ofR l').2.1 = 0) ∧ (ofR l').1 = (ofR l).1 ∧ Rises (ofR l).1 := by
  have hlen := hp.length_eq
  unfold ofR
  by_cases h : 64 < l.length
  · rw [if_pos h, if_pos (by omega)]
    exact ⟨Iff.rfl, rfl, List.Pairwise.nil⟩
  · rw [if_neg h, if_neg (by omega)]
    have hn : Rises [] := List.Pairwise.nil
    by_cases hok : okRow l []
    · have hok' : okRow l' [] := ⟨fun x hx => hok.1 x (hp.symm.subset hx), hp.nodup_iff.1 hok.2.1, by simp⟩
      obtain ⟨a1, a2, a3⟩ := ofGo_ok l 0 [] hn (by simp; omega) hok
      obtain ⟨b1, b2, b3⟩ := ofGo_ok l' 0 [] hn (by simp; omega) hok'
      rw [List.append_nil] at a3 b3
      exact ⟨by rw [a1, b1], rises_unique b2 a2 (b3.trans (hp.symm.trans a3.symm)), a2⟩
    · have hok' : ¬ okRow l' [] := fun hok' => hok ⟨fun x hx => hok'.1 x (hp.subset hx), hp.nodup_iff.2 hok'.2.1, by simp⟩
      obtain ⟨a1, a2⟩ := ofGo_bad l 0 [] hn (by simp; omega) hok
      obtain ⟨b1, b2⟩ := ofGo_bad l' 0 [] hn (by simp; omega) hok'
      exact ⟨⟨fun h => absurd h a1, fun h => absurd h b1⟩, by rw [a2, b2], by rw [a2]; exact hn⟩
theorem ofR_length (l : List ByteArray) : (ofR l).1.length ≤ 64 := by
  unfold ofR
  by_cases h : 64 < l.length
  · rw [if_pos h]; simp
  · rw [if_neg h]
    by_cases hok : okRow l []
    · obtain ⟨_, _, a3⟩ := ofGo_ok l 0 [] List.Pairwise.nil (by simp; omega) hok
      rw [a3.length_eq]; simp; omega
    · rw [(ofGo_bad l 0 [] List.Pairwise.nil (by simp; omega) hok).2]; simp
theorem turned_perm (l : List ByteArray) (k : Nat) : (l.drop k ++ l.take k).reverse.Perm l := by
  refine (List.reverse_perm _).trans ?_
  have := List.perm_append_comm (l₁ := l.drop k) (l₂ := l.take k)
  rwa [List.take_append_drop] at this

/-! ### Grow, Concat -/
theorem growS_zero (w : World) : Calls Tryd.prog 70 #[.slice none 0 0, .int .i64 0] w fun e w' => e = .returned (.slice none 0 0) ∧ w' = w :=
  Any8.slices_Grow_room Tryd.layGrow none 0 0 0 w (by omega) (by omega) (by omega) (by omega)
theorem growS_any (x : Int) (n : Nat) (hx : x = n) (hn : n ≤ 1000) (w : World) : Calls Tryd.prog 70 #[.slice none 0 0, .int .i64 x] w fun e w' =>
    ∃ sl, e = .returned sl ∧ w'.ownsRow w.heap.size 9 1 sl 0 [] ∧ Below w.heap.size w w' := by
  subst hx
  by_cases h : n = 0
  · subst h
    exact (growS_zero w).mono fun _ _ ⟨he, hw⟩ => ⟨_, he, World.ownsRow_nil _ _ _ _, by rw [hw]; exact Below.refl _ _⟩
  · obtain ⟨i0, hi, hz0, hz1, hz2⟩ := info_parts infoStr
    refine (show Calls Tryd.prog 70 #[.slice none 0 0, .int .i64 n] w _ from Any8.slices_Grow_grow Tryd.layGrow i0 (.string ByteArray.empty) hi hz0 (by rw [hz1]; decide) none 0 0 n [] w (by omega) (by omega) (by rw [hz2]; omega) (by omega) (by simp) (fun _ => rfl) (fun a h => by cases h)).mono ?_
    rintro e w' ⟨rfl, rfl⟩
    obtain ⟨G, hG⟩ : ∃ G, grownCap w (0 + n) 0 (Tryd.layGrow_ren.t 25) = G := ⟨_, rfl⟩
    have hGm : G ≤ maxLen := by rw [← hG]; exact grownCap_le_maxLen w (0 + n) 0 9 (by unfold maxLen; omega)
    have hG' : 0 + n ≤ G := by rw [← hG]; exact grownCap_ge w (0 + n) 0 9
    rw [hG]
    refine ⟨_, rfl, World.ownsRow_made w.drew _ _ (Nat.le_refl _) hGm ?_, ((Below.refl _ _).drew).alloc (Nat.le_refl _) _⟩
    simp [size_zeroCells, Value.cells]
    omega

/-- The texts of a cut, at their address. -/
def TextsAt (w : World) (a : Addr) (zs : List ByteArray) : Prop := ∀ j u, (zs.map (Value.string))[j]? = some u → w.cell? (a.add j) = some u
theorem TextsAt.keep {w w' : World} {a : Addr} {zs : List ByteArray} (h : TextsAt w a zs) (hb : Below w.heap.size w w') : TextsAt w' a zs :=
  fun j u hj => (hb.cell (p := a.add j) (World.block_lt_of_cell? w _ (h j u hj))).trans (h j u hj)
theorem one_texts (zs : List ByteArray) : ∀ u ∈ zs.map (Value.string), u.oneCell' = true := fun u hu => by
  obtain ⟨z, -, rfl⟩ := List.mem_map.1 hu
  rfl

set_option maxRecDepth 100000 in
set_option maxHeartbeats 3200000 in
theorem concatS_some (q : Nat) (a1 a2 : Addr) (c1 c2 : Nat) (z1 z2 : List ByteArray) (w : World) (hq : q < w.heap.size) (k0 : w.cell? ⟨q, 0, none⟩ = some (.slice (some a1) z1.length c1)) (k1 : w.cell? ⟨q, 1, none⟩ = some (.slice (some a2) z2.length c2))
    (h1 : TextsAt w a1 z1) (h2 : TextsAt w a2 z2) (l1 : z1.length ≤ 100) (l2 : z2.length ≤ 100) :
    Calls Tryd.prog 33 #[.slice (some ⟨q, 0, none⟩) 2 2] w fun e w' => ∃ sl, e = .returned sl ∧ w'.ownsRow w.heap.size 9 1 sl (z1.length + z2.length) ((z1 ++ z2).map (Value.string)) ∧ Below w.heap.size w w' := by
  obtain ⟨i0, hi, hz0, hz1, hz2⟩ := info_parts infoStr
  have HG := Lib.hid (growS_any ((z1.length : Int) + z2.length) (z1.length + z2.length) (by omega) (by omega) w)
  obtain ⟨n1, hn1⟩ : ∃ n, n = z1.length := ⟨_, rfl⟩
  obtain ⟨n2, hn2⟩ : ∃ n, n = z2.length := ⟨_, rfl⟩
  rw [← hn1] at k0 l1 HG ⊢
  rw [← hn2] at k1 l2 HG ⊢
  have N1 := Lib.hid hn1
  have N2 := Lib.hid hn2
  clear hn1 hn2
  go_enter Tryd.func33, Tryd.ntmps33
  go_wp2
  refine wp_loop_rounds 3 ?_
  rw [rounds_succ]
  go_wp2
  rw [rounds_succ]
  go_wp2
  rw [rounds_succ]
  go_wp2_with fail
  refine HG.out.mono ?_
  rintro e w1 ⟨sl, rfl, hown, hb1⟩
  have g0 := (hb1.cell (p := ⟨q, 0, none⟩) hq).trans k0
  have g1 := (hb1.cell (p := ⟨q, 1, none⟩) hq).trans k1
  have C1 := h1.keep hb1
  go_wp2_with fail
  refine wp_loop_rounds 3 ?_
  rw [rounds_succ]
  go_wp2_with (at_builtin; refine wpList_append_own _ rfl _ _ 56 rfl w.heap.size 9 i0 (.string ByteArray.empty) 1 16 Tryd.underlying56 hi hz0 hz1 hz2 rfl (by decide) _ _ _ rfl hown a1 n1 c1 (z1.map (Value.string)) rfl ?c1 ?c2 ?c3 ?c4 ?c5 ?c6 ?_)
  case c1 => rw [N1.out]; simp
  case c2 => exact C1
  case c3 => exact one_texts z1
  case c4 => unfold maxLen; omega
  case c5 => omega
  case c6 => exact hb1.size
  intro v1 w2 hown2 hgrow2 _
  have hb2 : Below w.heap.size w1 w2 := (Below.refl _ _).grown hgrow2 hb1.size (fun k e => (hown.lt k e).1)
  have hb02 := hb1.trans hb2
  have g1' := (hb02.cell (p := ⟨q, 1, none⟩) hq).trans k1
  have C2' := h2.keep hb02
  clear hown hgrow2
  go_wp2_with fail
  rw [rounds_succ]
  go_wp2_with (at_builtin; refine wpList_append_own _ rfl _ _ 56 rfl w.heap.size 9 i0 (.string ByteArray.empty) 1 16 Tryd.underlying56 hi hz0 hz1 hz2 rfl (by decide) _ _ _ rfl hown2 a2 n2 c2 (z2.map (Value.string)) rfl ?c1 ?c2 ?c3 ?c4 ?c5 ?c6 ?_)
  case c1 => rw [N2.out]; simp
  case c2 => exact C2'
  case c3 => exact one_texts z2
  case c4 => unfold maxLen; omega
  case c5 => omega
  case c6 => exact hb02.size
  intro v2 w3 hown3 hgrow3 _
  have hb3 : Below w.heap.size w2 w3 := (Below.refl _ _).grown hgrow3 hb02.size (fun k e => (hown2.lt k e).1)
  have hb03 := hb02.trans hb3
  have HO := Lib.hid hown3
  clear hown2 hown3 hgrow3
  go_wp2_with fail
  rw [rounds_succ]
  go_wp2_with fail
  go_ret
  exact ⟨_, rfl, by rw [List.map_append]; exact HO.out, hb03⟩

set_option maxRecDepth 100000 in
set_option maxHeartbeats 3200000 in
theorem concatS_nil (q : Nat) (w : World) (hq : q < w.heap.size) (k0 : w.cell? ⟨q, 0, none⟩ = some (.slice none 0 0)) (k1 : w.cell? ⟨q, 1, none⟩ = some (.slice none 0 0)) :
    Calls Tryd.prog 33 #[.slice (some ⟨q, 0, none⟩) 2 2] w fun e w' => ∃ sl, e = .returned sl ∧ w'.ownsRow w.heap.size 9 1 sl 0 [] ∧ Below w.heap.size w w' := by
  obtain ⟨i0, hi, hz0, hz1, hz2⟩ := info_parts infoStr
  have HG := Lib.hid (growS_zero w)
  have hown : w.ownsRow w.heap.size 9 1 (.slice none 0 0) 0 [] := World.ownsRow_nil _ _ _ _
  go_enter Tryd.func33, Tryd.ntmps33
  go_wp2
  refine wp_loop_rounds 3 ?_
  rw [rounds_succ]
  go_wp2
  rw [rounds_succ]
  go_wp2
  rw [rounds_succ]
  go_wp2_with fail
  refine HG.out.mono ?_
  rintro e w1 ⟨rfl, rfl⟩
  go_wp2_with fail
  refine wp_loop_rounds 3 ?_
  rw [rounds_succ]
  go_wp2_with (at_builtin; refine wpList_append_own_none rfl _ _ 56 rfl w1.heap.size 9 i0 1 Tryd.underlying56 hi _ _ _ rfl hown rfl ?_)
  rw [rounds_succ]
  go_wp2_with (at_builtin; refine wpList_append_own_none rfl _ _ 56 rfl w1.heap.size 9 i0 1 Tryd.underlying56 hi _ _ _ rfl hown rfl ?_)
  rw [rounds_succ]
  go_wp2_with fail
  go_ret
  exact ⟨_, rfl, hown, Below.refl _ _⟩

/-! ### Reverse, IsSorted -/
theorem words_map (l : List ByteArray) : l.map Value.string = WordsOf l := rfl
theorem reverseS_any (base : Nat) (l : List ByteArray) (sl : Value) (w : World) (hl : l.length ≤ 1000) (hown : w.ownsRow base 9 1 sl l.length (WordsOf l)) :
    Calls Tryd.prog 34 #[sl] w fun e w' => e = .returned (.tuple #[]) ∧ StrsAt w' sl l.reverse ∧ Below base w w' := by
  rcases hown with ⟨hlw, ⟨rfl, hn⟩ | ⟨g, cap, cur, rfl, hg, hh, hnc, hcm, hcs, htk⟩⟩
  · obtain rfl : l = [] := List.eq_nil_of_length_eq_zero hn
    refine (Tryd.slices_Reverse_string_empty none 0 w).mono ?_
    rintro e w' ⟨rfl, rfl⟩
    exact ⟨rfl, .inl ⟨none, 0, rfl, rfl⟩, Below.refl _ _⟩
  · rw [Nat.mul_one] at hcs htk
    have hcell : ∀ i, i < l.length → w.cell? ⟨g, 0 + i, none⟩ = some (.string (l.getD i ⟨#[]⟩)) := by
      intro i hi
      rw [Nat.zero_add, cell_of_block hh]
      have := wordsOf_get l i hi
      rw [← htk, List.getElem?_take_of_lt hi] at this
      simpa using this
    refine (show Calls Tryd.prog 34 #[.slice (some ⟨g, 0, none⟩) l.length cap] w _ from Any.slices_Reverse_string_cells Tryd.laysNm217 g 0 l.length cap (fun i => l.getD i ⟨#[]⟩) w (by omega) hcell (fun j _ => frozen_of_block hh _)).mono ?_
    rintro e w' ⟨rfl, q, rfl⟩
    have hvs : (Lib.strsOf (fun i => l.getD i ⟨#[]⟩) l.length).reverse.map Go.Proofs.encStr = WordsOf l.reverse := by
      unfold WordsOf
      rw [List.map_reverse, List.map_reverse]
      congr 1
      refine List.ext_getElem (by simp [Lib.strsOf]) (fun i h1 h2 => ?_)
      have hi : i < l.length := by simpa using h2
      simp [Lib.strsOf, Go.Proofs.encStr, List.getElem?_eq_getElem hi]
    rw [hvs]
    refine ⟨rfl, .inr ⟨g, 0, cap, by rw [List.length_reverse], by rw [size_cells]; exact (Array.getElem?_eq_some_iff.1 hh).1, fun i hi => ?_⟩, below_cells g hg _ _ _ ((below_drewN w q).mono (by have := (Array.getElem?_eq_some_iff.1 hh).1; omega))⟩
    rw [List.length_reverse] at hi
    have hlr : (WordsOf l.reverse).length = l.length := by simp [WordsOf]
    have := World.cell?_setCells_in g (WordsOf l.reverse) 0 (w.drewN q) (fun j hj => by
      show (w.cell? _).isSome = true
      rw [hcell j (by omega)]; rfl) i (by omega)
    rw [this]
    have h3 := wordsOf_get l.reverse i (by simpa using hi)
    rw [List.getElem?_eq_getElem (by omega)] at h3
    exact h3

theorem sortedS_any (l : List ByteArray) (v : Value) (w : World) (hv : StrsAt w v l) (hr : Rises l) (hlen : l.length ≤ 1000) :
    Calls Tryd.prog 38 #[v] w fun e w' => e = .returned (.bool true) ∧ ∃ q, w' = w.drewN q := by
  rcases hv with ⟨a, c, rfl, rfl⟩ | ⟨b, o, c, rfl, -, hc⟩
  · refine (AnyO.slices_IsSorted_string_none Tryd.laySorted a c w).mono ?_
    rintro e w' ⟨rfl, rfl⟩
    exact ⟨rfl, 0, rfl⟩
  · have hd : ∀ i, i < l.length → l.toArray[i]! = l.getD i ByteArray.empty := fun i hi => by
      simp [List.getD_eq_getElem?_getD, List.getElem?_eq_getElem hi, getElem!_pos, hi]
    have H := AnyO.slices_IsSorted_string Tryd.laySorted b o c l.toArray w (fun i hi => by rw [hd i (by simpa using hi)]; exact hc i (by simpa using hi)) (by simp; omega)
    have hok : Lib.downOK (fun x y => decide (x.data.toList < y.data.toList)) l.toArray (l.toArray.size - 1) = true := by
      rw [Lib.downOK_iff]
      intro i hi
      have hi2 : i + 1 < l.length := by simp at hi; omega
      rw [hd _ hi2, hd i (by omega), decide_eq_false_iff_not, ← ltB_iff]
      have h1 := List.pairwise_iff_getElem.1 hr i (i + 1) (by omega) hi2 (by omega)
      rw [List.getD_eq_getElem?_getD, List.getElem?_eq_getElem hi2, List.getD_eq_getElem?_getD, List.getElem?_eq_getElem (show i < l.length by omega)]
      simp only [Option.getD_some]
      rw [ltB_asymm h1]
      decide
    rw [hok] at H
    exact H
end Go.Proofs.YtcnaffhdiodkhaaDoor
