/-
  The reference of layer 4, by contracts: With.
-/
import Derived.Test.YtcnaffhdiodkhaaDoorNamesC
namespace Go.Proofs.YtcnaffhdiodkhaaDoor
open Go.RowKit Go.Extern.Stop Go.Stop Go.Extern

/-- What the reference has put together behind so many names. -/
def partOf (l : List ByteArray) (x : ByteArray) (j : Nat) : List ByteArray := if j ≤ posOf l x then l.take j else l.take (posOf l x) ++ x :: (l.drop (posOf l x)).take (j - posOf l x)
theorem partOf_zero (l : List ByteArray) (x : ByteArray) : partOf l x 0 = [] := by unfold partOf; rw [if_pos (Nat.zero_le _)]; rfl
theorem take_one_more (l : List ByteArray) (j : Nat) (hj : j < l.length) : l.take (j + 1) = l.take j ++ [l.getD j ⟨#[]⟩] := by
  rw [List.take_succ_eq_append_getElem hj]
  simp [List.getD_eq_getElem?_getD, List.getElem?_eq_getElem hj]
theorem partOf_low (l : List ByteArray) (x : ByteArray) (j : Nat) (hj : j < l.length) (h : j < posOf l x) : partOf l x (j + 1) = partOf l x j ++ [l.getD j ⟨#[]⟩] := by
  unfold partOf
  rw [if_pos (by omega), if_pos (by omega), take_one_more l j hj]
theorem partOf_at (l : List ByteArray) (x : ByteArray) (j : Nat) (hj : j < l.length) (h : j = posOf l x) : partOf l x (j + 1) = partOf l x j ++ [x] ++ [l.getD j ⟨#[]⟩] := by
  unfold partOf
  rw [if_neg (by omega), if_pos (by omega), h, show posOf l x + 1 - posOf l x = 1 by omega]
  have h2 : posOf l x < l.length := by omega
  rw [List.take_one]
  simp [List.getD_eq_getElem?_getD, List.getElem?_eq_getElem h2, List.head?_drop]
theorem partOf_high (l : List ByteArray) (x : ByteArray) (j : Nat) (hj : j < l.length) (h : posOf l x < j) : partOf l x (j + 1) = partOf l x j ++ [l.getD j ⟨#[]⟩] := by
  unfold partOf
  rw [if_neg (by omega), if_neg (by omega), show j + 1 - posOf l x = (j - posOf l x) + 1 by omega, List.take_succ_eq_append_getElem (by simp; omega)]
  have e : posOf l x + (j - posOf l x) = j := by omega
  simp [List.getD_eq_getElem?_getD, List.getElem?_eq_getElem hj, e]
theorem partOf_end (l : List ByteArray) (x : ByteArray) : (if posOf l x < l.length then partOf l x l.length else partOf l x l.length ++ [x]) = insS l x := by
  have hk := posOf_le l x
  unfold partOf insS
  by_cases h : posOf l x < l.length
  · rw [if_pos h, if_neg (by omega), List.take_of_length_le (l := l.drop _) (by simp)]
  · rw [if_neg h, if_pos (by omega)]
    have e : posOf l x = l.length := by omega
    rw [e]; simp
theorem partOf_len (l : List ByteArray) (x : ByteArray) (j : Nat) : (partOf l x j).length ≤ j + 1 := by
  unfold partOf; split
  · simp; omega
  · simp; omega

theorem wordsOf_snoc (l : List ByteArray) (x : ByteArray) : WordsOf (l ++ [x]) = WordsOf l ++ [.string x] := by simp [WordsOf]

structure RwRel (l : List ByteArray) (x : ByteArray) (w0 : World) (k : Nat) (o d i : Value) (wr : World) : Prop where
  ex : ∃ (j : Nat) (dv : Bool), j ≤ l.length ∧ k = l.length - j ∧ i = .int .i64 j ∧ d = .bool dv ∧ (dv = true ↔ posOf l x < j) ∧ wr.ownsRow w0.heap.size 9 1 o (partOf l x j).length (WordsOf (partOf l x j))
  below : Below w0.heap.size w0 wr

set_option maxRecDepth 100000 in
set_option maxHeartbeats 1600000 in
theorem rwith_yes (l : List ByteArray) (v : Value) (x : ByteArray) (w : World) (hv : RowAt w v l) (hr : Rises l) (hx : x.size ≤ 60000) (hn : isNameB x = true) (hf : foundB l x = false) (h64 : l.length < 64) :
    Calls Tryd.prog 31 #[v, .string x] w fun e w' => ∃ v', e = .returned (.tuple #[v', .int .i64 0]) ∧ RowAt w' v' (insS l x) ∧ Below w.heap.size w w' := by
  have HI := Lib.hid (fun w => risName_any x (by omega) w)
  rw [← isNameB_eq (by omega), hn] at HI
  have HF := Lib.hid (fun w' h => rfind_any l v x w' h hr (by omega))
  rw [show findI l x = -1 by unfold findI; rw [hf]; rfl] at HF
  have HV := Lib.hid hv
  obtain ⟨i0, hi, hz0, hz1, hz2⟩ := info_parts infoStr
  obtain ⟨A, c, rfl, -, hc⟩ := hv
  have HC := Lib.hid hc
  have hm : ¬ (64 : Int) ≤ l.length := by omega
  have HLEN : Hid (∀ j, j ≤ l.length → (partOf l x j).length ≤ 65) := Lib.hid (fun j hj => by have := partOf_len l x j; omega)
  clear hc hn
  go_enter Tryd.func31, Tryd.ntmps31
  go_wp2_with fail
  refine (HI.out _).mono ?_
  rintro e w1 ⟨rfl, b1⟩
  go_wp2_with fail
  refine (HF.out _ (HV.out.keep b1)).mono ?_
  rintro e w' ⟨rfl, rfl⟩
  have HB1 := Lib.hid b1
  go_wp2_with fail
  have H0 : Hid (RwRel l x w l.length (.slice none 0 0) (.bool false) (.int .i64 0) w1) := Lib.hid ⟨⟨0, false, Nat.zero_le _, rfl, rfl, rfl, by simp, by rw [partOf_zero]; exact World.ownsRow_nil _ _ _ _⟩, HB1.out⟩
  go_loopg [6, 7, 22] l.length (fun k o d i wr => RwRel l x w k o d i wr)
  case atStart => exact H0.out
  case round =>
    obtain ⟨⟨j, dv, hj, hk, rfl, rfl, hdv, hown⟩, hbel⟩ := hrel
    have HK := Lib.hid hk
    have HDV := Lib.hid hdv
    have HSZwr := Lib.hid hbel.size
    clear hk hdv
    by_cases hlt : j < l.length
    · obtain ⟨b, rfl, hb, hcell⟩ := HC.out j hlt
      have hcell' := (hbel.cell (p := ⟨b, j, none⟩) hb).trans hcell
      have HY : Hid (∀ y, l.getD j ⟨#[]⟩ = y → y = l[j]) := Lib.hid (fun y hy => by rw [← hy, List.getD_eq_getElem?_getD, List.getElem?_eq_getElem hlt]; rfl)
      obtain ⟨y, hy⟩ : ∃ y, l.getD j ⟨#[]⟩ = y := ⟨_, rfl⟩
      have HYY := Lib.hid hy
      rw [hy] at hcell'
      clear hcell hy
      rcases Nat.lt_trichotomy j (posOf l x) with hjp | hjp | hjp
      · obtain rfl : dv = false := by
          rw [Bool.eq_false_iff]; intro h; have := HDV.out.1 h; omega
        have hls : Op.bytesLess x.toList y.toList = false := by
          have h1 := posOf_lt hjp hlt
          rw [← HY.out y HYY.out] at h1
          exact ltB_asymm h1
        have hl := HLEN.out j hj
        have hshag := HSZwr.out
        have hphag : ∀ j u, [Value.string y][j]? = some u → (wr.alloc (.cells #[.string y] 9)).cell? (Addr.add ⟨wr.heap.size, 0, none⟩ j) = some u := by
          intro j u hj
          match j, hj with
          | 0, hj => simp at hj; subst hj; simp [Addr.add]
        have hqhag : ∀ u ∈ [Value.string y], u.oneCell' = true := by simp [Value.oneCell']
        have hrhag := Lib.hid hphag
        have hthag := Lib.hid hqhag
        clear hphag hqhag
        go_wp2_with (at_builtin; refine wpList_append_own _ rfl _ _ 56 rfl w.heap.size 9 i0 (.string ByteArray.empty) 1 16 Tryd.underlying56 hi hz0 hz1 hz2 rfl (by decide) _ _ _ rfl (hown.alloc _) ⟨wr.heap.size, 0, none⟩ 1 1 [.string y] rfl rfl hrhag.out hthag.out (by have := hl; unfold maxLen; omega) (by have := hl; omega) (by simp; omega) ?_)
        intro o3 w3 hown3 hgrow3 _
        have HB3 := Lib.hid ((hbel.alloc HSZwr.out (.cells #[.string y] 9)).grown hgrow3 (by have := HSZwr.out; simp; omega) (fun k e => (hown.lt k e).1))
        have HO3 : Hid (w3.ownsRow w.heap.size 9 1 o3 (partOf l x (j + 1)).length (WordsOf (partOf l x (j + 1)))) := by
          refine Lib.hid ?_
          rw [partOf_low l x j hlt hjp, HYY.out, wordsOf_snoc, List.length_append]
          exact hown3
        clear hown3 hgrow3 hown hl
        go_wp2_with fail
        go_roundg (l.length - (j + 1))
        case measure => have := HK.out; omega
        case rel => exact ⟨⟨j + 1, false, by omega, rfl, by go_num, rfl, ⟨(fun h => by cases h), (fun h => by omega)⟩, HO3.out⟩, HB3.out⟩
      · obtain rfl : dv = false := by
          rw [Bool.eq_false_iff]; intro h; have := HDV.out.1 h; omega
        have hls : Op.bytesLess x.toList y.toList = true := by
          have h1 := posOf_stop (l := l) (x := x) (by omega)
          have h2 : l[posOf l x]'(by omega) ≠ x := fun e => by
            have := (found_iff hr x).2 (by rw [← e]; exact List.getElem_mem (by omega))
            rw [hf] at this; cases this
          have h3 := ltB_total h1 h2
          have e : y = l[posOf l x]'(by omega) := by rw [HY.out y HYY.out]; simp [hjp]
          rw [← e] at h3
          exact h3
        have HJP := Lib.hid hjp
        clear hjp
        have hl := HLEN.out j hj
        have hshbg := HSZwr.out
        have hphbg : ∀ j u, [Value.string x][j]? = some u → (wr.alloc (.cells #[.string x] 9)).cell? (Addr.add ⟨wr.heap.size, 0, none⟩ j) = some u := by
          intro j u hj
          match j, hj with
          | 0, hj => simp at hj; subst hj; simp [Addr.add]
        have hqhbg : ∀ u ∈ [Value.string x], u.oneCell' = true := by simp [Value.oneCell']
        have hrhbg := Lib.hid hphbg
        have hthbg := Lib.hid hqhbg
        clear hphbg hqhbg
        go_wp2_with (at_builtin; refine wpList_append_own _ rfl _ _ 56 rfl w.heap.size 9 i0 (.string ByteArray.empty) 1 16 Tryd.underlying56 hi hz0 hz1 hz2 rfl (by decide) _ _ _ rfl (hown.alloc _) ⟨wr.heap.size, 0, none⟩ 1 1 [.string x] rfl rfl hrhbg.out hthbg.out (by have := hl; unfold maxLen; omega) (by have := hl; omega) (by simp; omega) ?_)
        intro o3 w3 hown3 hgrow3 _
        have HB3 := Lib.hid ((hbel.alloc HSZwr.out (.cells #[.string x] 9)).grown hgrow3 (by have := HSZwr.out; simp; omega) (fun k e => (hown.lt k e).1))
        have HSZw3 := Lib.hid HB3.out.size
        clear hgrow3 hown
        have hshcg := HSZw3.out
        have hphcg : ∀ j u, [Value.string y][j]? = some u → (w3.alloc (.cells #[.string y] 9)).cell? (Addr.add ⟨w3.heap.size, 0, none⟩ j) = some u := by
          intro j u hj
          match j, hj with
          | 0, hj => simp at hj; subst hj; simp [Addr.add]
        have hqhcg : ∀ u ∈ [Value.string y], u.oneCell' = true := by simp [Value.oneCell']
        have hrhcg := Lib.hid hphcg
        have hthcg := Lib.hid hqhcg
        clear hphcg hqhcg
        go_wp2_with (at_builtin; refine wpList_append_own _ rfl _ _ 56 rfl w.heap.size 9 i0 (.string ByteArray.empty) 1 16 Tryd.underlying56 hi hz0 hz1 hz2 rfl (by decide) _ _ _ rfl (hown3.alloc _) ⟨w3.heap.size, 0, none⟩ 1 1 [.string y] rfl rfl hrhcg.out hthcg.out (by have := hl; unfold maxLen; omega) (by have := hl; omega) (by simp; omega) ?_)
        intro o4 w4 hown4 hgrow4 _
        have HB4 := Lib.hid ((HB3.out.alloc HSZw3.out (.cells #[.string y] 9)).grown hgrow4 (by have := HSZw3.out; simp; omega) (fun k e => (hown3.lt k e).1))
        have HO4 : Hid (w4.ownsRow w.heap.size 9 1 o4 (partOf l x (j + 1)).length (WordsOf (partOf l x (j + 1)))) := by
          refine Lib.hid ?_
          rw [partOf_at l x j hlt HJP.out, HYY.out, wordsOf_snoc, wordsOf_snoc, List.length_append, List.length_append, List.append_assoc]
          exact hown4
        clear hown3 hown4 hgrow4 hl
        go_wp2_with fail
        go_roundg (l.length - (j + 1))
        case measure => have := HK.out; omega
        case rel => exact ⟨⟨j + 1, true, by omega, rfl, by go_num, rfl, ⟨(fun _ => by have := HJP.out; omega), fun _ => rfl⟩, HO4.out⟩, HB4.out⟩
      · obtain rfl : dv = true := HDV.out.2 hjp
        have hl := HLEN.out j hj
        have hshdg := HSZwr.out
        have hphdg : ∀ j u, [Value.string y][j]? = some u → (wr.alloc (.cells #[.string y] 9)).cell? (Addr.add ⟨wr.heap.size, 0, none⟩ j) = some u := by
          intro j u hj
          match j, hj with
          | 0, hj => simp at hj; subst hj; simp [Addr.add]
        have hqhdg : ∀ u ∈ [Value.string y], u.oneCell' = true := by simp [Value.oneCell']
        have hrhdg := Lib.hid hphdg
        have hthdg := Lib.hid hqhdg
        clear hphdg hqhdg
        go_wp2_with (at_builtin; refine wpList_append_own _ rfl _ _ 56 rfl w.heap.size 9 i0 (.string ByteArray.empty) 1 16 Tryd.underlying56 hi hz0 hz1 hz2 rfl (by decide) _ _ _ rfl (hown.alloc _) ⟨wr.heap.size, 0, none⟩ 1 1 [.string y] rfl rfl hrhdg.out hthdg.out (by have := hl; unfold maxLen; omega) (by have := hl; omega) (by simp; omega) ?_)
        intro o3 w3 hown3 hgrow3 _
        have HB3 := Lib.hid ((hbel.alloc HSZwr.out (.cells #[.string y] 9)).grown hgrow3 (by have := HSZwr.out; simp; omega) (fun k e => (hown.lt k e).1))
        have HO3 : Hid (w3.ownsRow w.heap.size 9 1 o3 (partOf l x (j + 1)).length (WordsOf (partOf l x (j + 1)))) := by
          refine Lib.hid ?_
          rw [partOf_high l x j hlt hjp, HYY.out, wordsOf_snoc, List.length_append]
          exact hown3
        clear hown3 hgrow3 hown hl
        go_wp2_with fail
        go_roundg (l.length - (j + 1))
        case measure => have := HK.out; omega
        case rel => exact ⟨⟨j + 1, true, by omega, rfl, by go_num, rfl, ⟨fun _ => by omega, fun _ => rfl⟩, HO3.out⟩, HB3.out⟩
    · obtain rfl : j = l.length := by omega
      have HE := Lib.hid (partOf_end l x)
      have HNE : Hid (insS l x ≠ []) := Lib.hid (fun h => by have := insS_length l x; rw [h] at this; simp at this)
      by_cases hend : posOf l x < l.length
      · obtain rfl : dv = true := HDV.out.2 hend
        have HO := Lib.hid hown
        clear hown
        go_wp2_with fail
        go_ret2
        rw [if_pos hend] at HE
        exact ⟨_, rfl, by rw [← HE.out]; exact row_of_own HO.out (fun h => absurd (by rw [← HE.out]; exact h) HNE.out), hbel⟩
      · obtain rfl : dv = false := by
          rw [Bool.eq_false_iff]; intro h; have := HDV.out.1 h; omega
        rw [if_neg hend] at HE
        have hl := HLEN.out l.length (Nat.le_refl _)
        have hsheg := HSZwr.out
        have hpheg : ∀ j u, [Value.string x][j]? = some u → (wr.alloc (.cells #[.string x] 9)).cell? (Addr.add ⟨wr.heap.size, 0, none⟩ j) = some u := by
          intro j u hj
          match j, hj with
          | 0, hj => simp at hj; subst hj; simp [Addr.add]
        have hqheg : ∀ u ∈ [Value.string x], u.oneCell' = true := by simp [Value.oneCell']
        have hrheg := Lib.hid hpheg
        have htheg := Lib.hid hqheg
        clear hpheg hqheg
        go_wp2_with (at_builtin; refine wpList_append_own _ rfl _ _ 56 rfl w.heap.size 9 i0 (.string ByteArray.empty) 1 16 Tryd.underlying56 hi hz0 hz1 hz2 rfl (by decide) _ _ _ rfl (hown.alloc _) ⟨wr.heap.size, 0, none⟩ 1 1 [.string x] rfl rfl hrheg.out htheg.out (by have := hl; unfold maxLen; omega) (by have := hl; omega) (by simp; omega) ?_)
        intro o3 w3 hown3 hgrow3 _
        have HB3 := Lib.hid ((hbel.alloc HSZwr.out (.cells #[.string x] 9)).grown hgrow3 (by have := HSZwr.out; simp; omega) (fun k e => (hown.lt k e).1))
        have HO3 : Hid (w3.ownsRow w.heap.size 9 1 o3 (insS l x).length (WordsOf (insS l x))) := by
          refine Lib.hid ?_
          rw [← HE.out, wordsOf_snoc, List.length_append]
          exact hown3
        clear hown3 hgrow3 hown hl
        go_wp2_with fail
        go_ret2
        exact ⟨_, rfl, row_of_own HO3.out (fun h => absurd h HNE.out), HB3.out⟩

set_option maxRecDepth 100000 in
set_option maxHeartbeats 1000000 in
theorem rwith_form (l : List ByteArray) (v : Value) (x : ByteArray) (w : World) (hv : RowAt w v l) (hr : Rises l) (hlen : l.length ≤ 1000) (hx : x.size ≤ 60000) (hn : isNameB x = false) :
    Calls Tryd.prog 31 #[v, .string x] w fun e w' => e = .returned (.tuple #[.slice none 0 0, .int .i64 4]) ∧ Below w.heap.size w w' := by
  have HI := Lib.hid (fun w => risName_any x (by omega) w)
  rw [← isNameB_eq (by omega), hn] at HI
  have HF := Lib.hid (fun w' h => rfind_any l v x w' h hr hlen)
  have HV := Lib.hid hv
  obtain ⟨A, c, rfl, -, -⟩ := hv
  clear hn
  go_enter Tryd.func31, Tryd.ntmps31
  go_wp2_with fail
  refine (HI.out _).mono ?_
  rintro e w1 ⟨rfl, b1⟩
  go_wp2_with fail
  go_ret2
  exact ⟨rfl, b1⟩

set_option maxRecDepth 100000 in
set_option maxHeartbeats 1000000 in
theorem rwith_twice (l : List ByteArray) (v : Value) (x : ByteArray) (w : World) (hv : RowAt w v l) (hr : Rises l) (hlen : l.length ≤ 1000) (hx : x.size ≤ 60000) (hn : isNameB x = true) (hf : foundB l x = true) :
    Calls Tryd.prog 31 #[v, .string x] w fun e w' => e = .returned (.tuple #[.slice none 0 0, .int .i64 10]) ∧ Below w.heap.size w w' := by
  have HI := Lib.hid (fun w => risName_any x (by omega) w)
  rw [← isNameB_eq (by omega), hn] at HI
  have HF := Lib.hid (fun w' h => rfind_any l v x w' h hr hlen)
  have HV := Lib.hid hv
  rw [show findI l x = posOf l x by unfold findI; rw [if_pos hf]] at HF
  have hp0 : (0 : Int) ≤ posOf l x := by omega
  clear hf
  obtain ⟨A, c, rfl, -, -⟩ := hv
  clear hn
  go_enter Tryd.func31, Tryd.ntmps31
  go_wp2_with fail
  refine (HI.out _).mono ?_
  rintro e w1 ⟨rfl, b1⟩
  go_wp2_with fail
  refine (HF.out _ (HV.out.keep b1)).mono ?_
  rintro e w' ⟨rfl, rfl⟩
  go_wp2_with fail
  go_ret2
  exact ⟨rfl, b1⟩

set_option maxRecDepth 100000 in
set_option maxHeartbeats 1000000 in
theorem rwith_many (l : List ByteArray) (v : Value) (x : ByteArray) (w : World) (hv : RowAt w v l) (hr : Rises l) (hlen : l.length ≤ 1000) (hx : x.size ≤ 60000) (hn : isNameB x = true) (hf : foundB l x = false) (h64 : 64 ≤ l.length) :
    Calls Tryd.prog 31 #[v, .string x] w fun e w' => e = .returned (.tuple #[.slice none 0 0, .int .i64 6]) ∧ Below w.heap.size w w' := by
  have HI := Lib.hid (fun w => risName_any x (by omega) w)
  rw [← isNameB_eq (by omega), hn] at HI
  have HF := Lib.hid (fun w' h => rfind_any l v x w' h hr hlen)
  have HV := Lib.hid hv
  rw [show findI l x = -1 by unfold findI; rw [hf]; rfl] at HF
  have hm : (64 : Int) ≤ l.length := by omega
  clear hf
  obtain ⟨A, c, rfl, -, -⟩ := hv
  clear hn
  go_enter Tryd.func31, Tryd.ntmps31
  go_wp2_with fail
  refine (HI.out _).mono ?_
  rintro e w1 ⟨rfl, b1⟩
  go_wp2_with fail
  refine (HF.out _ (HV.out.keep b1)).mono ?_
  rintro e w' ⟨rfl, rfl⟩
  go_wp2_with fail
  go_ret2
  exact ⟨rfl, b1⟩

/-- What the reference's With answers. -/
def RWithOut (w : World) (l : List ByteArray) (c : Int) (e : Ending) (w' : World) : Prop :=
  ∃ v, e = .returned (.tuple #[v, .int .i64 c]) ∧ RowAt w' v l ∧ Below w.heap.size w w'
theorem rwith_any (l : List ByteArray) (v : Value) (x : ByteArray) (w : World) (hv : RowAt w v l) (hr : Rises l) (hlen : l.length ≤ 1000) (hx : x.size ≤ 60000) :
    Calls Tryd.prog 31 #[v, .string x] w (RWithOut w (withL l x) (withC l x)) := by
  unfold withL withC
  by_cases hn : isNameB x = true
  · by_cases hf : foundB l x = true
    · rw [if_pos hn, if_pos hf, if_neg (by decide)]
      exact (rwith_twice l v x w hv hr hlen hx hn hf).mono (fun e w' ⟨h1, h2⟩ => ⟨_, h1, RowAt.nil _, h2⟩)
    · by_cases h64 : 64 ≤ l.length
      · rw [if_pos hn, if_neg hf, if_pos h64, if_neg (by decide)]
        exact (rwith_many l v x w hv hr hlen hx hn (by simpa using hf) h64).mono (fun e w' ⟨h1, h2⟩ => ⟨_, h1, RowAt.nil _, h2⟩)
      · rw [if_pos hn, if_neg hf, if_neg h64, if_pos rfl]
        exact (rwith_yes l v x w hv hr hx hn (by simpa using hf) (by omega)).mono (fun e w' ⟨v', h1, h2, h3⟩ => ⟨v', h1, h2, h3⟩)
  · rw [if_neg hn, if_neg (by decide)]
    exact (rwith_form l v x w hv hr hlen hx (by simpa using hn)).mono (fun e w' ⟨h1, h2⟩ => ⟨_, h1, RowAt.nil _, h2⟩)

theorem withL_rises {l : List ByteArray} (hr : Rises l) (x : ByteArray) : Rises (withL l x) := by
  unfold withL
  by_cases h : withC l x = 0
  · rw [if_pos h]
    refine insS_rises hr (fun hx => ?_)
    have hf := (found_iff hr x).2 hx
    unfold withC at h
    rw [if_pos hf] at h
    split at h <;> cases h
  · rw [if_neg h]; exact List.Pairwise.nil
theorem withL_length (l : List ByteArray) (x : ByteArray) : (withL l x).length ≤ l.length + 1 := by
  unfold withL; split
  · rw [insS_length]; exact Nat.le_refl _
  · simp
theorem posOf_get {l : List ByteArray} (hr : Rises l) (i : Nat) (hi : i < l.length) : posOf l (l.getD i ⟨#[]⟩) = i ∧ foundB l (l.getD i ⟨#[]⟩) = true := by
  have hg : l.getD i ⟨#[]⟩ = l[i] := by rw [List.getD_eq_getElem?_getD, List.getElem?_eq_getElem hi]; rfl
  rw [hg]
  have hf : foundB l l[i] = true := (found_iff hr _).2 (List.getElem_mem hi)
  refine ⟨?_, hf⟩
  have h1 : ¬ i < posOf l l[i] := fun h => by have := posOf_lt h hi; rw [ltB_irrefl] at this; cases this
  have h2 : ¬ posOf l l[i] < i := fun h => by
    have h3 := List.pairwise_iff_getElem.1 hr (posOf l l[i]) i (by omega) hi h
    rw [posOf_stop (by omega)] at h3
    cases h3
  omega
end Go.Proofs.YtcnaffhdiodkhaaDoor
