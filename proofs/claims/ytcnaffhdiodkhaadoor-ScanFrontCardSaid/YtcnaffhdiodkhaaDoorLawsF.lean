/-
  The statement ScanFront as a walk: whatever the blanks, the name and the rest, the law answers true, and all of old memory stays as it was.
-/
import Derived.Test.YtcnaffhdiodkhaaDoorLawsR
namespace Go.Proofs.YtcnaffhdiodkhaaDoor
open Go.RowKit Go.Extern.Stop Go.Stop Go.Extern

/-! ### Plain -/
theorem runTo_mid {p : Int → Bool} {s : ByteArray} : ∀ (n k : Nat), s.size - k = n → k ≤ s.size → ∀ j (hj : j < s.size), k ≤ j → j < runTo p s k → p (s[j].toNat : Int) = true := by
  intro n
  induction n with
  | zero => intro k hn hk j hj hkj hjr; rw [runTo_end (by omega)] at hjr; omega
  | succ n ih =>
    intro k hn hk j hj hkj hjr
    by_cases hp : p (s[k]'(by omega)).toNat = true
    · by_cases e : j = k
      · subst e; exact hp
      · rw [runTo_go (by omega) hp] at hjr
        exact ih (k + 1) (by omega) (by omega) j hj (by omega) hjr
    · rw [runTo_stop (by omega) (by simpa using hp)] at hjr; omega
theorem runTo_last {p : Int → Bool} {s : ByteArray} : ∀ (n k : Nat), s.size - k = n → k ≤ s.size → ∀ (h : runTo p s k < s.size), p (s[runTo p s k].toNat : Int) = false := by
  intro n
  induction n with
  | zero => intro k hn hk h; rw [runTo_end (by omega)] at h; omega
  | succ n ih =>
    intro k hn hk h
    by_cases hp : p (s[k]'(by omega)).toNat = true
    · have e := runTo_go (p := p) (by omega) hp
      have := ih (k + 1) (by omega) (by omega) (by rw [← e]; exact h)
      simpa [e] using this
    · have e := runTo_stop (p := p) (s := s) (k := k) (by omega) (by simpa using hp)
      have : p (s[k]'(by omega)).toNat = false := by simpa using hp
      simpa [e] using this

theorem isIn_of_isLet {n : Int} (h : isLet n = true) : isIn n = true := (isIn_iff n).2 (.inl h)

/-- The text of a name that stands there is a name. -/
theorem nameT_isName {s : ByteArray} {k : Nat} (hs : s.size ≤ 65536) (hk : k ≤ s.size) (hl : isLet (byteI s k) = true) (h32 : runTo isIn s k - k ≤ 32) : isNameB (s.extract k (runTo isIn s k)) = true := by
  have hj := runTo_le isIn s k hk
  have hkj := le_runTo isIn s k hk
  have hlt : k < s.size := by
    rcases Nat.lt_or_ge k s.size with h | h
    · exact h
    · rw [byteI_ge (by omega)] at hl; exact absurd hl (by decide)
  have hk1 : k < runTo isIn s k := by
    have e := runTo_go (p := isIn) hlt (isIn_of_isLet (by rw [← byteI_lt hlt]; exact hl))
    have := le_runTo isIn s (k + 1) (by omega)
    omega
  have hsz : (s.extract k (runTo isIn s k)).size = runTo isIn s k - k := by rw [ByteArray.size_extract]; omega
  have hall : ∀ i (hi : i < (s.extract k (runTo isIn s k)).size), isIn ((s.extract k (runTo isIn s k))[i].toNat : Int) = true := by
    intro i hi
    rw [ByteArray.getElem_extract]
    exact runTo_mid _ k rfl hk (k + i) (by omega) (by omega) (by omega)
  have hrun : runTo isIn (s.extract k (runTo isIn s k)) 0 = (s.extract k (runTo isIn s k)).size := runTo_all hall _ 0 rfl (Nat.zero_le _)
  have hlet : isLet (byteI (s.extract k (runTo isIn s k)) 0) = true := by
    rw [byteI_lt (by omega), ByteArray.getElem_extract]
    simp only [Nat.add_zero]
    rw [← byteI_lt hlt]
    exact hl
  rw [isNameB_eq (by omega)]
  unfold isNameR nameC nameK
  rw [if_pos hlet, if_pos (by omega), if_pos ⟨hlet, by omega⟩, hrun]
  simp

/-- Behind the letter a byte that goes on no name: no name. -/
theorem notName {b : UInt8} (h : isIn (b.toNat : Int) = false) : isNameB ⟨#[97, b]⟩ = false := by
  have hrun : runTo isIn ⟨#[97, b]⟩ 0 = 1 := by
    rw [runTo_go (by show 0 < 2; decide) (by show isIn 97 = true; decide), runTo_stop (by show 1 < 2; decide) h]
  rw [isNameB_eq (by show 2 ≤ 65536; decide)]
  unfold isNameR nameC nameK
  have hlet : isLet (byteI ⟨#[97, b]⟩ 0) = true := by show isLet 97 = true; decide
  rw [if_pos hlet, hrun, if_pos (by omega), if_pos ⟨hlet, by omega⟩]
  rfl

theorem extract_one (s : ByteArray) (e : Nat) (h : e < s.size) : (restOf s e).extract 0 1 = ⟨#[s[e]]⟩ := by
  unfold restOf
  refine ByteArray.ext_getElem (by simp; show _ = 1; omega) (fun i hi hi' => ?_)
  have : i = 0 := by have : i < 1 := hi'; omega
  subst this
  simp [ByteArray.getElem_extract]
  rfl

theorem front_back (s : ByteArray) (k : Nat) (hk : k ≤ s.size) : s.extract 0 k ++ restOf s k = s := by
  unfold restOf
  rw [ByteArray.extract_append_extract, Nat.min_eq_left (Nat.zero_le _), Nat.max_eq_right hk, ByteArray.extract_zero_size]
theorem rest_split (s : ByteArray) (k e : Nat) (hke : k ≤ e) (he : e ≤ s.size) : s.extract k e ++ restOf s e = restOf s k := by
  unfold restOf
  rw [ByteArray.extract_append_extract, Nat.min_eq_left hke, Nat.max_eq_right he]

/-- Behind the blanks no blank stands. -/
theorem no_blank (s : ByteArray) (hs : s.size ≤ 100000) : hasPre (restOf s (runTo isBl s 0)) ⟨#[32]⟩ = false := by
  have hk := runTo_le isBl s 0 (Nat.zero_le _)
  rw [Bool.eq_false_iff]
  intro h
  have h1 := hasPre_size h
  rw [restOf_size _ _ hk] at h1
  have hlt : runTo isBl s 0 < s.size := by have : 1 ≤ s.size - runTo isBl s 0 := h1; omega
  have hb := runTo_last (p := isBl) _ 0 rfl (Nat.zero_le _) hlt
  unfold hasPre at h
  simp only [Bool.and_eq_true, beq_iff_eq] at h
  have h2 := h.2
  rw [show (ByteArray.mk #[32]).size = 1 from rfl, extract_one s _ hlt] at h2
  rw [Go.ByteArray.toList_eq, Go.ByteArray.toList_eq] at h2
  have h3 : s[runTo isBl s 0] = 32 := by simpa using h2
  rw [h3] at hb
  exact absurd hb (by decide)

set_option maxRecDepth 100000 in
set_option maxHeartbeats 1600000 in
theorem scanFront_far (c : Nat) (a r : ByteArray) (h : 200 < a.size ∨ 200 < r.size) (ha : a.size ≤ maxLen) (hr : r.size ≤ maxLen) (w : World) (hg : Handle w) :
    Calls Tryd.prog 6 #[.int .u8 c, .string a, .string r] w fun e w' => e = .returned (.bool true) ∧ Below w.heap.size w w' := by
  unfold maxLen at ha hr
  have hm : (200 : Int) < max (a.size : Int) (r.size : Int) := by omega
  go_enter Tryd.func6, Tryd.ntmps6
  go_wp2_with fail
  refine (awake3_any _ hg).mono ?_
  rintro e w1 ⟨rfl, b1⟩
  go_wp2_with fail
  go_ret
  exact ⟨rfl, b1⟩

set_option maxRecDepth 100000 in
set_option maxHeartbeats 1600000 in
theorem scanFront_near (c : Nat) (a r : ByteArray) (hc : c ≤ 255) (ha : a.size ≤ 200) (hr : r.size ≤ 200) (w : World) (hg : Handle w) :
    Calls Tryd.prog 6 #[.int .u8 c, .string a, .string r] w fun e w' => e = .returned (.bool true) ∧ Below w.heap.size w w' := by
  have hm : ¬ (200 : Int) < max (a.size : Int) (r.size : Int) := by omega
  have hz1 : ¬ 9223372036854775807 < (blanks c).size + a.size := by rw [blanks_size]; omega
  have hz2 : ¬ 9223372036854775807 < (blanks c).size + a.size + r.size := by rw [blanks_size]; omega
  have HRP := Lib.hid (fun w => repeat_blanks c w (by omega))
  have hs : (blanks c ++ a ++ r).size ≤ 700 := by rw [ByteArray.size_append, ByteArray.size_append, blanks_size]; omega
  obtain ⟨s, hse⟩ : ∃ s, s = blanks c ++ a ++ r := ⟨_, rfl⟩
  rw [← hse] at hs
  have HSE := Lib.hid hse
  clear hse
  have HN := Lib.hid (fun w => scanNew_any s (by omega) w)
  have HS := Lib.hid (fun w => skip_any s 0 (by omega) (Nat.zero_le _) w)
  have HNB := Lib.hid (no_blank s (by omega))
  have hk := runTo_le isBl s 0 (Nat.zero_le _)
  generalize runTo isBl s 0 = k at *
  go_enter Tryd.func6, Tryd.ntmps6
  go_wp2_with fail
  refine (awake3_any _ hg).mono ?_
  rintro e w1 ⟨rfl, b1⟩
  go_wp2_with fail
  refine (HRP.out _).mono ?_
  rintro e w2 ⟨rfl, b2⟩
  have B2 := Lib.hid (b1.trans (b2.mono b1.size))
  go_wp2_with fail
  rw [← HSE.out]
  refine (HN.out _).mono ?_
  rintro e w3 ⟨rfl, b3⟩
  have B3 := Lib.hid (B2.out.trans (b3.mono B2.out.size))
  have hs4 := ScanAt.new w3 s 0 25
  have B4 := Lib.hid (B3.out.trans ((below_new w3 (.cells #[.string s, .int .i64 0] 25)).mono B3.out.size))
  have HL := Lib.hid B3.out.size
  go_wp2_with fail
  generalize w3.alloc (.cells #[.string s, .int .i64 0] 25) = w4 at *
  generalize w3.heap.size = q at *
  refine (HS.out _).mono ?_
  rintro e w5 ⟨rfl, b5⟩
  have hs5 := hs4.step b5
  have B5 := Lib.hid (B4.out.trans (b5.mono B4.out.size))
  have hs6 := hs5.set s k
  have B6 := Lib.hid ((B5.out.setCell (p := ⟨q, 0, none⟩) HL.out (.string s)).setCell (p := ⟨q, 1, none⟩) HL.out (.int .i64 k))
  obtain ⟨l5, c0, c1, cf⟩ := hs5
  have HS6 := Lib.hid hs6
  clear hs4 hs6
  go_wp2_with fail
  generalize (w5.setCell ⟨q, 0, none⟩ (.string s)).setCell ⟨q, 1, none⟩ (.int .i64 k) = w6 at *
  clear c0 c1 cf l5
  -- region 8
  have hFB := front_back s k hk
  have hz3 : ¬ 9223372036854775807 < (s.extract 0 k).size + (restOf s k).size := by rw [restOf_size s k hk, ByteArray.size_extract]; omega
  have HR := Lib.hid (fun w => rest_any s k hk w)
  have HP := Lib.hid (fun w => hasPrefix_any (restOf s k) ⟨#[32]⟩ (by rw [restOf_size s k hk]; unfold maxLen; omega) (by decide) w)
  rw [HNB.out] at HP
  obtain ⟨f, hf⟩ : ∃ f, s.extract 0 k = f := ⟨_, rfl⟩
  rw [hf] at hFB hz3
  have hi0 : (0 : Int) ≤ k := by omega
  have hi1 : (k : Int) ≤ s.size := by omega
  have hI : ScanAt w6.drew q s k := HS6.out
  have hB : Below w.heap.size w w6.drew := B6.out.drew
  have k0 := hI.2.1
  have k1 := hI.2.2.1
  go_region_held3 (fun w' => w'.cell? ⟨q, 0, none⟩ = some (.string s) ∧ w'.cell? ⟨q, 1, none⟩ = some (.int .i64 k))
    (first | go_keep | exact ⟨hI.2.1, hI.2.2.1⟩)
    (first
    | (go_at_call 22; refine (at_any s k _).mono ?_; rintro e w' ⟨rfl, hb⟩; replace hI := hI.step hb; replace hB := hB.trans (hb.mono hB.size))
    | (go_at_call 23; refine (HR.out _).mono ?_; rintro e w' ⟨rfl, hb⟩; replace hI := hI.step hb; replace hB := hB.trans (hb.mono hB.size))
    | (go_at_call 16; refine (HP.out _).mono ?_; rintro e w' ⟨rfl, rfl⟩))
  go_wp2_with fail
  have HSS := Lib.hid hI
  have HBB := Lib.hid hB
  clear hI hB k0 k1 hFB hf hz3 hz1 hz2 HN HS HRP HSE HR HP
  by_cases hl : isLet (byteI s k) = true ∧ runTo isIn s k - k ≤ 32
  · have HA := Lib.hid (fun w => name_yes s k (by omega) hk hl.1 hl.2 w)
    have hN := nameT_isName (by omega) hk hl.1 hl.2
    have hj := runTo_le isIn s k hk
    have hkj := le_runTo isIn s k hk
    have HLAST := Lib.hid (runTo_last (p := isIn) _ k rfl hk)
    have hsp := rest_split s k (runTo isIn s k) hkj hj
    clear hl
    generalize runTo isIn s k = j at *
    have htz : (s.extract k j).size ≤ 700 := by rw [ByteArray.size_extract]; omega
    generalize s.extract k j = t at *
    have hz4 : ¬ 9223372036854775807 < t.size + (restOf s j).size := by rw [restOf_size s j hj]; omega
    have HIN := Lib.hid (fun w => isName_any t (by unfold maxLen; omega) w)
    rw [hN] at HIN
    have HRk := Lib.hid (fun w => rest_any s k hk w)
    have HRj := Lib.hid (fun w => rest_any s j hj w)
    have HSP := Lib.hid hsp
    have HZ4 := Lib.hid hz4
    clear hsp hz4 hN htz
    refine (HA.out _).mono ?_
    rintro e w8 ⟨rfl, b8⟩
    have h8 := HSS.out.step b8
    have B8 := HBB.out.trans (b8.mono HBB.out.size)
    have HS9 := Lib.hid (h8.step (below_new w8 (.cells #[.string s, .int .i64 j] 25)))
    have HD9 := Lib.hid (ScanAt.new w8 s j 25)
    have HB9 := Lib.hid (B8.trans ((below_new w8 (.cells #[.string s, .int .i64 j] 25)).mono B8.size))
    clear h8 B8
    go_wp2_with fail
    generalize w8.alloc (.cells #[.string s, .int .i64 j] 25) = w9 at *
    generalize w8.heap.size = q9 at *
    have hI : ScanAt w9.drew q s k := HS9.out
    have hJ : ScanAt w9.drew q9 s j := HD9.out
    have hB : Below w.heap.size w w9.drew := HB9.out.drew
    have k0 := hI.2.1
    have k1 := hI.2.2.1
    have k2 := hJ.2.1
    have k3 := hJ.2.2.1
    have hsp := HSP.out
    have hz4 := HZ4.out
    go_region_held3 (fun w' => w'.cell? ⟨q, 0, none⟩ = some (.string s) ∧ w'.cell? ⟨q, 1, none⟩ = some (.int .i64 k) ∧ w'.cell? ⟨q9, 0, none⟩ = some (.string s) ∧ w'.cell? ⟨q9, 1, none⟩ = some (.int .i64 j))
      (first | go_keep | exact ⟨hI.2.1, hI.2.2.1, hJ.2.1, hJ.2.2.1⟩)
      (first
      | (go_at_call 26; refine (HIN.out _).mono ?_; rintro e w' ⟨rfl, hb⟩; replace hI := hI.step hb; replace hJ := hJ.step hb; replace hB := hB.trans (hb.mono hB.size))
      | (go_at_call_of 23 (Value.agg #[.string s, .int .i64 k]); refine (HRk.out _).mono ?_; rintro e w' ⟨rfl, hb⟩; replace hI := hI.step hb; replace hJ := hJ.step hb; replace hB := hB.trans (hb.mono hB.size))
      | (go_at_call_of 23 (Value.agg #[.string s, .int .i64 j]); refine (HRj.out _).mono ?_; rintro e w' ⟨rfl, hb⟩; replace hI := hI.step hb; replace hJ := hJ.step hb; replace hB := hB.trans (hb.mono hB.size)))
    clear hsp hz4
    have HB10 := Lib.hid hB
    have HJ10 := Lib.hid hJ
    clear hI hB k0 k1 k2 k3
    obtain ⟨l10, d0, d1, -⟩ := hJ
    by_cases hend : j = s.size
    · have HE := Lib.hid (fun w => end_any s j w)
      rw [decide_eq_true hend] at HE
      clear hend
      go_wp2_with fail
      refine (HE.out _).mono ?_
      rintro e w11 ⟨rfl, b11⟩
      go_wp2_with fail
      go_ret
      exact ⟨rfl, HB10.out.trans (b11.mono HB10.out.size)⟩
    · have hjlt : j < s.size := by omega
      have HE := Lib.hid (fun w => end_any s j w)
      rw [decide_eq_false hend] at HE
      have hx : (ByteArray.mk #[97]) ++ (restOf s j).extract 0 1 = ⟨#[97, s[j]]⟩ := by rw [extract_one s j hjlt]; rfl
      have hzx : ¬ 9223372036854775807 < (ByteArray.mk #[97]).size + ((restOf s j).extract 0 1).size := by rw [extract_one s j hjlt]; show ¬ 9223372036854775807 < 1 + 1; omega
      have h1 : (1 : Int) ≤ (restOf s j).size := by rw [restOf_size s j hj]; omega
      have HIX := Lib.hid (fun w => isName_any ⟨#[97, s[j]]⟩ (by show 2 ≤ maxLen; decide) w)
      rw [notName (HLAST.out hjlt)] at HIX
      obtain ⟨y, hy⟩ : ∃ y, (restOf s j).extract 0 1 = y := ⟨_, rfl⟩
      rw [hy] at hx hzx
      have HX := Lib.hid hx
      have HZX := Lib.hid hzx
      have HY := Lib.hid hy
      clear hend hx hzx hy
      go_wp2_with fail
      refine (HE.out _).mono ?_
      rintro e w11 ⟨rfl, b11⟩
      have B11 := Lib.hid (HB10.out.trans (b11.mono HB10.out.size))
      obtain ⟨l11, f0, f1, -⟩ := HJ10.out.step b11
      go_wp2_with fail
      refine (HRj.out _).mono ?_
      rintro e w12 ⟨rfl, b12⟩
      have B12 := Lib.hid (B11.out.trans (b12.mono B11.out.size))
      have hx := HX.out
      have hzx := HZX.out
      have hy := HY.out
      go_wp2_with fail
      clear hx hzx hy
      refine (HIX.out _).mono ?_
      rintro e w13 ⟨rfl, b13⟩
      go_wp2_with fail
      go_ret
      exact ⟨rfl, B12.out.trans (b13.mono B12.out.size)⟩
  · have HA : Hid (∀ w, ∃ c, c ≠ 0 ∧ Calls Tryd.prog 17 #[.agg #[.string s, .int .i64 k]] w (NameOut w s k ⟨#[]⟩ c k)) := by
      refine Lib.hid (fun w => ?_)
      by_cases h1 : isLet (byteI s k) = true
      · exact ⟨5, by decide, name_long s k (by omega) hk h1 (Nat.lt_of_not_le (fun h => hl ⟨h1, h⟩)) w⟩
      · exact ⟨missC s k, missC_ne s k, name_none s k (by omega) hk h1 w⟩
    obtain ⟨cc, hcc, HC⟩ := HA.out w'
    clear HA hl
    refine HC.mono ?_
    clear HC
    rintro e w8 ⟨v, rfl, hv, b8⟩
    obtain ⟨fb, rfl⟩ := hv.ptr hcc
    clear hv hcc
    have h8 := HSS.out.step b8
    have B8 := HBB.out.trans (b8.mono HBB.out.size)
    have HS9 := Lib.hid (h8.step (below_new w8 (.cells #[.string s, .int .i64 k] 25)))
    have HD9 := Lib.hid (ScanAt.new w8 s k 25)
    have HB9 := Lib.hid (B8.trans ((below_new w8 (.cells #[.string s, .int .i64 k] 25)).mono B8.size))
    clear h8 B8
    go_wp2_with fail
    generalize w8.alloc (.cells #[.string s, .int .i64 k] 25) = w9 at *
    generalize w8.heap.size = q9 at *
    have hI : ScanAt w9.drew q s k := HS9.out
    have hJ : ScanAt w9.drew q9 s k := HD9.out
    have hB : Below w.heap.size w w9.drew := HB9.out.drew
    have k0 := hI.2.1
    have k1 := hI.2.2.1
    have k2 := hJ.2.1
    have k3 := hJ.2.2.1
    go_region_held3 (fun w' => w'.cell? ⟨q, 0, none⟩ = some (.string s) ∧ w'.cell? ⟨q, 1, none⟩ = some (.int .i64 k) ∧ w'.cell? ⟨q9, 0, none⟩ = some (.string s) ∧ w'.cell? ⟨q9, 1, none⟩ = some (.int .i64 k))
      (first | go_keep | exact ⟨hI.2.1, hI.2.2.1, hJ.2.1, hJ.2.2.1⟩)
      (first
      | (go_at_call 22; refine (at_any s k _).mono ?_; rintro e w' ⟨rfl, hb⟩; replace hI := hI.step hb; replace hJ := hJ.step hb; replace hB := hB.trans (hb.mono hB.size)))
    go_wp2_with fail
    go_ret
    exact ⟨rfl, hB⟩

theorem scanFront_any (c : Nat) (a r : ByteArray) (hc : c ≤ 255) (ha : a.size ≤ maxLen) (hr : r.size ≤ maxLen) (w : World) (hg : Handle w) :
    Calls Tryd.prog 6 #[.int .u8 c, .string a, .string r] w fun e w' => e = .returned (.bool true) ∧ Below w.heap.size w w' := by
  by_cases h : 200 < a.size ∨ 200 < r.size
  · exact scanFront_far c a r h ha hr w hg
  · exact scanFront_near c a r hc (by omega) (by omega) w hg
end Go.Proofs.YtcnaffhdiodkhaaDoor
