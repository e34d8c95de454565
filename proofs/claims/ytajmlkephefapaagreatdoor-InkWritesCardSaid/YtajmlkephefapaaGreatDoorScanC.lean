/-
  Package scan by contracts, third part: Name, Number, IsName.
-/
import Derived.Test.YtajmlkephefapaaGreatDoorScanB
namespace Go.Proofs.YtajmlkephefapaaGreatDoor
open Go.RowKit Go.Extern.Stop Go.Stop Go.Extern

theorem ScanAt.farPut {w : World} {b r : Nat} {s : ByteArray} {j : Int} (h : ScanAt w b s j) (hne : b ≠ r) (s' : ByteArray) (z : Int) : ScanAt ((w.setCell ⟨r, 0, none⟩ (.string s')).setCell ⟨r, 1, none⟩ (.int .i64 z)) b s j :=
  (h.far (q := ⟨r, 0, none⟩) hne _).far (q := ⟨r, 1, none⟩) hne _

/-- The document's answer on names: the place behind it, it, the error's number. -/
def nameK (s : ByteArray) (k : Nat) : Nat := if isLet (byteI s k) = true ∧ runTo isIn s k - k ≤ 32 then runTo isIn s k else k
def nameT (s : ByteArray) (k : Nat) : ByteArray := if isLet (byteI s k) = true ∧ runTo isIn s k - k ≤ 32 then s.extract k (runTo isIn s k) else ⟨#[]⟩
def nameC (s : ByteArray) (k : Nat) : Int := if isLet (byteI s k) = true then (if runTo isIn s k - k ≤ 32 then 0 else 5) else missC s k
theorem nameK_le (s : ByteArray) (k : Nat) (hk : k ≤ s.size) : nameK s k ≤ s.size := by
  unfold nameK; split
  · exact runTo_le _ _ _ hk
  · exact hk

/-- What Name answers. -/
def NameOut (w : World) (s : ByteArray) (k : Nat) (t : ByteArray) (c a : Int) (e : Ending) (w' : World) : Prop :=
  ∃ v, e = .returned (.tuple #[.agg #[.string s, .int .i64 k], .string t, v]) ∧ ErrIs w' v c a ∧ Below w.heap.size w w'

set_option maxRecDepth 100000 in
set_option maxHeartbeats 1000000 in
theorem name_none (s : ByteArray) (k : Nat) (_hs : s.size ≤ 100000) (hk : k ≤ s.size) (hl : ¬ isLet (byteI s k) = true) (w : World) :
    Calls Tryz.prog 81 #[.agg #[.string s, .int .i64 k]] w (NameOut w s k ⟨#[]⟩ (missC s k) k) := by
  obtain ⟨z, hz⟩ : ∃ z, sortI (byteI s k) = z := ⟨_, rfl⟩
  have hne : (z != 2) = true := by
    rw [← hz]
    unfold isLet at hl
    simpa [bne] using hl
  have hS := fun w => sortOf_any (byteI s k) w
  rw [hz] at hS
  have HS := Lib.hid hS
  have HP := Lib.hid (fun w => peek_any s k hk w)
  have HM := Lib.hid (fun w => missing_any s k hk w)
  generalize byteI s k = n at *
  generalize missC s k = m at *
  clear hl hz hS
  have H0 := Lib.hid (InScan.new w s k 58)
  go_enter Tryz.func81, Tryz.ntmps81
  go_wp2_with fail
  refine (HP.out _).mono ?_
  rintro e w1 ⟨rfl, b1⟩
  have H1 := Lib.hid (H0.out.step b1)
  obtain ⟨l1, c0, c1, -⟩ := H1.out.own
  go_wp2_with fail
  refine (HS.out _).mono ?_
  rintro e w' ⟨rfl, rfl⟩
  go_wp2_with fail
  have hI := H1.out.drew
  have k0 := hI.own.2.1
  have k1 := hI.own.2.2.1
  go_region_held3 (fun w' => w'.cell? ⟨w.heap.size, 0, none⟩ = some (.string s) ∧ w'.cell? ⟨w.heap.size, 1, none⟩ = some (.int .i64 k))
    (first | go_keep | exact ⟨hI.own.2.1, hI.own.2.2.1⟩)
    (first
    | (go_at_call 88; refine (HM.out _).mono ?_; rintro e w' ⟨v, rfl, hv, hb⟩; replace hI := hI.step hb; have x0 := hI.res.2.1; have x1 := hI.res.2.2.1; have xf := hI.res.2.2.2))
  go_wp2
  obtain ⟨⟨q0, q1⟩, hbl⟩ := hI.out k
  exact bodyPost_ret (v := .tuple #[.agg #[.string s, .int .i64 k], .string ⟨#[]⟩, v]) (by simp [results, Tryz.results81, go_sem, q0, q1]) rfl ⟨v, rfl, hv.set hI.res s k, hbl⟩

set_option maxRecDepth 100000 in
set_option maxHeartbeats 1000000 in
theorem name_long (s : ByteArray) (k : Nat) (hs : s.size ≤ 100000) (hk : k ≤ s.size) (hl : isLet (byteI s k) = true) (h32 : 32 < runTo isIn s k - k) (w : World) :
    Calls Tryz.prog 81 #[.agg #[.string s, .int .i64 k]] w (NameOut w s k ⟨#[]⟩ 5 k) := by
  have hS := fun w => sortOf_any (byteI s k) w
  rw [show sortI (byteI s k) = 2 by simpa [isLet] using hl] at hS
  have HS := Lib.hid hS
  have HP := Lib.hid (fun w => peek_any s k hk w)
  have HG := Lib.hid (fun w => goOn_Name1 s k hs hk w)
  have hj := runTo_le isIn s k hk
  have hj0 := le_runTo isIn s k hk
  generalize byteI s k = n at *
  generalize runTo isIn s k = j at *
  clear hl hS
  have hlong : (32 : Int) < (j : Int) - k := by omega
  have H0 := Lib.hid (InScan.new w s k 58)
  go_enter Tryz.func81, Tryz.ntmps81
  go_wp2_with fail
  refine (HP.out _).mono ?_
  rintro e w1 ⟨rfl, b1⟩
  have H1 := Lib.hid (H0.out.step b1)
  obtain ⟨l1, c0, c1, -⟩ := H1.out.own
  go_wp2_with fail
  refine (HS.out _).mono ?_
  rintro e w' ⟨rfl, rfl⟩
  go_wp2_with fail
  refine (HG.out _).mono ?_
  rintro e w2 ⟨rfl, b2⟩
  have H2 := Lib.hid (H1.out.step b2)
  have H3 := Lib.hid (H2.out.step (sbelow_new w2 (.cells #[.string s, .int .i64 j] 58)))
  obtain ⟨l2, d0, d1, -⟩ := H2.out.own
  go_wp2_with fail
  generalize w2.alloc (.cells #[.string s, .int .i64 j] 58) = w3 at *
  have hI := H3.out.drew
  have k0 := hI.own.2.1
  have k1 := hI.own.2.2.1
  go_region_held3 (fun w' => w'.cell? ⟨w.heap.size, 0, none⟩ = some (.string s) ∧ w'.cell? ⟨w.heap.size, 1, none⟩ = some (.int .i64 k))
    (first | go_keep | exact ⟨hI.own.2.1, hI.own.2.2.1⟩)
    (first
    | (go_at_call 30; refine (new_faults 5 k (by decide) _).mono ?_; rintro e w' ⟨v, rfl, hv, hb⟩; replace hI := hI.step hb; have x0 := hI.res.2.1; have x1 := hI.res.2.2.1; have xf := hI.res.2.2.2))
  go_wp2
  obtain ⟨⟨q0, q1⟩, hbl⟩ := hI.out k
  exact bodyPost_ret (v := .tuple #[.agg #[.string s, .int .i64 k], .string ⟨#[]⟩, v]) (by simp [results, Tryz.results81, go_sem, q0, q1]) rfl ⟨v, rfl, hv.set hI.res s k, hbl⟩

set_option maxRecDepth 100000 in
set_option maxHeartbeats 1000000 in
theorem name_yes (s : ByteArray) (k : Nat) (hs : s.size ≤ 100000) (hk : k ≤ s.size) (hl : isLet (byteI s k) = true) (h32 : runTo isIn s k - k ≤ 32) (w : World) :
    Calls Tryz.prog 81 #[.agg #[.string s, .int .i64 k]] w fun e w' => e = .returned (.tuple #[.agg #[.string s, .int .i64 (runTo isIn s k)], .string (s.extract k (runTo isIn s k)), .nilIface]) ∧ Below w.heap.size w w' := by
  have hS := fun w => sortOf_any (byteI s k) w
  rw [show sortI (byteI s k) = 2 by simpa [isLet] using hl] at hS
  have HS := Lib.hid hS
  have HP := Lib.hid (fun w => peek_any s k hk w)
  have HG := Lib.hid (fun w => goOn_Name1 s k hs hk w)
  have hj := runTo_le isIn s k hk
  have hj0 := le_runTo isIn s k hk
  generalize byteI s k = n at *
  generalize runTo isIn s k = j at *
  have HU := Lib.hid (fun w => upTo_any s k j hj0 hj w)
  generalize s.extract k j = t at *
  clear hl hS
  have hshort : ¬ (32 : Int) < (j : Int) - k := by omega
  have H0 := Lib.hid (InScan.new w s k 58)
  go_enter Tryz.func81, Tryz.ntmps81
  go_wp2_with fail
  refine (HP.out _).mono ?_
  rintro e w1 ⟨rfl, b1⟩
  have H1 := Lib.hid (H0.out.step b1)
  obtain ⟨l1, c0, c1, -⟩ := H1.out.own
  go_wp2_with fail
  refine (HS.out _).mono ?_
  rintro e w' ⟨rfl, rfl⟩
  go_wp2_with fail
  refine (HG.out _).mono ?_
  rintro e w2 ⟨rfl, b2⟩
  have H2 := Lib.hid (H1.out.step b2)
  have H3 := Lib.hid (H2.out.step (sbelow_new w2 (.cells #[.string s, .int .i64 j] 58)))
  have HN3 := Lib.hid (ScanAt.new w2 s j 58)
  have hne : w2.heap.size ≠ w.heap.size + 1 := by have := H2.out.res.1; omega
  obtain ⟨l2, d0, d1, -⟩ := H2.out.own
  go_wp2_with fail
  generalize w2.alloc (.cells #[.string s, .int .i64 j] 58) = w3 at *
  generalize w2.heap.size = q at *
  have hI := H3.out.drew
  have hN : ScanAt w3.drew q s j := HN3.out
  have k0 := hI.own.2.1
  have k1 := hI.own.2.2.1
  have n0 := hN.2.1
  have n1 := hN.2.2.1
  have hne' := hne.symm
  go_region_held3 (fun w' => w'.cell? ⟨w.heap.size, 0, none⟩ = some (.string s) ∧ w'.cell? ⟨w.heap.size, 1, none⟩ = some (.int .i64 k) ∧ w'.cell? ⟨q, 0, none⟩ = some (.string s) ∧ w'.cell? ⟨q, 1, none⟩ = some (.int .i64 j))
    (first | go_keep | exact ⟨hI.own.2.1, hI.own.2.2.1, hN.2.1, hN.2.2.1⟩)
    (first
    | (go_at_call 90; refine (HU.out _).mono ?_; rintro e w' ⟨rfl, hb⟩; replace hI := hI.step hb; replace hN := hN.step hb; have x0 := hI.res.2.1; have x1 := hI.res.2.2.1; have xf := hI.res.2.2.2))
  go_wp2
  obtain ⟨⟨q0, q1⟩, hbl⟩ := hI.out j
  exact bodyPost_ret (v := .tuple #[.agg #[.string s, .int .i64 j], .string t, .nilIface]) (by simp [results, Tryz.results81, go_sem, q0, q1]) rfl ⟨rfl, hbl⟩

theorem name_any (s : ByteArray) (k : Nat) (hs : s.size ≤ 100000) (hk : k ≤ s.size) (w : World) :
    Calls Tryz.prog 81 #[.agg #[.string s, .int .i64 k]] w (NameOut w s (nameK s k) (nameT s k) (nameC s k) (nameK s k)) := by
  by_cases hl : isLet (byteI s k) = true
  · by_cases h32 : runTo isIn s k - k ≤ 32
    · unfold nameK nameT nameC
      rw [if_pos ⟨hl, h32⟩, if_pos ⟨hl, h32⟩, if_pos hl, if_pos h32]
      refine (name_yes s k hs hk hl h32 w).mono ?_
      rintro e w' ⟨rfl, hb⟩
      exact ⟨_, rfl, .nilE _ _, hb⟩
    · unfold nameK nameT nameC
      rw [if_neg (fun h => h32 h.2), if_neg (fun h => h32 h.2), if_pos hl, if_neg h32]
      exact name_long s k hs hk hl (by omega) w
  · unfold nameK nameT nameC
    rw [if_neg (fun h => hl h.1), if_neg (fun h => hl h.1), if_neg hl]
    exact name_none s k hs hk hl w

/-! ### Number -/
/-- The document's answer on numbers. -/
def digsR (s : ByteArray) (k : Nat) : Int × Int × Int := parseR (s.extract k (runTo isDig s k)).data.toList
def numK (s : ByteArray) (k : Nat) : Nat := if runTo isDig s k = k then k else if (digsR s k).2.1 = 0 then runTo isDig s k else k
def numN (s : ByteArray) (k : Nat) : Int := if runTo isDig s k = k then 0 else if (digsR s k).2.1 = 0 then (digsR s k).1 else 0
def numC (s : ByteArray) (k : Nat) : Int := if runTo isDig s k = k then missC s k else (digsR s k).2.1
theorem numK_le (s : ByteArray) (k : Nat) (hk : k ≤ s.size) : numK s k ≤ s.size := by
  unfold numK; split
  · exact hk
  · split
    · exact runTo_le _ _ _ hk
    · exact hk

/-- What Number answers. -/
def NumOut (w : World) (s : ByteArray) (k : Nat) (n c a : Int) (e : Ending) (w' : World) : Prop :=
  ∃ v, e = .returned (.tuple #[.agg #[.string s, .int .i64 k], .int .u64 n, v]) ∧ ErrIs w' v c a ∧ Below w.heap.size w w'

set_option maxRecDepth 100000 in
set_option maxHeartbeats 1000000 in
theorem number_none (s : ByteArray) (k : Nat) (hs : s.size ≤ 100000) (hk : k ≤ s.size) (hj : runTo isDig s k = k) (w : World) :
    Calls Tryz.prog 57 #[.agg #[.string s, .int .i64 k]] w (NumOut w s k 0 (missC s k) k) := by
  have hG := fun w => goOn_Number1 s k hs hk w
  rw [hj] at hG
  have HG := Lib.hid hG
  have HM := Lib.hid (fun w => missing_any s k hk w)
  generalize missC s k = m at *
  clear hj hG
  have H0 := Lib.hid (InScan.new w s k 58)
  go_enter Tryz.func57, Tryz.ntmps57
  go_wp2_with fail
  refine (HG.out _).mono ?_
  rintro e w2 ⟨rfl, b2⟩
  have H2 := Lib.hid (H0.out.step b2)
  have H3 := Lib.hid (H2.out.step (sbelow_new w2 (.cells #[.string s, .int .i64 k] 58)))
  obtain ⟨l2, d0, d1, -⟩ := H2.out.own
  go_wp2_with fail
  generalize w2.alloc (.cells #[.string s, .int .i64 k] 58) = w3 at *
  have hI := H3.out.drew
  have k0 := hI.own.2.1
  have k1 := hI.own.2.2.1
  go_region_held3 (fun w' => w'.cell? ⟨w.heap.size, 0, none⟩ = some (.string s) ∧ w'.cell? ⟨w.heap.size, 1, none⟩ = some (.int .i64 k))
    (first | go_keep | exact ⟨hI.own.2.1, hI.own.2.2.1⟩)
    (first
    | (go_at_call 88; refine (HM.out _).mono ?_; rintro e w' ⟨v, rfl, hv, hb⟩; replace hI := hI.step hb; have x0 := hI.res.2.1; have x1 := hI.res.2.2.1; have xf := hI.res.2.2.2))
  go_wp2
  obtain ⟨⟨q0, q1⟩, hbl⟩ := hI.out k
  exact bodyPost_ret (v := .tuple #[.agg #[.string s, .int .i64 k], .int .u64 0, v]) (by simp [results, Tryz.results57, go_sem, q0, q1]) rfl ⟨v, rfl, hv.set hI.res s k, hbl⟩

set_option maxRecDepth 100000 in
set_option maxHeartbeats 1000000 in
theorem number_yes (s : ByteArray) (k : Nat) (hs : s.size ≤ 100000) (hk : k ≤ s.size) (hj : runTo isDig s k ≠ k) (hc : (digsR s k).2.1 = 0) (w : World) :
    Calls Tryz.prog 57 #[.agg #[.string s, .int .i64 k]] w fun e w' => e = .returned (.tuple #[.agg #[.string s, .int .i64 (runTo isDig s k)], .int .u64 (digsR s k).1, .nilIface]) ∧ Below w.heap.size w w' := by
  have hP : ∀ w, Calls Tryz.prog 89 #[.string (s.extract k (runTo isDig s k))] w fun e w' => e = .returned (.tuple #[.int .u64 (digsR s k).1, .nilIface]) ∧ w = w' := fun w =>
    (parse_any (s.extract k (runTo isDig s k)) w (by have := runTo_le isDig s k hk; unfold maxLen; simp; omega)).mono (by
      rintro e w' (⟨-, rfl, rfl⟩ | ⟨h, -⟩)
      · exact ⟨rfl, rfl⟩
      · exact absurd hc h)
  have HP := Lib.hid hP
  have HG := Lib.hid (fun w => goOn_Number1 s k hs hk w)
  have hj1 := runTo_le isDig s k hk
  have hj0 := le_runTo isDig s k hk
  generalize (digsR s k).1 = n at *
  generalize runTo isDig s k = j at *
  have HU := Lib.hid (fun w => upTo_any s k j hj0 hj1 w)
  generalize s.extract k j = t at *
  have hjb : ((j : Int) == (k : Int)) = false := by rw [beq_eq_false_iff_ne]; omega
  clear hP hc hj
  have H0 := Lib.hid (InScan.new w s k 58)
  go_enter Tryz.func57, Tryz.ntmps57
  go_wp2_with fail
  refine (HG.out _).mono ?_
  rintro e w2 ⟨rfl, b2⟩
  have H2 := Lib.hid (H0.out.step b2)
  have H3 := Lib.hid (H2.out.step (sbelow_new w2 (.cells #[.string s, .int .i64 j] 58)))
  have HN3 := Lib.hid (ScanAt.new w2 s j 58)
  obtain ⟨l2, d0, d1, -⟩ := H2.out.own
  go_wp2_with fail
  generalize w2.alloc (.cells #[.string s, .int .i64 j] 58) = w3 at *
  generalize w2.heap.size = q at *
  refine (HU.out _).mono ?_
  rintro e w4 ⟨rfl, b4⟩
  have H4 := Lib.hid (H3.out.step b4)
  have HN4 := Lib.hid (HN3.out.step b4)
  go_wp2_with fail
  refine (HP.out _).mono ?_
  rintro e w' ⟨rfl, rfl⟩
  obtain ⟨-, n0, n1, -⟩ := HN4.out
  obtain ⟨-, x0, x1, xf⟩ := H4.out.res
  go_wp2_with fail
  obtain ⟨⟨q0, q1⟩, hbl⟩ := H4.out.out j
  exact bodyPost_ret (v := .tuple #[.agg #[.string s, .int .i64 j], .int .u64 n, .nilIface]) (by simp [results, Tryz.results57, go_sem, q0, q1]) rfl ⟨rfl, hbl⟩

set_option maxRecDepth 100000 in
set_option maxHeartbeats 1000000 in
theorem number_bad (s : ByteArray) (k : Nat) (hs : s.size ≤ 100000) (hk : k ≤ s.size) (hj : runTo isDig s k ≠ k) (hc : (digsR s k).2.1 ≠ 0) (w : World) (hg : Handle w) :
    Calls Tryz.prog 57 #[.agg #[.string s, .int .i64 k]] w (NumOut w s k 0 (digsR s k).2.1 k) := by
  have hP : ∀ w, Calls Tryz.prog 89 #[.string (s.extract k (runTo isDig s k))] w fun e w' => e = .returned (.tuple #[.int .u64 (digsR s k).1, .iface 100 (.pointer (some ⟨w.heap.size, 0, none⟩))]) ∧
      ChainAt w' (.fault w.heap.size (digsR s k).2.1 (digsR s k).2.2) [] (.iface 100 (.pointer (some ⟨w.heap.size, 0, none⟩))) ∧ Below w.heap.size w w' := fun w =>
    (parse_any (s.extract k (runTo isDig s k)) w (by have := runTo_le isDig s k hk; unfold maxLen; simp; omega)).mono (by
      rintro e w' (⟨h, -⟩ | ⟨h, rfl, rfl⟩)
      · exact absurd h hc
      · exact ⟨rfl, new_chain _ _ w, below_alloc _ _⟩)
  have HP := Lib.hid hP
  have HG := Lib.hid (fun w => goOn_Number1 s k hs hk w)
  have HNW := Lib.hid (fun w => new_faults (digsR s k).2.1 k hc w)
  have hj1 := runTo_le isDig s k hk
  have hj0 := le_runTo isDig s k hk
  generalize (digsR s k).1 = n at *
  generalize (digsR s k).2.1 = c at *
  generalize (digsR s k).2.2 = a at *
  generalize runTo isDig s k = j at *
  have HU := Lib.hid (fun w => upTo_any s k j hj0 hj1 w)
  generalize s.extract k j = t at *
  have hjb : ((j : Int) == (k : Int)) = false := by rw [beq_eq_false_iff_ne]; omega
  clear hP hc hj
  have H0 := Lib.hid (InScan.new w s k 58)
  go_enter Tryz.func57, Tryz.ntmps57
  go_wp2_with fail
  refine (HG.out _).mono ?_
  rintro e w2 ⟨rfl, b2⟩
  have H2 := Lib.hid (H0.out.step b2)
  have H3 := Lib.hid (H2.out.step (sbelow_new w2 (.cells #[.string s, .int .i64 j] 58)))
  have HN3 := Lib.hid (ScanAt.new w2 s j 58)
  obtain ⟨l2, d0, d1, -⟩ := H2.out.own
  go_wp2_with fail
  generalize w2.alloc (.cells #[.string s, .int .i64 j] 58) = w3 at *
  generalize w2.heap.size = q at *
  refine (HU.out _).mono ?_
  rintro e w4 ⟨rfl, b4⟩
  have H4 := Lib.hid (H3.out.step b4)
  go_wp2_with fail
  refine (HP.out _).mono ?_
  rintro e w5 ⟨rfl, hch, b5⟩
  have H5 := Lib.hid (H4.out.step b5)
  have HC5 := Lib.hid hch
  have hg5' : Handle w5 := hg.below H5.out.below
  have hg5 : Handle w5.drew := hg5'
  clear hch
  generalize w4.heap.size = fb at *
  go_wp2_with fail
  have hI := H5.out.drew
  have hC : ChainAt w5.drew (.fault fb c a) [] (.iface 100 (.pointer (some ⟨fb, 0, none⟩))) := HC5.out
  have k0 := hI.own.2.1
  have k1 := hI.own.2.2.1
  go_region_held3 (fun w' => w'.cell? ⟨w.heap.size, 0, none⟩ = some (.string s) ∧ w'.cell? ⟨w.heap.size, 1, none⟩ = some (.int .i64 k))
    (first | go_keep | exact ⟨hI.own.2.1, hI.own.2.2.1⟩)
    (first
    | (go_at_call 35; refine (code_some _ c rfl _ _ _ hC hg5).mono ?_; rintro e w' ⟨rfl, hb⟩; replace hI := hI.step hb)
    | (go_at_call 30; refine (HNW.out _).mono ?_; rintro e w' ⟨v, rfl, hv, hb⟩; replace hI := hI.step hb; have x0 := hI.res.2.1; have x1 := hI.res.2.2.1; have xf := hI.res.2.2.2))
  go_wp2
  obtain ⟨⟨q0, q1⟩, hbl⟩ := hI.out k
  exact bodyPost_ret (v := .tuple #[.agg #[.string s, .int .i64 k], .int .u64 0, v]) (by simp [results, Tryz.results57, go_sem, q0, q1]) rfl ⟨v, rfl, hv.set hI.res s k, hbl⟩

theorem number_any (s : ByteArray) (k : Nat) (hs : s.size ≤ 100000) (hk : k ≤ s.size) (w : World) (hg : Handle w) :
    Calls Tryz.prog 57 #[.agg #[.string s, .int .i64 k]] w (NumOut w s (numK s k) (numN s k) (numC s k) (numK s k)) := by
  unfold numK numN numC
  by_cases hj : runTo isDig s k = k
  · rw [if_pos hj, if_pos hj, if_pos hj]
    exact number_none s k hs hk hj w
  · rw [if_neg hj, if_neg hj, if_neg hj]
    by_cases hc : (digsR s k).2.1 = 0
    · rw [if_pos hc, if_pos hc, hc]
      refine (number_yes s k hs hk hj hc w).mono ?_
      rintro e w' ⟨rfl, hb⟩
      exact ⟨_, rfl, .nilE _ _, hb⟩
    · rw [if_neg hc, if_neg hc]
      exact number_bad s k hs hk hj hc w hg
end Go.Proofs.YtajmlkephefapaaGreatDoor
