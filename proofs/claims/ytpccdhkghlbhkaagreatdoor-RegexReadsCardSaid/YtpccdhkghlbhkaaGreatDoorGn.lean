/-
  Package scan by contracts, third part: Name, Number, IsName.
  scan.IsName, and the reference of layer 3, by contracts.
  The reference's numbers and names, whole; and chapter 3's example.
-/
import Derived.Test.YtpccdhkghlbhkaaGreatDoorScanB
import Derived.Test.YtpccdhkghlbhkaaGreatDoorRPar
namespace Go.Proofs.YtpccdhkghlbhkaaGreatDoor
open Go.RowKit Go.Extern.Stop Go.Stop Go.Extern

theorem ScanAt.farPut {w : World} {b r : Nat} {s : ByteArray} {j : Int} (h : ScanAt w b s j) (hne : b ≠ r) (s' : ByteArray) (z : Int) : ScanAt ((w.setCell ⟨r, 0, none⟩ (.string s')).setCell ⟨r, 1, none⟩ (.int .i64 z)) b s j :=
  (h.far (q := ⟨r, 0, none⟩) hne _).far (q := ⟨r, 1, none⟩) hne _

/-- The document's answer on names: the place behind it, it, the error's number. -/
def nameK (s : ByteArray) (k : Nat) : Nat := if isLet (byteI s k) = true ∧ runTo isIn s k - k ≤ 32 then runTo isIn s k else k
def nameT (s : ByteArray) (k : Nat) : ByteArray := if isLet (byteI s k) = true ∧ runTo isIn s k - k ≤ 32 then s.extract k (runTo isIn s k) else ⟨#[]⟩
def nameC (s : ByteArray) (k : Nat) : Int := if isLet (byteI s k) = true then (if runTo isIn s k - k ≤ 32 then 0 else 5) else missC s k
theorem nameK_le (s : ByteArray) (k : Nat) (hk : k ≤ s.size) : nameK s k ≤ s.size := by
  unfold nameK; split
  · exact runTo_le _ _ _ hk
  · exact hk

/-- What Name answers. -/
def NameOut (w : World) (s : ByteArray) (k : Nat) (t : ByteArray) (c a : Int) (e : Ending) (w' : World) : Prop :=
  ∃ v, e = .returned (.tuple #[.agg #[.string s, .int .i64 k], .string t, v]) ∧ ErrIs w' v c a ∧ Below w.heap.size w w'

set_option maxRecDepth 100000 in
set_option maxHeartbeats 1000000 in
theorem name_none (s : ByteArray) (k : Nat) (_hs : s.size ≤ 100000) (hk : k ≤ s.size) (hl : ¬ isLet (byteI s k) = true) (w : World) :
    Calls Tryz.prog 50 #[.agg #[.string s, .int .i64 k]] w (NameOut w s k ⟨#[]⟩ (missC s k) k) := by
  obtain ⟨z, hz⟩ : ∃ z, sortI (byteI s k) = z := ⟨_, rfl⟩
  have hne : (z != 2) = true := by
    rw [← hz]
    unfold isLet at hl
    simpa [bne] using hl
  have hS := fun w => sortOf_any (byteI s k) w
  rw [hz] at hS
  have HS := Lib.hid hS
  have HP := Lib.hid (fun w => peek_any s k hk w)
  have HM := Lib.hid (fun w => missing_any s k hk w)
  generalize byteI s k = n at *
  generalize missC s k = m at *
  clear hl hz hS
  have H0 := Lib.hid (InScan.new w s k 42)
  go_enter Tryz.func50, Tryz.ntmps50
  go_wp2_with fail
  refine (HP.out _).mono ?_
  rintro e w1 ⟨rfl, b1⟩
  have H1 := Lib.hid (H0.out.step b1)
  obtain ⟨l1, c0, c1, -⟩ := H1.out.own
  go_wp2_with fail
  refine (HS.out _).mono ?_
  rintro e w' ⟨rfl, rfl⟩
  go_wp2_with fail
  have hI := H1.out.drew
  have k0 := hI.own.2.1
  have k1 := hI.own.2.2.1
  go_region_held3 (fun w' => w'.cell? ⟨w.heap.size, 0, none⟩ = some (.string s) ∧ w'.cell? ⟨w.heap.size, 1, none⟩ = some (.int .i64 k))
    (first | go_keep | exact ⟨hI.own.2.1, hI.own.2.2.1⟩)
    (first
    | (go_at_call 67; refine (HM.out _).mono ?_; rintro e w' ⟨v, rfl, hv, hb⟩; replace hI := hI.step hb; have x0 := hI.res.2.1; have x1 := hI.res.2.2.1; have xf := hI.res.2.2.2))
  go_wp2
  obtain ⟨⟨q0, q1⟩, hbl⟩ := hI.out k
  exact bodyPost_ret (v := .tuple #[.agg #[.string s, .int .i64 k], .string ⟨#[]⟩, v]) (by simp [results, Tryz.results50, go_sem, q0, q1]) rfl ⟨v, rfl, hv.set hI.res s k, hbl⟩

set_option maxRecDepth 100000 in
set_option maxHeartbeats 1000000 in
theorem name_long (s : ByteArray) (k : Nat) (hs : s.size ≤ 100000) (hk : k ≤ s.size) (hl : isLet (byteI s k) = true) (h32 : 32 < runTo isIn s k - k) (w : World) :
    Calls Tryz.prog 50 #[.agg #[.string s, .int .i64 k]] w (NameOut w s k ⟨#[]⟩ 5 k) := by
  have hS := fun w => sortOf_any (byteI s k) w
  rw [show sortI (byteI s k) = 2 by simpa [isLet] using hl] at hS
  have HS := Lib.hid hS
  have HP := Lib.hid (fun w => peek_any s k hk w)
  have HG := Lib.hid (fun w => goOn_Name1 s k hs hk w)
  have hj := runTo_le isIn s k hk
  have hj0 := le_runTo isIn s k hk
  generalize byteI s k = n at *
  generalize runTo isIn s k = j at *
  clear hl hS
  have hlong : (32 : Int) < (j : Int) - k := by omega
  have H0 := Lib.hid (InScan.new w s k 42)
  go_enter Tryz.func50, Tryz.ntmps50
  go_wp2_with fail
  refine (HP.out _).mono ?_
  rintro e w1 ⟨rfl, b1⟩
  have H1 := Lib.hid (H0.out.step b1)
  obtain ⟨l1, c0, c1, -⟩ := H1.out.own
  go_wp2_with fail
  refine (HS.out _).mono ?_
  rintro e w' ⟨rfl, rfl⟩
  go_wp2_with fail
  refine (HG.out _).mono ?_
  rintro e w2 ⟨rfl, b2⟩
  have H2 := Lib.hid (H1.out.step b2)
  have H3 := Lib.hid (H2.out.step (sbelow_new w2 (.cells #[.string s, .int .i64 j] 42)))
  obtain ⟨l2, d0, d1, -⟩ := H2.out.own
  go_wp2_with fail
  generalize w2.alloc (.cells #[.string s, .int .i64 j] 42) = w3 at *
  have hI := H3.out.drew
  have k0 := hI.own.2.1
  have k1 := hI.own.2.2.1
  go_region_held3 (fun w' => w'.cell? ⟨w.heap.size, 0, none⟩ = some (.string s) ∧ w'.cell? ⟨w.heap.size, 1, none⟩ = some (.int .i64 k))
    (first | go_keep | exact ⟨hI.own.2.1, hI.own.2.2.1⟩)
    (first
    | (go_at_call 22; refine (new_faults 5 k (by decide) _).mono ?_; rintro e w' ⟨v, rfl, hv, hb⟩; replace hI := hI.step hb; have x0 := hI.res.2.1; have x1 := hI.res.2.2.1; have xf := hI.res.2.2.2))
  go_wp2
  obtain ⟨⟨q0, q1⟩, hbl⟩ := hI.out k
  exact bodyPost_ret (v := .tuple #[.agg #[.string s, .int .i64 k], .string ⟨#[]⟩, v]) (by simp [results, Tryz.results50, go_sem, q0, q1]) rfl ⟨v, rfl, hv.set hI.res s k, hbl⟩

set_option maxRecDepth 100000 in
set_option maxHeartbeats 1000000 in
theorem name_yes (s : ByteArray) (k : Nat) (hs : s.size ≤ 100000) (hk : k ≤ s.size) (hl : isLet (byteI s k) = true) (h32 : runTo isIn s k - k ≤ 32) (w : World) :
    Calls Tryz.prog 50 #[.agg #[.string s, .int .i64 k]] w fun e w' => e = .returned (.tuple #[.agg #[.string s, .int .i64 (runTo isIn s k)], .string (s.extract k (runTo isIn s k)), .nilIface]) ∧ Below w.heap.size w w' := by
  have hS := fun w => sortOf_any (byteI s k) w
  rw [show sortI (byteI s k) = 2 by simpa [isLet] using hl] at hS
  have HS := Lib.hid hS
  have HP := Lib.hid (fun w => peek_any s k hk w)
  have HG := Lib.hid (fun w => goOn_Name1 s k hs hk w)
  have hj := runTo_le isIn s k hk
  have hj0 := le_runTo isIn s k hk
  generalize byteI s k = n at *
  generalize runTo isIn s k = j at *
  have HU := Lib.hid (fun w => upTo_any s k j hj0 hj w)
  generalize s.extract k j = t at *
  clear hl hS
  have hshort : ¬ (32 : Int) < (j : Int) - k := by omega
  have H0 := Lib.hid (InScan.new w s k 42)
  go_enter Tryz.func50, Tryz.ntmps50
  go_wp2_with fail
  refine (HP.out _).mono ?_
  rintro e w1 ⟨rfl, b1⟩
  have H1 := Lib.hid (H0.out.step b1)
  obtain ⟨l1, c0, c1, -⟩ := H1.out.own
  go_wp2_with fail
  refine (HS.out _).mono ?_
  rintro e w' ⟨rfl, rfl⟩
  go_wp2_with fail
  refine (HG.out _).mono ?_
  rintro e w2 ⟨rfl, b2⟩
  have H2 := Lib.hid (H1.out.step b2)
  have H3 := Lib.hid (H2.out.step (sbelow_new w2 (.cells #[.string s, .int .i64 j] 42)))
  have HN3 := Lib.hid (ScanAt.new w2 s j 42)
  have hne : w2.heap.size ≠ w.heap.size + 1 := by have := H2.out.res.1; omega
  obtain ⟨l2, d0, d1, -⟩ := H2.out.own
  go_wp2_with fail
  generalize w2.alloc (.cells #[.string s, .int .i64 j] 42) = w3 at *
  generalize w2.heap.size = q at *
  have hI := H3.out.drew
  have hN : ScanAt w3.drew q s j := HN3.out
  have k0 := hI.own.2.1
  have k1 := hI.own.2.2.1
  have n0 := hN.2.1
  have n1 := hN.2.2.1
  have hne' := hne.symm
  go_region_held3 (fun w' => w'.cell? ⟨w.heap.size, 0, none⟩ = some (.string s) ∧ w'.cell? ⟨w.heap.size, 1, none⟩ = some (.int .i64 k) ∧ w'.cell? ⟨q, 0, none⟩ = some (.string s) ∧ w'.cell? ⟨q, 1, none⟩ = some (.int .i64 j))
    (first | go_keep | exact ⟨hI.own.2.1, hI.own.2.2.1, hN.2.1, hN.2.2.1⟩)
    (first
    | (go_at_call 69; refine (HU.out _).mono ?_; rintro e w' ⟨rfl, hb⟩; replace hI := hI.step hb; replace hN := hN.step hb; have x0 := hI.res.2.1; have x1 := hI.res.2.2.1; have xf := hI.res.2.2.2))
  go_wp2
  obtain ⟨⟨q0, q1⟩, hbl⟩ := hI.out j
  exact bodyPost_ret (v := .tuple #[.agg #[.string s, .int .i64 j], .string t, .nilIface]) (by simp [results, Tryz.results50, go_sem, q0, q1]) rfl ⟨rfl, hbl⟩

theorem name_any (s : ByteArray) (k : Nat) (hs : s.size ≤ 100000) (hk : k ≤ s.size) (w : World) :
    Calls Tryz.prog 50 #[.agg #[.string s, .int .i64 k]] w (NameOut w s (nameK s k) (nameT s k) (nameC s k) (nameK s k)) := by
  by_cases hl : isLet (byteI s k) = true
  · by_cases h32 : runTo isIn s k - k ≤ 32
    · unfold nameK nameT nameC
      rw [if_pos ⟨hl, h32⟩, if_pos ⟨hl, h32⟩, if_pos hl, if_pos h32]
      refine (name_yes s k hs hk hl h32 w).mono ?_
      rintro e w' ⟨rfl, hb⟩
      exact ⟨_, rfl, .nilE _ _, hb⟩
    · unfold nameK nameT nameC
      rw [if_neg (fun h => h32 h.2), if_neg (fun h => h32 h.2), if_pos hl, if_neg h32]
      exact name_long s k hs hk hl (by omega) w
  · unfold nameK nameT nameC
    rw [if_neg (fun h => hl h.1), if_neg (fun h => hl h.1), if_neg hl]
    exact name_none s k hs hk hl w

/-! ### Number -/
/-- The document's answer on numbers. -/
def digsR (s : ByteArray) (k : Nat) : Int × Int × Int := parseR (s.extract k (runTo isDig s k)).data.toList
def numK (s : ByteArray) (k : Nat) : Nat := if runTo isDig s k = k then k else if (digsR s k).2.1 = 0 then runTo isDig s k else k
def numN (s : ByteArray) (k : Nat) : Int := if runTo isDig s k = k then 0 else if (digsR s k).2.1 = 0 then (digsR s k).1 else 0
def numC (s : ByteArray) (k : Nat) : Int := if runTo isDig s k = k then missC s k else (digsR s k).2.1
theorem numK_le (s : ByteArray) (k : Nat) (hk : k ≤ s.size) : numK s k ≤ s.size := by
  unfold numK; split
  · exact hk
  · split
    · exact runTo_le _ _ _ hk
    · exact hk

/-- What Number answers. -/
def NumOut (w : World) (s : ByteArray) (k : Nat) (n c a : Int) (e : Ending) (w' : World) : Prop :=
  ∃ v, e = .returned (.tuple #[.agg #[.string s, .int .i64 k], .int .u64 n, v]) ∧ ErrIs w' v c a ∧ Below w.heap.size w w'

set_option maxRecDepth 100000 in
set_option maxHeartbeats 1000000 in
theorem number_none (s : ByteArray) (k : Nat) (hs : s.size ≤ 100000) (hk : k ≤ s.size) (hj : runTo isDig s k = k) (w : World) :
    Calls Tryz.prog 51 #[.agg #[.string s, .int .i64 k]] w (NumOut w s k 0 (missC s k) k) := by
  have hG := fun w => goOn_Number1 s k hs hk w
  rw [hj] at hG
  have HG := Lib.hid hG
  have HM := Lib.hid (fun w => missing_any s k hk w)
  generalize missC s k = m at *
  clear hj hG
  have H0 := Lib.hid (InScan.new w s k 42)
  go_enter Tryz.func51, Tryz.ntmps51
  go_wp2_with fail
  refine (HG.out _).mono ?_
  rintro e w2 ⟨rfl, b2⟩
  have H2 := Lib.hid (H0.out.step b2)
  have H3 := Lib.hid (H2.out.step (sbelow_new w2 (.cells #[.string s, .int .i64 k] 42)))
  obtain ⟨l2, d0, d1, -⟩ := H2.out.own
  go_wp2_with fail
  generalize w2.alloc (.cells #[.string s, .int .i64 k] 42) = w3 at *
  have hI := H3.out.drew
  have k0 := hI.own.2.1
  have k1 := hI.own.2.2.1
  go_region_held3 (fun w' => w'.cell? ⟨w.heap.size, 0, none⟩ = some (.string s) ∧ w'.cell? ⟨w.heap.size, 1, none⟩ = some (.int .i64 k))
    (first | go_keep | exact ⟨hI.own.2.1, hI.own.2.2.1⟩)
    (first
    | (go_at_call 67; refine (HM.out _).mono ?_; rintro e w' ⟨v, rfl, hv, hb⟩; replace hI := hI.step hb; have x0 := hI.res.2.1; have x1 := hI.res.2.2.1; have xf := hI.res.2.2.2))
  go_wp2
  obtain ⟨⟨q0, q1⟩, hbl⟩ := hI.out k
  exact bodyPost_ret (v := .tuple #[.agg #[.string s, .int .i64 k], .int .u64 0, v]) (by simp [results, Tryz.results51, go_sem, q0, q1]) rfl ⟨v, rfl, hv.set hI.res s k, hbl⟩

set_option maxRecDepth 100000 in
set_option maxHeartbeats 1000000 in
theorem number_yes (s : ByteArray) (k : Nat) (hs : s.size ≤ 100000) (hk : k ≤ s.size) (hj : runTo isDig s k ≠ k) (hc : (digsR s k).2.1 = 0) (w : World) :
    Calls Tryz.prog 51 #[.agg #[.string s, .int .i64 k]] w fun e w' => e = .returned (.tuple #[.agg #[.string s, .int .i64 (runTo isDig s k)], .int .u64 (digsR s k).1, .nilIface]) ∧ Below w.heap.size w w' := by
  have hP : ∀ w, Calls Tryz.prog 71 #[.string (s.extract k (runTo isDig s k))] w fun e w' => e = .returned (.tuple #[.int .u64 (digsR s k).1, .nilIface]) ∧ w = w' := fun w =>
    (parse_any (s.extract k (runTo isDig s k)) w (by have := runTo_le isDig s k hk; unfold maxLen; simp; omega)).mono (by
      rintro e w' (⟨-, rfl, rfl⟩ | ⟨h, -⟩)
      · exact ⟨rfl, rfl⟩
      · exact absurd hc h)
  have HP := Lib.hid hP
  have HG := Lib.hid (fun w => goOn_Number1 s k hs hk w)
  have hj1 := runTo_le isDig s k hk
  have hj0 := le_runTo isDig s k hk
  generalize (digsR s k).1 = n at *
  generalize runTo isDig s k = j at *
  have HU := Lib.hid (fun w => upTo_any s k j hj0 hj1 w)
  generalize s.extract k j = t at *
  have hjb : ((j : Int) == (k : Int)) = false := by rw [beq_eq_false_iff_ne]; omega
  clear hP hc hj
  have H0 := Lib.hid (InScan.new w s k 42)
  go_enter Tryz.func51, Tryz.ntmps51
  go_wp2_with fail
  refine (HG.out _).mono ?_
  rintro e w2 ⟨rfl, b2⟩
  have H2 := Lib.hid (H0.out.step b2)
  have H3 := Lib.hid (H2.out.step (sbelow_new w2 (.cells #[.string s, .int .i64 j] 42)))
  have HN3 := Lib.hid (ScanAt.new w2 s j 42)
  obtain ⟨l2, d0, d1, -⟩ := H2.out.own
  go_wp2_with fail
  generalize w2.alloc (.cells #[.string s, .int .i64 j] 42) = w3 at *
  generalize w2.heap.size = q at *
  refine (HU.out _).mono ?_
  rintro e w4 ⟨rfl, b4⟩
  have H4 := Lib.hid (H3.out.step b4)
  have HN4 := Lib.hid (HN3.out.step b4)
  go_wp2_with fail
  refine (HP.out _).mono ?_
  rintro e w' ⟨rfl, rfl⟩
  obtain ⟨-, n0, n1, -⟩ := HN4.out
  obtain ⟨-, x0, x1, xf⟩ := H4.out.res
  go_wp2_with fail
  obtain ⟨⟨q0, q1⟩, hbl⟩ := H4.out.out j
  exact bodyPost_ret (v := .tuple #[.agg #[.string s, .int .i64 j], .int .u64 n, .nilIface]) (by simp [results, Tryz.results51, go_sem, q0, q1]) rfl ⟨rfl, hbl⟩

set_option maxRecDepth 100000 in
set_option maxHeartbeats 1000000 in
theorem number_bad (s : ByteArray) (k : Nat) (hs : s.size ≤ 100000) (hk : k ≤ s.size) (hj : runTo isDig s k ≠ k) (hc : (digsR s k).2.1 ≠ 0) (w : World) (hg : Handle w) :
    Calls Tryz.prog 51 #[.agg #[.string s, .int .i64 k]] w (NumOut w s k 0 (digsR s k).2.1 k) := by
  have hP : ∀ w, Calls Tryz.prog 71 #[.string (s.extract k (runTo isDig s k))] w fun e w' => e = .returned (.tuple #[.int .u64 (digsR s k).1, .iface 74 (.pointer (some ⟨w.heap.size, 0, none⟩))]) ∧
      ChainAt w' (.fault w.heap.size (digsR s k).2.1 (digsR s k).2.2) [] (.iface 74 (.pointer (some ⟨w.heap.size, 0, none⟩))) ∧ Below w.heap.size w w' := fun w =>
    (parse_any (s.extract k (runTo isDig s k)) w (by have := runTo_le isDig s k hk; unfold maxLen; simp; omega)).mono (by
      rintro e w' (⟨h, -⟩ | ⟨h, rfl, rfl⟩)
      · exact absurd h hc
      · exact ⟨rfl, new_chain _ _ w, below_alloc _ _⟩)
  have HP := Lib.hid hP
  have HG := Lib.hid (fun w => goOn_Number1 s k hs hk w)
  have HNW := Lib.hid (fun w => new_faults (digsR s k).2.1 k hc w)
  have hj1 := runTo_le isDig s k hk
  have hj0 := le_runTo isDig s k hk
  generalize (digsR s k).1 = n at *
  generalize (digsR s k).2.1 = c at *
  generalize (digsR s k).2.2 = a at *
  generalize runTo isDig s k = j at *
  have HU := Lib.hid (fun w => upTo_any s k j hj0 hj1 w)
  generalize s.extract k j = t at *
  have hjb : ((j : Int) == (k : Int)) = false := by rw [beq_eq_false_iff_ne]; omega
  clear hP hc hj
  have H0 := Lib.hid (InScan.new w s k 42)
  go_enter Tryz.func51, Tryz.ntmps51
  go_wp2_with fail
  refine (HG.out _).mono ?_
  rintro e w2 ⟨rfl, b2⟩
  have H2 := Lib.hid (H0.out.step b2)
  have H3 := Lib.hid (H2.out.step (sbelow_new w2 (.cells #[.string s, .int .i64 j] 42)))
  have HN3 := Lib.hid (ScanAt.new w2 s j 42)
  obtain ⟨l2, d0, d1, -⟩ := H2.out.own
  go_wp2_with fail
  generalize w2.alloc (.cells #[.string s, .int .i64 j] 42) = w3 at *
  generalize w2.heap.size = q at *
  refine (HU.out _).mono ?_
  rintro e w4 ⟨rfl, b4⟩
  have H4 := Lib.hid (H3.out.step b4)
  go_wp2_with fail
  refine (HP.out _).mono ?_
  rintro e w5 ⟨rfl, hch, b5⟩
  have H5 := Lib.hid (H4.out.step b5)
  have HC5 := Lib.hid hch
  have hg5' : Handle w5 := hg.below H5.out.below
  have hg5 : Handle w5.drew := hg5'
  clear hch
  generalize w4.heap.size = fb at *
  go_wp2_with fail
  have hI := H5.out.drew
  have hC : ChainAt w5.drew (.fault fb c a) [] (.iface 74 (.pointer (some ⟨fb, 0, none⟩))) := HC5.out
  have k0 := hI.own.2.1
  have k1 := hI.own.2.2.1
  go_region_held3 (fun w' => w'.cell? ⟨w.heap.size, 0, none⟩ = some (.string s) ∧ w'.cell? ⟨w.heap.size, 1, none⟩ = some (.int .i64 k))
    (first | go_keep | exact ⟨hI.own.2.1, hI.own.2.2.1⟩)
    (first
    | (go_at_call 24; refine (code_some _ c rfl _ _ _ hC hg5).mono ?_; rintro e w' ⟨rfl, hb⟩; replace hI := hI.step hb)
    | (go_at_call 22; refine (HNW.out _).mono ?_; rintro e w' ⟨v, rfl, hv, hb⟩; replace hI := hI.step hb; have x0 := hI.res.2.1; have x1 := hI.res.2.2.1; have xf := hI.res.2.2.2))
  go_wp2
  obtain ⟨⟨q0, q1⟩, hbl⟩ := hI.out k
  exact bodyPost_ret (v := .tuple #[.agg #[.string s, .int .i64 k], .int .u64 0, v]) (by simp [results, Tryz.results51, go_sem, q0, q1]) rfl ⟨v, rfl, hv.set hI.res s k, hbl⟩

theorem number_any (s : ByteArray) (k : Nat) (hs : s.size ≤ 100000) (hk : k ≤ s.size) (w : World) (hg : Handle w) :
    Calls Tryz.prog 51 #[.agg #[.string s, .int .i64 k]] w (NumOut w s (numK s k) (numN s k) (numC s k) (numK s k)) := by
  unfold numK numN numC
  by_cases hj : runTo isDig s k = k
  · rw [if_pos hj, if_pos hj, if_pos hj]
    exact number_none s k hs hk hj w
  · rw [if_neg hj, if_neg hj, if_neg hj]
    by_cases hc : (digsR s k).2.1 = 0
    · rw [if_pos hc, if_pos hc, hc]
      refine (number_yes s k hs hk hj hc w).mono ?_
      rintro e w' ⟨rfl, hb⟩
      exact ⟨_, rfl, .nilE _ _, hb⟩
    · rw [if_neg hc, if_neg hc]
      exact number_bad s k hs hk hj hc w hg
end Go.Proofs.YtpccdhkghlbhkaaGreatDoor

namespace Go.Proofs.YtpccdhkghlbhkaaGreatDoor
open Go.RowKit Go.Extern.Stop Go.Stop Go.Extern

theorem sbelow_drewN (w : World) (n : Nat) : Below w.heap.size w (w.drewN n) := ⟨rfl, rfl, rfl, Nat.le_refl _, fun _ _ => rfl⟩

/-- Is a text a name? -/
def isNameR (s : ByteArray) : Bool := (nameC s 0 == 0) && (nameK s 0 == s.size)
def isNameB (s : ByteArray) : Bool := decide (s.size ≤ 65536) && isNameR s
theorem isNameB_eq {s : ByteArray} (h : s.size ≤ 65536) : isNameB s = isNameR s := by unfold isNameB; rw [decide_eq_true h]; rfl

theorem ErrIs.ptr {w : World} {v : Value} {c a : Int} (h : ErrIs w v c a) (h0 : c ≠ 0) : ∃ fb, v = .iface 74 (.pointer (some ⟨fb, 0, none⟩)) := by
  rcases h with ⟨rfl, -⟩ | ⟨-, fb, e, -⟩
  · exact absurd rfl h0
  · exact ⟨fb, e⟩

/-! ### The reference -/
set_option maxHeartbeats 400000 in
theorem rfails_any (s : ByteArray) (k : Nat) (w : World) :
    Calls Tryz.prog 104 #[.string s, .int .i64 k] w fun e w' => e = .returned (.int .i64 (missC s k)) ∧ w = w' := by
  unfold missC
  by_cases h : k < s.size
  · rw [if_pos h]
    go_enter Tryz.func104, Tryz.ntmps104
    go_wp2
    go_ret
    exact ⟨rfl, rfl⟩
  · rw [if_neg h]
    go_enter Tryz.func104, Tryz.ntmps104
    go_wp2
    go_ret
    exact ⟨rfl, rfl⟩

set_option maxRecDepth 100000 in
set_option maxHeartbeats 1000000 in
theorem rskip_any (s : ByteArray) (k : Nat) (hs : s.size ≤ 100000) (hk : k ≤ s.size) (w : World) :
    Calls Tryz.prog 23 #[.string s, .int .i64 k] w fun e w' => e = .returned (.int .i64 (runTo isBl s k)) ∧ w = w' := by
  go_enter Tryz.func23, Tryz.ntmps23
  go_wp2
  go_loop [1] (fun i => ∃ j : Nat, k ≤ j ∧ j ≤ s.size ∧ i = .int .i64 j ∧ runTo isBl s j = runTo isBl s k) (fun i => s.size - (intOf i).toNat)
  case atStart => exact ⟨k, Nat.le_refl _, hk, rfl, rfl⟩
  case round =>
    obtain ⟨j, hkj, hj, rfl, hrun⟩ := hrel
    have HR := Lib.hid hrun
    clear hrun
    by_cases hlt : j < s.size
    · by_cases hb : isBl (s[j].toNat : Int) = true
      · have HG := Lib.hid (runTo_go hlt hb)
        have hor := (isBl_iff _).1 hb
        clear hb
        have hbb : ((s[j].toNat : Int) == 32 || (s[j].toNat : Int) == 9 || (s[j].toNat : Int) == 10 || (s[j].toNat : Int) == 13) = true := by simpa [or_assoc] using hor
        clear hor
        go_wp2_with fail
        all_goals
          go_round
          case rel => exact ⟨j + 1, by omega, by omega, by go_num, HG.out.symm.trans HR.out⟩
          case measure => simp [intOf]; omega
      · have HG := Lib.hid (runTo_stop hlt (by simpa using hb))
        have hor : ¬ ((s[j].toNat : Int) = 32 ∨ (s[j].toNat : Int) = 9 ∨ (s[j].toNat : Int) = 10 ∨ (s[j].toNat : Int) = 13) := fun h => hb ((isBl_iff _).2 h)
        clear hb
        have h1 : ((s[j].toNat : Int) == 32) = false := by rw [beq_eq_false_iff_ne]; omega
        have h2 : ((s[j].toNat : Int) == 9) = false := by rw [beq_eq_false_iff_ne]; omega
        have h3 : ((s[j].toNat : Int) == 10) = false := by rw [beq_eq_false_iff_ne]; omega
        have h4 : ((s[j].toNat : Int) == 13) = false := by rw [beq_eq_false_iff_ne]; omega
        clear hor
        go_wp2_with fail
        go_ret
        exact ⟨ret_u (by rw [← HR.out, HG.out]), rfl⟩
    · have HG := Lib.hid (runTo_end (p := isBl) hlt)
      go_wp2_with fail
      go_ret
      exact ⟨ret_u (by rw [← HR.out, HG.out]), rfl⟩

/-- What the reference's Name answers. -/
def RefName (w : World) (s : ByteArray) (k : Nat) (e : Ending) (w' : World) : Prop :=
  e = .returned (.tuple #[.int .i64 (nameK s k), .string (nameT s k), .int .i64 (nameC s k)]) ∧ Below w.heap.size w w'

set_option maxRecDepth 100000 in
set_option maxHeartbeats 1000000 in
theorem rname_any (s : ByteArray) (k : Nat) (hs : s.size ≤ 100000) (hk : k ≤ s.size) (w : World) :
    Calls Tryz.prog 111 #[.string s, .int .i64 k] w (RefName w s k) := by
  have HF := Lib.hid (fun w => rfails_any s k w)
  by_cases hlt : k < s.size
  · have hdk : decide (s.size ≤ k) = false := decide_eq_false (by omega)
    by_cases hl : isLet (byteI s k) = true
    · have hL := fun w => rletter_any (s[k].toNat : Int) w
      rw [← byteI_lt hlt, hl, byteI_lt hlt] at hL
      have HL := Lib.hid hL
      have HR := Lib.hid (show ∀ e w', (if runTo isIn s k - k ≤ 32 then e = .returned (.tuple #[.int .i64 (runTo isIn s k), .string (s.extract k (runTo isIn s k)), .int .i64 0]) else e = .returned (.tuple #[.int .i64 k, .string ⟨#[]⟩, .int .i64 5])) ∧ Below w.heap.size w w' → RefName w s k e w' by
        intro e w' ⟨h, hb⟩
        unfold RefName nameK nameT nameC
        by_cases h32 : runTo isIn s k - k ≤ 32
        · rw [if_pos h32] at h
          rw [if_pos ⟨hl, h32⟩, if_pos ⟨hl, h32⟩, if_pos hl, if_pos h32]
          exact ⟨h, hb⟩
        · rw [if_neg h32] at h
          rw [if_neg (fun h => h32 h.2), if_neg (fun h => h32 h.2), if_pos hl, if_neg h32]
          exact ⟨h, hb⟩)
      clear hl hL
      go_enter Tryz.func111, Tryz.ntmps111
      go_wp2_with fail
      refine (HL.out _).mono ?_
      rintro e w' ⟨rfl, rfl⟩
      go_wp2_with fail
      go_loop [7] (fun i => ∃ j : Nat, k ≤ j ∧ j ≤ s.size ∧ i = .int .i64 j ∧ runTo isIn s j = runTo isIn s k) (fun i => s.size - (intOf i).toNat)
      case atStart => exact ⟨k, Nat.le_refl _, hk, rfl, rfl⟩
      case round =>
        obtain ⟨j, hkj, hj, rfl, hrun⟩ := hrel
        have HRU := Lib.hid hrun
        clear hrun
        by_cases hlt2 : j < s.size
        · by_cases hb : isIn (s[j].toNat : Int) = true
          · have HG := Lib.hid (runTo_go hlt2 hb)
            have hI := fun w => rin_any (s[j].toNat : Int) w
            rw [hb] at hI
            have HI := Lib.hid hI
            clear hb hI
            go_wp2_with fail
            refine (HI.out _).mono ?_
            rintro e w' ⟨rfl, rfl⟩
            go_wp2_with fail
            go_round
            case rel => exact ⟨j + 1, by omega, by omega, by go_num, HG.out.symm.trans HRU.out⟩
            case measure => simp [intOf]; omega
          · have HG := Lib.hid ((runTo_stop hlt2 (by simpa using hb)).symm.trans HRU.out)
            have hI := fun w => rin_any (s[j].toNat : Int) w
            rw [show isIn (s[j].toNat : Int) = false by simpa using hb] at hI
            have HI := Lib.hid hI
            clear hb hI
            by_cases h32 : (32 : Int) < (j : Int) - k
            · go_wp2_with fail
              refine (HI.out _).mono ?_
              rintro e w' ⟨rfl, rfl⟩
              go_wp2_with fail
              go_ret3
              exact HR.out _ _ ⟨by rw [← HG.out, if_neg (by omega)]; rfl, Below.refl _ _⟩
            · go_wp2_with fail
              refine (HI.out _).mono ?_
              rintro e w' ⟨rfl, rfl⟩
              go_wp2_with fail
              go_quiet (fail)
              go_wp2
              go_ret3
              exact HR.out _ _ ⟨by rw [← HG.out, if_pos (by omega)]; rfl, sbelow_drewN _ _⟩
        · have HG := Lib.hid ((runTo_end (p := isIn) hlt2).symm.trans HRU.out)
          by_cases h32 : (32 : Int) < (j : Int) - k
          · go_wp2_with fail
            go_ret3
            exact HR.out _ _ ⟨by rw [← HG.out, if_neg (by omega)]; rfl, Below.refl _ _⟩
          · go_wp2_with fail
            go_quiet (fail)
            go_wp2
            go_ret3
            exact HR.out _ _ ⟨by rw [← HG.out, if_pos (by omega)]; rfl, sbelow_drewN _ _⟩
    · have hL := fun w => rletter_any (s[k].toNat : Int) w
      rw [← byteI_lt hlt, show isLet (byteI s k) = false by simpa using hl, byteI_lt hlt] at hL
      have HL := Lib.hid hL
      have HR := Lib.hid (show ∀ e w', e = .returned (.tuple #[.int .i64 k, .string ⟨#[]⟩, .int .i64 (missC s k)]) ∧ Below w.heap.size w w' → RefName w s k e w' by
        intro e w' h
        unfold RefName nameK nameT nameC
        rw [if_neg (fun h => hl h.1), if_neg (fun h => hl h.1), if_neg hl]
        exact h)
      generalize missC s k = m at *
      clear hl hL
      go_enter Tryz.func111, Tryz.ntmps111
      go_wp2_with fail
      refine (HL.out _).mono ?_
      rintro e w' ⟨rfl, rfl⟩
      go_wp2_with fail
      refine (HF.out _).mono ?_
      rintro e w' ⟨rfl, rfl⟩
      go_wp2_with fail
      go_ret3
      exact HR.out _ _ ⟨rfl, Below.refl _ _⟩
  · have hl : ¬ isLet (byteI s k) = true := by rw [byteI_ge hlt]; decide
    have HR := Lib.hid (show ∀ e w', e = .returned (.tuple #[.int .i64 k, .string ⟨#[]⟩, .int .i64 (missC s k)]) ∧ Below w.heap.size w w' → RefName w s k e w' by
      intro e w' h
      unfold RefName nameK nameT nameC
      rw [if_neg (fun h => hl h.1), if_neg (fun h => hl h.1), if_neg hl]
      exact h)
    generalize missC s k = m at *
    clear hl
    go_enter Tryz.func111, Tryz.ntmps111
    go_wp2_with fail
    refine (HF.out _).mono ?_
    rintro e w' ⟨rfl, rfl⟩
    go_wp2_with fail
    go_ret3
    exact HR.out _ _ ⟨rfl, Below.refl _ _⟩
end Go.Proofs.YtpccdhkghlbhkaaGreatDoor

namespace Go.Proofs.YtpccdhkghlbhkaaGreatDoor
open Go.RowKit Go.Extern.Stop Go.Stop Go.Extern

end Go.Proofs.YtpccdhkghlbhkaaGreatDoor
