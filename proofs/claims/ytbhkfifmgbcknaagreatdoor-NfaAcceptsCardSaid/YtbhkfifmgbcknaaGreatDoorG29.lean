/-
  A part of the proof of the statement NfaAccepts.
-/
import Derived.Test.YtbhkfifmgbcknaaGreatDoorG28
import Derived.Test.YtbhkfifmgbcknaaGreatDoorG08
import Derived.Test.YtbhkfifmgbcknaaGreatDoorG07
import Derived.Test.YtbhkfifmgbcknaaGreatDoorG04
import Derived.Sort.LoopGhostIn
set_option linter.unusedSimpArgs false
set_option linter.unusedVariables false
namespace Go.Proofs.YtbhkfifmgbcknaaGreatDoor
open Go.RowKit Go.Extern.Stop Go.Stop Go.Extern
def nameK (s : ByteArray) (k : Nat) : Nat := if isLet (byteI s k) = true ∧ runTo isIn s k - k ≤ 32 then runTo isIn s k else k
def nameT (s : ByteArray) (k : Nat) : ByteArray := if isLet (byteI s k) = true ∧ runTo isIn s k - k ≤ 32 then s.extract k (runTo isIn s k) else ⟨#[]⟩
def nameC (s : ByteArray) (k : Nat) : Int := if isLet (byteI s k) = true then (if runTo isIn s k - k ≤ 32 then 0 else 5) else missC s k
theorem nameK_le (s : ByteArray) (k : Nat) (hk : k ≤ s.size) : nameK s k ≤ s.size := by
  unfold nameK; split
  · exact runTo_le _ _ _ hk
  · exact hk
def NameOut (w : World) (s : ByteArray) (k : Nat) (t : ByteArray) (c a : Int) (e : Ending) (w' : World) : Prop :=
  ∃ v, e = .returned (.tuple #[.agg #[.string s, .int .i64 k], .string t, v]) ∧ ErrIs w' v c a ∧ Below w.heap.size w w'
set_option maxRecDepth 100000 in
set_option maxHeartbeats 1000000 in
theorem name_none (s : ByteArray) (k : Nat) (_hs : s.size ≤ 100000) (hk : k ≤ s.size) (hl : ¬ isLet (byteI s k) = true) (w : World) :
    Calls Tryz.prog 109 #[.agg #[.string s, .int .i64 k]] w (NameOut w s k ⟨#[]⟩ (missC s k) k) := by
  obtain ⟨z, hz⟩ : ∃ z, sortI (byteI s k) = z := ⟨_, rfl⟩
  have hne : (z != 2) = true := by
    rw [← hz]
    unfold isLet at hl
    simpa [bne] using hl
  have hS := fun w => sortOf_any (byteI s k) w
  rw [hz] at hS
  have HS := Lib.hid hS
  have HP := Lib.hid (fun w => peek_any s k hk w)
  have HM := Lib.hid (fun w => missing_any s k hk w)
  generalize byteI s k = n at *
  generalize missC s k = m at *
  clear hl hz hS
  have H0 := Lib.hid (InScan.new w s k 121)
  go_enter Tryz.func109, Tryz.ntmps109
  go_wp2_with fail
  refine (HP.out _).mono ?_
  rintro e w1 ⟨rfl, b1⟩
  have H1 := Lib.hid (H0.out.step b1)
  obtain ⟨l1, c0, c1, -⟩ := H1.out.own
  go_wp2_with fail
  refine (HS.out _).mono ?_
  rintro e w' ⟨rfl, rfl⟩
  go_wp2_with fail
  have hI := H1.out.drew
  have k0 := hI.own.2.1
  have k1 := hI.own.2.2.1
  go_region_held3 (fun w' => w'.cell? ⟨w.heap.size, 0, none⟩ = some (.string s) ∧ w'.cell? ⟨w.heap.size, 1, none⟩ = some (.int .i64 k))
    (first | go_keep | exact ⟨hI.own.2.1, hI.own.2.2.1⟩)
    (first
    | (go_at_call 143; refine (HM.out _).mono ?_; rintro e w' ⟨v, rfl, hv, hb⟩; replace hI := hI.step hb; have x0 := hI.res.2.1; have x1 := hI.res.2.2.1; have xf := hI.res.2.2.2))
  go_wp2
  obtain ⟨⟨q0, q1⟩, hbl⟩ := hI.out k
  exact bodyPost_ret (v := .tuple #[.agg #[.string s, .int .i64 k], .string ⟨#[]⟩, v]) (by simp [results, Tryz.results109, go_sem, q0, q1]) rfl ⟨v, rfl, hv.set hI.res s k, hbl⟩
set_option maxRecDepth 100000 in
set_option maxHeartbeats 1000000 in
theorem name_long (s : ByteArray) (k : Nat) (hs : s.size ≤ 100000) (hk : k ≤ s.size) (hl : isLet (byteI s k) = true) (h32 : 32 < runTo isIn s k - k) (w : World) :
    Calls Tryz.prog 109 #[.agg #[.string s, .int .i64 k]] w (NameOut w s k ⟨#[]⟩ 5 k) := by
  have hS := fun w => sortOf_any (byteI s k) w
  rw [show sortI (byteI s k) = 2 by simpa [isLet] using hl] at hS
  have HS := Lib.hid hS
  have HP := Lib.hid (fun w => peek_any s k hk w)
  have HG := Lib.hid (fun w => goOn_Name1 s k hs hk w)
  have hj := runTo_le isIn s k hk
  have hj0 := le_runTo isIn s k hk
  generalize byteI s k = n at *
  generalize runTo isIn s k = j at *
  clear hl hS
  have hlong : (32 : Int) < (j : Int) - k := by omega
  have H0 := Lib.hid (InScan.new w s k 121)
  go_enter Tryz.func109, Tryz.ntmps109
  go_wp2_with fail
  refine (HP.out _).mono ?_
  rintro e w1 ⟨rfl, b1⟩
  have H1 := Lib.hid (H0.out.step b1)
  obtain ⟨l1, c0, c1, -⟩ := H1.out.own
  go_wp2_with fail
  refine (HS.out _).mono ?_
  rintro e w' ⟨rfl, rfl⟩
  go_wp2_with fail
  refine (HG.out _).mono ?_
  rintro e w2 ⟨rfl, b2⟩
  have H2 := Lib.hid (H1.out.step b2)
  have H3 := Lib.hid (H2.out.step (sbelow_new w2 (.cells #[.string s, .int .i64 j] 121)))
  obtain ⟨l2, d0, d1, -⟩ := H2.out.own
  go_wp2_with fail
  generalize w2.alloc (.cells #[.string s, .int .i64 j] 121) = w3 at *
  have hI := H3.out.drew
  have k0 := hI.own.2.1
  have k1 := hI.own.2.2.1
  go_region_held3 (fun w' => w'.cell? ⟨w.heap.size, 0, none⟩ = some (.string s) ∧ w'.cell? ⟨w.heap.size, 1, none⟩ = some (.int .i64 k))
    (first | go_keep | exact ⟨hI.own.2.1, hI.own.2.2.1⟩)
    (first
    | (go_at_call 84; refine (new_faults 5 k (by decide) _).mono ?_; rintro e w' ⟨v, rfl, hv, hb⟩; replace hI := hI.step hb; have x0 := hI.res.2.1; have x1 := hI.res.2.2.1; have xf := hI.res.2.2.2))
  go_wp2
  obtain ⟨⟨q0, q1⟩, hbl⟩ := hI.out k
  exact bodyPost_ret (v := .tuple #[.agg #[.string s, .int .i64 k], .string ⟨#[]⟩, v]) (by simp [results, Tryz.results109, go_sem, q0, q1]) rfl ⟨v, rfl, hv.set hI.res s k, hbl⟩
set_option maxRecDepth 100000 in
set_option maxHeartbeats 1000000 in
theorem name_yes (s : ByteArray) (k : Nat) (hs : s.size ≤ 100000) (hk : k ≤ s.size) (hl : isLet (byteI s k) = true) (h32 : runTo isIn s k - k ≤ 32) (w : World) :
    Calls Tryz.prog 109 #[.agg #[.string s, .int .i64 k]] w fun e w' => e = .returned (.tuple #[.agg #[.string s, .int .i64 (runTo isIn s k)], .string (s.extract k (runTo isIn s k)), .nilIface]) ∧ Below w.heap.size w w' := by
  have hS := fun w => sortOf_any (byteI s k) w
  rw [show sortI (byteI s k) = 2 by simpa [isLet] using hl] at hS
  have HS := Lib.hid hS
  have HP := Lib.hid (fun w => peek_any s k hk w)
  have HG := Lib.hid (fun w => goOn_Name1 s k hs hk w)
  have hj := runTo_le isIn s k hk
  have hj0 := le_runTo isIn s k hk
  generalize byteI s k = n at *
  generalize runTo isIn s k = j at *
  have HU := Lib.hid (fun w => upTo_any s k j hj0 hj w)
  generalize s.extract k j = t at *
  clear hl hS
  have hshort : ¬ (32 : Int) < (j : Int) - k := by omega
  have H0 := Lib.hid (InScan.new w s k 121)
  go_enter Tryz.func109, Tryz.ntmps109
  go_wp2_with fail
  refine (HP.out _).mono ?_
  rintro e w1 ⟨rfl, b1⟩
  have H1 := Lib.hid (H0.out.step b1)
  obtain ⟨l1, c0, c1, -⟩ := H1.out.own
  go_wp2_with fail
  refine (HS.out _).mono ?_
  rintro e w' ⟨rfl, rfl⟩
  go_wp2_with fail
  refine (HG.out _).mono ?_
  rintro e w2 ⟨rfl, b2⟩
  have H2 := Lib.hid (H1.out.step b2)
  have H3 := Lib.hid (H2.out.step (sbelow_new w2 (.cells #[.string s, .int .i64 j] 121)))
  have HN3 := Lib.hid (ScanAt.new w2 s j 121)
  have hne : w2.heap.size ≠ w.heap.size + 1 := by have := H2.out.res.1; omega
  obtain ⟨l2, d0, d1, -⟩ := H2.out.own
  go_wp2_with fail
  generalize w2.alloc (.cells #[.string s, .int .i64 j] 121) = w3 at *
  generalize w2.heap.size = q at *
  have hI := H3.out.drew
  have hN : ScanAt w3.drew q s j := HN3.out
  have k0 := hI.own.2.1
  have k1 := hI.own.2.2.1
  have n0 := hN.2.1
  have n1 := hN.2.2.1
  have hne' := hne.symm
  go_region_held3 (fun w' => w'.cell? ⟨w.heap.size, 0, none⟩ = some (.string s) ∧ w'.cell? ⟨w.heap.size, 1, none⟩ = some (.int .i64 k) ∧ w'.cell? ⟨q, 0, none⟩ = some (.string s) ∧ w'.cell? ⟨q, 1, none⟩ = some (.int .i64 j))
    (first | go_keep | exact ⟨hI.own.2.1, hI.own.2.2.1, hN.2.1, hN.2.2.1⟩)
    (first
    | (go_at_call 145; refine (HU.out _).mono ?_; rintro e w' ⟨rfl, hb⟩; replace hI := hI.step hb; replace hN := hN.step hb; have x0 := hI.res.2.1; have x1 := hI.res.2.2.1; have xf := hI.res.2.2.2))
  go_wp2
  obtain ⟨⟨q0, q1⟩, hbl⟩ := hI.out j
  exact bodyPost_ret (v := .tuple #[.agg #[.string s, .int .i64 j], .string t, .nilIface]) (by simp [results, Tryz.results109, go_sem, q0, q1]) rfl ⟨rfl, hbl⟩
theorem name_any (s : ByteArray) (k : Nat) (hs : s.size ≤ 100000) (hk : k ≤ s.size) (w : World) :
    Calls Tryz.prog 109 #[.agg #[.string s, .int .i64 k]] w (NameOut w s (nameK s k) (nameT s k) (nameC s k) (nameK s k)) := by
  by_cases hl : isLet (byteI s k) = true
  · by_cases h32 : runTo isIn s k - k ≤ 32
    · unfold nameK nameT nameC
      rw [if_pos ⟨hl, h32⟩, if_pos ⟨hl, h32⟩, if_pos hl, if_pos h32]
      refine (name_yes s k hs hk hl h32 w).mono ?_
      rintro e w' ⟨rfl, hb⟩
      exact ⟨_, rfl, .nilE _ _, hb⟩
    · unfold nameK nameT nameC
      rw [if_neg (fun h => h32 h.2), if_neg (fun h => h32 h.2), if_pos hl, if_neg h32]
      exact name_long s k hs hk hl (by omega) w
  · unfold nameK nameT nameC
    rw [if_neg (fun h => hl h.1), if_neg (fun h => hl h.1), if_neg hl]
    exact name_none s k hs hk hl w
def digsR (s : ByteArray) (k : Nat) : Int × Int × Int := parseR (s.extract k (runTo isDig s k)).data.toList
def NumOut (w : World) (s : ByteArray) (k : Nat) (n c a : Int) (e : Ending) (w' : World) : Prop :=
  ∃ v, e = .returned (.tuple #[.agg #[.string s, .int .i64 k], .int .u64 n, v]) ∧ ErrIs w' v c a ∧ Below w.heap.size w w'
set_option maxRecDepth 100000 in
set_option maxHeartbeats 1000000 in
theorem number_bad (s : ByteArray) (k : Nat) (hs : s.size ≤ 100000) (hk : k ≤ s.size) (hj : runTo isDig s k ≠ k) (hc : (digsR s k).2.1 ≠ 0) (w : World) (hg : Handle w) :
    Calls Tryz.prog 110 #[.agg #[.string s, .int .i64 k]] w (NumOut w s k 0 (digsR s k).2.1 k) := by
  have hP : ∀ w, Calls Tryz.prog 147 #[.string (s.extract k (runTo isDig s k))] w fun e w' => e = .returned (.tuple #[.int .u64 (digsR s k).1, .iface 154 (.pointer (some ⟨w.heap.size, 0, none⟩))]) ∧
      ChainAt w' (.fault w.heap.size (digsR s k).2.1 (digsR s k).2.2) [] (.iface 154 (.pointer (some ⟨w.heap.size, 0, none⟩))) ∧ Below w.heap.size w w' := fun w =>
    (parse_any (s.extract k (runTo isDig s k)) w (by have := runTo_le isDig s k hk; unfold maxLen; simp; omega)).mono (by
      rintro e w' (⟨h, -⟩ | ⟨h, rfl, rfl⟩)
      · exact absurd h hc
      · exact ⟨rfl, new_chain _ _ w, below_alloc _ _⟩)
  have HP := Lib.hid hP
  have HG := Lib.hid (fun w => goOn_Number1 s k hs hk w)
  have HNW := Lib.hid (fun w => new_faults (digsR s k).2.1 k hc w)
  have hj1 := runTo_le isDig s k hk
  have hj0 := le_runTo isDig s k hk
  generalize (digsR s k).1 = n at *
  generalize (digsR s k).2.1 = c at *
  generalize (digsR s k).2.2 = a at *
  generalize runTo isDig s k = j at *
  have HU := Lib.hid (fun w => upTo_any s k j hj0 hj1 w)
  generalize s.extract k j = t at *
  have hjb : ((j : Int) == (k : Int)) = false := by rw [beq_eq_false_iff_ne]; omega
  clear hP hc hj
  have H0 := Lib.hid (InScan.new w s k 121)
  go_enter Tryz.func110, Tryz.ntmps110
  go_wp2_with fail
  refine (HG.out _).mono ?_
  rintro e w2 ⟨rfl, b2⟩
  have H2 := Lib.hid (H0.out.step b2)
  have H3 := Lib.hid (H2.out.step (sbelow_new w2 (.cells #[.string s, .int .i64 j] 121)))
  have HN3 := Lib.hid (ScanAt.new w2 s j 121)
  obtain ⟨l2, d0, d1, -⟩ := H2.out.own
  go_wp2_with fail
  generalize w2.alloc (.cells #[.string s, .int .i64 j] 121) = w3 at *
  generalize w2.heap.size = q at *
  refine (HU.out _).mono ?_
  rintro e w4 ⟨rfl, b4⟩
  have H4 := Lib.hid (H3.out.step b4)
  go_wp2_with fail
  refine (HP.out _).mono ?_
  rintro e w5 ⟨rfl, hch, b5⟩
  have H5 := Lib.hid (H4.out.step b5)
  have HC5 := Lib.hid hch
  have hg5' : Handle w5 := hg.below H5.out.below
  have hg5 : Handle w5.drew := hg5'
  clear hch
  generalize w4.heap.size = fb at *
  go_wp2_with fail
  have hI := H5.out.drew
  have hC : ChainAt w5.drew (.fault fb c a) [] (.iface 154 (.pointer (some ⟨fb, 0, none⟩))) := HC5.out
  have k0 := hI.own.2.1
  have k1 := hI.own.2.2.1
  go_region_held3 (fun w' => w'.cell? ⟨w.heap.size, 0, none⟩ = some (.string s) ∧ w'.cell? ⟨w.heap.size, 1, none⟩ = some (.int .i64 k))
    (first | go_keep | exact ⟨hI.own.2.1, hI.own.2.2.1⟩)
    (first
    | (go_at_call 107; refine (code_some _ c rfl _ _ _ hC hg5).mono ?_; rintro e w' ⟨rfl, hb⟩; replace hI := hI.step hb)
    | (go_at_call 84; refine (HNW.out _).mono ?_; rintro e w' ⟨v, rfl, hv, hb⟩; replace hI := hI.step hb; have x0 := hI.res.2.1; have x1 := hI.res.2.2.1; have xf := hI.res.2.2.2))
  go_wp2
  obtain ⟨⟨q0, q1⟩, hbl⟩ := hI.out k
  exact bodyPost_ret (v := .tuple #[.agg #[.string s, .int .i64 k], .int .u64 0, v]) (by simp [results, Tryz.results110, go_sem, q0, q1]) rfl ⟨v, rfl, hv.set hI.res s k, hbl⟩
end Go.Proofs.YtbhkfifmgbcknaaGreatDoor
namespace Go.Proofs.YtbhkfifmgbcknaaGreatDoor
open Go.RowKit Go.Extern.Stop Go.Stop Go.Extern
end Go.Proofs.YtbhkfifmgbcknaaGreatDoor
namespace Go.Proofs.YtbhkfifmgbcknaaGreatDoor
open Go.RowKit Go.Extern.Stop Go.Stop Go.Extern
def isNameR (s : ByteArray) : Bool := (nameC s 0 == 0) && (nameK s 0 == s.size)
def isNameB (s : ByteArray) : Bool := decide (s.size ≤ 65536) && isNameR s
theorem isNameB_eq {s : ByteArray} (h : s.size ≤ 65536) : isNameB s = isNameR s := by unfold isNameB; rw [decide_eq_true h]; rfl
theorem ErrIs.ptr {w : World} {v : Value} {c a : Int} (h : ErrIs w v c a) (h0 : c ≠ 0) : ∃ fb, v = .iface 154 (.pointer (some ⟨fb, 0, none⟩)) := by
  rcases h with ⟨rfl, -⟩ | ⟨-, fb, e, -⟩
  · exact absurd rfl h0
  · exact ⟨fb, e⟩
set_option maxRecDepth 100000 in
set_option maxHeartbeats 1000000 in
theorem isName_long (s : ByteArray) (hs : s.size ≤ maxLen) (h : 65536 < s.size) (w : World) :
    Calls Tryz.prog 162 #[.string s] w fun e w' => e = .returned (.bool false) ∧ Below w.heap.size w w' := by
  have HN := Lib.hid (fun w => scanNew_long s h hs w)
  clear h hs
  go_enter Tryz.func162, Tryz.ntmps162
  go_wp2_with fail
  refine (HN.out _).mono ?_
  rintro e w1 ⟨v, rfl, hv, b1⟩
  obtain ⟨fb, rfl⟩ := hv.ptr (by decide)
  clear hv
  go_wp2_with fail
  go_ret
  exact ⟨rfl, b1.trans ((sbelow_new _ _).mono b1.size)⟩
set_option maxRecDepth 100000 in
set_option maxHeartbeats 1000000 in
theorem isName_short (s : ByteArray) (h : s.size ≤ 65536) (w : World) :
    Calls Tryz.prog 162 #[.string s] w fun e w' => e = .returned (.bool (isNameR s)) ∧ Below w.heap.size w w' := by
  have HN := Lib.hid (fun w => scanNew_any s h w)
  have HA := Lib.hid (fun w => name_any s 0 (by omega) (Nat.zero_le _) w)
  have hkl := nameK_le s 0 (Nat.zero_le _)
  unfold isNameR
  generalize nameK s 0 = k at *
  generalize nameC s 0 = c at *
  generalize nameT s 0 = t at *
  have HE := Lib.hid (fun w => end_any s k w)
  by_cases hc : c = 0
  · subst hc
    have HB := Lib.hid (show ((0 : Int) == 0 && (k == s.size)) = decide (k = s.size) by rw [show ((0 : Int) == 0) = true from rfl, Bool.true_and, Bool.eq_iff_iff]; simp)
    rw [HB.out]
    clear HB
    generalize decide (k = s.size) = b at *
    go_enter Tryz.func162, Tryz.ntmps162
    go_wp2_with fail
    refine (HN.out _).mono ?_
    rintro e w1 ⟨rfl, b1⟩
    have hs1 := ScanAt.new w1 s 0 121
    have HB1 := Lib.hid (b1.trans ((sbelow_new w1 (.cells #[.string s, .int .i64 0] 121)).mono b1.size))
    have HL := Lib.hid b1.size
    go_wp2_with fail
    generalize w1.alloc (.cells #[.string s, .int .i64 0] 121) = w2 at *
    generalize w1.heap.size = q at *
    refine (HA.out _).mono ?_
    rintro e w3 ⟨v, rfl, hv, b3⟩
    obtain rfl := hv.nil_of
    have hs3 := hs1.step b3
    have hs4 := hs3.set s k
    have HB3 := Lib.hid (((HB1.out.trans (b3.mono HB1.out.size)).setCell (p := ⟨q, 0, none⟩) HL.out (.string s)).setCell (p := ⟨q, 1, none⟩) HL.out (.int .i64 k))
    clear hs1
    obtain ⟨l3, c0, c1, cf⟩ := hs3
    obtain ⟨l4, d0, d1, df⟩ := hs4
    go_wp2_with fail
    refine (HE.out _).mono ?_
    rintro e w5 ⟨rfl, b5⟩
    go_wp2_with fail
    go_ret
    exact ⟨rfl, HB3.out.trans (b5.mono HB3.out.size)⟩
  · have HB := Lib.hid (show ((c == 0) && (k == s.size)) = false by rw [show (c == 0) = false by simpa using hc]; rfl)
    rw [HB.out]
    clear HB
    go_enter Tryz.func162, Tryz.ntmps162
    go_wp2_with fail
    refine (HN.out _).mono ?_
    rintro e w1 ⟨rfl, b1⟩
    have hs1 := ScanAt.new w1 s 0 121
    have HB1 := Lib.hid (b1.trans ((sbelow_new w1 (.cells #[.string s, .int .i64 0] 121)).mono b1.size))
    have HL := Lib.hid b1.size
    go_wp2_with fail
    generalize w1.alloc (.cells #[.string s, .int .i64 0] 121) = w2 at *
    generalize w1.heap.size = q at *
    refine (HA.out _).mono ?_
    rintro e w3 ⟨v, rfl, hv, b3⟩
    obtain ⟨fb, rfl⟩ := hv.ptr hc
    clear hv
    have hs3 := hs1.step b3
    have HB3 := Lib.hid (((HB1.out.trans (b3.mono HB1.out.size)).setCell (p := ⟨q, 0, none⟩) HL.out (.string s)).setCell (p := ⟨q, 1, none⟩) HL.out (.int .i64 k))
    clear hs1
    obtain ⟨l3, c0, c1, cf⟩ := hs3
    go_wp2_with fail
    go_ret
    exact ⟨rfl, HB3.out⟩
theorem isName_any (s : ByteArray) (hs : s.size ≤ maxLen) (w : World) :
    Calls Tryz.prog 162 #[.string s] w fun e w' => e = .returned (.bool (isNameB s)) ∧ Below w.heap.size w w' := by
  by_cases h : s.size ≤ 65536
  · rw [isNameB_eq h]; exact isName_short s h w
  · rw [show isNameB s = false by unfold isNameB; rw [decide_eq_false h]; rfl]
    exact isName_long s hs (by omega) w
end Go.Proofs.YtbhkfifmgbcknaaGreatDoor
namespace Go.Proofs.YtbhkfifmgbcknaaGreatDoor
open Go.RowKit Go.Extern.Stop Go.Stop Go.Extern
end Go.Proofs.YtbhkfifmgbcknaaGreatDoor
namespace Go.Proofs.YtbhkfifmgbcknaaGreatDoor
open Go.RowKit Go.Extern.Stop Go.Stop Go.Extern
def lkCells (ls : List Lk) : List Value := ls.flatMap fun l => [.string l.nm, .int .i64 l.fr, .int .i64 l.to, .int .u64 l.ds]
theorem lkCells_at : ∀ {c : List Lk} {i : Nat} {l : Lk}, c[i]? = some l → (lkCells c)[i * 4]? = some (.string l.nm) ∧ (lkCells c)[i * 4 + 1]? = some (.int .i64 l.fr) ∧ (lkCells c)[i * 4 + 2]? = some (.int .i64 l.to) ∧ (lkCells c)[i * 4 + 3]? = some (.int .u64 l.ds)
  | [], _, _, h => by simp at h
  | a :: c, 0, o, h => by
    obtain rfl : a = o := by simpa using h
    exact ⟨rfl, rfl, rfl, rfl⟩
  | a :: c, i + 1, o, h => by
    have := lkCells_at (c := c) (i := i) (l := o) (by simpa using h)
    have e : lkCells (a :: c) = .string a.nm :: .int .i64 a.fr :: .int .i64 a.to :: .int .u64 a.ds :: lkCells c := rfl
    rw [e, show (i + 1) * 4 = i * 4 + 1 + 1 + 1 + 1 by omega]
    exact this
theorem LksAt.own {w : World} {base : Nat} {T : TypeId} {v : Value} {n : Nat} {c : List Lk} (h : w.ownsRow base T 4 v n (lkCells c)) (hn : n = c.length) : LksAt w v c := by
  subst hn
  have hc := h
  obtain ⟨h1, h2⟩ := h
  rcases h2 with ⟨rfl, h3⟩ | ⟨g, cap, cur, rfl, hg, hh, h3, h4, h5, h6⟩
  · exact .inl ⟨none, 0, rfl, List.eq_nil_of_length_eq_zero h3⟩
  · refine .inr ⟨g, 0, cap, rfl, (Array.getElem?_eq_some_iff.1 hh).1, fun i o ho => ?_⟩
    obtain ⟨k0, k1, k2, k3⟩ := lkCells_at ho
    have e0 : ∀ j, (⟨g, 0, none⟩ : Addr).add j = ⟨g, 0 + j, none⟩ := fun j => by unfold Addr.add; split <;> simp_all
    have a0 := hc.cells (g := g) rfl _ _ k0
    have a1 := hc.cells (g := g) rfl _ _ k1
    have a2 := hc.cells (g := g) rfl _ _ k2
    have a3 := hc.cells (g := g) rfl _ _ k3
    rw [e0] at a0 a1 a2 a3
    exact ⟨a0, by rw [Nat.add_assoc]; exact a1, by rw [Nat.add_assoc]; exact a2, by rw [Nat.add_assoc]; exact a3⟩
end Go.Proofs.YtbhkfifmgbcknaaGreatDoor
namespace Go.Proofs.YtbhkfifmgbcknaaGreatDoor
open Go.RowKit Go.Extern.Stop Go.Stop Go.Extern
theorem hcell {W : World} {b : Nat} {v0 v1 : Value} {T : TypeId} (h : W.heap[b]? = some (.cells #[v0, v1] T (0, 0))) : W.cell? ⟨b, 0, none⟩ = some v0 ∧ W.cell? ⟨b, 1, none⟩ = some v1 ∧ ∀ i, W.frozen? ⟨b, i, none⟩ = false :=
  ⟨by rw [Lib.cell_of_heap h]; rfl, by rw [Lib.cell_of_heap h]; rfl, fun i => by unfold World.frozen?; rw [h]; simp⟩
theorem hlt {W : World} {b : Nat} {o : Obj} (h : W.heap[b]? = some o) : b < W.heap.size := (Array.getElem?_eq_some_iff.1 h).1
end Go.Proofs.YtbhkfifmgbcknaaGreatDoor
namespace Go.Proofs.YtbhkfifmgbcknaaGreatDoor
open Go.RowKit Go.Extern.Stop Go.Stop Go.Extern
structure GoodT (rs : List ByteArray) (ls : List Lk) : Prop where
  nr : rs.length ≤ 64
  nl : ls.length ≤ 64
  may : MayL rs.length ls
  rr : ∀ (i : Nat) (s t : ByteArray), rs[i]? = some s → rs[i + 1]? = some t → ltB s t = true
  rl : ∀ (i : Nat) (l m : Lk), ls[i]? = some l → ls[i + 1]? = some m → ltB l.nm m.nm = true
def LkB (w : World) (T : TypeId) (b : Nat) (l : Lk) : Prop := w.heap[b]? = some (.cells #[.string l.nm, .int .i64 l.fr, .int .i64 l.to, .int .u64 l.ds] T (0, 0))
theorem LkB.step {w w' : World} {T : TypeId} {b : Nat} {l : Lk} (h : LkB w T b l) (hb : Below w.heap.size w w') : LkB w' T b l := (hb.block _ (hlt h)).trans h
theorem LkB.cells {w : World} {T : TypeId} {b : Nat} {l : Lk} (h : LkB w T b l) : w.cell? ⟨b, 0, none⟩ = some (.string l.nm) ∧ w.cell? ⟨b, 1, none⟩ = some (.int .i64 l.fr) ∧ w.cell? ⟨b, 2, none⟩ = some (.int .i64 l.to) ∧ w.cell? ⟨b, 3, none⟩ = some (.int .u64 l.ds) :=
  ⟨by rw [Lib.cell_of_heap h]; rfl, by rw [Lib.cell_of_heap h]; rfl, by rw [Lib.cell_of_heap h]; rfl, by rw [Lib.cell_of_heap h]; rfl⟩
end Go.Proofs.YtbhkfifmgbcknaaGreatDoor
namespace Go.Proofs.YtbhkfifmgbcknaaGreatDoor
open Go.RowKit Go.Extern.Stop Go.Stop Go.Extern
set_option maxHeartbeats 1000000 in
theorem nameFault_ok (s t : ByteArray) (hs : s.size ≤ maxLen) (hn : isNameB s = true) (hl : ltB t s = true) (w : World) :
    Calls Tryz.prog 398 #[.string s, .string t] w fun e w' => e = .returned (.int .i64 0) ∧ Below w.heap.size w w' := by
  have HN := Lib.hid (isName_any s hs w)
  rw [hn] at HN
  have hle : (Op.bytesLess s.toList t.toList || s.toList == t.toList) = false := by
    rw [Bool.or_eq_false_iff]
    refine ⟨ltB_asymm hl, ?_⟩
    rw [beq_eq_false_iff_ne]
    intro e
    rw [Go.ByteArray.toList_eq, Go.ByteArray.toList_eq] at e
    have : s = t := bytes_ext e
    subst this
    rw [ltB_irrefl] at hl
    cases hl
  clear hn hl hs
  go_enter Tryz.func398, Tryz.ntmps398
  go_wp2_with fail
  refine HN.out.mono ?_
  rintro e w2 ⟨rfl, b2⟩
  have HB := Lib.hid b2
  clear b2
  go_wp2_with fail
  go_ret
  exact ⟨rfl, HB.out⟩
set_option maxHeartbeats 1000000 in
theorem orE_zero (b : Nat) (w : World) (c0 : w.cell? ⟨b, 0, none⟩ = some (.int .i64 0)) (c1 : w.cell? ⟨b, 1, none⟩ = some (.int .i64 0)) :
    Calls Tryz.prog 397 #[.slice (some ⟨b, 0, none⟩) 2 2] w fun e w' => e = .returned (.int .i64 0) ∧ w' = w := by
  go_enter Tryz.func397, Tryz.ntmps397
  go_wp2_with fail
  go_loop [8] (fun u => ∃ k : Nat, k ≤ 2 ∧ u = .int .i64 k) (fun u => 2 - (intOf u).toNat)
  case atStart => exact ⟨0, by omega, rfl⟩
  case round =>
    obtain ⟨k, hk, rfl⟩ := hrel
    rcases k with _ | _ | _ | k
    · go_wp2_with fail
      go_round
      case rel => exact ⟨1, by omega, rfl⟩
      case measure => simp [intOf]
    · go_wp2_with fail
      go_round
      case rel => exact ⟨2, by omega, rfl⟩
      case measure => simp [intOf]
    · go_wp2_with fail
      go_ret
      exact ⟨rfl, rfl⟩
    · omega
set_option maxHeartbeats 400000 in
theorem check1_any (i : Int) (w : World) : Calls Tryz.prog 376 #[.int .i64 i] w fun e w' => e = .returned (.int .i64 0) ∧ Below w.heap.size w w' := by
  go_enter Tryz.func376, Tryz.ntmps376
  go_wp2
  go_ret
  exact ⟨rfl, Below.refl _ _⟩
set_option maxHeartbeats 1000000 in
theorem hasRouter_any (i : Int) (vr vl : Value) (rs : List ByteArray) (ls : List Lk) (w : World) (ht : TpAt w vr vl rs ls) (hi : InN rs.length i) :
    Calls Tryz.prog 399 #[.agg #[vr, vl], .int .i64 i] w fun e w' => e = .returned (.bool true) ∧ Below w.heap.size w w' := by
  have HT := Lib.hid (TB.start ht)
  obtain ⟨ra, rcap, rfl⟩ := ht.rs.form
  have k0 := HT.out.c0
  unfold InN at hi
  obtain ⟨h0, h1⟩ := hi
  clear ht
  go_enter Tryz.func399, Tryz.ntmps399
  go_wp2
  go_ret
  exact ⟨rfl, HT.out.below⟩
set_option maxRecDepth 100000 in
set_option maxHeartbeats 2000000 in
theorem linkFault_any (i : Nat) (vr vl : Value) (rs : List ByteArray) (ls : List Lk) (w : World) (ht : TpAt w vr vl rs ls) (hm : MayL rs.length ls) (hi : i < ls.length) :
    Calls Tryz.prog 379 #[.agg #[vr, vl], .int .i64 i] w fun e w' => e = .returned (.int .i64 0) ∧ Below w.heap.size w w' := by
  obtain ⟨l, hx⟩ : ∃ l, ls[i]? = some l := ⟨_, List.getElem?_eq_getElem hi⟩
  obtain ⟨hf, hto, _, hds⟩ := hm i l hx
  have hT := TB.start ht
  obtain ⟨la, lcap, rfl⟩ := ht.ls.form
  obtain ⟨b, off, rfl, c0, c1, c2, c3⟩ := hT.tp.ls.at hx (Below.refl _ _)
  have k0 := hT.c0
  have k1 := hT.c1
  have hbn := below_new (w.alloc (.cells #[vr, .slice (some ⟨b, off, none⟩) ls.length lcap] 99)) (.cells #[.string l.nm, .int .i64 l.fr, .int .i64 l.to, .int .u64 l.ds] 234)
  have hT2 := hT.step hbn
  have hB2 : LkB ((w.alloc (.cells #[vr, .slice (some ⟨b, off, none⟩) ls.length lcap] 99)).alloc (.cells #[.string l.nm, .int .i64 l.fr, .int .i64 l.to, .int .u64 l.ds] 234)) 234 (w.heap.size + 1) l := by
    have := heap_alloc_new (w.alloc (.cells #[vr, .slice (some ⟨b, off, none⟩) ls.length lcap] 99)) (.cells #[.string l.nm, .int .i64 l.fr, .int .i64 l.to, .int .u64 l.ds] 234)
    rwa [World.size_alloc] at this
  have m0 := hT2.c0
  have m1 := hT2.c1
  obtain ⟨x0, x1, x2, x3⟩ := hB2.cells
  have HT2 := Lib.hid hT2
  have HB2 := Lib.hid hB2
  have HF := Lib.hid (fun W h => hasRouter_any l.fr vr (.slice (some ⟨b, off, none⟩) ls.length lcap) rs ls W h hf)
  have HO := Lib.hid (fun W h => hasRouter_any l.to vr (.slice (some ⟨b, off, none⟩) ls.length lcap) rs ls W h hto)
  have hds' : ¬ (9223372036854775807 : Int) < l.ds := by unfold most at hds; omega
  clear ht hm hx hf hto hds hT hbn hT2 hB2
  go_enter Tryz.func379, Tryz.ntmps379
  go_wp2_with fail
  refine (HF.out _ HT2.out.tp).mono ?_
  rintro e w2 ⟨rfl, b2⟩
  have HT3 := Lib.hid (HT2.out.step b2)
  have HB3 := Lib.hid (HB2.out.step b2)
  clear c0 c1 c2 c3 k0 k1 m0 m1 x0 x1 x2 x3 b2 HF HT2 HB2
  have m0 := HT3.out.c0
  have m1 := HT3.out.c1
  obtain ⟨x0, x1, x2, x3⟩ := HB3.out.cells
  go_wp2_with fail
  refine (HO.out _ HT3.out.tp).mono ?_
  rintro e w3 ⟨rfl, b3⟩
  have HT4 := Lib.hid (HT3.out.step b3)
  have HB4 := Lib.hid (HB3.out.step b3)
  clear m0 m1 x0 x1 x2 x3 b3 HO HT3 HB3
  obtain ⟨x0, x1, x2, x3⟩ := HB4.out.cells
  go_wp2_with fail
  go_ret
  exact ⟨rfl, HT4.out.below⟩
def aheadN (ns : List ByteArray) (i : Nat) : ByteArray := if i = 0 then ⟨#[]⟩ else (ns[i - 1]?).getD ⟨#[]⟩
structure NamesOk (ns : List ByteArray) : Prop where
  len : ns.length ≤ 64
  ok : ∀ (i : Nat) (s : ByteArray), ns[i]? = some s → s.size ≤ 60 ∧ isNameB s = true ∧ ltB (aheadN ns i) s = true
def CnR (w : World) (ns : List ByteArray) (g : Nat) (u a : Value) (wr : World) : Prop :=
  ∃ i : Nat, i ≤ ns.length ∧ g = ns.length - i ∧ u = .int .i64 i ∧ a = .string (aheadN ns i) ∧ Below w.heap.size w wr
set_option maxRecDepth 100000 in
set_option maxHeartbeats 4000000 in
theorem named_tpCheck1 (v : Value) (ns : List ByteArray) (w : World) (hv : StrsAt w v ns) (hok : NamesOk ns)
    (HF : ∀ (i : Nat) (W : World), i < ns.length → Below w.heap.size w W → Calls Tryz.prog 376 #[.int .i64 i] W fun e w' => e = .returned (.int .i64 0) ∧ Below W.heap.size W w') :
    Calls Tryz.prog 377 #[v, .func (.func 376) #[] #[]] w fun e w' => e = .returned .nilIface ∧ Below w.heap.size w w' := by
  obtain ⟨a, cap, rfl⟩ := hv.form
  have HV := Lib.hid hv
  have HH := Lib.hid HF
  have h64 : ¬ (64 : Int) < ns.length := by have := hok.len; omega
  have H0 : Hid (CnR w ns ns.length (.int .i64 0) (.string ⟨#[]⟩) w) := Lib.hid ⟨0, Nat.zero_le _, by omega, rfl, rfl, Below.refl _ _⟩
  clear hv HF
  go_enter Tryz.func377, Tryz.ntmps377
  go_wp2_with fail
  go_loopg [15, 5] ns.length (fun g u a wr => CnR w ns g u a wr)
  case atStart => exact H0.out
  case round =>
    obtain ⟨i, hi, hgi, rfl, rfl, hb⟩ := hrel
    by_cases hlt : i < ns.length
    · obtain ⟨s, hx⟩ : ∃ s, ns[i]? = some s := ⟨_, List.getElem?_eq_getElem hlt⟩
      obtain ⟨b, off, rfl, c0⟩ := HV.out.at hx hb
      obtain ⟨hs, hn, hl⟩ := hok.ok i s hx
      have HN := Lib.hid (nameFault_ok s (aheadN ns i) (by unfold maxLen; omega) hn hl wr)
      have HA : Hid (aheadN ns (i + 1) = s) := Lib.hid (by unfold aheadN; simp [hx])
      have HB := Lib.hid hb
      generalize aheadN ns i = t at *
      clear hs hn hl hx hb
      go_wp2_with fail
      refine HN.out.mono ?_
      rintro e w2 ⟨rfl, b2⟩
      have HB2 := Lib.hid (HB.out.trans (b2.mono HB.out.size))
      have HF2 := Lib.hid (HH.out i w2 hlt HB2.out)
      clear b2 HB HN
      go_wp2_with fail
      refine HF2.out.mono ?_
      rintro e w3 ⟨rfl, b3⟩
      have HB3 := Lib.hid (HB2.out.trans (b3.mono HB2.out.size))
      have hn3 := heap_alloc_new w3 (.cells #[.int .i64 0, .int .i64 0] 128)
      have HB4 := Lib.hid (HB3.out.trans ((below_new w3 (.cells #[.int .i64 0, .int .i64 0] 128)).mono HB3.out.size))
      have HO := Lib.hid (orE_zero w3.heap.size _ (by rw [Lib.cell_of_heap hn3]; rfl) (by rw [Lib.cell_of_heap hn3]; rfl))
      clear b3 HB2 HF2 hn3 c0
      go_wp2_with fail
      refine HO.out.mono ?_
      rintro e w4 ⟨rfl, rfl⟩
      have H3 : Hid (CnR w ns (ns.length - (i + 1)) (.int .i64 ((i : Int) + 1)) (.string s) (w3.alloc (.cells #[.int .i64 0, .int .i64 0] 128))) := Lib.hid ⟨i + 1, by omega, rfl, by go_num, by rw [HA.out], HB4.out⟩
      go_wp2_with fail
      go_roundg (ns.length - (i + 1))
      case measure => omega
      case rel => exact H3.out
    · obtain rfl : i = ns.length := by omega
      have HB := Lib.hid hb
      clear hb
      go_wp2_with fail
      go_ret
      exact ⟨rfl, HB.out⟩
set_option maxRecDepth 100000 in
set_option maxHeartbeats 4000000 in
theorem named_tpFault (cv v : Value) (ns : List ByteArray) (w : World) (hv : StrsAt w v ns) (hok : NamesOk ns)
    (HF : ∀ (i : Nat) (W : World), i < ns.length → Below w.heap.size w W → Calls Tryz.prog 379 #[cv, .int .i64 i] W fun e w' => e = .returned (.int .i64 0) ∧ Below W.heap.size W w') :
    Calls Tryz.prog 377 #[v, .func (.func 379) #[cv] #[]] w fun e w' => e = .returned .nilIface ∧ Below w.heap.size w w' := by
  obtain ⟨a, cap, rfl⟩ := hv.form
  have HV := Lib.hid hv
  have HH := Lib.hid HF
  have h64 : ¬ (64 : Int) < ns.length := by have := hok.len; omega
  have H0 : Hid (CnR w ns ns.length (.int .i64 0) (.string ⟨#[]⟩) w) := Lib.hid ⟨0, Nat.zero_le _, by omega, rfl, rfl, Below.refl _ _⟩
  clear hv HF
  go_enter Tryz.func377, Tryz.ntmps377
  go_wp2_with fail
  go_loopg [15, 5] ns.length (fun g u a wr => CnR w ns g u a wr)
  case atStart => exact H0.out
  case round =>
    obtain ⟨i, hi, hgi, rfl, rfl, hb⟩ := hrel
    by_cases hlt : i < ns.length
    · obtain ⟨s, hx⟩ : ∃ s, ns[i]? = some s := ⟨_, List.getElem?_eq_getElem hlt⟩
      obtain ⟨b, off, rfl, c0⟩ := HV.out.at hx hb
      obtain ⟨hs, hn, hl⟩ := hok.ok i s hx
      have HN := Lib.hid (nameFault_ok s (aheadN ns i) (by unfold maxLen; omega) hn hl wr)
      have HA : Hid (aheadN ns (i + 1) = s) := Lib.hid (by unfold aheadN; simp [hx])
      have HB := Lib.hid hb
      generalize aheadN ns i = t at *
      clear hs hn hl hx hb
      go_wp2_with fail
      refine HN.out.mono ?_
      rintro e w2 ⟨rfl, b2⟩
      have HB2 := Lib.hid (HB.out.trans (b2.mono HB.out.size))
      have HF2 := Lib.hid (HH.out i w2 hlt HB2.out)
      clear b2 HB HN
      go_wp2_with fail
      refine HF2.out.mono ?_
      rintro e w3 ⟨rfl, b3⟩
      have HB3 := Lib.hid (HB2.out.trans (b3.mono HB2.out.size))
      have hn3 := heap_alloc_new w3 (.cells #[.int .i64 0, .int .i64 0] 128)
      have HB4 := Lib.hid (HB3.out.trans ((below_new w3 (.cells #[.int .i64 0, .int .i64 0] 128)).mono HB3.out.size))
      have HO := Lib.hid (orE_zero w3.heap.size _ (by rw [Lib.cell_of_heap hn3]; rfl) (by rw [Lib.cell_of_heap hn3]; rfl))
      clear b3 HB2 HF2 hn3 c0
      go_wp2_with fail
      refine HO.out.mono ?_
      rintro e w4 ⟨rfl, rfl⟩
      have H3 : Hid (CnR w ns (ns.length - (i + 1)) (.int .i64 ((i : Int) + 1)) (.string s) (w3.alloc (.cells #[.int .i64 0, .int .i64 0] 128))) := Lib.hid ⟨i + 1, by omega, rfl, by go_num, by rw [HA.out], HB4.out⟩
      go_wp2_with fail
      go_roundg (ns.length - (i + 1))
      case measure => omega
      case rel => exact H3.out
    · obtain rfl : i = ns.length := by omega
      have HB := Lib.hid hb
      clear hb
      go_wp2_with fail
      go_ret
      exact ⟨rfl, HB.out⟩
end Go.Proofs.YtbhkfifmgbcknaaGreatDoor
namespace Go.Proofs.YtbhkfifmgbcknaaGreatDoor
open Go.RowKit Go.Extern.Stop Go.Stop Go.Extern Go.Shelf
def marks (Ds : List Nat) : List Deferred := Ds.map fun D => { target := .collected D, args := #[] }
structure MarksAt (Ds : List Nat) (B : Nat) (w : World) : Prop where
  nd : Ds.Nodup
  mark : ∀ D ∈ Ds, B ≤ D ∧ w.heap[D]? = some (.deferred (some []))
theorem MarksAt.nil (B : Nat) (w : World) : MarksAt [] B w := ⟨List.nodup_nil, fun _ h => by cases h⟩
theorem MarksAt.keep {Ds : List Nat} {B : Nat} {w w' : World} (h : MarksAt Ds B w) (hk : KeepsOthers w w') : MarksAt Ds B w' :=
  ⟨h.nd, fun D hD => ⟨(h.mark D hD).1, hk.same D _ (h.mark D hD).2 rfl⟩⟩
theorem MarksAt.cons {Ds : List Nat} {B D S : Nat} {w : World} (h : MarksAt Ds B w) (hlt : ∀ E ∈ Ds, E < S) (hS : S ≤ D) (hB : B ≤ D) (hD : w.heap[D]? = some (.deferred (some []))) : MarksAt (D :: Ds) B w := by
  refine ⟨List.nodup_cons.2 ⟨fun h' => by have := hlt D h'; omega, h.nd⟩, fun E hE => ?_⟩
  rcases List.mem_cons.1 hE with rfl | hE
  · exact ⟨hB, hD⟩
  · exact h.mark E hE
theorem MarksAt.lt {Ds : List Nat} {B : Nat} {w : World} (h : MarksAt Ds B w) : ∀ E ∈ Ds, E < w.heap.size := fun E hE => (Array.getElem?_eq_some_iff.1 (h.mark E hE).2).1
theorem marks_own {β : Type} (Ds : List Nat) (B S : Nat) (hlt : ∀ E ∈ Ds, E < S) : OwnFrom S (fun (_ : β) W => MarksAt Ds B W) := fun _ X Y row hs hg hr =>
  ⟨hs.nd, fun D hD => ⟨(hs.mark D hD).1, (hg.block D (hs.lt D hD) (fun e => by have := (hr D e.symm).1; have := hlt D hD; omega)).trans (hs.mark D hD).2⟩⟩
structure Shut (B : Nat) (w w' : World) : Prop where
  below : Below B w w'
  cell : ∀ p v, w.cell? p = some v → w'.cell? p = some v
theorem leaves_marks {F : Fence} {n : Nat} {P : Program} {fn : Func} {tmps : Array Value} {R : Ending → World → Prop} {B : Nat} : ∀ (Ds : List Nat) (w : World), MarksAt Ds B w →
    (∀ w', Shut B w w' → ∃ v, (results fn tmps).run P w' = .ok v w' ∧ R (.returned v) w') → LeavesInM F n P fn tmps R (marks Ds) .returning w
  | [], w, _, h => h w ⟨Below.refl _ _, fun _ _ h => h⟩
  | D :: Ds, w, hm, h => by
    obtain ⟨hB, hD⟩ := hm.mark D (List.mem_cons_self ..)
    have hlt := (Array.getElem?_eq_some_iff.1 hD).1
    have hb : Below B w (w.putObj D (.deferred none)) := (Below.refl B w).grown (grownBy_putObj' w D _) (by omega) (fun k e => by cases e; exact hB)
    have hc : ∀ p v, w.cell? p = some v → (w.putObj D (.deferred none)).cell? p = some v := fun p v hp => cell_kept hp (grownBy_putObj' w D _) (fun r e => by cases e; exact ⟨_, hD, rfl⟩)
    refine ⟨by simp, .inl ⟨D, _, rfl, run_takeDeferred hD, ?_⟩⟩
    refine leaves_marks Ds _ ⟨(List.nodup_cons.1 hm.nd).2, fun E hE => ⟨(hm.mark E (List.mem_cons_of_mem _ hE)).1, ?_⟩⟩ fun w' hs => h w' ⟨hb.trans hs.below, fun p v hp => hs.cell p v (hc p v hp)⟩
    have hne : E ≠ D := fun e => (List.nodup_cons.1 hm.nd).1 (e ▸ hE)
    exact ((grownBy_putObj' w D (.deferred none)).block E (Array.getElem?_eq_some_iff.1 (hm.mark E (List.mem_cons_of_mem _ hE)).2).1 (fun e => by injection e with e; exact hne e)).trans (hm.mark E (List.mem_cons_of_mem _ hE)).2
theorem blk_kept {X Y : World} {row : Option Nat} {b : Nat} {o : Obj} (hs : X.heap[b]? = some o) (ho : o.isCells = true) (hg : X.grownBy Y row) (hr : ∀ r, row = some r → ∃ o' : Obj, X.heap[r]? = some o' ∧ o'.isCells = false) : Y.heap[b]? = some o :=
  (hg.block b (Array.getElem?_eq_some_iff.1 hs).1 (fun e => by
    obtain ⟨o', h1, h2⟩ := hr b e.symm
    rw [hs] at h1
    injection h1 with h1
    subst h1
    rw [ho] at h2
    cases h2)).trans hs
theorem keeps_below {W W' : World} (h : Below W.heap.size W W') : KeepsOthers W W' := ⟨h.size, fun i _ hi _ => (h.block i (Array.getElem?_eq_some_iff.1 hi).1).trans hi⟩
theorem SetAt.own {X Y : World} {row : Option Nat} {b x y : Nat} (hs : SetAt X b x y) (hg : X.grownBy Y row) (hr : ∀ r, row = some r → ∃ o : Obj, X.heap[r]? = some o ∧ o.isCells = false) : SetAt Y b x y := blk_kept hs rfl hg hr
end Go.Proofs.YtbhkfifmgbcknaaGreatDoor
