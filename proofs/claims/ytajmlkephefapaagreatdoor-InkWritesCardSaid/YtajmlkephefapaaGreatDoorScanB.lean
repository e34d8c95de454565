/-
  Package scan by contracts, second part: New, Skip, Take, Has: where they lead, and the error that each tells.
-/
import Derived.Test.YtajmlkephefapaaGreatDoorScanA
import Derived.Test.YtajmlkephefapaaGreatDoorAmtP
import Derived.Deep.RegionHeld3
namespace Go.Proofs.YtajmlkephefapaaGreatDoor
open Go.RowKit Go.Extern.Stop Go.Stop Go.Extern

/-- The error of a number at a place within nothing; none, where the number is 0. -/
def ErrIs (w : World) (v : Value) (c a : Int) : Prop := (c = 0 ∧ v = .nilIface) ∨ (c ≠ 0 ∧ ∃ fb, ChainAt w (.fault fb c a) [] v)
theorem ErrIs.keep {w w' : World} {v : Value} {c a : Int} (h : ErrIs w v c a) (hb : Below w.heap.size w w') : ErrIs w' v c a :=
  h.imp id (fun ⟨h0, fb, hc⟩ => ⟨h0, fb, hc.keep hb⟩)
theorem ErrIs.nilE (w : World) (a : Int) : ErrIs w .nilIface 0 a := .inl ⟨rfl, rfl⟩
theorem ErrIs.fault {w : World} {v : Value} {c a : Int} {fb : Nat} (h0 : c ≠ 0) (h : ChainAt w (.fault fb c a) [] v) : ErrIs w v c a := .inr ⟨h0, fb, h⟩
theorem ErrIs.nil_of {w : World} {v : Value} {a : Int} (h : ErrIs w v 0 a) : v = .nilIface := h.elim (·.2) (fun h => absurd rfl h.1)

/-- The error stays where a place is stored: a fault's first cell is a number, a place's is a text. -/
theorem ErrIs.set {w : World} {v : Value} {c a : Int} {b : Nat} {k : Int} {s : ByteArray} (h : ErrIs w v c a) (hs : ScanAt w b s k) (s' : ByteArray) (z : Int) :
    ErrIs ((w.setCell ⟨b, 0, none⟩ (.string s')).setCell ⟨b, 1, none⟩ (.int .i64 z)) v c a := by
  rcases h with h | ⟨h0, fb, e, hlt, h1, h2⟩
  · exact .inl h
  · have hne : fb ≠ b := by
      rintro rfl
      rw [hs.2.1] at h1
      cases h1
    refine .inr ⟨h0, fb, e, by rw [World.size_setCell, World.size_setCell]; exact hlt, ?_, ?_⟩
    · rw [World.cell?_setCell_other _ _ _ _ (by intro e; injection e with e; exact hne e.symm), World.cell?_setCell_other _ _ _ _ (by intro e; injection e with e; exact hne e.symm)]; exact h1
    · rw [World.cell?_setCell_other _ _ _ _ (by intro e; injection e with e; exact hne e.symm), World.cell?_setCell_other _ _ _ _ (by intro e; injection e with e; exact hne e.symm)]; exact h2

theorem lawIs_err (v : Value) (c a : Int) (w : World) (h : ErrIs w v c a) (hg : Handle w) :
    Calls Tryz.prog 9 #[v, .int .i64 c, .int .i64 a] w fun e w' => e = .returned (.bool true) ∧ Below w.heap.size w w' := by
  rcases h with ⟨rfl, rfl⟩ | ⟨h0, fb, hc⟩
  · refine (lawIs_nil a w).mono ?_
    rintro e w' ⟨rfl, rfl⟩
    exact ⟨rfl, Below.refl _ _⟩
  · exact lawIs_fault fb c a h0 v w hc hg

/-- What a call answers that makes a fault, in memory. -/
def Faults (w : World) (c a : Int) (e : Ending) (w' : World) : Prop := ∃ v, e = .returned v ∧ ErrIs w' v c a ∧ Below w.heap.size w w'
theorem new_faults (c a : Int) (h0 : c ≠ 0) (w : World) : Calls Tryz.prog 30 #[.int .i64 c, .int .i64 a] w (Faults w c a) := by
  refine (new_any c a h0 w).mono ?_
  rintro e w' ⟨rfl, rfl⟩
  exact ⟨_, rfl, .fault h0 (new_chain c a w), below_alloc _ _⟩

/-- The error that a text ends, or that another byte stands there. -/
def missC (s : ByteArray) (k : Nat) : Int := if k < s.size then 4 else 3
theorem missC_ne (s : ByteArray) (k : Nat) : missC s k ≠ 0 := by unfold missC; split <;> decide

set_option maxHeartbeats 400000 in
theorem missing_any (s : ByteArray) (k : Nat) (hk : k ≤ s.size) (w : World) :
    Calls Tryz.prog 88 #[.agg #[.string s, .int .i64 k]] w (Faults w (missC s k) k) := by
  by_cases h : k < s.size
  · rw [show missC s k = 4 by unfold missC; rw [if_pos h]]
    have hE := fun w => end_any s k w
    rw [decide_eq_false (by omega)] at hE
    have HE := Lib.hid hE
    clear hE
    go_enter Tryz.func88, Tryz.ntmps88
    go_wp2_with fail
    refine (HE.out _).mono ?_
    rintro e w1 ⟨rfl, b1⟩
    have hat := (ScanAt.new w s k 58).step b1
    obtain ⟨-, c0, c1, -⟩ := hat
    go_wp2_with fail
    refine (new_faults 4 k (by decide) _).mono ?_
    rintro e w2 ⟨v, rfl, hv, b2⟩
    have HV := Lib.hid hv
    clear hv
    go_wp2_with fail
    go_ret
    exact ⟨v, rfl, HV.out, (sbelow_new _ _).trans ((b1.trans (b2.mono b1.size)).mono (by simp))⟩
  · rw [show missC s k = 3 by unfold missC; rw [if_neg h]]
    have hE := fun w => end_any s k w
    rw [decide_eq_true (by omega)] at hE
    have HE := Lib.hid hE
    clear hE
    go_enter Tryz.func88, Tryz.ntmps88
    go_wp2_with fail
    refine (HE.out _).mono ?_
    rintro e w1 ⟨rfl, b1⟩
    have hat := (ScanAt.new w s k 58).step b1
    obtain ⟨-, c0, c1, -⟩ := hat
    go_wp2_with fail
    refine (new_faults 3 k (by decide) _).mono ?_
    rintro e w2 ⟨v, rfl, hv, b2⟩
    have HV := Lib.hid hv
    clear hv
    go_wp2_with fail
    go_ret
    exact ⟨v, rfl, HV.out, (sbelow_new _ _).trans ((b1.trans (b2.mono b1.size)).mono (by simp))⟩

/-! ### New -/
set_option maxHeartbeats 400000 in
theorem scanNew_any (s : ByteArray) (h : s.size ≤ 65536) (w : World) :
    Calls Tryz.prog 27 #[.string s] w fun e w' => e = .returned (.tuple #[.agg #[.string s, .int .i64 0], .nilIface]) ∧ Below w.heap.size w w' := by
  go_enter Tryz.func27, Tryz.ntmps27
  go_wp2
  exact bodyPost_ret (v := .tuple #[.agg #[.string s, .int .i64 0], .nilIface]) (by simp [results, Tryz.results27, go_sem]) rfl ⟨rfl, sbelow_new _ _⟩

/-- A place of a text, and an error, both told. -/
def PlaceErr (w : World) (s : ByteArray) (k : Nat) (c a : Int) (e : Ending) (w' : World) : Prop :=
  ∃ v, e = .returned (.tuple #[.agg #[.string s, .int .i64 k], v]) ∧ ErrIs w' v c a ∧ Below w.heap.size w w'

set_option maxHeartbeats 400000 in
theorem scanNew_long (s : ByteArray) (h : 65536 < s.size) (hs : s.size ≤ maxLen) (w : World) :
    Calls Tryz.prog 27 #[.string s] w (PlaceErr w ⟨#[]⟩ 0 5 65536) := by
  unfold maxLen at hs
  go_enter Tryz.func27, Tryz.ntmps27
  go_wp2_with fail
  refine (new_faults 5 65536 (by decide) _).mono ?_
  rintro e w2 ⟨v, rfl, hv, b2⟩
  have hr := (ScanAt.new w ⟨#[]⟩ 0 58).step b2
  have HS := Lib.hid (hr.put ⟨#[]⟩ 0)
  have HV := Lib.hid (hv.set hr ⟨#[]⟩ 0)
  have HB := Lib.hid ((((sbelow_new w _).trans (b2.mono (by simp))).setCell (p := ⟨w.heap.size, 0, none⟩) (Nat.le_refl _) (.string ⟨#[]⟩)).setCell (p := ⟨w.heap.size, 1, none⟩) (Nat.le_refl _) (.int .i64 0))
  obtain ⟨-, c0, c1, cf⟩ := hr
  clear hv
  go_wp2_with fail
  obtain ⟨q0, q1⟩ := HS.out
  exact bodyPost_ret (v := .tuple #[.agg #[.string ⟨#[]⟩, .int .i64 0], v]) (by simp [results, Tryz.results27, go_sem, q0, q1]) rfl ⟨v, rfl, HV.out, HB.out⟩

/-! ### Skip, Take, Has -/
set_option maxHeartbeats 400000 in
theorem skip_any (s : ByteArray) (k : Nat) (hs : s.size ≤ 100000) (hk : k ≤ s.size) (w : World) :
    Calls Tryz.prog 53 #[.agg #[.string s, .int .i64 k]] w fun e w' => e = .returned (.agg #[.string s, .int .i64 (runTo isBl s k)]) ∧ Below w.heap.size w w' := by
  go_enter Tryz.func53, Tryz.ntmps53
  go_wp2_with fail
  refine (goOn_Skip1 s k hs hk _).mono ?_
  rintro e w2 ⟨rfl, b2⟩
  have hr0 := ScanAt.new (w.alloc (.cells #[.string s, .int .i64 k] 58)) ⟨#[]⟩ 0 58
  have hr := hr0.step b2
  rw [show (w.alloc (.cells #[.string s, .int .i64 k] 58)).heap.size = w.heap.size + 1 by simp] at hr
  have HS := Lib.hid (hr.put s (runTo isBl s k))
  have HB := Lib.hid (((((sbelow_new w _).trans ((sbelow_new _ _).mono (by simp))).trans (b2.mono (by simp; omega))).setCell (p := ⟨w.heap.size + 1, 0, none⟩) (by simp) (.string s)).setCell (p := ⟨w.heap.size + 1, 1, none⟩) (by simp) (.int .i64 (runTo isBl s k)))
  obtain ⟨-, c0, c1, cf⟩ := hr
  clear hr0
  go_wp2_with fail
  obtain ⟨q0, q1⟩ := HS.out
  exact bodyPost_ret (v := .agg #[.string s, .int .i64 (runTo isBl s k)]) (by simp [results, Tryz.results53, go_sem, q0, q1]) rfl ⟨rfl, HB.out⟩

/-- Within a call: its own place, its result's place, and that old memory stays. -/
structure InScan (w0 : World) (s : ByteArray) (k : Nat) (w : World) : Prop where
  own : ScanAt w w0.heap.size s k
  res : ScanAt w (w0.heap.size + 1) ⟨#[]⟩ 0
  below : Below w0.heap.size w0 w
theorem InScan.step {w0 w w' : World} {s : ByteArray} {k : Nat} (h : InScan w0 s k w) (hb : Below w.heap.size w w') : InScan w0 s k w' :=
  ⟨h.own.step hb, h.res.step hb, h.below.trans (hb.mono h.below.size)⟩
theorem InScan.drew {w0 w : World} {s : ByteArray} {k : Nat} (h : InScan w0 s k w) : InScan w0 s k w.drew := ⟨h.own, h.res, h.below.drew⟩
theorem InScan.new (w : World) (s : ByteArray) (k : Nat) (t : TypeId) : InScan w s k ((w.alloc (.cells #[.string s, .int .i64 k] t)).alloc (.cells #[.string ⟨#[]⟩, .int .i64 0] t)) :=
  ⟨(ScanAt.new w s k t).step (sbelow_new _ _), by have := ScanAt.new (w.alloc (.cells #[.string s, .int .i64 k] t)) ⟨#[]⟩ 0 t; simpa using this, (sbelow_new _ _).trans ((sbelow_new _ _).mono (by simp))⟩
/-- What is behind the result's store. -/
theorem InScan.out {w0 w : World} {s : ByteArray} {k : Nat} (h : InScan w0 s k w) (z : Int) :
    (((w.setCell ⟨w0.heap.size + 1, 0, none⟩ (.string s)).setCell ⟨w0.heap.size + 1, 1, none⟩ (.int .i64 z)).cell? ⟨w0.heap.size + 1, 0, none⟩ = some (.string s) ∧ ((w.setCell ⟨w0.heap.size + 1, 0, none⟩ (.string s)).setCell ⟨w0.heap.size + 1, 1, none⟩ (.int .i64 z)).cell? ⟨w0.heap.size + 1, 1, none⟩ = some (.int .i64 z)) ∧
      Below w0.heap.size w0 ((w.setCell ⟨w0.heap.size + 1, 0, none⟩ (.string s)).setCell ⟨w0.heap.size + 1, 1, none⟩ (.int .i64 z)) :=
  ⟨h.res.put s z, (h.below.setCell (by simp) _).setCell (by simp) _⟩

set_option maxRecDepth 100000 in
set_option maxHeartbeats 1000000 in
theorem take_yes (s : ByteArray) (k : Nat) (hs : s.size ≤ 100000) (hk : k < s.size) (w : World) :
    Calls Tryz.prog 86 #[.agg #[.string s, .int .i64 k], .int .u8 (s[k].toNat : Int)] w fun e w' => e = .returned (.tuple #[.agg #[.string s, .int .i64 ((k : Int) + 1)], .nilIface]) ∧ Below w.heap.size w w' := by
  have hE := fun w => end_any s k w
  rw [decide_eq_false (by omega)] at hE
  have hP := fun w => peek_any s k (by omega) w
  rw [byteI_lt hk] at hP
  have HE := Lib.hid hE
  have HP := Lib.hid hP
  clear hE hP
  have H0 := Lib.hid (InScan.new w s k 58)
  go_enter Tryz.func86, Tryz.ntmps86
  go_wp2_with fail
  refine (HE.out _).mono ?_
  rintro e w1 ⟨rfl, b1⟩
  have H1 := Lib.hid (H0.out.step b1)
  obtain ⟨-, c0, c1, -⟩ := H1.out.own
  go_wp2_with fail
  refine (HP.out _).mono ?_
  rintro e w2 ⟨rfl, b2⟩
  have H2 := Lib.hid (H1.out.step b2)
  obtain ⟨-, d0, d1, -⟩ := H2.out.own
  go_wp2_with fail
  refine (move_any s k 1 (by omega) (by omega) (by omega) _).mono ?_
  rintro e w3 ⟨rfl, b3⟩
  have H3 := Lib.hid (H2.out.step b3)
  have HO := Lib.hid (H3.out.out ((k : Int) + 1))
  obtain ⟨-, r0, r1, rf⟩ := H3.out.res
  go_wp2_with fail
  obtain ⟨⟨q0, q1⟩, hb⟩ := HO.out
  exact bodyPost_ret (v := .tuple #[.agg #[.string s, .int .i64 ((k : Int) + 1)], .nilIface]) (by simp [results, Tryz.results86, go_sem, q0, q1]) rfl ⟨rfl, hb⟩

set_option maxRecDepth 100000 in
set_option maxHeartbeats 1000000 in
theorem take_no (s : ByteArray) (k : Nat) (_hs : s.size ≤ 100000) (hk : k < s.size) (b : Int) (hb : (((s[k].toNat : Int) == b) = false)) (w : World) :
    Calls Tryz.prog 86 #[.agg #[.string s, .int .i64 k], .int .u8 b] w (PlaceErr w s k 4 k) := by
  have hE := fun w => end_any s k w
  rw [decide_eq_false (by omega)] at hE
  have hP := fun w => peek_any s k (by omega) w
  rw [byteI_lt hk] at hP
  have hM := fun w => missing_any s k (by omega) w
  rw [show missC s k = 4 by unfold missC; rw [if_pos hk]] at hM
  have HE := Lib.hid hE
  have HP := Lib.hid hP
  have HM := Lib.hid hM
  clear hE hP hM
  have H0 := Lib.hid (InScan.new w s k 58)
  go_enter Tryz.func86, Tryz.ntmps86
  go_wp2_with fail
  refine (HE.out _).mono ?_
  rintro e w1 ⟨rfl, b1⟩
  have H1 := Lib.hid (H0.out.step b1)
  obtain ⟨-, c0, c1, -⟩ := H1.out.own
  go_wp2_with fail
  refine (HP.out _).mono ?_
  rintro e w2 ⟨rfl, b2⟩
  have H2 := Lib.hid (H1.out.step b2)
  obtain ⟨-, d0, d1, -⟩ := H2.out.own
  obtain ⟨-, r0, r1, rf⟩ := H2.out.res
  have bne : ((s[k].toNat : Int) != b) = true := by simpa [bne] using hb
  go_wp2_with fail
  have hI := H2.out.drew
  have k0 := hI.own.2.1
  have k1 := hI.own.2.2.1
  go_region_held3 (fun w' => w'.cell? ⟨w.heap.size, 0, none⟩ = some (.string s) ∧ w'.cell? ⟨w.heap.size, 1, none⟩ = some (.int .i64 k))
    (first | go_keep | exact ⟨hI.own.2.1, hI.own.2.2.1⟩)
    (first
    | (go_at_call 88; refine (HM.out _).mono ?_; rintro e w' ⟨v, rfl, hv, hb⟩; replace hI := hI.step hb; have x0 := hI.res.2.1; have x1 := hI.res.2.2.1; have xf := hI.res.2.2.2))
  go_wp2
  obtain ⟨⟨q0, q1⟩, hbl⟩ := hI.out k
  exact bodyPost_ret (v := .tuple #[.agg #[.string s, .int .i64 k], v]) (by simp [results, Tryz.results86, go_sem, q0, q1]) rfl ⟨v, rfl, hv.set hI.res s k, hbl⟩

set_option maxRecDepth 100000 in
set_option maxHeartbeats 1000000 in
theorem take_end (s : ByteArray) (_hs : s.size ≤ 100000) (b : Int) (w : World) :
    Calls Tryz.prog 86 #[.agg #[.string s, .int .i64 s.size], .int .u8 b] w (PlaceErr w s s.size 3 s.size) := by
  have hE := fun w => end_any s s.size w
  rw [decide_eq_true rfl] at hE
  have hM := fun w => missing_any s s.size (Nat.le_refl _) w
  rw [show missC s s.size = 3 by unfold missC; rw [if_neg (Nat.lt_irrefl _)]] at hM
  have HE := Lib.hid hE
  have HM := Lib.hid hM
  clear hE hM
  have H0 := Lib.hid (InScan.new w s s.size 58)
  go_enter Tryz.func86, Tryz.ntmps86
  go_wp2_with fail
  refine (HE.out _).mono ?_
  rintro e w1 ⟨rfl, b1⟩
  have H1 := Lib.hid (H0.out.step b1)
  obtain ⟨-, c0, c1, -⟩ := H1.out.own
  go_wp2_with fail
  have hI := H1.out.drew
  have k0 := hI.own.2.1
  have k1 := hI.own.2.2.1
  go_region_held3 (fun w' => w'.cell? ⟨w.heap.size, 0, none⟩ = some (.string s) ∧ w'.cell? ⟨w.heap.size, 1, none⟩ = some (.int .i64 s.size))
    (first | go_keep | exact ⟨hI.own.2.1, hI.own.2.2.1⟩)
    (first
    | (go_at_call 88; refine (HM.out _).mono ?_; rintro e w' ⟨v, rfl, hv, hb⟩; replace hI := hI.step hb; have x0 := hI.res.2.1; have x1 := hI.res.2.2.1; have xf := hI.res.2.2.2))
  go_wp2
  obtain ⟨⟨q0, q1⟩, hbl⟩ := hI.out s.size
  exact bodyPost_ret (v := .tuple #[.agg #[.string s, .int .i64 s.size], v]) (by simp [results, Tryz.results86, go_sem, q0, q1]) rfl ⟨v, rfl, hv.set hI.res s s.size, hbl⟩

/-- Where Take leads, and its error. -/
def takeK (s : ByteArray) (k : Nat) (b : Int) : Nat := if k < s.size ∧ byteI s k = b then k + 1 else k
def takeC (s : ByteArray) (k : Nat) (b : Int) : Int := if k < s.size ∧ byteI s k = b then 0 else missC s k
theorem take_any (s : ByteArray) (k : Nat) (hs : s.size ≤ 100000) (hk : k ≤ s.size) (b : Int) (w : World) :
    Calls Tryz.prog 86 #[.agg #[.string s, .int .i64 k], .int .u8 b] w (PlaceErr w s (takeK s k b) (takeC s k b) (takeK s k b)) := by
  by_cases hlt : k < s.size
  · by_cases h : (s[k].toNat : Int) = b
    · subst h
      refine (take_yes s k hs hlt w).mono ?_
      rintro e w' ⟨rfl, hb⟩
      unfold takeK takeC
      rw [if_pos ⟨hlt, byteI_lt hlt⟩, if_pos ⟨hlt, byteI_lt hlt⟩]
      exact ⟨_, rfl, .nilE _ _, hb⟩
    · have hc : ¬ (k < s.size ∧ byteI s k = b) := by rw [byteI_lt hlt]; exact fun h' => h h'.2
      unfold takeK takeC missC
      rw [if_neg hc, if_neg hc, if_pos hlt]
      exact take_no s k hs hlt b (by simpa using h) w
  · obtain rfl : k = s.size := by omega
    have hc : ¬ (s.size < s.size ∧ byteI s s.size = b) := fun h => hlt h.1
    unfold takeK takeC missC
    rw [if_neg hc, if_neg hc, if_neg hlt]
    exact take_end s hs b w
theorem takeK_le (s : ByteArray) (k : Nat) (b : Int) (hk : k ≤ s.size) : takeK s k b ≤ s.size := by unfold takeK; split <;> omega

/-! ### HasPrefix, Has -/
def hasPre (s p : ByteArray) : Bool := decide (p.size ≤ s.size) && ((s.extract 0 p.size).toList == p.toList)
set_option maxHeartbeats 400000 in
theorem ihasPrefix_any (s p : ByteArray) (_hs : s.size ≤ maxLen) (_hp : p.size ≤ maxLen) (w : World) :
    Calls Tryz.prog 126 #[.string s, .string p] w fun e w' => e = .returned (.bool (hasPre s p)) ∧ w = w' := by
  go_enter Tryz.func126, Tryz.ntmps126
  go_wp2
  all_goals
    go_ret
    refine ⟨ret_b ?_, rfl⟩
    go_light
    unfold hasPre
    simp_all
    try (intro h; omega)

set_option maxHeartbeats 400000 in
theorem hasPrefix_any (s p : ByteArray) (hs : s.size ≤ maxLen) (hp : p.size ≤ maxLen) (w : World) :
    Calls Tryz.prog 118 #[.string s, .string p] w fun e w' => e = .returned (.bool (hasPre s p)) ∧ w = w' := by
  go_enter Tryz.func118, Tryz.ntmps118
  go_wp2_with (go_at_call 126; refine (ihasPrefix_any s p hs hp _).mono ?_; rintro e w' ⟨rfl, rfl⟩)
  go_ret
  exact ⟨rfl, rfl⟩

theorem restOf_size (s : ByteArray) (k : Nat) (_hk : k ≤ s.size) : (restOf s k).size = s.size - k := by unfold restOf; simp
theorem hasPre_size {s p : ByteArray} (h : hasPre s p = true) : p.size ≤ s.size := by
  unfold hasPre at h
  simp only [Bool.and_eq_true, decide_eq_true_eq] at h
  exact h.1

/-- Where Has leads. -/
def hasK (s : ByteArray) (k : Nat) (p : ByteArray) : Nat := if hasPre (restOf s k) p then k + p.size else k
theorem hasK_le (s : ByteArray) (k : Nat) (p : ByteArray) (hk : k ≤ s.size) : hasK s k p ≤ s.size := by
  unfold hasK
  split
  · have := hasPre_size ‹_›
    rw [restOf_size s k hk] at this
    omega
  · exact hk

set_option maxRecDepth 100000 in
set_option maxHeartbeats 1000000 in
theorem shas_any (s : ByteArray) (k : Nat) (p : ByteArray) (hs : s.size ≤ 100000) (hk : k ≤ s.size) (hp : p.size ≤ maxLen) (w : World) :
    Calls Tryz.prog 91 #[.agg #[.string s, .int .i64 k], .string p] w fun e w' => e = .returned (.tuple #[.agg #[.string s, .int .i64 (hasK s k p)], .bool (hasPre (restOf s k) p)]) ∧ Below w.heap.size w w' := by
  have HPX := Lib.hid (fun w => hasPrefix_any (restOf s k) p (by rw [restOf_size s k hk]; unfold maxLen; omega) hp w)
  have H0 := Lib.hid (InScan.new w s k 58)
  by_cases h : hasPre (restOf s k) p = true
  · have hps := hasPre_size h
    rw [restOf_size s k hk] at hps
    have HK := Lib.hid (show hasK s k p = k + p.size by unfold hasK; rw [if_pos h])
    rw [h] at HPX ⊢
    clear h
    go_enter Tryz.func91, Tryz.ntmps91
    go_wp2_with fail
    refine (rest_any s k hk _).mono ?_
    rintro e w1 ⟨rfl, b1⟩
    have H1 := Lib.hid (H0.out.step b1)
    obtain ⟨-, c0, c1, -⟩ := H1.out.own
    go_wp2_with fail
    refine (HPX.out _).mono ?_
    rintro e w' ⟨rfl, rfl⟩
    go_wp2_with fail
    refine (move_any s k p.size (by omega) (by omega) (by omega) _).mono ?_
    rintro e w2 ⟨rfl, b2⟩
    have H2 := Lib.hid (H1.out.step b2)
    obtain ⟨-, d0, d1, -⟩ := H2.out.own
    obtain ⟨-, r0, r1, rf⟩ := H2.out.res
    go_wp2_with fail
    obtain ⟨⟨q0, q1⟩, hb⟩ := H2.out.out ((k : Int) + p.size)
    rw [HK.out]
    exact bodyPost_ret (v := .tuple #[.agg #[.string s, .int .i64 ((k : Int) + p.size)], .bool true]) (by simp [results, Tryz.results91, go_sem, q0, q1]) rfl ⟨rfl, hb⟩
  · have h' : hasPre (restOf s k) p = false := by simpa using h
    have HK := Lib.hid (show hasK s k p = k by unfold hasK; rw [if_neg h])
    rw [h'] at HPX ⊢
    clear h h'
    go_enter Tryz.func91, Tryz.ntmps91
    go_wp2_with fail
    refine (rest_any s k hk _).mono ?_
    rintro e w1 ⟨rfl, b1⟩
    have H1 := Lib.hid (H0.out.step b1)
    obtain ⟨-, c0, c1, -⟩ := H1.out.own
    obtain ⟨-, r0, r1, rf⟩ := H1.out.res
    go_wp2_with fail
    refine (HPX.out _).mono ?_
    rintro e w' ⟨rfl, rfl⟩
    go_wp2_with fail
    obtain ⟨⟨q0, q1⟩, hb⟩ := H1.out.out k
    rw [HK.out]
    exact bodyPost_ret (v := .tuple #[.agg #[.string s, .int .i64 k], .bool false]) (by simp [results, Tryz.results91, go_sem, q0, q1]) rfl ⟨rfl, hb⟩
end Go.Proofs.YtajmlkephefapaaGreatDoor
