/-
  The statement ScanWalks as a walk: whatever the text and the steps, the law answers true, and all of old memory stays as it was.
-/
import Derived.Test.YtcnaffhdiodkhaaDoorAwk3
import Derived.Deep.DeepCutAuto
import Derived.Deep.CutRange
import Derived.Deep.CutBlock
namespace Go.Proofs.YtcnaffhdiodkhaaDoor
open Go.RowKit Go.Extern.Stop Go.Stop Go.Extern

/-- A step: its number, its byte, its word. -/
structure Step where
  d : Int
  b : Int
  t : ByteArray
  d0 : 0 ≤ d
  d1 : d ≤ 255
  b0 : 0 ≤ b
  b1 : b ≤ 255
  ht : t.size ≤ maxLen

/-- A slice value whose elements are these steps. -/
def StepsAt (w : World) (v : Value) (n : Nat) : Prop :=
  ∃ b o c, v = .slice b n c ∧ ∀ i, i < n → ∃ b', b = some ⟨b', o, none⟩ ∧ b' < w.heap.size ∧ ∃ x : Step, w.cell? ⟨b', o + i * 3, none⟩ = some (.int .u8 x.d) ∧ w.cell? ⟨b', o + i * 3 + 1, none⟩ = some (.int .u8 x.b) ∧ w.cell? ⟨b', o + i * 3 + 2, none⟩ = some (.string x.t)

/-- A step in a block of its own. -/
def ActAt (w : World) (p : Nat) (d b : Int) (t : ByteArray) : Prop :=
  p < w.heap.size ∧ w.cell? ⟨p, 0, none⟩ = some (.int .u8 d) ∧ w.cell? ⟨p, 1, none⟩ = some (.int .u8 b) ∧ w.cell? ⟨p, 2, none⟩ = some (.string t)
theorem ActAt.step {w w' : World} {p : Nat} {d b : Int} {t : ByteArray} (h : ActAt w p d b t) (hb : Below w.heap.size w w') : ActAt w' p d b t :=
  ⟨Nat.lt_of_lt_of_le h.1 hb.size, (hb.cell (p := ⟨p, 0, none⟩) h.1).trans h.2.1, (hb.cell (p := ⟨p, 1, none⟩) h.1).trans h.2.2.1, (hb.cell (p := ⟨p, 2, none⟩) h.1).trans h.2.2.2⟩
theorem ActAt.far {w : World} {p : Nat} {d b : Int} {t : ByteArray} (h : ActAt w p d b t) {a : Addr} (hne : p ≠ a.block) (v : Value) : ActAt (w.setCell a v) p d b t :=
  ⟨by rw [World.size_setCell]; exact h.1, (World.cell?_setCell_other _ _ _ _ (by rintro rfl; exact hne rfl)).trans h.2.1, (World.cell?_setCell_other _ _ _ _ (by rintro rfl; exact hne rfl)).trans h.2.2.1, (World.cell?_setCell_other _ _ _ _ (by rintro rfl; exact hne rfl)).trans h.2.2.2⟩

/-- What holds all through a round: the place, the step, and that old memory stays. -/
structure Mid (s : ByteArray) (q p : Nat) (d b : Int) (t : ByteArray) (w0 : World) (j : Nat) (w : World) : Prop where
  at_ : ScanAt w q s j
  act : ActAt w p d b t
  ne : p ≠ q
  low : w0.heap.size ≤ q
  below : Below w0.heap.size w0 w
theorem Mid.step {s : ByteArray} {q p j : Nat} {d b : Int} {t : ByteArray} {w0 w w' : World} (h : Mid s q p d b t w0 j w) (hb : Below w.heap.size w w') : Mid s q p d b t w0 j w' :=
  ⟨h.at_.step hb, h.act.step hb, h.ne, h.low, h.below.trans (hb.mono h.below.size)⟩
theorem Mid.drew {s : ByteArray} {q p j : Nat} {d b : Int} {t : ByteArray} {w0 w : World} (h : Mid s q p d b t w0 j w) : Mid s q p d b t w0 j w.drew := ⟨h.at_, h.act, h.ne, h.low, h.below.drew⟩
theorem Mid.drewN {s : ByteArray} {q p j : Nat} {d b : Int} {t : ByteArray} {w0 w : World} (h : Mid s q p d b t w0 j w) (n : Nat) : Mid s q p d b t w0 j (w.drewN n) := h.step (below_drewN _ _)
theorem Mid.put {s : ByteArray} {q p j : Nat} {d b : Int} {t : ByteArray} {w0 w : World} (h : Mid s q p d b t w0 j w) (k : Nat) :
    Mid s q p d b t w0 k ((w.setCell ⟨q, 0, none⟩ (.string s)).setCell ⟨q, 1, none⟩ (.int .i64 k)) :=
  ⟨h.at_.set s k, (h.act.far (a := ⟨q, 0, none⟩) h.ne _).far (a := ⟨q, 1, none⟩) h.ne _, h.ne, h.low, (h.below.setCell (p := ⟨q, 0, none⟩) h.low _).setCell (p := ⟨q, 1, none⟩) h.low _⟩

/-- What a step leaves: the place, the document's error, and that both tell the same. -/
def StepOut (s : ByteArray) (q p : Nat) (d b : Int) (t : ByteArray) (w0 : World) (v6 v7 v10 : Value) (wx : World) : Prop :=
  ∃ (j : Nat) (c : Int), j ≤ s.size ∧ v7 = .int .i64 j ∧ v10 = .int .i64 c ∧ Mid s q p d b t w0 j wx ∧ (d % 5 ≠ 0 → d % 5 ≠ 2 → ErrIs wx v6 c j)

structure SwRel (s : ByteArray) (n q : Nat) (w0 : World) (k : Nat) (v7 v36 : Value) (wr : World) : Prop where
  ex : ∃ i j : Nat, i ≤ n ∧ k = n - i ∧ j ≤ s.size ∧ v36 = .int .i64 i ∧ v7 = .int .i64 j ∧ ScanAt wr q s j
  low : w0.heap.size ≤ q
  below : Below w0.heap.size w0 wr

set_option maxRecDepth 100000 in
set_option maxHeartbeats 3200000 in
theorem scanWalks_near (s : ByteArray) (n : Nat) (v : Value) (w : World) (hv : StepsAt w v n) (hs : s.size ≤ 500) (hn : n ≤ 60) (hg : Handle w) :
    Calls Tryd.prog 3 #[.string s, v] w fun e w' => e = .returned (.bool true) ∧ Below w.heap.size w w' := by
  obtain ⟨b, o, c, rfl, hst⟩ := hv
  have HST := Lib.hid hst
  clear hst
  have HN := Lib.hid (fun w => scanNew_any s (by omega) w)
  have hd1 : decide ((500 : Int) < s.size) = false := decide_eq_false (by omega)
  have hd2 : decide ((60 : Int) < n) = false := decide_eq_false (by omega)
  go_enter Tryd.func3, Tryd.ntmps3
  go_wp2_with fail
  refine (awake3_any _ hg).mono ?_
  rintro e w1 ⟨rfl, b1⟩
  go_wp2_with fail
  refine (HN.out _).mono ?_
  rintro e w3 ⟨rfl, b3⟩
  have B3 := Lib.hid (b1.trans (b3.mono b1.size))
  have hs4 := ScanAt.new w3 s 0 25
  have B4 := Lib.hid (B3.out.trans ((below_new w3 (.cells #[.string s, .int .i64 0] 25)).mono B3.out.size))
  have HL := Lib.hid B3.out.size
  go_wp2_with fail
  generalize w3.alloc (.cells #[.string s, .int .i64 0] 25) = w4 at *
  generalize w3.heap.size = q at *
  have H0 : Hid (SwRel s n q w n (.int .i64 0) (.int .i64 0) w4) := Lib.hid ⟨⟨0, 0, Nat.zero_le _, rfl, Nat.zero_le _, rfl, rfl, hs4⟩, HL.out, B4.out⟩
  clear hs4
  go_loopg [6, 7, 36] n (fun k v6 v7 v36 wr => SwRel s n q w k v7 v36 wr)
  case atStart => exact H0.out
  case round =>
    obtain ⟨⟨i, j, hi, hk, hj, rfl, rfl, hat⟩, hlow, hbel⟩ := hrel
    have HK := Lib.hid hk
    clear hk
    by_cases hlt : i < n
    · obtain ⟨b', rfl, hb', x, x0, x1, x2⟩ := HST.out i hlt
      have y0 := (hbel.cell (p := ⟨b', o + i * 3, none⟩) hb').trans x0
      have y1 := (hbel.cell (p := ⟨b', o + i * 3 + 1, none⟩) hb').trans x1
      have y2 := (hbel.cell (p := ⟨b', o + i * 3 + 2, none⟩) hb').trans x2
      clear x0 x1 x2
      obtain ⟨l0, c0, c1, cf⟩ := id hat
      have d0 := x.d0
      have d1 := x.d1
      have ne0 : b' ≠ q := by omega
      obtain ⟨xd, hxd⟩ : ∃ xd, x.d = xd := ⟨_, rfl⟩
      rw [hxd] at y0 d0 d1
      clear hxd
      have HM := Lib.hid (show Mid s q wr.heap.size xd x.b x.t w j (wr.alloc (.cells #[.int .u8 xd, .int .u8 x.b, .string x.t] 31)) from
        ⟨hat.step (below_new wr _), ⟨by simp, by simp, by simp, by simp⟩, by omega, hlow, hbel.trans ((below_new wr _).mono hbel.size)⟩)
      go_upto_block 2 with fail
      generalize wr.alloc (.cells #[.int .u8 xd, .int .u8 x.b, .string x.t] 31) = wa at *
      generalize wr.heap.size = p at *
      have hb0 := x.b0
      have hb1 := x.b1
      have htl := x.ht
      generalize x.b = xb at *
      generalize x.t = xt at *
      clear y0 y1 y2 c0 c1 cf hat l0 ne0
      have hr : xd % 5 = 0 ∨ xd % 5 = 1 ∨ xd % 5 = 2 ∨ xd % 5 = 3 ∨ xd % 5 = 4 := by omega
      go_cut [6, 7, 10] (fun v6 v7 v10 wx => StepOut s q p xd xb xt w v6 v7 v10 wx)
      case first =>
        have HOUT := Lib.hid (show ∀ (j' : Nat) (cc : Int) (v6 : Value) (w6 : World), j' ≤ s.size → Mid s q p xd xb xt w j' w6 → (xd % 5 ≠ 0 → xd % 5 ≠ 2 → ErrIs w6 v6 cc j') → StepOut s q p xd xb xt w v6 (.int .i64 j') (.int .i64 cc) w6 from
          fun j' cc v6 w6 h1 h2 h3 => ⟨j', cc, h1, rfl, rfl, h2, h3⟩)
        have hM := HM.out
        obtain ⟨⟨l0, c0, c1, -⟩, ⟨lp, a0, a1, a2⟩, -, -, -⟩ := id hM
        rcases hr with hr | hr | hr | hr | hr
        · as_aux_lemma =>
            -- Skip
            have hq : (xd % 5 == 0) = true := by simpa using hr
            have HRR := Lib.hid hr
            clear hr
            have HS := Lib.hid (fun w => skip_any s j (by omega) hj w)
            have HR := Lib.hid (fun w => rskip_any s j (by omega) hj w)
            have hjl := runTo_le isBl s j hj
            generalize runTo isBl s j = j2 at *
            go_wp2_with fail
            refine (HS.out _).mono ?_
            rintro e w5 ⟨rfl, b5⟩
            have hM5 := hM.step b5
            have HP := Lib.hid (hM5.put j2)
            obtain ⟨⟨m0, e0, e1, ef⟩, -, -, -, -⟩ := hM5
            go_wp2_with fail
            refine (HR.out _).mono ?_
            rintro e w' ⟨rfl, rfl⟩
            go_wp2_with fail
            go_meet
            exact HOUT.out _ _ _ _ hjl HP.out (fun h => absurd HRR.out h)
        · -- Take
          have hq0 : (xd % 5 == 0) = false := by rw [hr]; rfl
          have hq : (xd % 5 == 1) = true := by rw [hr]; rfl
          clear hr
          have HT := Lib.hid (fun w => take_any s j (by omega) hj xb w)
          have hkl := takeK_le s j xb hj
          by_cases hlt2 : j < s.size
          · by_cases hbx : (s[j].toNat : Int) = xb
            · as_aux_lemma =>
                have hbb : ((s[j].toNat : Int) == xb) = true := by simpa using hbx
                have hK : takeK s j xb = j + 1 := by unfold takeK; rw [if_pos ⟨hlt2, by rw [byteI_lt hlt2]; exact hbx⟩]
                have hC : takeC s j xb = 0 := by unfold takeC; rw [if_pos ⟨hlt2, by rw [byteI_lt hlt2]; exact hbx⟩]
                rw [hC] at HT
                have HKK := Lib.hid hK
                clear hK hC hbx
                generalize takeK s j xb = k at *
                go_wp2_with fail
                refine (HT.out _).mono ?_
                rintro e w5 ⟨v, rfl, hv, b5⟩
                have hM5 := hM.step b5
                have HP := Lib.hid (hM5.put k)
                have HE := Lib.hid (hv.set hM5.at_ s (k : Int))
                clear hv
                obtain ⟨⟨m0, e0, e1, ef⟩, -, -, -, -⟩ := hM5
                obtain ⟨-, -, f1, -⟩ := HP.out.act
                go_wp2_with fail
                go_quiet (fail)
                go_wp2_with fail
                go_meet
                have e := HKK.out
                rw [show ((j : Int) + 1) = (k : Int) from by omega]
                exact HOUT.out k 0 _ _ hkl (HP.out.drewN _) (fun _ _ => HE.out.keep (below_drewN _ _))
            · as_aux_lemma =>
                have hbb : ((s[j].toNat : Int) == xb) = false := by simpa using hbx
                have hK : takeK s j xb = j := by unfold takeK; rw [if_neg (by rw [byteI_lt hlt2]; exact fun h => hbx h.2)]
                have hC : takeC s j xb = missC s j := by unfold takeC; rw [if_neg (by rw [byteI_lt hlt2]; exact fun h => hbx h.2)]
                rw [hK, hC] at HT
                have HF := Lib.hid (fun w => rfails_any s j w)
                generalize missC s j = m at *
                clear hK hC hbx
                go_wp2_with fail
                refine (HT.out _).mono ?_
                rintro e w5 ⟨v, rfl, hv, b5⟩
                have hM5 := hM.step b5
                have HP := Lib.hid (hM5.put j)
                have HE := Lib.hid (hv.set hM5.at_ s (j : Int))
                clear hv
                obtain ⟨⟨m0, e0, e1, ef⟩, -, -, -, -⟩ := hM5
                obtain ⟨-, -, f1, -⟩ := HP.out.act
                go_wp2_with fail
                go_quiet (fail)
                go_wp2_with fail
                refine (HF.out _).mono ?_
                rintro e w' ⟨rfl, rfl⟩
                go_wp2_with fail
                go_meet
                exact HOUT.out j m _ _ hj (HP.out.drewN _) (fun _ _ => HE.out.keep (below_drewN _ _))
          · as_aux_lemma =>
              have hK : takeK s j xb = j := by unfold takeK; rw [if_neg (fun h => hlt2 h.1)]
              have hC : takeC s j xb = missC s j := by unfold takeC; rw [if_neg (fun h => hlt2 h.1)]
              rw [hK, hC] at HT
              have HF := Lib.hid (fun w => rfails_any s j w)
              have hd3 : decide (j < s.size) = false := decide_eq_false hlt2
              generalize missC s j = m at *
              clear hK hC
              go_wp2_with fail
              refine (HT.out _).mono ?_
              rintro e w5 ⟨v, rfl, hv, b5⟩
              have hM5 := hM.step b5
              have HP := Lib.hid (hM5.put j)
              have HE := Lib.hid (hv.set hM5.at_ s (j : Int))
              clear hv
              obtain ⟨⟨m0, e0, e1, ef⟩, -, -, -, -⟩ := hM5
              go_wp2_with fail
              go_quiet (fail)
              go_wp2_with fail
              refine (HF.out _).mono ?_
              rintro e w' ⟨rfl, rfl⟩
              go_wp2_with fail
              go_meet
              exact HOUT.out j m _ _ hj (HP.out.drewN _) (fun _ _ => HE.out.keep (below_drewN _ _))
        · -- Has
          have hq0 : (xd % 5 == 0) = false := by rw [hr]; rfl
          have hq1 : (xd % 5 == 1) = false := by rw [hr]; rfl
          have hq : (xd % 5 == 2) = true := by rw [hr]; rfl
          have HRR := Lib.hid hr
          clear hr
          have HH := Lib.hid (fun w => has_any s j xt (by omega) hj htl w)
          have hkl := hasK_le s j xt hj
          have HPX := Lib.hid (show ∀ w, Calls Tryd.prog 16 #[.string (s.extract j s.size), .string xt] w fun e w' => e = .returned (.bool (hasPre (restOf s j) xt)) ∧ w' = w from fun w =>
            (hasPrefix_any (restOf s j) xt (by rw [restOf_size s j hj]; unfold maxLen; omega) htl w).mono (by rintro e w' ⟨rfl, rfl⟩; exact ⟨rfl, rfl⟩))
          have hj0 : (0 : Int) ≤ j := by omega
          have hj1 : (j : Int) ≤ s.size := by omega
          by_cases hp : hasPre (restOf s j) xt = true
          · as_aux_lemma =>
              have hK : hasK s j xt = j + xt.size := by unfold hasK; rw [if_pos hp]
              rw [hp] at HH
              rw [hp] at HPX
              have HKK := Lib.hid hK
              clear hK hp
              generalize hasK s j xt = k at *
              have hsum : (k : Int) ≤ 500 := by omega
              have hsum' : (j : Int) + xt.size ≤ 500 := by have := HKK.out; omega
              go_wp2_with fail
              refine (HH.out _).mono ?_
              rintro e w5 ⟨rfl, b5⟩
              have hM5 := hM.step b5
              have HP := Lib.hid (hM5.put k)
              obtain ⟨⟨m0, e0, e1, ef⟩, -, -, -, -⟩ := hM5
              obtain ⟨-, -, -, f2⟩ := HP.out.act
              go_wp2_with fail
              go_quiet ((go_at_call 16; exact Calls.quiet_of_same (HPX.out _)))
              go_wp2_with fail
              go_meet
              have e := HKK.out
              rw [show ((j : Int) + xt.size) = (k : Int) from by omega]
              exact HOUT.out k 0 _ _ hkl (HP.out.drewN _) (fun _ h => absurd HRR.out h)
          · as_aux_lemma =>
              have hp' : hasPre (restOf s j) xt = false := by simpa using hp
              have hK : hasK s j xt = j := by unfold hasK; rw [if_neg hp]
              rw [hK, hp'] at HH
              rw [hp'] at HPX
              clear hK hp hp'
              go_wp2_with fail
              refine (HH.out _).mono ?_
              rintro e w5 ⟨rfl, b5⟩
              have hM5 := hM.step b5
              have HP := Lib.hid (hM5.put j)
              obtain ⟨⟨m0, e0, e1, ef⟩, -, -, -, -⟩ := hM5
              obtain ⟨-, -, -, f2⟩ := HP.out.act
              go_wp2_with fail
              go_quiet ((go_at_call 16; exact Calls.quiet_of_same (HPX.out _)))
              go_wp2_with fail
              go_meet
              exact HOUT.out j 0 _ _ hj (HP.out.drewN _) (fun _ h => absurd HRR.out h)
        · as_aux_lemma =>
            -- Name
            have hq0 : (xd % 5 == 0) = false := by rw [hr]; rfl
            have hq1 : (xd % 5 == 1) = false := by rw [hr]; rfl
            have hq2 : (xd % 5 == 2) = false := by rw [hr]; rfl
            have hq : (xd % 5 == 3) = true := by rw [hr]; rfl
            clear hr
            have HX := Lib.hid (fun w => name_any s j (by omega) hj w)
            have HR := Lib.hid (show ∀ w, Calls Tryd.prog 18 #[.string s, .int .i64 j] w _ from fun w => rname_any s j (by omega) hj w)
            unfold RefName at HR
            have hkl := nameK_le s j hj
            generalize nameK s j = k at *
            generalize nameT s j = t2 at *
            generalize nameC s j = c2 at *
            go_wp2_with fail
            refine (HX.out _).mono ?_
            rintro e w5 ⟨v, rfl, hv, b5⟩
            have hM5 := hM.step b5
            have HP := Lib.hid (hM5.put k)
            have HE := Lib.hid (hv.set hM5.at_ s (k : Int))
            clear hv
            obtain ⟨⟨m0, e0, e1, ef⟩, -, -, -, -⟩ := hM5
            go_wp2_with fail
            refine (HR.out _).mono ?_
            rintro e w6 ⟨rfl, b6⟩
            go_wp2_with fail
            go_meet
            exact HOUT.out k c2 _ _ hkl (HP.out.step b6) (fun _ _ => HE.out.keep b6)
        · as_aux_lemma =>
            -- Number
            have hq0 : (xd % 5 == 0) = false := by rw [hr]; rfl
            have hq1 : (xd % 5 == 1) = false := by rw [hr]; rfl
            have hq2 : (xd % 5 == 2) = false := by rw [hr]; rfl
            have hq3 : (xd % 5 == 3) = false := by rw [hr]; rfl
            clear hr
            have HX := Lib.hid (fun w (hg : Handle w) => number_any s j (by omega) hj w hg)
            have HR := Lib.hid (show ∀ w, Calls Tryd.prog 20 #[.string s, .int .i64 j] w _ from fun w => rnumber_any s j (by omega) hj w)
            unfold RefNum at HR
            have hkl := numK_le s j hj
            generalize numK s j = k at *
            generalize numN s j = t2 at *
            generalize numC s j = c2 at *
            go_wp2_with fail
            refine (HX.out _ (hg.below HM.out.below)).mono ?_
            rintro e w5 ⟨v, rfl, hv, b5⟩
            have hM5 := hM.step b5
            have HP := Lib.hid (hM5.put k)
            have HE := Lib.hid (hv.set hM5.at_ s (k : Int))
            clear hv
            obtain ⟨⟨m0, e0, e1, ef⟩, -, -, -, -⟩ := hM5
            go_wp2_with fail
            refine (HR.out _).mono ?_
            rintro e w6 ⟨rfl, b6⟩
            go_wp2_with fail
            go_meet
            exact HOUT.out k c2 _ _ hkl (HP.out.step b6) (fun _ _ => HE.out.keep b6)
      case rest =>
        obtain ⟨j2, c2, hj2, rfl, rfl, hM, herr⟩ := hcut
        have HERR := Lib.hid herr
        have HM2 := Lib.hid hM
        clear herr HM hM
        have HEN := Lib.hid (fun w => end_any s j2 w)
        have HPK := Lib.hid (fun w => peek_any s j2 hj2 w)
        have HRS := Lib.hid (show ∀ w, Calls Tryd.prog 23 #[.agg #[.string s, .int .i64 j2]] w fun e w' => e = .returned (.string (s.extract j2 s.size)) ∧ Below w.heap.size w w' from fun w => rest_any s j2 hj2 w)
        have hi0 : (0 : Int) ≤ j2 := by omega
        have hi1 : (j2 : Int) ≤ s.size := by omega
        have hcall : xd % 5 = 1 ∨ 2 < xd % 5 ∨ (xd % 5 = 0 ∨ xd % 5 = 2) := by omega
        clear hr
        have hlts : j2 < s.size ∨ j2 = s.size := by omega
        rcases hlts with hlt2 | hend
        · rw [decide_eq_false (by omega)] at HEN
          rw [byteI_lt hlt2] at HPK
          have hne : ((j2 : Int) == (s.size : Int)) = false := by rw [beq_eq_false_iff_ne]; omega
          rcases hcall with hcall | hcall | hcall
          · as_aux_lemma =>
              have hq : (xd % 5 == 1) = true := by rw [hcall]; rfl
              have HE := Lib.hid (HERR.out (by omega) (by omega))
              obtain ⟨-, m0, -, -⟩ := HM2.out.act
              clear hcall
              go_wp2_with fail
              refine (lawIs_err _ c2 j2 _ HE.out (hg.below HM2.out.below)).mono ?_
              rintro e w5 ⟨rfl, b5⟩
              have HJ := Lib.hid (HM2.out.step b5)
              obtain ⟨-, k0, k1, -⟩ := HJ.out.at_
              go_wp2_with fail
              have hI := HJ.out.drew
              have k0 := hI.at_.2.1
              have k1 := hI.at_.2.2.1
              go_region_held3 (fun w' => w'.cell? ⟨q, 0, none⟩ = some (.string s) ∧ w'.cell? ⟨q, 1, none⟩ = some (.int .i64 j2))
                (first | go_keep | exact ⟨hI.at_.2.1, hI.at_.2.2.1⟩)
                (first
                | (go_at_call 22; refine (at_any s j2 _).mono ?_; rintro e w' ⟨rfl, hb⟩; replace hI := hI.step hb)
                | (go_at_call 23; refine (HRS.out _).mono ?_; rintro e w' ⟨rfl, hb⟩; replace hI := hI.step hb)
                | (go_at_call 24; refine (HEN.out _).mono ?_; rintro e w' ⟨rfl, hb⟩; replace hI := hI.step hb)
                | (go_at_call 25; refine (HPK.out _).mono ?_; rintro e w' ⟨rfl, hb⟩; replace hI := hI.step hb))
              go_wp2_with fail
              go_roundg (n - (i + 1))
              case measure => have := HK.out; omega
              case rel => exact ⟨⟨i + 1, j2, by omega, rfl, hj2, by go_num, rfl, hI.at_⟩, hI.low, hI.below⟩
          · as_aux_lemma =>
              have hq : (xd % 5 == 1) = false := by rw [beq_eq_false_iff_ne]; omega
              have hq2 : 2 < xd % 5 := hcall
              have HE := Lib.hid (HERR.out (by omega) (by omega))
              obtain ⟨-, m0, -, -⟩ := HM2.out.act
              clear hcall
              go_wp2_with fail
              refine (lawIs_err _ c2 j2 _ HE.out (hg.below HM2.out.below)).mono ?_
              rintro e w5 ⟨rfl, b5⟩
              have HJ := Lib.hid (HM2.out.step b5)
              obtain ⟨-, k0, k1, -⟩ := HJ.out.at_
              go_wp2_with fail
              have hI := HJ.out.drew
              have k0 := hI.at_.2.1
              have k1 := hI.at_.2.2.1
              go_region_held3 (fun w' => w'.cell? ⟨q, 0, none⟩ = some (.string s) ∧ w'.cell? ⟨q, 1, none⟩ = some (.int .i64 j2))
                (first | go_keep | exact ⟨hI.at_.2.1, hI.at_.2.2.1⟩)
                (first
                | (go_at_call 22; refine (at_any s j2 _).mono ?_; rintro e w' ⟨rfl, hb⟩; replace hI := hI.step hb)
                | (go_at_call 23; refine (HRS.out _).mono ?_; rintro e w' ⟨rfl, hb⟩; replace hI := hI.step hb)
                | (go_at_call 24; refine (HEN.out _).mono ?_; rintro e w' ⟨rfl, hb⟩; replace hI := hI.step hb)
                | (go_at_call 25; refine (HPK.out _).mono ?_; rintro e w' ⟨rfl, hb⟩; replace hI := hI.step hb))
              go_wp2_with fail
              go_roundg (n - (i + 1))
              case measure => have := HK.out; omega
              case rel => exact ⟨⟨i + 1, j2, by omega, rfl, hj2, by go_num, rfl, hI.at_⟩, hI.low, hI.below⟩
          · as_aux_lemma =>
              have hq : (xd % 5 == 1) = false := by rw [beq_eq_false_iff_ne]; omega
              have hq2 : ¬ 2 < xd % 5 := by omega
              have HJ := HM2
              obtain ⟨-, m0, -, -⟩ := HM2.out.act
              obtain ⟨-, k0, k1, -⟩ := HM2.out.at_
              clear hcall
              go_wp2_with fail
              have hI := HJ.out.drew
              have k0 := hI.at_.2.1
              have k1 := hI.at_.2.2.1
              go_region_held3 (fun w' => w'.cell? ⟨q, 0, none⟩ = some (.string s) ∧ w'.cell? ⟨q, 1, none⟩ = some (.int .i64 j2))
                (first | go_keep | exact ⟨hI.at_.2.1, hI.at_.2.2.1⟩)
                (first
                | (go_at_call 22; refine (at_any s j2 _).mono ?_; rintro e w' ⟨rfl, hb⟩; replace hI := hI.step hb)
                | (go_at_call 23; refine (HRS.out _).mono ?_; rintro e w' ⟨rfl, hb⟩; replace hI := hI.step hb)
                | (go_at_call 24; refine (HEN.out _).mono ?_; rintro e w' ⟨rfl, hb⟩; replace hI := hI.step hb)
                | (go_at_call 25; refine (HPK.out _).mono ?_; rintro e w' ⟨rfl, hb⟩; replace hI := hI.step hb))
              go_wp2_with fail
              go_roundg (n - (i + 1))
              case measure => have := HK.out; omega
              case rel => exact ⟨⟨i + 1, j2, by omega, rfl, hj2, by go_num, rfl, hI.at_⟩, hI.low, hI.below⟩
        · rw [decide_eq_true hend] at HEN
          rw [byteI_ge (by omega)] at HPK
          have hne : ((j2 : Int) == (s.size : Int)) = true := by rw [beq_iff_eq]; omega
          have hge : ¬ j2 < s.size := by omega
          clear hend
          rcases hcall with hcall | hcall | hcall
          · as_aux_lemma =>
              have hq : (xd % 5 == 1) = true := by rw [hcall]; rfl
              have HE := Lib.hid (HERR.out (by omega) (by omega))
              obtain ⟨-, m0, -, -⟩ := HM2.out.act
              clear hcall
              go_wp2_with fail
              refine (lawIs_err _ c2 j2 _ HE.out (hg.below HM2.out.below)).mono ?_
              rintro e w5 ⟨rfl, b5⟩
              have HJ := Lib.hid (HM2.out.step b5)
              obtain ⟨-, k0, k1, -⟩ := HJ.out.at_
              go_wp2_with fail
              have hI := HJ.out.drew
              have k0 := hI.at_.2.1
              have k1 := hI.at_.2.2.1
              go_region_held3 (fun w' => w'.cell? ⟨q, 0, none⟩ = some (.string s) ∧ w'.cell? ⟨q, 1, none⟩ = some (.int .i64 j2))
                (first | go_keep | exact ⟨hI.at_.2.1, hI.at_.2.2.1⟩)
                (first
                | (go_at_call 22; refine (at_any s j2 _).mono ?_; rintro e w' ⟨rfl, hb⟩; replace hI := hI.step hb)
                | (go_at_call 23; refine (HRS.out _).mono ?_; rintro e w' ⟨rfl, hb⟩; replace hI := hI.step hb)
                | (go_at_call 24; refine (HEN.out _).mono ?_; rintro e w' ⟨rfl, hb⟩; replace hI := hI.step hb)
                | (go_at_call 25; refine (HPK.out _).mono ?_; rintro e w' ⟨rfl, hb⟩; replace hI := hI.step hb))
              go_wp2_with fail
              go_roundg (n - (i + 1))
              case measure => have := HK.out; omega
              case rel => exact ⟨⟨i + 1, j2, by omega, rfl, hj2, by go_num, rfl, hI.at_⟩, hI.low, hI.below⟩
          · as_aux_lemma =>
              have hq : (xd % 5 == 1) = false := by rw [beq_eq_false_iff_ne]; omega
              have hq2 : 2 < xd % 5 := hcall
              have HE := Lib.hid (HERR.out (by omega) (by omega))
              obtain ⟨-, m0, -, -⟩ := HM2.out.act
              clear hcall
              go_wp2_with fail
              refine (lawIs_err _ c2 j2 _ HE.out (hg.below HM2.out.below)).mono ?_
              rintro e w5 ⟨rfl, b5⟩
              have HJ := Lib.hid (HM2.out.step b5)
              obtain ⟨-, k0, k1, -⟩ := HJ.out.at_
              go_wp2_with fail
              have hI := HJ.out.drew
              have k0 := hI.at_.2.1
              have k1 := hI.at_.2.2.1
              go_region_held3 (fun w' => w'.cell? ⟨q, 0, none⟩ = some (.string s) ∧ w'.cell? ⟨q, 1, none⟩ = some (.int .i64 j2))
                (first | go_keep | exact ⟨hI.at_.2.1, hI.at_.2.2.1⟩)
                (first
                | (go_at_call 22; refine (at_any s j2 _).mono ?_; rintro e w' ⟨rfl, hb⟩; replace hI := hI.step hb)
                | (go_at_call 23; refine (HRS.out _).mono ?_; rintro e w' ⟨rfl, hb⟩; replace hI := hI.step hb)
                | (go_at_call 24; refine (HEN.out _).mono ?_; rintro e w' ⟨rfl, hb⟩; replace hI := hI.step hb)
                | (go_at_call 25; refine (HPK.out _).mono ?_; rintro e w' ⟨rfl, hb⟩; replace hI := hI.step hb))
              go_wp2_with fail
              go_roundg (n - (i + 1))
              case measure => have := HK.out; omega
              case rel => exact ⟨⟨i + 1, j2, by omega, rfl, hj2, by go_num, rfl, hI.at_⟩, hI.low, hI.below⟩
          · as_aux_lemma =>
              have hq : (xd % 5 == 1) = false := by rw [beq_eq_false_iff_ne]; omega
              have hq2 : ¬ 2 < xd % 5 := by omega
              have HJ := HM2
              obtain ⟨-, m0, -, -⟩ := HM2.out.act
              obtain ⟨-, k0, k1, -⟩ := HM2.out.at_
              clear hcall
              go_wp2_with fail
              have hI := HJ.out.drew
              have k0 := hI.at_.2.1
              have k1 := hI.at_.2.2.1
              go_region_held3 (fun w' => w'.cell? ⟨q, 0, none⟩ = some (.string s) ∧ w'.cell? ⟨q, 1, none⟩ = some (.int .i64 j2))
                (first | go_keep | exact ⟨hI.at_.2.1, hI.at_.2.2.1⟩)
                (first
                | (go_at_call 22; refine (at_any s j2 _).mono ?_; rintro e w' ⟨rfl, hb⟩; replace hI := hI.step hb)
                | (go_at_call 23; refine (HRS.out _).mono ?_; rintro e w' ⟨rfl, hb⟩; replace hI := hI.step hb)
                | (go_at_call 24; refine (HEN.out _).mono ?_; rintro e w' ⟨rfl, hb⟩; replace hI := hI.step hb)
                | (go_at_call 25; refine (HPK.out _).mono ?_; rintro e w' ⟨rfl, hb⟩; replace hI := hI.step hb))
              go_wp2_with fail
              go_roundg (n - (i + 1))
              case measure => have := HK.out; omega
              case rel => exact ⟨⟨i + 1, j2, by omega, rfl, hj2, by go_num, rfl, hI.at_⟩, hI.low, hI.below⟩
    · as_aux_lemma =>
        go_wp2_with fail
        go_ret
        exact ⟨rfl, hbel⟩
end Go.Proofs.YtcnaffhdiodkhaaDoor
