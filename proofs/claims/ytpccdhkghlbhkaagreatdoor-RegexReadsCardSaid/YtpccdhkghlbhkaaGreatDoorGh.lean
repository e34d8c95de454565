/-
  The document's own reader of expressions by contracts: a set of words, as a walk.
  The document's own reader of expressions by contracts: what a part, signs, rows and alternatives tell; how a value outlives what follows.
-/
import Derived.Test.YtpccdhkghlbhkaaGreatDoorGg
namespace Go.Proofs.YtpccdhkghlbhkaaGreatDoor
open Go.RowKit Go.Extern.Stop Go.Stop Go.Extern

def QsRel (w : World) (b : Nat) (s : ByteArray) (n : Nat) (neg : Bool) (R : RO (List ByteArray)) (g : Nat) (wr : World) : Prop :=
  ∃ (k : Nat) (seen : List ByteArray) (va : Option Addr) (vc : Nat), chR s g k seen = R ∧ k ≤ s.size ∧ s.size < k + g ∧ seen.length ≤ k ∧ QsSt w b s (skp s k) n 0 neg (srt seen) (.slice va (srt seen).length vc) wr
theorem set4_keeps {w0 w : World} {b r : Nat} (h : Keeps (· = b) w0 w) (hr : w0.heap.size ≤ r) (d0 d1 d2 d3 : Value) : Keeps (· = b) w0 (set4 w r 0 d0 d1 d2 d3) := by
  unfold set4
  exact (((h.setCell (q := ⟨r, 0, none⟩) (.inl hr) d0).setCell (q := ⟨r, 0 + 1, none⟩) (.inl hr) d1).setCell (q := ⟨r, 0 + 2, none⟩) (.inl hr) d2).setCell (q := ⟨r, 0 + 3, none⟩) (.inl hr) d3
/-- What is told of a set that could not be read. -/
theorem qs_er {w w' : World} {b p n : Nat} {s : ByteArray} {c : Int} {neg : Bool} {ws : List ByteArray} {va : Option Addr} {vl vc : Nat} (h : QsSt w b s p n c neg ws (.slice va vl vc) w') (hc : c ≠ 0) :
    QsOut w b s n neg (.er c p) (.returned (.agg #[.int .i64 1, .bool neg, .slice va vl vc, .slice none 0 0])) (set4 w' w.heap.size 0 (.int .i64 1) (.bool neg) (.slice va vl vc) (.slice none 0 0)) :=
  ⟨_, _, _, _, _, _, _, _, rfl, h.rd.keeps (keeps_set4 w' w.heap.size 0 (.int .i64 1) (.bool neg) (.slice va vl vc) (.slice none 0 0)) (fun e => by have := h.ord; omega), hc, set4_keeps h.keep (Nat.le_refl _) _ _ _ _⟩
/-- What is told of a set that was read. -/
theorem qs_ok {w w' : World} {b p n : Nat} {s : ByteArray} {neg : Bool} {seen : List ByteArray} {va : Option Addr} {vl vc : Nat} (h : QsSt w b s p n 0 neg (srt seen) (.slice va vl vc) w') :
    QsOut w b s n neg (.ok p 0 seen) (.returned (.agg #[.int .i64 1, .bool neg, .slice va vl vc, .slice none 0 0])) (set4 w' w.heap.size 0 (.int .i64 1) (.bool neg) (.slice va vl vc) (.slice none 0 0)) := by
  have hk4 := keeps_set4 w' w.heap.size 0 (.int .i64 1) (.bool neg) (.slice va vl vc) (.slice none 0 0)
  have ho := ownX_keeps h.own hk4 (fun q hq e => by have := (h.own.lt q hq).1; omega)
  refine ⟨_, _, _, _, _, _, _, _, rfl, ?_, h.rd.keeps hk4 (fun e => by have := h.ord; omega), set4_keeps h.keep (Nat.le_refl _) _ _ _ _⟩
  unfold ExC
  exact ⟨_, _, [], rfl, CapV.of_own ho, RowX.of_own ho (fun q hq => by have := (ho.lt q hq).1; show w.heap.size ≤ q; omega), RowX.nil _ _, ExsC.nil⟩
set_option maxRecDepth 100000 in
set_option maxHeartbeats 16000000 in
theorem qset_any (s : ByteArray) (a n b : Nat) (hs : s.size ≤ 100000) (ha : a ≤ s.size) (w : World) (h : Qn w b s a n 0) :
    Calls Tryz.prog 96 #[.pointer (some ⟨b, 0, none⟩)] w (QsOut w b s n (decide (byteI s (skp s a) = 94)) (chR s (s.size + 1) (notK s a) [])) := by
  have hb := h.lt
  have hq0 := quad_new w 33 (.int .i64 0) (.bool false) (.slice none 0 0) (.slice none 0 0)
  have hb0 := sbelow_new w (.cells #[.int .i64 0, .bool false, .slice none 0 0, .slice none 0 0] 33)
  have hz : (w.alloc (.cells #[.int .i64 0, .bool false, .slice none 0 0, .slice none 0 0] 33)).heap.size = w.heap.size + 1 := World.size_alloc _ _
  have hq1 := quad_new (w.alloc (.cells #[.int .i64 0, .bool false, .slice none 0 0, .slice none 0 0] 33)) 33 (.int .i64 1) (.bool false) (.slice none 0 0) (.slice none 0 0)
  have hb1 := sbelow_new (w.alloc (.cells #[.int .i64 0, .bool false, .slice none 0 0, .slice none 0 0] 33)) (.cells #[.int .i64 1, .bool false, .slice none 0 0, .slice none 0 0] 33)
  rw [hz] at hq1
  have H0 : Hid (QsSt w b s a n 0 false [] (.slice none 0 0) ((w.alloc (.cells #[.int .i64 0, .bool false, .slice none 0 0, .slice none 0 0] 33)).alloc (.cells #[.int .i64 1, .bool false, .slice none 0 0, .slice none 0 0] 33))) :=
    Lib.hid ⟨(h.step hb0).step hb1, hq0.step hb1, hq1, World.ownsRow_nil _ _ _ _, (Keeps.of_below hb0).next hb1, hb⟩
  have HSK := Lib.hid (fun W (h : Qn W b s a n 0) => qskip_yes s a n b hs ha W h)
  have hj := skp_le ha
  have HI := Lib.hid (fun W (h : Qn W b s (skp s a) n 0) => qis_any s (skp s a) n b 0 94 (by decide) hj.2 W h)
  obtain ⟨R, HRR⟩ : ∃ R, Hid (chR s (s.size + 1) (notK s a) [] = R) := ⟨_, Lib.hid rfl⟩
  rw [HRR.out]
  have HJ := Lib.hid hj
  obtain ⟨neg, HNEG⟩ : ∃ neg, Hid (decide (byteI s (skp s a) = 94) = neg) := ⟨_, Lib.hid rfl⟩
  rw [HNEG.out]
  clear h hq0 hb0 hz hq1 hb1 hj
  go_enter Tryz.func96, Tryz.ntmps96
  go_wp2_with fail
  generalize (w.alloc (.cells #[.int .i64 0, .bool false, .slice none 0 0, .slice none 0 0] 33)).alloc (.cells #[.int .i64 1, .bool false, .slice none 0 0, .slice none 0 0] 33) = w1 at *
  refine (HSK.out _ H0.out.rd).mono ?_
  rintro e w2 ⟨rfl, hr2, hk2⟩
  have H2 := Lib.hid (H0.out.go hr2 hk2)
  clear hr2 hk2 H0 HSK
  go_upto_region 3 with (fail)
  go_wp2_with fail
  refine (HI.out _ H2.out.rd).mono ?_
  rintro e w3 ⟨rfl, b3⟩
  have H3 := Lib.hid (H2.out.step b3)
  clear b3 H2 HI
  go_upto_if 12 with (fail)
  go_cut [4] (fun v4 wx => QsSt w b s (skp s (notK s a)) n 0 neg [] (.slice none 0 0) wx)
  case first =>
    by_cases h94 : byteI s (skp s a) = 94
    · have hin := byteI_in h94 (by decide)
      have hneg : neg = true := by rw [← HNEG.out, decide_eq_true h94]
      subst hneg
      have HENK : Hid (notK s a = skp s a + 1) := Lib.hid (by unfold notK; rw [if_pos h94])
      have HSK2 := Lib.hid (fun W (h : Qn W b s (skp s a + 1) n 0) => qskip_yes s (skp s a + 1) n b hs hin W h)
      have hjb : ((skp s a : Nat) : Int) ≤ 100000 := by omega
      rw [decide_eq_true h94]
      generalize skp s a = j at *
      obtain ⟨c0, c1, c2, c3⟩ := H3.out.rd.cells
      have f1 := H3.out.rd.fz 1
      have hk4 : Keeps (· = b) w3 (w3.setCell ⟨b, 1, none⟩ (.int .i64 ((j : Int) + 1))) := keepsQ w3 b 1 _
      have h4 := H3.out.go (H3.out.rd.at1 (j + 1)) hk4
      have y1 : (w3.setCell ⟨b, 1, none⟩ (.int .i64 ((j : Int) + 1))).cell? ⟨w.heap.size + 1, 1, none⟩ = some (.bool false) := h4.x.cells.2.1
      have yf : (w3.setCell ⟨b, 1, none⟩ (.int .i64 ((j : Int) + 1))).frozen? ⟨w.heap.size + 1, 1, none⟩ = false := h4.x.fz 1
      have hk5 : Keeps (· = w.heap.size + 1) (w3.setCell ⟨b, 1, none⟩ (.int .i64 ((j : Int) + 1))) ((w3.setCell ⟨b, 1, none⟩ (.int .i64 ((j : Int) + 1))).setCell ⟨w.heap.size + 1, 1, none⟩ (.bool true)) := keepsQ _ _ 1 _
      have H5 : Hid (QsSt w b s (j + 1) n 0 true [] (.slice none 0 0) ((w3.setCell ⟨b, 1, none⟩ (.int .i64 ((j : Int) + 1))).setCell ⟨w.heap.size + 1, 1, none⟩ (.bool true))) :=
        Lib.hid ⟨h4.rd.keeps hk5 (fun e => by have := h4.ord; omega), h4.res.keeps hk5 (fun e => by omega), h4.x.put1 _, World.ownsRow_nil _ _ _ _, h4.keep.setCell (q := ⟨w.heap.size + 1, 1, none⟩) (.inl (by show w.heap.size ≤ w.heap.size + 1; omega)) _, h4.ord⟩
      clear hk4 h4 hk5 h94
      go_wp2_with fail
      generalize (w3.setCell ⟨b, 1, none⟩ (.int .i64 ((j : Int) + 1))).setCell ⟨w.heap.size + 1, 1, none⟩ (.bool true) = w5 at *
      refine (HSK2.out _ H5.out.rd).mono ?_
      rintro e w6 ⟨rfl, hr6, hk6⟩
      have H6 := Lib.hid (H5.out.go hr6 hk6)
      go_wp2_with fail
      go_meet
      case rel => rw [HENK.out]; exact H6.out
    · have hneg : neg = false := by rw [← HNEG.out, decide_eq_false h94]
      subst hneg
      have HENK : Hid (notK s a = a) := Lib.hid (by unfold notK; rw [if_neg h94])
      rw [decide_eq_false h94]
      clear h94
      go_wp2_with fail
      go_meet
      case rel => rw [HENK.out]; exact H3.out
  case rest =>
  have HN0 := Lib.hid hcut
  have hnk : notK s a ≤ s.size := by
    unfold notK
    split
    · exact byteI_in (by assumption) (by decide)
    · exact ha
  clear hcut H3 HNEG HJ
  go_wp2_with fail
  go_loopg [4] (s.size + 1) (fun g v wr => QsRel w b s n neg R g wr)
  case atStart => exact ⟨notK s a, [], none, 0, HRR.out, hnk, by omega, Nat.zero_le _, HN0.out⟩
  case round =>
    clear HN0 HRR
    obtain ⟨k, seen, va, vc, hR, hk, hf, hsl, hst⟩ := hrel
    cases gk with
    | zero => omega
    | succ f =>
    rw [chR] at hR
    have HST := Lib.hid hst
    have hj := skp_le hk
    have HKF : Hid (k ≤ s.size ∧ s.size < k + (f + 1) ∧ seen.length ≤ k ∧ k ≤ skp s k) := Lib.hid ⟨hk, hf, hsl, hj.1⟩
    obtain ⟨c0, c1, c2, c3⟩ := hst.rd.cells
    clear hst
    by_cases hc : wdC s (skp s k) = 0
    · rw [if_neg (fun e => e hc)] at hR
      have HW := Lib.hid (qword_ok s (skp s k) n b hs hj.2 hc wr HST.out.rd)
      have hKl := wdK_le hj.2
      have hsl2 : (srt seen).length ≤ 100000 := by rw [srt_len]; omega
      have HSL := Lib.hid hsl2
      have HPUT := Lib.hid (fun t W B v ho => qput_any (srt seen) t hsl2 (srt_sorted seen) W B v ho)
      have HPE := Lib.hid (fun t => srt_push seen t)
      have HLE := Lib.hid (fun t => show (srt (seen ++ [t])).length = (srt seen).length + 1 by rw [srt_len, srt_len]; simp)
      have HHAS := Lib.hid (fun t => srt_has seen t)
      unfold QwOut at HW
      generalize s.extract (skp s k) (wdK s (skp s k)) = t at *
      generalize wdK s (skp s k) = K at *
      generalize skp s k = j at *
      have hjb : (j : Int) ≤ 100000 := by omega
      have HJK := Lib.hid hKl
      have hj2 := hj.2
      clear hc hj hKl hsl2
      go_wp2_with fail
      refine HW.out.mono ?_
      rintro e w5 ⟨rfl, hr5, hk5⟩
      have H5 := Lib.hid (HST.out.go hr5 hk5)
      clear hr5 hk5 c0 c1 c2 c3 HST HW
      obtain ⟨c0, c1, c2, c3⟩ := H5.out.rd.cells
      obtain ⟨x0, x1, x2, x3⟩ := H5.out.x.cells
      go_wp2_with fail
      by_cases hin : (seen.map (fun b => b.data.toList)).contains t.data.toList = true
      · rw [if_pos hin] at hR
        have HRR := Lib.hid hR.symm
        have HMEM := Lib.hid ((HHAS.out t).1 hin)
        have HFL := Lib.hid (fun W (h : Qn W b s j n 0) => qfail_yes s j n b 10 W h)
        clear hR hin x0 x1 x2 x3 c0 c1 c2 c3
        go_loopg [43] (srt seen).length (fun g v wr2 => ∃ i : Nat, i ≤ (srt seen).length ∧ g = (srt seen).length - i ∧ v = .int .i64 i ∧ ((QsSt w b s K n 0 neg (srt seen) (.slice va (srt seen).length vc) wr2 ∧ ∀ i' : Nat, i' < i → (srt seen)[i']? ≠ some t) ∨ QsSt w b s j n 10 neg (srt seen) (.slice va (srt seen).length vc) wr2))
        case atStart => exact ⟨0, Nat.zero_le _, rfl, rfl, .inl ⟨H5.out, fun i' h => absurd h (Nat.not_lt_zero _)⟩⟩
        case round =>
          clear H5
          obtain ⟨i, hi, hg, rfl, hst⟩ := hrel
          have HG := Lib.hid hg
          have HIL := Lib.hid hi
          clear hg
          by_cases hlt : i < (srt seen).length
          · obtain ⟨y, hy⟩ : ∃ y, (srt seen)[i]? = some y := ⟨_, List.getElem?_eq_getElem hlt⟩
            have HY := Lib.hid hy
            have hib : (i : Int) ≤ 100000 := by have := HSL.out; omega
            rcases hst with ⟨hst, hno⟩ | hst
            · have HS := Lib.hid hst
              have HNO := Lib.hid hno
              obtain ⟨b2, o2, eb, hbl, e1⟩ := text_at (RowX.of_own (P := fun _ => True) hst.own (fun _ _ => trivial)) hy (Below.refl _ _)
              subst eb
              obtain ⟨c0, c1, c2, c3⟩ := hst.rd.cells
              have f1 := hst.rd.fz 1
              clear hst hno hy hi
              by_cases he : y = t
              · subst he
                have heq : (y.toList == y.toList) = true := by simp
                have h6 : QsSt w b s j n 0 neg (srt seen) (.slice (some ⟨b2, o2, none⟩) (srt seen).length vc) (wr.setCell ⟨b, 1, none⟩ (.int .i64 j)) := HS.out.go (HS.out.rd.at1 j) (keepsQ wr b 1 _)
                have H6 := Lib.hid h6
                clear h6
                go_upto_region 17 with (fail)
                generalize wr.setCell ⟨b, 1, none⟩ (.int .i64 j) = w6 at *
                go_wp2_with fail
                refine (HFL.out _ H6.out.rd).mono ?_
                rintro e w7 ⟨rfl, hr7, hk7⟩
                have H7 := Lib.hid (H6.out.go hr7 hk7)
                clear hr7 hk7
                go_wp2_with fail
                go_roundg ((srt seen).length - (i + 1))
                case measure => have := HG.out; omega
                case rel => exact ⟨i + 1, by omega, rfl, rfl, .inr H7.out⟩
              · have heq : (y.toList == t.toList) = false := by
                  rw [Go.ByteArray.toList_eq, Go.ByteArray.toList_eq]
                  exact beq_eq_false_iff_ne.2 (fun e => he (ByteArray.ext (Array.toList_inj.1 e)))
                have HE := Lib.hid he
                clear he
                go_wp2_with fail
                go_roundg ((srt seen).length - (i + 1))
                case measure => have := HG.out; omega
                case rel => exact ⟨i + 1, by omega, rfl, rfl, .inl ⟨HS.out, fun i' hi' e => by
                  by_cases h0 : i' = i
                  · subst h0
                    have := HY.out
                    rw [e] at this
                    injection this with this
                    exact HE.out this.symm
                  · exact HNO.out i' (by omega) e⟩⟩
            · have HS := Lib.hid hst
              obtain ⟨b2, o2, eb, hbl, e1⟩ := text_at (RowX.of_own (P := fun _ => True) hst.own (fun _ _ => trivial)) hy (Below.refl _ _)
              subst eb
              obtain ⟨c0, c1, c2, c3⟩ := hst.rd.cells
              clear hst hy hi
              cases heq : (y.toList == t.toList) with
              | true =>
                go_wp2_with fail
                go_roundg ((srt seen).length - (i + 1))
                case measure => have := HG.out; omega
                case rel => exact ⟨i + 1, by omega, rfl, rfl, .inr HS.out⟩
              | false =>
                go_wp2_with fail
                go_roundg ((srt seen).length - (i + 1))
                case measure => have := HG.out; omega
                case rel => exact ⟨i + 1, by omega, rfl, rfl, .inr HS.out⟩
          · obtain rfl : i = (srt seen).length := by omega
            rcases hst with ⟨-, hno⟩ | hst
            · exfalso
              obtain ⟨i', hi', e⟩ := List.mem_iff_getElem.1 HMEM.out
              exact hno i' hi' (by rw [List.getElem?_eq_getElem hi', e])
            · have HS := Lib.hid hst
              obtain ⟨x0, x1, x2, x3⟩ := hst.x.cells
              have HPP := Lib.hid (HPUT.out t wr _ _ hst.own)
              clear hst hi hlt
              go_wp2_with fail
              refine HPP.out.mono ?_
              rintro e w6 ⟨v', rfl, ho6, b6⟩
              obtain ⟨va6, vc6, rfl, -⟩ := CapV.of_own ho6
              have h6 := HS.out.step b6
              rw [HPE.out t |>.symm, ← HLE.out t] at ho6
              have H7 := Lib.hid (h6.put (own_base ho6 (by have := HS.out.lt2; omega)))
              have y2 := h6.x.cells.2.2.1
              have yf := h6.x.fz 2
              rw [HLE.out t] at H7
              clear ho6 b6 h6 HS x0 x1 x2 x3
              go_upto_region 20 with (fail)
              generalize w6.setCell ⟨w.heap.size + 1, 2, none⟩ (.slice va6 ((srt seen).length + 1) vc6) = w7 at *
              rw [← HLE.out t] at *
              have HSN := Lib.hid (fun W (h : Qn W b s j n 10) => qskip_no s j n b 10 (by decide) W h)
              have HIS := Lib.hid (fun W (h : Qn W b s j n 10) => qis_any s j n b 10 44 (by decide) hj2 W h)
              rw [show (decide ((10 : Int) = 0) && decide (byteI s j = 44)) = false from rfl] at HIS
              have HTI := Lib.hid (fun W (h : Qn W b s j n 10) => qtake_idle s j n b 10 93 (by decide) hj2 (by decide) W h)
              clear y2 yf
              go_wp2_with fail
              refine (HSN.out _ H7.out.rd).mono ?_
              rintro e w' ⟨rfl, rfl⟩
              go_wp2_with fail
              refine (HIS.out _ H7.out.rd).mono ?_
              rintro e w8 ⟨rfl, b8⟩
              have H8 := Lib.hid (H7.out.step b8)
              clear b8 H7
              go_wp2_with fail
              refine (HTI.out _ H8.out.rd).mono ?_
              rintro e w9 ⟨rfl, b9⟩
              have H9 := Lib.hid (H8.out.step b9)
              clear b9 H8
              obtain ⟨x0, x1, x2, x3⟩ := H9.out.x.cells
              have r0 := H9.out.res.cells.1
              have r1 := H9.out.res.cells.2.1
              have r2 := H9.out.res.cells.2.2.1
              have r3 := H9.out.res.cells.2.2.2
              have rf0 := H9.out.res.fz 0
              have rf1 := H9.out.res.fz 1
              have rf2 := H9.out.res.fz 2
              have rf3 := H9.out.res.fz 3
              obtain ⟨q0, q1, q2, q3⟩ := (H9.out.res.set4 (.int .i64 1) (.bool neg) (.slice va6 (srt (seen ++ [t])).length vc6) (.slice none 0 0)).cells
              have hout := (qs_er H9.out (by decide))
              unfold set4 at q0 q1 q2 q3 hout
              go_wp2_with fail
              refine bodyPost_ret (v := .agg #[.int .i64 1, .bool neg, .slice va6 (srt (seen ++ [t])).length vc6, .slice none 0 0]) (by simp [results, Tryz.results96, go_sem, q0, q1, q2, q3]) rfl ?_
              rw [HRR.out]
              exact hout
      · rw [if_neg hin] at hR
        have HNM := Lib.hid (fun hm => hin ((HHAS.out t).2 hm))
        have HR0 := Lib.hid hR
        have HK2 := Lib.hid (skp_le HJK.out.2)
        clear hR hin x0 x1 x2 x3 c0 c1 c2 c3
        go_loopg [43] (srt seen).length (fun g v wr2 => ∃ i : Nat, i ≤ (srt seen).length ∧ g = (srt seen).length - i ∧ v = .int .i64 i ∧ QsSt w b s K n 0 neg (srt seen) (.slice va (srt seen).length vc) wr2)
        case atStart => exact ⟨0, Nat.zero_le _, rfl, rfl, H5.out⟩
        case round =>
          clear H5
          obtain ⟨i, hi, hg, rfl, hst⟩ := hrel
          have HG := Lib.hid hg
          have HS := Lib.hid hst
          clear hg
          by_cases hlt : i < (srt seen).length
          · obtain ⟨y, hy⟩ : ∃ y, (srt seen)[i]? = some y := ⟨_, List.getElem?_eq_getElem hlt⟩
            have hib : (i : Int) ≤ 100000 := by have := HSL.out; omega
            have heq : (y.toList == t.toList) = false := by
              rw [Go.ByteArray.toList_eq, Go.ByteArray.toList_eq]
              refine beq_eq_false_iff_ne.2 (fun e => HNM.out ?_)
              have e2 : y = t := ByteArray.ext (Array.toList_inj.1 e)
              rw [← e2]
              exact List.mem_of_getElem? hy
            obtain ⟨b2, o2, eb, hbl, e1⟩ := text_at (RowX.of_own (P := fun _ => True) hst.own (fun _ _ => trivial)) hy (Below.refl _ _)
            subst eb
            clear hst hy hi
            go_wp2_with fail
            go_roundg ((srt seen).length - (i + 1))
            case measure => have := HG.out; omega
            case rel => exact ⟨i + 1, by omega, rfl, rfl, HS.out⟩
          · obtain rfl : i = (srt seen).length := by omega
            obtain ⟨x0, x1, x2, x3⟩ := hst.x.cells
            have HPP := Lib.hid (HPUT.out t wr _ _ hst.own)
            clear hst hi hlt
            go_wp2_with fail
            refine HPP.out.mono ?_
            rintro e w6 ⟨v', rfl, ho6, b6⟩
            obtain ⟨va6, vc6, rfl, -⟩ := CapV.of_own ho6
            have h6 := HS.out.step b6
            rw [HPE.out t |>.symm, ← HLE.out t] at ho6
            have H7 := Lib.hid (h6.put (own_base ho6 (by have := HS.out.lt2; omega)))
            have y2 := h6.x.cells.2.2.1
            have yf := h6.x.fz 2
            rw [HLE.out t] at H7
            clear ho6 b6 h6 HS x0 x1 x2 x3
            go_upto_region 20 with (fail)
            generalize w6.setCell ⟨w.heap.size + 1, 2, none⟩ (.slice va6 ((srt seen).length + 1) vc6) = w7 at *
            rw [← HLE.out t] at *
            have hK2 := HK2.out
            have HSY := Lib.hid (fun W (h : Qn W b s K n 0) => qskip_yes s K n b hs HJK.out.2 W h)
            have HIS := Lib.hid (fun W (h : Qn W b s (skp s K) n 0) => qis_any s (skp s K) n b 0 44 (by decide) hK2.2 W h)
            rw [show (decide ((0 : Int) = 0) && decide (byteI s (skp s K) = 44)) = decide (byteI s (skp s K) = 44) from rfl] at HIS
            clear y2 yf
            go_wp2_with fail
            refine (HSY.out _ H7.out.rd).mono ?_
            rintro e w8 ⟨rfl, hr8, hk8⟩
            have H8 := Lib.hid (H7.out.go hr8 hk8)
            clear hr8 hk8 H7
            have hR1 := HR0.out
            by_cases h44 : byteI s (skp s K) = 44
            · rw [if_pos h44] at hR1
              rw [decide_eq_true h44] at HIS
              go_wp2_with fail
              refine (HIS.out _ H8.out.rd).mono ?_
              rintro e w9 ⟨rfl, b9⟩
              have H9 := Lib.hid (H8.out.step b9)
              clear b9 H8
              have HRR := Lib.hid hR1
              have hin := byteI_in h44 (by decide)
              have HSK2 := Lib.hid (fun W (h : Qn W b s (skp s K + 1) n 0) => qskip_yes s (skp s K + 1) n b hs hin W h)
              have HBD : Hid (skp s K + 1 ≤ s.size ∧ s.size < skp s K + 1 + f ∧ (seen ++ [t]).length ≤ skp s K + 1) := Lib.hid (by
                have h1 := HKF.out
                have h2 := HJK.out
                simp
                omega)
              have hjb2 : ((skp s K : Nat) : Int) ≤ 100000 := by omega
              generalize skp s K = e2 at *
              obtain ⟨c0, c1, c2, c3⟩ := H9.out.rd.cells
              have f1 := H9.out.rd.fz 1
              have h10 : QsSt w b s (e2 + 1) n 0 neg (srt (seen ++ [t])) (.slice va6 (srt (seen ++ [t])).length vc6) (w9.setCell ⟨b, 1, none⟩ (.int .i64 ((e2 : Int) + 1))) := H9.out.go (H9.out.rd.at1 (e2 + 1)) (keepsQ w9 b 1 _)
              have H10 := Lib.hid h10
              clear h10 hR1 h44
              go_upto_region 25 with (fail)
              generalize w9.setCell ⟨b, 1, none⟩ (.int .i64 ((e2 : Int) + 1)) = w10 at *
              clear c0 c1 c2 c3 f1
              go_wp2_with fail
              refine (HSK2.out _ H10.out.rd).mono ?_
              rintro e w11 ⟨rfl, hr11, hk11⟩
              have H11 := Lib.hid (H10.out.go hr11 hk11)
              clear hr11 hk11
              go_wp2_with fail
              go_roundg f
              case measure => omega
              case rel => exact ⟨e2 + 1, seen ++ [t], va6, vc6, HRR.out, HBD.out.1, HBD.out.2.1, HBD.out.2.2, H11.out⟩
            · rw [if_neg h44] at hR1
              rw [decide_eq_false h44] at HIS
              go_wp2_with fail
              refine (HIS.out _ H8.out.rd).mono ?_
              rintro e w9 ⟨rfl, b9⟩
              have H9 := Lib.hid (H8.out.step b9)
              clear b9 H8
              by_cases h93 : byteI s (skp s K) = 93
              · rw [if_pos h93] at hR1
                have HRR := Lib.hid hR1.symm
                have HTY := Lib.hid (fun W (h : Qn W b s (skp s K) n 0) => qtake_yes s (skp s K) n b 93 hs (by decide) hK2.2 h93 W h)
                generalize skp s K = e2 at *
                clear hR1 h44 h93
                go_wp2_with fail
                refine (HTY.out _ H9.out.rd).mono ?_
                rintro e w10 ⟨rfl, hr10, hk10⟩
                have H10 := Lib.hid (H9.out.go hr10 hk10)
                clear hr10 hk10
                obtain ⟨x0, x1, x2, x3⟩ := H10.out.x.cells
                have r0 := H10.out.res.cells.1
                have r1 := H10.out.res.cells.2.1
                have r2 := H10.out.res.cells.2.2.1
                have r3 := H10.out.res.cells.2.2.2
                have rf0 := H10.out.res.fz 0
                have rf1 := H10.out.res.fz 1
                have rf2 := H10.out.res.fz 2
                have rf3 := H10.out.res.fz 3
                obtain ⟨q0, q1, q2, q3⟩ := (H10.out.res.set4 (.int .i64 1) (.bool neg) (.slice va6 (srt (seen ++ [t])).length vc6) (.slice none 0 0)).cells
                have hout := (qs_ok H10.out)
                unfold set4 at q0 q1 q2 q3 hout
                go_wp2_with fail
                refine bodyPost_ret (v := .agg #[.int .i64 1, .bool neg, .slice va6 (srt (seen ++ [t])).length vc6, .slice none 0 0]) (by simp [results, Tryz.results96, go_sem, q0, q1, q2, q3]) rfl ?_
                rw [HRR.out]
                exact hout
              · rw [if_neg h93] at hR1
                have HRR := Lib.hid hR1.symm
                have HTN := Lib.hid (fun W (h : Qn W b s (skp s K) n 0) => qtake_no s (skp s K) n b 93 (by decide) hK2.2 h93 W h)
                have HMN := Lib.hid (missC_ne s (skp s K))
                generalize skp s K = e2 at *
                clear hR1 h44 h93
                go_wp2_with fail
                refine (HTN.out _ H9.out.rd).mono ?_
                rintro e w10 ⟨rfl, hr10, hk10⟩
                have H10 := Lib.hid (H9.out.go hr10 hk10)
                clear hr10 hk10
                obtain ⟨x0, x1, x2, x3⟩ := H10.out.x.cells
                have r0 := H10.out.res.cells.1
                have r1 := H10.out.res.cells.2.1
                have r2 := H10.out.res.cells.2.2.1
                have r3 := H10.out.res.cells.2.2.2
                have rf0 := H10.out.res.fz 0
                have rf1 := H10.out.res.fz 1
                have rf2 := H10.out.res.fz 2
                have rf3 := H10.out.res.fz 3
                obtain ⟨q0, q1, q2, q3⟩ := (H10.out.res.set4 (.int .i64 1) (.bool neg) (.slice va6 (srt (seen ++ [t])).length vc6) (.slice none 0 0)).cells
                have hout := (qs_er H10.out HMN.out)
                unfold set4 at q0 q1 q2 q3 hout
                go_wp2_with fail
                refine bodyPost_ret (v := .agg #[.int .i64 1, .bool neg, .slice va6 (srt (seen ++ [t])).length vc6, .slice none 0 0]) (by simp [results, Tryz.results96, go_sem, q0, q1, q2, q3]) rfl ?_
                rw [HRR.out]
                exact hout
    · rw [if_pos hc] at hR
      have HRR := Lib.hid hR.symm
      obtain ⟨t, hw⟩ := qword_er s (skp s k) n b hs hj.2 hc wr HST.out.rd
      have HW := Lib.hid hw
      have HC := Lib.hid hc
      have hcb : (wdC s (skp s k) == 0) = false := beq_eq_false_iff_ne.2 hc
      generalize wdC s (skp s k) = cc at *
      generalize wdA s (skp s k) = aa at *
      generalize skp s k = j at *
      clear hw hR hc
      go_wp2_with fail
      refine HW.out.mono ?_
      rintro e w5 ⟨rfl, hr5, hk5⟩
      have H5 := Lib.hid (HST.out.go hr5 hk5)
      clear hr5 hk5 c0 c1 c2 c3
      obtain ⟨c0, c1, c2, c3⟩ := H5.out.rd.cells
      obtain ⟨x0, x1, x2, x3⟩ := H5.out.x.cells
      have r0 := H5.out.res.cells.1
      have r1 := H5.out.res.cells.2.1
      have r2 := H5.out.res.cells.2.2.1
      have r3 := H5.out.res.cells.2.2.2
      have rf0 := H5.out.res.fz 0
      have rf1 := H5.out.res.fz 1
      have rf2 := H5.out.res.fz 2
      have rf3 := H5.out.res.fz 3
      obtain ⟨q0, q1, q2, q3⟩ := (H5.out.res.set4 (.int .i64 1) (.bool neg) (.slice va (srt seen).length vc) (.slice none 0 0)).cells
      have hout := (qs_er H5.out HC.out)
      unfold set4 at q0 q1 q2 q3 hout
      go_wp2_with fail
      refine bodyPost_ret (v := .agg #[.int .i64 1, .bool neg, .slice va (srt seen).length vc, .slice none 0 0]) (by simp [results, Tryz.results96, go_sem, q0, q1, q2, q3]) rfl ?_
      rw [HRR.out]
      exact hout
end Go.Proofs.YtpccdhkghlbhkaaGreatDoor

namespace Go.Proofs.YtpccdhkghlbhkaaGreatDoor
open Go.RowKit Go.Extern.Stop Go.Stop Go.Extern

/-- What is told of an expression that is read. -/
def QxOut (w : World) (b : Nat) (s : ByteArray) : RO Rx → Ending → World → Prop
  | .er c p, e, w' => ∃ (n' : Nat) (k : Int) (t : Bool) (a1 : Option Addr) (l1 c1 : Nat) (a2 : Option Addr) (l2 c2 : Nat), e = .returned (.agg #[.int .i64 k, .bool t, .slice a1 l1 c1, .slice a2 l2 c2]) ∧ Qn w' b s p n' c ∧ c ≠ 0 ∧ p ≤ s.size ∧ Keeps (· = b) w w'
  | .ok k' n' x, e, w' => ∃ (k : Int) (t : Bool) (a1 : Option Addr) (l1 c1 : Nat) (a2 : Option Addr) (l2 c2 : Nat), e = .returned (.agg #[.int .i64 k, .bool t, .slice a1 l1 c1, .slice a2 l2 c2]) ∧ ExC (fun q => w.heap.size ≤ q) w' [.int .i64 k, .bool t, .slice a1 l1 c1, .slice a2 l2 c2] x ∧ Qn w' b s k' n' 0 ∧ k' ≤ s.size ∧ n' ≤ 100 ∧ Keeps (· = b) w w'
/-- What may stand between brackets, by contract. -/
def QSub (s : ByteArray) (sub : Option (Nat → Nat → RO Rx)) (deep : Nat) : Prop :=
  match sub with
  | none => deep = 64
  | some f => deep < 64 ∧ ∀ (w : World) (b k n : Nat), k ≤ s.size → n ≤ 100 → Qn w b s (skp s k) n 0 → Calls Tryz.prog 32 #[.pointer (some ⟨b, 0, none⟩), .int .i64 (deep + 1 : Nat)] w (QxOut w b s (f k n))
theorem ExC.keepsD {P D : Nat → Prop} {w w' : World} {cs : List Value} {x : Rx} (h : ExC P w cs x) (hk : Keeps D w w') (hD : ∀ q, P q → ¬ D q) : ExC P w' cs x := h.move hk.size (fun q hq hlt => ⟨hq, hk.block q hlt (hD q hq)⟩)
theorem ExC.weak {P P' : Nat → Prop} {w : World} {cs : List Value} {x : Rx} (h : ExC P w cs x) (hP : ∀ q, P q → P' q) : ExC P' w cs x := h.move (Nat.le_refl _) (fun q hq _ => ⟨hP q hq, rfl⟩)

/-- On the way through a part: the reader, the result's block, the part's own block. -/
structure QpSt (w0 : World) (b : Nat) (s : ByteArray) (a n : Nat) (c : Int) (xb : Nat) (c0 c1 c2 c3 : Value) (w : World) : Prop where
  rd : Qn w b s a n c
  res : QuadAt 33 w w0.heap.size (.int .i64 0) (.bool false) (.slice none 0 0) (.slice none 0 0)
  x : QuadAt 33 w xb c0 c1 c2 c3
  keep : Keeps (· = b) w0 w
  ord : b < w0.heap.size ∧ w0.heap.size < xb
/-- Where a part's value may lie. -/
def QpP (w0 : World) (xb q : Nat) : Prop := w0.heap.size < q ∧ q ≠ xb
section
variable {w0 w w' : World} {b a n xb : Nat} {s : ByteArray} {c : Int} {c0 c1 c2 c3 : Value}
theorem QpSt.step (h : QpSt w0 b s a n c xb c0 c1 c2 c3 w) (hb : Below w.heap.size w w') : QpSt w0 b s a n c xb c0 c1 c2 c3 w' :=
  ⟨h.rd.step hb, h.res.step hb, h.x.step hb, h.keep.next hb, h.ord⟩
theorem QpSt.go {a' n' : Nat} {c' : Int} (h : QpSt w0 b s a n c xb c0 c1 c2 c3 w) (hr : Qn w' b s a' n' c') (hk : Keeps (· = b) w w') : QpSt w0 b s a' n' c' xb c0 c1 c2 c3 w' :=
  ⟨hr, h.res.keeps hk (fun e => by have := h.ord; omega), h.x.keeps hk (fun e => by have := h.ord; omega), h.keep.trans hk, h.ord⟩
/-- Its value is stored. -/
theorem QpSt.set (h : QpSt w0 b s a n c xb c0 c1 c2 c3 w) (d0 d1 d2 d3 : Value) : QpSt w0 b s a n c xb d0 d1 d2 d3 (set4 w xb 0 d0 d1 d2 d3) := by
  have hk := keeps_set4 w xb 0 d0 d1 d2 d3
  exact ⟨h.rd.keeps hk (fun e => by have := h.ord; omega), h.res.keeps hk (fun e => by have := h.ord; omega), h.x.set4 _ _ _ _, set4_keeps h.keep (by have := h.ord; omega) _ _ _ _, h.ord⟩
end
/-- An error is told. -/
theorem qp_er {w w' : World} {b p n xb : Nat} {s : ByteArray} {c k : Int} {t : Bool} {a1 : Option Addr} {l1 e1 : Nat} {a2 : Option Addr} {l2 e2 : Nat} {x0 x1 x2 x3 : Value} (h : QpSt w b s p n c xb x0 x1 x2 x3 w') (hc : c ≠ 0) (hp : p ≤ s.size) :
    QxOut w b s (.er c p) (.returned (.agg #[.int .i64 k, .bool t, .slice a1 l1 e1, .slice a2 l2 e2])) (set4 w' w.heap.size 0 (.int .i64 k) (.bool t) (.slice a1 l1 e1) (.slice a2 l2 e2)) :=
  ⟨_, _, _, _, _, _, _, _, _, rfl, h.rd.keeps (keeps_set4 w' w.heap.size 0 (.int .i64 k) (.bool t) (.slice a1 l1 e1) (.slice a2 l2 e2)) (fun e => by have := h.ord; omega), hc, hp, set4_keeps h.keep (Nat.le_refl _) _ _ _ _⟩
/-- A value is told. -/
theorem qp_ok {w w' : World} {b p n xb : Nat} {s : ByteArray} {k : Int} {t : Bool} {a1 : Option Addr} {l1 e1 : Nat} {a2 : Option Addr} {l2 e2 : Nat} {x0 x1 x2 x3 : Value} {x : Rx} (h : QpSt w b s p n 0 xb x0 x1 x2 x3 w') (hx : ExC (fun q => w.heap.size < q) w' [.int .i64 k, .bool t, .slice a1 l1 e1, .slice a2 l2 e2] x) (hp : p ≤ s.size) (hn : n ≤ 100) :
    QxOut w b s (.ok p n x) (.returned (.agg #[.int .i64 k, .bool t, .slice a1 l1 e1, .slice a2 l2 e2])) (set4 w' w.heap.size 0 (.int .i64 k) (.bool t) (.slice a1 l1 e1) (.slice a2 l2 e2)) := by
  have hk4 := keeps_set4 w' w.heap.size 0 (.int .i64 k) (.bool t) (.slice a1 l1 e1) (.slice a2 l2 e2)
  exact ⟨_, _, _, _, _, _, _, _, rfl, (hx.keepsD hk4 (fun q hq e => by omega)).weak (fun q hq => Nat.le_of_lt hq), h.rd.keeps hk4 (fun e => by have := h.ord; omega), hp, hn, set4_keeps h.keep (Nat.le_refl _) _ _ _ _⟩
theorem qp_start (w : World) {b a n : Nat} {s : ByteArray} (h : Qn w b s a n 0) : QpSt w b s a n 0 (w.heap.size + 1) (.int .i64 0) (.bool false) (.slice none 0 0) (.slice none 0 0) ((w.alloc (.cells #[.int .i64 0, .bool false, .slice none 0 0, .slice none 0 0] 33)).alloc (.cells #[.int .i64 0, .bool false, .slice none 0 0, .slice none 0 0] 33)) := by
  have hq0 := quad_new w 33 (.int .i64 0) (.bool false) (.slice none 0 0) (.slice none 0 0)
  have hb0 := sbelow_new w (.cells #[.int .i64 0, .bool false, .slice none 0 0, .slice none 0 0] 33)
  have hz : (w.alloc (.cells #[.int .i64 0, .bool false, .slice none 0 0, .slice none 0 0] 33)).heap.size = w.heap.size + 1 := World.size_alloc _ _
  have hq1 := quad_new (w.alloc (.cells #[.int .i64 0, .bool false, .slice none 0 0, .slice none 0 0] 33)) 33 (.int .i64 0) (.bool false) (.slice none 0 0) (.slice none 0 0)
  have hb1 := sbelow_new (w.alloc (.cells #[.int .i64 0, .bool false, .slice none 0 0, .slice none 0 0] 33)) (.cells #[.int .i64 0, .bool false, .slice none 0 0, .slice none 0 0] 33)
  rw [hz] at hq1
  exact ⟨(h.step hb0).step hb1, hq0.step hb1, hq1, (Keeps.of_below hb0).next hb1, ⟨h.lt, Nat.lt_succ_self _⟩⟩
/-- A count at a place, as the plain reading tells it. -/
theorem qcount_out (s : ByteArray) (a n b p : Nat) (hn : n ≤ 100) (w : World) (h : Qn w b s a n 0) :
    Calls Tryz.prog 48 #[.pointer (some ⟨b, 0, none⟩), .int .i64 p] w fun e w' => e = .returned (.tuple #[]) ∧ Qn w' b s (if 100 < n + 1 then p else a) (n + 1) (if 100 < n + 1 then 6 else 0) ∧ Keeps (· = b) w w' := by
  by_cases hb : 100 < n + 1
  · rw [if_pos hb, if_pos hb]
    exact qcount_over s a n b p (by omega) hb w h
  · rw [if_neg hb, if_neg hb]
    exact qcount_in s a n b p hb w h
end Go.Proofs.YtpccdhkghlbhkaaGreatDoor
