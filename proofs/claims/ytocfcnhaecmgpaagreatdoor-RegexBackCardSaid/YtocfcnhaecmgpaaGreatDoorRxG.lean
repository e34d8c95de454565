/-
  Package regex's reader by contracts: a set of words between brackets, its walk.
-/
import Derived.Test.YtocfcnhaecmgpaaGreatDoorRxF
namespace Go.Proofs.YtocfcnhaecmgpaaGreatDoor
open Go.RowKit Go.Extern.Stop Go.Stop Go.Extern Go.WideMaps

/-- A set of words, behind the [. -/
def chX (s : ByteArray) (k n : Nat) : RO Rx :=
  match chR s (s.size + 1) (notK s k) [] with
  | .er c a => .er c a
  | .ok k' _ ws => .ok k' n (.mk 1 (decide (byteI s (skp s k) = 94)) (srt ws) [])
/-- Its end. -/
def chEnd (s : ByteArray) (k : Nat) (seen : List ByteArray) : RO (List ByteArray) :=
  if byteI s (skp s k) = 93 then .ok (skp s k + 1) 0 seen else .er (missC s (skp s k)) (skp s k)
theorem chR_er {s : ByteArray} {f k : Nat} {seen : List ByteArray} (h : wdC s (skp s k) ≠ 0) : chR s (f + 1) k seen = .er (wdC s (skp s k)) (wdA s (skp s k)) := by rw [chR, if_pos h]
theorem chR_twice {s : ByteArray} {f k : Nat} {seen : List ByteArray} (h : wdC s (skp s k) = 0) (hin : (seen.map (fun b => b.data.toList)).contains (s.extract (skp s k) (wdK s (skp s k))).data.toList = true) : chR s (f + 1) k seen = .er 10 (skp s k) := by
  rw [chR, if_neg (by rw [h]; decide), if_pos hin]
theorem chR_more {s : ByteArray} {f k : Nat} {seen : List ByteArray} (h : wdC s (skp s k) = 0) (hin : (seen.map (fun b => b.data.toList)).contains (s.extract (skp s k) (wdK s (skp s k))).data.toList = false) (hc : byteI s (skp s (wdK s (skp s k))) = 44) :
    chR s (f + 1) k seen = chR s f (skp s (wdK s (skp s k)) + 1) (seen ++ [s.extract (skp s k) (wdK s (skp s k))]) := by
  rw [chR, if_neg (by rw [h]; decide), if_neg (by rw [hin]; decide), if_pos hc]
theorem chR_last {s : ByteArray} {f k : Nat} {seen : List ByteArray} (h : wdC s (skp s k) = 0) (hin : (seen.map (fun b => b.data.toList)).contains (s.extract (skp s k) (wdK s (skp s k))).data.toList = false) (hc : ¬ byteI s (skp s (wdK s (skp s k))) = 44) :
    chR s (f + 1) k seen = chEnd s (wdK s (skp s k)) (seen ++ [s.extract (skp s k) (wdK s (skp s k))]) := by
  rw [chR, if_neg (by rw [h]; decide), if_neg (by rw [hin]; decide), if_neg hc]
  rfl
theorem wdC_nz {s : ByteArray} {j : Nat} (h : wdC s j ≠ 0) : wdC s j ≠ 0 := h
theorem notK_eq (s : ByteArray) (k : Nat) : notK s k = tkK s k 94 := rfl

/-- On the way through the words. -/
structure ChSt (w0 : World) (rb : Nat) (s : ByteArray) (k n d : Nat) (neg : Bool) (xb mb m : Nat) (seen : List ByteArray) (w : World) : Prop where
  rd : Rd w rb s k n d
  res : QuadAt 25 w w0.heap.size (.int .i64 0) (.bool false) (.slice none 0 0) (.slice none 0 0)
  x : QuadAt 25 w xb (.int .i64 1) (.bool neg) (.slice none 0 0) (.slice none 0 0)
  seen : SeenAt w mb m seen
  keep : Keeps (· = rb) w0 w
  ord : rb < w0.heap.size ∧ w0.heap.size < xb ∧ xb < mb
section
variable {w0 : World} {rb : Nat} {s : ByteArray} {k n d k' : Nat} {neg : Bool} {xb mb m m' : Nat} {seen seen' : List ByteArray} {w w' : World}
theorem ChSt.go (h : ChSt w0 rb s k n d neg xb mb m seen w) (hr : Rd w' rb s k' n d) (hk : Keeps (· = rb) w w') : ChSt w0 rb s k' n d neg xb mb m seen w' :=
  ⟨hr, h.res.keeps hk (by have := h.ord; omega), h.x.keeps hk (by have := h.ord; omega), h.seen.keeps hk (by have := h.ord; omega), h.keep.trans hk, h.ord⟩
theorem ChSt.step (h : ChSt w0 rb s k n d neg xb mb m seen w) (hb : Below w.heap.size w w') : ChSt w0 rb s k n d neg xb mb m seen w' := h.go (h.rd.step hb) (.of_below hb)
/-- The map has changed. -/
theorem ChSt.map (h : ChSt w0 rb s k n d neg xb mb m seen w) (hg : w.grownBy w' (some mb)) (hs : SeenAt w' mb m' seen') : ChSt w0 rb s k n d neg xb mb m' seen' w' := by
  have hk : Keeps (· = mb) w w' := Keeps.of_grown hg (fun q e => by injection e with e; exact e.symm)
  have ho := h.ord
  refine ⟨QuadAt.keeps h.rd hk (by omega), h.res.keeps hk (by omega), h.x.keeps hk (by omega), hs, ?_, ho⟩
  have hk2 : Keeps (fun q => q = rb ∨ w0.heap.size ≤ q) w0 w' := (h.keep.mono (fun q e => .inl e)).trans (hk.mono (fun q e => .inr (by show w0.heap.size ≤ q; omega)))
  exact ⟨hk2.os, hk2.tape, hk2.output, hk2.size, fun q hq hn => hk2.block q hq (fun e => e.elim hn (fun e => by omega))⟩
end
/-- A result's four cells are stored. -/
theorem res_keeps {w0 w : World} {rb : Nat} (h : Keeps (· = rb) w0 w) (d0 d1 d2 d3 : Value) : Keeps (· = rb) w0 (set4 w w0.heap.size 0 d0 d1 d2 d3) := by
  unfold set4
  exact (((h.setCell (q := ⟨w0.heap.size, 0, none⟩) (.inl (Nat.le_refl _)) d0).setCell (q := ⟨w0.heap.size, 0 + 1, none⟩) (.inl (Nat.le_refl _)) d1).setCell (q := ⟨w0.heap.size, 0 + 2, none⟩) (.inl (Nat.le_refl _)) d2).setCell (q := ⟨w0.heap.size, 0 + 3, none⟩) (.inl (Nat.le_refl _)) d3

theorem ChSt.grown {w0 : World} {rb : Nat} {s : ByteArray} {k n d : Nat} {neg : Bool} {xb mb m : Nat} {seen : List ByteArray} {w w' : World} (h : ChSt w0 rb s k n d neg xb mb m seen w) (hg : w.grownBy w' (some mb)) :
    QuadAt 25 w' w0.heap.size (.int .i64 0) (.bool false) (.slice none 0 0) (.slice none 0 0) ∧ Keeps (· = rb) w0 w' := by
  have hk : Keeps (· = mb) w w' := Keeps.of_grown hg (fun q e => by injection e with e; exact e.symm)
  have ho := h.ord
  have hk2 : Keeps (fun q => q = rb ∨ w0.heap.size ≤ q) w0 w' := (h.keep.mono (fun q e => .inl e)).trans (hk.mono (fun q e => .inr (by show w0.heap.size ≤ q; omega)))
  exact ⟨h.res.keeps hk (by omega), ⟨hk2.os, hk2.tape, hk2.output, hk2.size, fun q hq hn => hk2.block q hq (fun e => e.elim hn (fun e => by omega))⟩⟩
theorem val1 (v : Int) (h : 0 ≤ v ∧ v ≤ 10) : plainElem (H := Unit) Tryz.prog 3 (.int .i64 v) = some (.lit (.int .i64 v), []) := by
  unfold plainElem
  rw [Tryz.underlying3]
  have hw : (Lit.int .i64 v).wf = true := by
    simp [Lit.wf]
    have e : IntKind.i64.min = -9223372036854775808 := rfl
    have e' : IntKind.i64.max = 9223372036854775807 := rfl
    omega
  simp [hw]


set_option maxRecDepth 100000 in
set_option maxHeartbeats 8000000 in
theorem choice_any (s : ByteArray) (k n d rb : Nat) (hs : s.size ≤ 100000) (hk : k ≤ s.size) (w : World) (hr : Rd w rb s k n d) :
    Calls Tryz.prog 140 #[.pointer (some ⟨rb, 0, none⟩)] w (XrOut w rb s d (chX s k n)) := by
  have hmm := @run_makeMap Tryz.prog
  have hq1 := quad_new w 25 (.int .i64 0) (.bool false) (.slice none 0 0) (.slice none 0 0)
  have hb1 := sbelow_new w (.cells #[.int .i64 0, .bool false, .slice none 0 0, .slice none 0 0] 25)
  have hr1 := hr.step hb1
  have hz1 : (w.alloc (.cells #[.int .i64 0, .bool false, .slice none 0 0, .slice none 0 0] 25)).heap.size = w.heap.size + 1 := World.size_alloc _ _
  have HRB := Lib.hid hr.lt
  generalize hw1 : w.alloc (.cells #[.int .i64 0, .bool false, .slice none 0 0, .slice none 0 0] 25) = w1 at *
  have HT := Lib.hid (took_any s k n d rb 94 (by decide) hs hk w1 hr1)
  have hk2 : tkK s k 94 ≤ s.size := tkK_le hk (by decide)
  rw [show ((94 : UInt8).toNat : Int) = 94 from rfl] at HT
  have HTOT : Hid (∀ o, chR s (s.size + 1) (tkK s k 94) [] = o → chX s k n = (match o with | .er c a => .er c a | .ok k' _ ws => .ok k' n (.mk 1 (decide (byteI s (skp s k) = 94)) (srt ws) []))) := Lib.hid (fun o h => by unfold chX; rw [notK_eq, h])
  generalize decide (byteI s (skp s k) = 94) = neg at *
  generalize hkk : tkK s k 94 = k1 at *
  have HQ1 := Lib.hid hq1
  have HB1 := Lib.hid hb1
  have HZ1 := Lib.hid hz1
  clear hq1 hb1 hr1 hr hkk hk
  go_enter Tryz.func140, Tryz.ntmps140
  go_wp2_with fail
  refine HT.out.mono ?_
  rintro e w2 ⟨rfl, hr2, hkp2⟩
  have hb3 := sbelow_new w2 (.cells #[.int .i64 1, .bool neg, .slice none 0 0, .slice none 0 0] 25)
  have hq3 := quad_new w2 25 (.int .i64 1) (.bool neg) (.slice none 0 0) (.slice none 0 0)
  have hb4 := sbelow_new (w2.alloc (.cells #[.int .i64 1, .bool neg, .slice none 0 0, .slice none 0 0] 25)) (.map #[] 0)
  have hm4 := SeenAt.new (w2.alloc (.cells #[.int .i64 1, .bool neg, .slice none 0 0, .slice none 0 0] 25))
  rw [World.size_alloc] at hm4
  have hz2 : w.heap.size + 1 ≤ w2.heap.size := by have := hkp2.size; have := HZ1.out; omega
  have HC : Hid (ChSt w rb s k1 n d neg w2.heap.size (w2.heap.size + 1) 0 [] ((w2.alloc (.cells #[.int .i64 1, .bool neg, .slice none 0 0, .slice none 0 0] 25)).alloc (.map #[] 0))) := Lib.hid
    ⟨(hr2.step hb3).step hb4, ((HQ1.out.keeps hkp2 (by have := HRB.out; omega)).step hb3).step hb4, hq3.step hb4, hm4, (((Keeps.of_below HB1.out).trans hkp2).next hb3).next hb4, ⟨HRB.out, by omega, by omega⟩⟩
  clear hb3 hq3 hb4 hm4 hr2 hkp2
  go_wp2_with fail
  generalize (w2.alloc (.cells #[.int .i64 1, .bool neg, .slice none 0 0, .slice none 0 0] 25)).alloc (.map #[] 0) = w4 at *
  generalize w2.heap.size = xb at *
  go_loopg [6] (s.size + 2) (fun g v wr => (∃ f kk m seen, v = .bool true ∧ g = f + 1 ∧ s.size < kk + f ∧ kk ≤ s.size ∧ m + f = s.size + 1 ∧ chR s f kk seen = chR s (s.size + 1) k1 [] ∧ ChSt w rb s kk n d neg xb (xb + 1) m seen wr) ∨
    (∃ kk m seen, v = .bool false ∧ g = 0 ∧ kk ≤ s.size ∧ m ≤ s.size + 1 ∧ chEnd s kk seen = chR s (s.size + 1) k1 [] ∧ ChSt w rb s kk n d neg xb (xb + 1) m seen wr))
  case atStart => exact .inl ⟨s.size + 1, k1, 0, [], rfl, rfl, by omega, hk2, by omega, rfl, HC.out⟩
  case round =>
    rcases hrel with ⟨f, kk, m, seen, rfl, hg, hf, hkk, hmf, htot, hst⟩ | ⟨kk, m, seen, rfl, hg, hkk, hmf, htot, hst⟩
    · obtain ⟨f, rfl⟩ : ∃ f', f = f' + 1 := ⟨f - 1, by omega⟩
      have HST := Lib.hid hst
      have HTT := Lib.hid htot
      have HG := Lib.hid hg
      have HM := Lib.hid hmf
      have HF := Lib.hid hf
      have HS : Hid (∀ W, Calls Tryz.prog 45 #[.agg #[.string s, .int .i64 kk]] W fun e w' => e = .returned (.agg #[.string s, .int .i64 (skp s kk)]) ∧ Below W.heap.size W w') := Lib.hid (fun W => skip_any s kk hs hkk W)
      obtain ⟨c0, c1, -, -⟩ := hst.rd.cells
      have hj := (skp_le hkk).2
      have hjk := (skp_le hkk).1
      have hwk := wdK_le hj
      clear hst htot hg hmf hf
      go_wp2_with fail
      refine (HS.out _).mono ?_
      rintro e w5 ⟨rfl, b5⟩
      have HST5 := Lib.hid (HST.out.step b5)
      clear b5 c0 c1 HST
      go_wp2_with fail
      refine (at_any s _ _).mono ?_
      rintro e w6 ⟨rfl, b6⟩
      have HST6 := Lib.hid (HST5.out.step b6)
      clear b6 HST5
      go_wp2_with fail
      by_cases hc : wdC s (skp s kk) = 0
      · refine (rword_yes s kk n d rb hs hkk hc _ HST6.out.rd).mono ?_
        rintro e w7 ⟨rfl, hr7, hk7⟩
        have HST7 := Lib.hid (HST6.out.go hr7 hk7)
        clear hr7 hk7 HST6
        have hkey : keyOf Tryz.prog 9 (.string (s.extract (skp s kk) (wdK s (skp s kk)))) = some (.string (s.extract (skp s kk) (wdK s (skp s kk))).data.toList) := keyOf_string_mk Tryz.underlying9 (by
          unfold maxLen
          simp
          omega)
        have HC1 := Lib.hid hc
        have HWK := Lib.hid hwk
        have HJK := Lib.hid hjk
        have HMI := Lib.hid (chR_more (f := f) (seen := seen) hc)
        have HLA := Lib.hid (chR_last (f := f) (seen := seen) hc)
        have HTW := Lib.hid (chR_twice (f := f) (seen := seen) hc)
        obtain ⟨D, hown, hnd, hh, ha⟩ := HST7.out.seen
        have HND := Lib.hid hnd
        have HH := Lib.hid hh
        have HA := Lib.hid ha
        have hm2 : m < 1000000 := by have := HM.out; omega
        have hm3 : m < maxLen := by unfold maxLen; omega
        clear hnd hh ha hc hwk hjk hj hm2
        generalize s.extract (skp s kk) (wdK s (skp s kk)) = t at *
        generalize wdK s (skp s kk) = K at *
        generalize skp s kk = jj at *
        have hat0 := HA.out t.data.toList
        by_cases hin : (seen.map (fun b => b.data.toList)).contains t.data.toList = true
        · rw [if_pos hin] at hat0
          have HE : Hid (chX s k n = .er 10 jj) := Lib.hid (HTOT.out _ (HTT.out.symm.trans (HTW.out hin)))
          have HAT0 := Lib.hid hat0
          have HOWN := Lib.hid hown
          clear hat0 hin HMI HLA HTW
          go_wp2_with (at_lookup; refine wpList_lookup_own_int _ rfl _ _ 180 rfl 9 3 .i64 lawStrX Tryz.underlying180 Tryz.underlying3 (zeroIntX _) (xb + 1) m _ rfl hown _ _ rfl hkey ?_)
          intro c hat hwc
          have hc1 : c = 1 := by
            rw [HAT0.out] at hat
            simp only [DataW.lit.injEq, Lit.int.injEq, true_and] at hat
            exact hat.symm
          subst hc1
          clear hat hwc
          go_wp2_with (at_mapUpdate; refine wpList_mapUpdate_own _ rfl _ _ _ 180 rfl 9 3 lawStrX Tryz.underlying180 (plainElem Tryz.prog 3) (xb + 1) m _ rfl hown hm3 _ _ _ rfl rfl hkey (.lit (.int .i64 2)) [] (val1 2 (by decide)) ?_)
          intro w8 hown8 hgrow8
          have hgr := HST7.out.grown hgrow8
          have HR8 := Lib.hid hgr.1
          have HK8 := Lib.hid hgr.2
          have HIS : Hid (Maps.IsMap D) := Lib.hid (by obtain ⟨es, hD, _⟩ := HOWN.out.entries lawStrX; exact ⟨es, hD⟩)
          clear hgr hgrow8 hown
          go_wp2_with (at_lookup; refine wpList_lookup_own_int _ rfl _ _ 180 rfl 9 3 .i64 lawStrX Tryz.underlying180 Tryz.underlying3 (zeroIntX _) (xb + 1) (m + 1) _ rfl hown8 _ _ rfl hkey ?_)
          intro c hat hwc
          have hc1 : c = 2 := by
            rw [Maps.atKey_put_same HIS.out (k := .string t.data.toList) trivial] at hat
            simp only [DataW.lit.injEq, Lit.int.injEq, true_and] at hat
            exact hat.symm
          subst hc1
          clear hat hwc hown8
          go_wp2_with fail
          refine (new_err 10 jj (by decide) _).mono ?_
          rintro e w9 ⟨fb, rfl, hf9, b9⟩
          have HF9 := Lib.hid hf9
          have HR9 := Lib.hid (HR8.out.step b9)
          have HK9 := Lib.hid (HK8.out.next b9)
          clear hf9 b9
          obtain ⟨r0, r1, r2, r3⟩ := HR9.out.cells
          have rf0 := HR9.out.fz 0
          have rf1 := HR9.out.fz 1
          have rf2 := HR9.out.fz 2
          have rf3 := HR9.out.fz 3
          unfold pf
          go_wp2_with fail
          obtain ⟨q0, q1, q2, q3⟩ := (HR9.out.set4 (.int .i64 0) (.bool false) (.slice none 0 0) (.slice none 0 0)).cells
          have hfq := HF9.out.setq (by decide) HR9.out (.int .i64 0) (.bool false) (.slice none 0 0) (.slice none 0 0)
          have hkq := res_keeps HK9.out (.int .i64 0) (.bool false) (.slice none 0 0) (.slice none 0 0)
          unfold set4 at q0 q1 q2 q3 hfq hkq
          refine bodyPost_ret (v := .tuple #[.agg #[.int .i64 0, .bool false, .slice none 0 0, .slice none 0 0], pf fb]) (by simp [results, Tryz.results140, go_sem, q0, q1, q2, q3, pf]) rfl ?_
          rw [HE.out]
          exact ⟨fb, _, _, _, _, _, _, _, _, rfl, hfq, hkq⟩
        · have hin2 : (seen.map (fun b => b.data.toList)).contains t.data.toList = false := by simpa using hin
          have HIN := Lib.hid hin2
          rw [hin2] at hat0
          have HAT0 := Lib.hid hat0
          have HOWN := Lib.hid hown
          clear hat0 hin hin2 HTW
          go_wp2_with (at_lookup; refine wpList_lookup_own_int _ rfl _ _ 180 rfl 9 3 .i64 lawStrX Tryz.underlying180 Tryz.underlying3 (zeroIntX _) (xb + 1) m _ rfl hown _ _ rfl hkey ?_)
          intro c hat hwc
          have hc1 : c = 0 := by
            rw [HAT0.out] at hat
            simp at hat
            exact hat.symm
          subst hc1
          clear hat hwc
          go_wp2_with (at_mapUpdate; refine wpList_mapUpdate_own _ rfl _ _ _ 180 rfl 9 3 lawStrX Tryz.underlying180 (plainElem Tryz.prog 3) (xb + 1) m _ rfl hown hm3 _ _ _ rfl rfl hkey (.lit (.int .i64 1)) [] (val1 1 (by decide)) ?_)
          intro w8 hown8 hgrow8
          have HST8 := Lib.hid (HST7.out.map hgrow8 (SeenAt.push hown HND.out HH.out HA.out HIN.out hown8))
          have HIS : Hid (Maps.IsMap D) := Lib.hid (by obtain ⟨es, hD, _⟩ := HOWN.out.entries lawStrX; exact ⟨es, hD⟩)
          clear hgrow8 hown
          go_wp2_with (at_lookup; refine wpList_lookup_own_int _ rfl _ _ 180 rfl 9 3 .i64 lawStrX Tryz.underlying180 Tryz.underlying3 (zeroIntX _) (xb + 1) (m + 1) _ rfl hown8 _ _ rfl hkey ?_)
          intro c hat hwc
          have hc1 : c = 1 := by
            rw [Maps.atKey_put_same HIS.out (k := .string t.data.toList) trivial] at hat
            simp only [DataW.lit.injEq, Lit.int.injEq, true_and] at hat
            exact hat.symm
          subst hc1
          clear hat hwc hown8
          have HTK := Lib.hid (fun W (h : Rd W rb s K n d) => took_any s K n d rb 44 (by decide) hs HWK.out.2 W h)
          rw [show ((44 : UInt8).toNat : Int) = 44 from rfl] at HTK
          go_wp2_with fail
          refine (HTK.out _ HST8.out.rd).mono ?_
          rintro e w9 ⟨rfl, hr9, hk9⟩
          have HST9 := Lib.hid (HST8.out.go hr9 hk9)
          clear hr9 hk9 HST8
          by_cases h44 : byteI s (skp s K) = 44
          · have HMM := Lib.hid (HMI.out HIN.out h44)
            have HLT := Lib.hid (byteI_in h44 (by decide))
            rw [decide_eq_true h44]
            have HST10 : Hid (ChSt w rb s (skp s K + 1) n d neg xb (xb + 1) (m + 1) (seen ++ [t]) w9) := Lib.hid (by have := HST9.out; unfold tkK at this; rwa [if_pos h44] at this)
            clear h44 HLA
            go_wp2_with fail
            go_roundg (f + 1)
            case measure => have := HG.out; omega
            case rel =>
              have h1 := HWK.out
              have h2 := HJK.out
              have h3 := (skp_le h1.2).1
              have h4 := HLT.out
              have h5 := HF.out
              have h6 := HM.out
              exact .inl ⟨f, skp s K + 1, m + 1, seen ++ [t], rfl, rfl, by omega, by omega, by omega, HMM.out.symm.trans HTT.out, HST10.out⟩
          · have HLL := Lib.hid (HLA.out HIN.out h44)
            rw [decide_eq_false h44]
            have HST10 : Hid (ChSt w rb s K n d neg xb (xb + 1) (m + 1) (seen ++ [t]) w9) := Lib.hid (by have := HST9.out; unfold tkK at this; rwa [if_neg h44] at this)
            clear h44 HMI
            go_wp2_with fail
            go_roundg 0
            case measure => have := HG.out; omega
            case rel =>
              have h1 := HWK.out
              have h6 := HM.out
              exact .inr ⟨K, m + 1, seen ++ [t], rfl, rfl, h1.2, by omega, HLL.out.symm.trans HTT.out, HST10.out⟩
      · refine (rword_no s kk n d rb hs hkk hc _ HST6.out.rd).mono ?_
        rintro e w7 ⟨fb, rfl, hf7, hk7⟩
        have HE : Hid (chX s k n = .er (wdC s (skp s kk)) (wdA s (skp s kk))) := Lib.hid (HTOT.out _ (HTT.out.symm.trans (chR_er hc)))
        have HF7 := Lib.hid hf7
        have HR7 := Lib.hid (HST6.out.res.keeps hk7 (by have := HST6.out.ord; omega))
        have HK7 := Lib.hid (HST6.out.keep.trans hk7)
        have HC0 := Lib.hid hc
        generalize wdC s (skp s kk) = cc at *
        generalize wdA s (skp s kk) = aa at *
        clear hf7 hk7 hc
        obtain ⟨r0, r1, r2, r3⟩ := HR7.out.cells
        have rf0 := HR7.out.fz 0
        have rf1 := HR7.out.fz 1
        have rf2 := HR7.out.fz 2
        have rf3 := HR7.out.fz 3
        unfold pf
        go_wp2_with fail
        obtain ⟨q0, q1, q2, q3⟩ := (HR7.out.set4 (.int .i64 0) (.bool false) (.slice none 0 0) (.slice none 0 0)).cells
        have hfq := HF7.out.setq HC0.out HR7.out (.int .i64 0) (.bool false) (.slice none 0 0) (.slice none 0 0)
        have hkq := res_keeps HK7.out (.int .i64 0) (.bool false) (.slice none 0 0) (.slice none 0 0)
        unfold set4 at q0 q1 q2 q3 hfq hkq
        refine bodyPost_ret (v := .tuple #[.agg #[.int .i64 0, .bool false, .slice none 0 0, .slice none 0 0], pf fb]) (by simp [results, Tryz.results140, go_sem, q0, q1, q2, q3, pf]) rfl ?_
        rw [HE.out]
        exact ⟨fb, _, _, _, _, _, _, _, _, rfl, hfq, hkq⟩
    · have HST := Lib.hid hst
      have HTT := Lib.hid htot
      obtain ⟨D, hown, hnd, hh, -⟩ := hst.seen
      have hsz : Maps.size D ≤ m := hown.size_le
      have HKY := Lib.hid (fun W => (callsIn_wide (n := 5)).1 (Tryz.maps_Keys_149 (some (xb + 1)) W))
      have HSO := Lib.hid ((callsIn_wide (n := 5)).1 (Tryz.slices_Sorted_keys_148_149 (xb + 1) m D (plainElem Tryz.prog 3) wr hown (by unfold maxLen; omega) (by omega)))
      have HPM := Lib.hid (seen_perm hown hnd hh)
      clear hst htot hown hnd hh hsz
      go_wp2_with fail
      refine (HKY.out _).mono ?_
      rintro e w5 ⟨rfl, rfl⟩
      go_wp2_with fail
      refine HSO.out.mono ?_
      rintro e w6 ⟨v, ss, rfl, hS, hrow, hnil, hb6⟩
      obtain ⟨he1, he2⟩ := srt_enc (hS.trans HPM.out.symm)
      rw [he1, he2] at hrow
      have hb56 := (sbelow_new wr (.cells #[.map (some (xb + 1))] 180)).trans (hb6.mono (sbelow_new wr (.cells #[.map (some (xb + 1))] 180)).size)
      have HST6 := Lib.hid (HST.out.step hb56)
      have hlw : ∀ q, v.ownBlock = some q → wr.heap.size + 1 ≤ q := fun q e => by have := (hrow.lt q e).1; simpa using this
      have hWr : RowX (fun q => wr.heap.size ≤ q) w6 v (srt seen).length ((srt seen).map Value.string) := RowX.of_own hrow (fun q e => by have := hlw q e; show wr.heap.size ≤ q; omega)
      have hcap := CapV.of_own hrow
      obtain ⟨va, vc, rfl⟩ := hWr.form
      have HCAP := Lib.hid hcap
      clear hcap
      have HWR := Lib.hid hWr
      have HWSZ : Hid (xb + 1 < wr.heap.size ∧ w.heap.size < wr.heap.size) := Lib.hid (by have h1 := HST.out.seen.lt; have h2 := HST.out.ord; omega)
      obtain ⟨x0, x1, x2, x3⟩ := HST6.out.x.cells
      have xf := HST6.out.x.fz 2
      clear hS hrow hnil hb6 he1 he2 hb56 hlw hWr
      go_wp2_with fail
      have hkx : Keeps (· = xb) w6 (w6.setCell ⟨xb, 2, none⟩ (.slice va (srt seen).length vc)) := (Keeps.refl (· = xb) w6).setCell (q := ⟨xb, 2, none⟩) (.inr rfl) _
      have HX7 : Hid (QuadAt 25 (w6.setCell ⟨xb, 2, none⟩ (.slice va (srt seen).length vc)) xb (.int .i64 1) (.bool neg) (.slice va (srt seen).length vc) (.slice none 0 0)) := Lib.hid (HST6.out.x.put2 _)
      have HR7 : Hid (QuadAt 25 (w6.setCell ⟨xb, 2, none⟩ (.slice va (srt seen).length vc)) w.heap.size (.int .i64 0) (.bool false) (.slice none 0 0) (.slice none 0 0)) := Lib.hid (HST6.out.res.keeps hkx (by have := HST6.out.ord; omega))
      have HD7 : Hid (Rd (w6.setCell ⟨xb, 2, none⟩ (.slice va (srt seen).length vc)) rb s kk n d) := Lib.hid (QuadAt.keeps HST6.out.rd hkx (by have := HST6.out.ord; omega))
      have HW7 := Lib.hid (HWR.out.move (P' := fun q => wr.heap.size ≤ q) hkx.size (fun q hq hlt => ⟨hq, hkx.block q hlt (by have := HWSZ.out; omega)⟩))
      have HK7 : Hid (Keeps (· = rb) w (w6.setCell ⟨xb, 2, none⟩ (.slice va (srt seen).length vc))) := Lib.hid (HST6.out.keep.setCell (q := ⟨xb, 2, none⟩) (.inl (by show w.heap.size ≤ xb; have := HST6.out.ord; omega)) _)
      clear hkx x0 x1 x2 x3 xf
      generalize w6.setCell ⟨xb, 2, none⟩ (.slice va (srt seen).length vc) = w7 at *
      have hX : QuadAt 25 w7.drew xb (.int .i64 1) (.bool neg) (.slice va (srt seen).length vc) (.slice none 0 0) := HX7.out
      have hR : QuadAt 25 w7.drew w.heap.size (.int .i64 0) (.bool false) (.slice none 0 0) (.slice none 0 0) := HR7.out
      have hRD : Rd w7.drew rb s kk n d := HD7.out
      have hKP : Keeps (· = rb) w w7.drew := HK7.out.drew
      have hWW : RowX (fun q => wr.heap.size ≤ q) w7.drew (.slice va (srt seen).length vc) (srt seen).length ((srt seen).map Value.string) := HW7.out
      have hxr : xb ≠ rb := by have := HST6.out.ord; omega
      have hrr : w.heap.size ≠ rb := by have := HST6.out.ord; omega
      have hxw : xb ≠ w.heap.size := by have := HST6.out.ord; omega
      have hxw' := hxw.symm
      by_cases h93 : byteI s (skp s kk) = 93
      · have HE : Hid (chX s k n = .ok (skp s kk + 1) n (.mk 1 neg (srt seen) [])) := Lib.hid (HTOT.out (.ok (skp s kk + 1) 0 seen) (HTT.out.symm.trans (by unfold chEnd; rw [if_pos h93])))
        have HTA := Lib.hid (fun W (h : Rd W rb s kk n d) => rtake_yes s kk n d rb 93 (by decide) h93 hs hkk W h)
        obtain ⟨x0, x1, x2, x3⟩ := hX.cells
        clear h93
        go_region_held3 (fun W => W.cell? ⟨xb, 0, none⟩ = some (.int .i64 1) ∧ W.cell? ⟨xb, 1, none⟩ = some (.bool neg) ∧ W.cell? ⟨xb, 2, none⟩ = some (.slice va (srt seen).length vc) ∧ W.cell? ⟨xb, 3, none⟩ = some (.slice none 0 0))
          (first | go_keep | exact hX.cells)
          (first
          | (go_at_call 147; refine (HTA.out _ hRD).mono ?_; rintro e w' ⟨rfl, hrd, hkp⟩; replace hX := hX.keeps hkp hxr; replace hR := hR.keeps hkp hrr; replace hKP := hKP.trans hkp; replace hWW := hWW.move (P' := fun q => wr.heap.size ≤ q) hkp.size (fun q hq hlt => ⟨hq, hkp.block q hlt (by have := HWSZ.out; have := HRB.out; omega)⟩); have r0 := hR.cells.1; have r1 := hR.cells.2.1; have r2 := hR.cells.2.2.1; have r3 := hR.cells.2.2.2; have rf0 := hR.fz 0; have rf1 := hR.fz 1; have rf2 := hR.fz 2; have rf3 := hR.fz 3))
        go_wp2
        obtain ⟨q0, q1, q2, q3⟩ := (hR.set4 (.int .i64 1) (.bool neg) (.slice va (srt seen).length vc) (.slice none 0 0)).cells
        have hk4 := keeps_set4 w' w.heap.size 0 (.int .i64 1) (.bool neg) (.slice va (srt seen).length vc) (.slice none 0 0)
        have hrd4 := QuadAt.keeps hrd hk4 (by have := HRB.out; omega)
        have hkq := res_keeps hKP (.int .i64 1) (.bool neg) (.slice va (srt seen).length vc) (.slice none 0 0)
        have hw4 := hWW.move (P' := fun q => w.heap.size ≤ q) hk4.size (fun q hq hlt => ⟨by have := HWSZ.out; omega, hk4.block q hlt (by have := HWSZ.out; omega)⟩)
        have hval : ExC (fun q => w.heap.size ≤ q) (set4 w' w.heap.size 0 (.int .i64 1) (.bool neg) (.slice va (srt seen).length vc) (.slice none 0 0)) [.int .i64 1, .bool neg, .slice va (srt seen).length vc, .slice none 0 0] (.mk 1 neg (srt seen) []) := by
          unfold ExC
          exact ⟨_, _, [], rfl, HCAP.out, hw4, RowX.nil _ _, ExsC.nil⟩
        unfold set4 at q0 q1 q2 q3 hrd4 hkq hval
        refine bodyPost_ret (v := .tuple #[.agg #[.int .i64 1, .bool neg, .slice va (srt seen).length vc, .slice none 0 0], .nilIface]) (by simp [results, Tryz.results140, go_sem, q0, q1, q2, q3]) rfl ?_
        rw [HE.out]
        exact ⟨_, _, _, _, _, _, _, _, rfl, hval, hrd4, hkq⟩
      · have HE : Hid (chX s k n = .er (missC s (skp s kk)) (skp s kk)) := Lib.hid (HTOT.out (.er (missC s (skp s kk)) (skp s kk)) (HTT.out.symm.trans (by unfold chEnd; rw [if_neg h93])))
        have HTA := Lib.hid (fun W (h : Rd W rb s kk n d) => rtake_no s kk n d rb 93 h93 hs hkk W h)
        obtain ⟨x0, x1, x2, x3⟩ := hX.cells
        clear h93
        go_region_held3 (fun W => W.cell? ⟨xb, 0, none⟩ = some (.int .i64 1) ∧ W.cell? ⟨xb, 1, none⟩ = some (.bool neg) ∧ W.cell? ⟨xb, 2, none⟩ = some (.slice va (srt seen).length vc) ∧ W.cell? ⟨xb, 3, none⟩ = some (.slice none 0 0))
          (first | go_keep | exact hX.cells)
          (first
          | (go_at_call 147; refine (HTA.out _ hRD).mono ?_; rintro e w' ⟨fb, rfl, hff, hkp⟩; replace hX := hX.keeps hkp hxr; replace hR := hR.keeps hkp hrr; replace hKP := hKP.trans hkp; replace hWW := hWW.move (P' := fun q => wr.heap.size ≤ q) hkp.size (fun q hq hlt => ⟨hq, hkp.block q hlt (by have := HWSZ.out; have := HRB.out; omega)⟩); have r0 := hR.cells.1; have r1 := hR.cells.2.1; have r2 := hR.cells.2.2.1; have r3 := hR.cells.2.2.2; have rf0 := hR.fz 0; have rf1 := hR.fz 1; have rf2 := hR.fz 2; have rf3 := hR.fz 3))
        unfold pf
        go_wp2
        obtain ⟨q0, q1, q2, q3⟩ := (hR.set4 (.int .i64 1) (.bool neg) (.slice va (srt seen).length vc) (.slice none 0 0)).cells
        have hkq := res_keeps hKP (.int .i64 1) (.bool neg) (.slice va (srt seen).length vc) (.slice none 0 0)
        have hfq := hff.setq (missC_ne s _) hR (.int .i64 1) (.bool neg) (.slice va (srt seen).length vc) (.slice none 0 0)
        unfold set4 at q0 q1 q2 q3 hkq hfq
        refine bodyPost_ret (v := .tuple #[.agg #[.int .i64 1, .bool neg, .slice va (srt seen).length vc, .slice none 0 0], pf fb]) (by simp [results, Tryz.results140, go_sem, q0, q1, q2, q3, pf]) rfl ?_
        rw [HE.out]
        exact ⟨fb, _, _, _, _, _, _, _, _, rfl, hfq, hkq⟩
end Go.Proofs.YtocfcnhaecmgpaaGreatDoor
