/-
  Package pds' Check, by contract; the document's own Check.
-/
import Derived.Test.YtjanbhodikhdeaaDoorPdC
import Derived.Test.YtjanbhodikhdeaaDoorScanB
namespace Go.Proofs.YtjanbhodikhdeaaDoor
open Go.RowKit Go.Extern.Stop Go.Stop Go.Extern

set_option maxRecDepth 100000 in
set_option maxHeartbeats 8000000 in
theorem pdsCheck_any (S L : Int) (v : Value) (rs : List Ru) (w : World) (hv : RusAt w v rs) (hl : rs.length ≤ 1000000) (hs : Short rs 1000000) :
    Calls Tryd.prog 13 #[sysV S L v] w (Faults w (pdsF S L rs).1 (pdsF S L rs).2) := by
  have HN := Lib.hid (fun c a h W => new_faults c a h W)
  have HU : Hid (∀ w1 c a e w2, Below w.heap.size w w1 → Faults w1 c a e w2 → Faults w c a e w2) := Lib.hid (fun w1 c a e w2 hb ⟨v, he, hv, hb2⟩ => ⟨v, he, hv, hb.trans (hb2.mono hb.size)⟩)
  obtain ⟨va, vc, rfl⟩ := hv.form
  have HV := Lib.hid hv
  have HSh := Lib.hid hs
  have hS := SyS.start w 24 S L (.slice va rs.length vc)
  have HS := Lib.hid hS
  obtain ⟨s0, s1, s2⟩ := cells3 hS.bx
  clear hv hs hS
  cases hz : szF S L with
  | true =>
    have hP : pdsF S L rs = (7, -1) := by unfold pdsF; rw [hz, if_pos rfl]
    rw [hP]
    have hz2 : ¬ (¬ S < 0 ∧ ¬ 1048576 < S ∧ ¬ L < 0 ∧ ¬ 128 < L) := by
      intro h
      unfold szF at hz
      simp [h] at hz
    clear hP hz
    by_cases h1 : S < 0
    · go_enter Tryd.func13, Tryd.ntmps13
      go_wp2_with fail
      refine (HN.out _ _ (by decide) _).mono ?_
      intro e w2 hf
      obtain ⟨v, rfl, hv, b2⟩ := HU.out _ _ _ _ _ HS.out.below hf
      go_wp2_with fail
      go_ret
      exact ⟨v, rfl, hv, b2⟩
    · by_cases h2 : 1048576 < S
      · go_enter Tryd.func13, Tryd.ntmps13
        go_wp2_with fail
        refine (HN.out _ _ (by decide) _).mono ?_
        intro e w2 hf
        obtain ⟨v, rfl, hv, b2⟩ := HU.out _ _ _ _ _ HS.out.below hf
        go_wp2_with fail
        go_ret
        exact ⟨v, rfl, hv, b2⟩
      · by_cases h3 : L < 0
        · go_enter Tryd.func13, Tryd.ntmps13
          go_wp2_with fail
          refine (HN.out _ _ (by decide) _).mono ?_
          intro e w2 hf
          obtain ⟨v, rfl, hv, b2⟩ := HU.out _ _ _ _ _ HS.out.below hf
          go_wp2_with fail
          go_ret
          exact ⟨v, rfl, hv, b2⟩
        · have h4 : 128 < L := by
            by_cases h4 : 128 < L
            · exact h4
            · exact absurd ⟨h1, h2, h3, h4⟩ hz2
          clear hz2
          go_enter Tryd.func13, Tryd.ntmps13
          go_wp2_with fail
          refine (HN.out _ _ (by decide) _).mono ?_
          intro e w2 hf
          obtain ⟨v, rfl, hv, b2⟩ := HU.out _ _ _ _ _ HS.out.below hf
          go_wp2_with fail
          go_ret
          exact ⟨v, rfl, hv, b2⟩
  | false =>
    obtain ⟨h1, h2, h3, h4⟩ := szF_false hz
    have hP : pdsF S L rs = rusF S L rs 0 := by unfold pdsF; rw [hz, if_neg (by decide)]
    rw [hP]
    clear hP hz
    obtain ⟨F, hFF⟩ : ∃ F, Hid (rusF S L rs 0 = F) := ⟨_, Lib.hid rfl⟩
    rw [hFF.out]
    go_enter Tryd.func13, Tryd.ntmps13
    go_wp2_with fail
    generalize w.alloc (.cells #[.int .i64 S, .int .i64 L, .slice va rs.length vc] 24) = w1 at *
    go_loopg [28] rs.length (fun g u wr => CkL w w.heap.size 24 S L (.slice va rs.length vc) rs g u wr)
    case atStart => exact ⟨0, Nat.zero_le _, by omega, rfl, rfl, HS.out⟩
    case round =>
      clear s0 s1 s2
      obtain ⟨i, hi, hgi, rfl, hF, hS⟩ := hrel
      have HFi := Lib.hid (hF.symm.trans hFF.out)
      have HSi := Lib.hid hS
      obtain ⟨s0, s1, s2⟩ := cells3 hS.bx
      by_cases hlt : i < rs.length
      · obtain ⟨r, hr⟩ : ∃ r, rs[i]? = some r := ⟨_, List.getElem?_eq_getElem hlt⟩
        obtain ⟨b, off, pa, pc, rfl, k0, k1, k2, k3, k4, hp⟩ := HV.out.at hr hS.below
        have hn := heap_alloc_new wr (.cells (ruCs r pa pc).toArray 46)
        have hbn := sbelow_new wr (.cells (ruCs r pa pc).toArray 46)
        have HS2 := Lib.hid (hS.step hbn)
        have HX := Lib.hid (fault_any S L (.slice (some ⟨b, off, none⟩) rs.length vc) r pa pc _ (hp.step hbn) (by have := HSh.out i r hr; omega))
        obtain ⟨n0, n1, n2, n3, n4⟩ := cells5 hn
        obtain ⟨t0, t1, t2⟩ := cells3 (hS.step hbn).bx
        have HE := Lib.hid (fun h : ruF S L r ≠ 0 => (rusF_at hr h).symm.trans HFi.out)
        have HG := Lib.hid (fun h : ruF S L r = 0 => (rusF_go hr h).symm.trans HFi.out)
        clear hF hS hp hn hbn hr
        generalize ruF S L r = q at *
        go_wp2_with fail
        refine HX.out.mono ?_
        rintro e w3 ⟨rfl, b3⟩
        have HS3 := Lib.hid (HS2.out.step b3)
        clear b3
        by_cases hq : q = 0
        · subst hq
          go_wp2_with fail
          go_roundg (rs.length - (i + 1))
          case measure => omega
          case rel => exact ⟨i + 1, by omega, rfl, by go_num, by rw [hFF.out]; exact (HG.out (by simp)).symm, HS3.out⟩
        · have hq2 : (q != 0) = true := by simp [hq]
          have hq3 : (q == 0) = false := by simp [hq]
          have HQ := Lib.hid (HN.out q (i : Int) hq w3)
          have HEq : Hid (F = (q, (i : Int))) := Lib.hid (HE.out hq).symm
          go_wp2_with fail
          refine HQ.out.mono ?_
          intro e w4 hf
          obtain ⟨v, rfl, hv, b4⟩ := HU.out _ _ _ _ _ HS3.out.below hf
          go_wp2_with fail
          go_ret
          rw [HEq.out]
          exact ⟨v, rfl, hv, b4⟩
      · obtain rfl : i = rs.length := by omega
        have HE : Hid (F = (0, 0)) := Lib.hid (HFi.out.symm.trans (rusF_end S L rs))
        clear hF hS
        go_wp2_with fail
        go_ret
        rw [HE.out]
        exact ⟨_, rfl, ErrIs.nilE _ _, HSi.out.below⟩
end Go.Proofs.YtjanbhodikhdeaaDoor
