/-
  The document's own Check of systems, by contract.
-/
import Derived.Test.YtjanbhodikhdeaaDoorPdC
namespace Go.Proofs.YtjanbhodikhdeaaDoor
open Go.RowKit Go.Extern.Stop Go.Stop Go.Extern

def RcP (F : Int × Int) (w : World) (e : Ending) (w' : World) : Prop := e = .returned (.tuple #[.int .i64 F.1, .int .i64 F.2]) ∧ Below w.heap.size w w'
set_option maxRecDepth 100000 in
set_option maxHeartbeats 8000000 in
theorem rcheck21_any (S L : Int) (v : Value) (rs : List Ru) (w : World) (hv : RusAt w v rs) (hl : rs.length ≤ 1000000) (hs : Short rs 1000000) :
    Calls Tryd.prog 19 #[sysV S L v] w (RcP (pdsF S L rs) w) := by
  obtain ⟨va, vc, rfl⟩ := hv.form
  have HV := Lib.hid hv
  have HSh := Lib.hid hs
  have hS := SyS.start w 53 S L (.slice va rs.length vc)
  have HS := Lib.hid hS
  obtain ⟨s0, s1, s2⟩ := cells3 hS.bx
  clear hv hs hS
  cases hz : szF S L with
  | true =>
    have hP : pdsF S L rs = (7, -1) := by unfold pdsF; rw [hz, if_pos rfl]
    rw [hP]
    have hz2 : ¬ (¬ S < 0 ∧ ¬ 1048576 < S ∧ ¬ L < 0 ∧ ¬ 128 < L) := by
      intro h
      unfold szF at hz
      simp [h] at hz
    have HZ := Lib.hid hz2
    clear hP hz hz2
    go_enter Tryd.func19, Tryd.ntmps19
    go_upto_region 1 with (fail)
    generalize w.alloc (.cells #[.int .i64 S, .int .i64 L, .slice va rs.length vc] 53) = w1 at *
    by_cases h1 : S < 0
    · go_wp2_with fail
      go_ret2
      exact ⟨rfl, HS.out.below⟩
    · by_cases h2 : 1048576 < S
      · go_wp2_with fail
        go_ret2
        exact ⟨rfl, HS.out.below⟩
      · by_cases h3 : L < 0
        · go_wp2_with fail
          go_ret2
          exact ⟨rfl, HS.out.below⟩
        · have h4 : 128 < L := by
            by_cases h4 : 128 < L
            · exact h4
            · exact absurd ⟨h1, h2, h3, h4⟩ HZ.out
          clear HZ
          go_wp2_with fail
          go_ret2
          exact ⟨rfl, HS.out.below⟩
  | false =>
    obtain ⟨h1, h2, h3, h4⟩ := szF_false hz
    have hP : pdsF S L rs = rusF S L rs 0 := by unfold pdsF; rw [hz, if_neg (by decide)]
    rw [hP]
    clear hP hz
    obtain ⟨F, hFF⟩ : ∃ F, Hid (rusF S L rs 0 = F) := ⟨_, Lib.hid rfl⟩
    rw [hFF.out]
    go_enter Tryd.func19, Tryd.ntmps19
    go_wp2_with fail
    generalize w.alloc (.cells #[.int .i64 S, .int .i64 L, .slice va rs.length vc] 53) = w1 at *
    go_loopg [29] rs.length (fun g u wr => CkL w w.heap.size 53 S L (.slice va rs.length vc) rs g u wr)
    case atStart => exact ⟨0, Nat.zero_le _, by omega, rfl, rfl, HS.out⟩
    case round =>
      clear s0 s1 s2 h1 h2 h3 h4
      obtain ⟨i, hi, hgi, rfl, hF, hS⟩ := hrel
      have HFi := Lib.hid (hF.symm.trans hFF.out)
      have HSi := Lib.hid hS
      by_cases hlt : i < rs.length
      · obtain ⟨r, hr⟩ : ∃ r, rs[i]? = some r := ⟨_, List.getElem?_eq_getElem hlt⟩
        obtain ⟨b, off, pa, pc, rfl, k0, k1, k2, k3, k4, hp⟩ := HV.out.at hr hS.below
        have hpl := HSh.out i r hr
        have HE := Lib.hid (fun h : ruF S L r ≠ 0 => (rusF_at hr h).symm.trans HFi.out)
        have HG := Lib.hid (fun h : ruF S L r = 0 => (rusF_go hr h).symm.trans HFi.out)
        obtain ⟨fr, top, to, push, cost⟩ := r
        replace hp : IntsAt wr (.slice pa push.length pc) push := hp
        replace hpl : push.length ≤ 1000000 := hpl
        replace k0 : wr.cell? ⟨b, off + i * 5, none⟩ = some (.int .i64 fr) := k0
        replace k1 : wr.cell? ⟨b, off + i * 5 + 1, none⟩ = some (.int .i64 top) := k1
        replace k2 : wr.cell? ⟨b, off + i * 5 + 2, none⟩ = some (.int .i64 to) := k2
        replace k3 : wr.cell? ⟨b, off + i * 5 + 3, none⟩ = some (.slice pa push.length pc) := k3
        replace k4 : wr.cell? ⟨b, off + i * 5 + 4, none⟩ = some (.int .u64 cost) := k4
        rw [ruF_eq] at HE HG
        have hn := heap_alloc_new wr (.cells #[.int .i64 fr, .int .i64 top, .int .i64 to, .slice pa push.length pc, .int .u64 cost] 73)
        have hbn := sbelow_new wr (.cells #[.int .i64 fr, .int .i64 top, .int .i64 to, .slice pa push.length pc, .int .u64 cost] 73)
        have HS2 := Lib.hid (hS.step hbn)
        have HPu := Lib.hid (hp.step hbn)
        obtain ⟨n0, n1, n2, n3, n4⟩ := cells5 hn
        obtain ⟨t0, t1, t2⟩ := cells3 (hS.step hbn).bx
        clear hF hS hp hn hbn hr
        go_upto_region 6 with (fail)
        generalize hw2 : wr.alloc (.cells #[.int .i64 fr, .int .i64 top, .int .i64 to, .slice pa push.length pc, .int .u64 cost] 73) = w2 at *
        clear k0 k1 k2 k3 k4
        cases hin : (inB S fr && inB S to && inB L top) with
        | false =>
          rw [hin] at HE
          have HEq : Hid (F = (7, (i : Int))) := Lib.hid (HE.out (by simp)).symm
          have hd : fr < 0 ∨ (0 ≤ fr ∧ S ≤ fr) ∨ (0 ≤ fr ∧ fr < S ∧ to < 0) ∨ (0 ≤ fr ∧ fr < S ∧ 0 ≤ to ∧ S ≤ to) ∨ (0 ≤ fr ∧ fr < S ∧ 0 ≤ to ∧ to < S ∧ top < 0) ∨ (0 ≤ fr ∧ fr < S ∧ 0 ≤ to ∧ to < S ∧ 0 ≤ top ∧ L ≤ top) := by
            have : ¬ ((0 ≤ fr ∧ fr < S) ∧ (0 ≤ to ∧ to < S) ∧ (0 ≤ top ∧ top < L)) := by
              intro ⟨a1, a2, a3⟩
              rw [inB_iff.2 a1, inB_iff.2 a2, inB_iff.2 a3] at hin
              cases hin
            omega
          clear hin HE HG hw2
          rcases hd with g1 | ⟨g1, g2⟩ | ⟨g1, g2, g3⟩ | ⟨g1, g2, g3, g4⟩ | ⟨g1, g2, g3, g4, g5⟩ | ⟨g1, g2, g3, g4, g5, g6⟩
          all_goals
            go_wp2_with fail
            go_ret2
            rw [HEq.out]
            exact ⟨rfl, HS2.out.below⟩
        | true =>
          rw [hin] at HE HG
          simp only [Bool.and_eq_true, inB_iff] at hin
          obtain ⟨⟨⟨g1, g2⟩, ⟨g3, g4⟩⟩, ⟨g5, g6⟩⟩ := hin
          have HFE : Hid ((if anyNo L push = true then 7 else if 2 < push.length then (6 : Int) else if most < cost then 19 else 0) ≠ 0 → ((if anyNo L push = true then 7 else if 2 < push.length then 6 else if most < cost then 19 else 0 : Int), (i : Int)) = F) := Lib.hid (by
            have h := HE.out
            cases hq : anyNo L push <;> rw [hq] at h <;> simpa using h)
          have HFG : Hid ((if anyNo L push = true then 7 else if 2 < push.length then (6 : Int) else if most < cost then 19 else 0) = 0 → rusF S L (rs.drop (i + 1)) ((i : Int) + 1) = F) := Lib.hid (by
            have h := HG.out
            cases hq : anyNo L push with
            | false => rw [hq] at h; simpa using h
            | true => simp)
          clear HE HG
          go_wp2_with fail
          go_loopg [72] push.length (fun g u wq => ∃ j : Nat, j ≤ push.length ∧ g = push.length - j ∧ u = .int .i64 j ∧ anyNo L (push.drop j) = anyNo L push ∧ wq = w2)
          case atStart => exact ⟨0, Nat.zero_le _, by omega, rfl, by rw [List.drop_zero], rfl⟩
          case round =>
            obtain ⟨j, hj, hgj, rfl, hd, rfl⟩ := hrel
            have HD := Lib.hid hd
            clear hd
            by_cases hjl : j < push.length
            · obtain ⟨y, hy⟩ : ∃ y, push[j]? = some y := ⟨_, List.getElem?_eq_getElem hjl⟩
              obtain ⟨pb, po, rfl, hcell⟩ := HPu.out.at hy (Below.refl _ _)
              have HUP := Lib.hid ((anyNo_drop (L := L) hy).symm.trans HD.out)
              clear hy HD
              by_cases hy0 : y < 0
              · have hA : Hid (anyNo L push = true) := Lib.hid (by have h := HUP.out; rw [show inB L y = false from inB_not.2 (by omega)] at h; simpa using h.symm)
                have HEq : Hid ((7, (i : Int)) = F) := Lib.hid (by have h := HFE.out; rw [hA.out] at h; exact h (by simp))
                clear HUP hA HFE HFG
                go_wp2_with fail
                go_ret2
                rw [← HEq.out]
                exact ⟨rfl, HS2.out.below⟩
              · by_cases hyL : L ≤ y
                · have hA : Hid (anyNo L push = true) := Lib.hid (by have h := HUP.out; rw [show inB L y = false from inB_not.2 (by omega)] at h; simpa using h.symm)
                  have HEq : Hid ((7, (i : Int)) = F) := Lib.hid (by have h := HFE.out; rw [hA.out] at h; exact h (by simp))
                  clear HUP hA HFE HFG
                  go_wp2_with fail
                  go_ret2
                  rw [← HEq.out]
                  exact ⟨rfl, HS2.out.below⟩
                · have hup : anyNo L (push.drop (j + 1)) = anyNo L push := by have h := HUP.out; rw [show inB L y = true from inB_iff.2 (by omega)] at h; simpa using h
                  have HU := Lib.hid hup
                  clear hup HUP
                  go_wp2_with fail
                  go_roundg (push.length - (j + 1))
                  case measure => omega
                  case rel => exact ⟨j + 1, by omega, rfl, by go_num, HU.out, rfl⟩
            · obtain rfl : j = push.length := by omega
              have hA : anyNo L push = false := by have h := HD.out; rw [List.drop_length] at h; exact h.symm
              rw [hA] at HFE HFG
              clear HD hA
              by_cases h5 : 2 < push.length
              · have h5' : (2 : Int) < (push.length : Int) := by omega
                have HEq : Hid ((6, (i : Int)) = F) := Lib.hid (by have h := HFE.out; simp only [h5, if_true, Bool.false_eq_true, if_false] at h; exact h (by decide))
                clear HFE HFG
                go_wp2_with fail
                go_ret2
                rw [← HEq.out]
                exact ⟨rfl, HS2.out.below⟩
              · have h5' : ¬ (2 : Int) < (push.length : Int) := by omega
                by_cases h6 : 9223372036854775807 < cost
                · have h6' : most < cost := h6
                  have HEq : Hid ((19, (i : Int)) = F) := Lib.hid (by have h := HFE.out; simp only [h5, h6', if_true, Bool.false_eq_true, if_false] at h; exact h (by decide))
                  clear HFE HFG h6'
                  go_wp2_with fail
                  go_ret2
                  rw [← HEq.out]
                  exact ⟨rfl, HS2.out.below⟩
                · have h6' : ¬ most < cost := h6
                  have HEq : Hid (rusF S L (rs.drop (i + 1)) ((i : Int) + 1) = F) := Lib.hid (by have h := HFG.out; simp only [h5, h6', Bool.false_eq_true, if_false] at h; exact h trivial)
                  clear HFE HFG h6'
                  go_wp2_with fail
                  go_roundg (rs.length - (i + 1))
                  case measure => omega
                  case rel => exact ⟨i + 1, by omega, rfl, by go_num, by rw [hFF.out]; exact HEq.out.symm, HS2.out⟩
      · obtain rfl : i = rs.length := by omega
        have HE : Hid (F = (0, 0)) := Lib.hid (HFi.out.symm.trans (rusF_end S L rs))
        clear hF hS
        go_wp2_with fail
        go_ret2
        rw [HE.out]
        exact ⟨rfl, HSi.out.below⟩
end Go.Proofs.YtjanbhodikhdeaaDoor
