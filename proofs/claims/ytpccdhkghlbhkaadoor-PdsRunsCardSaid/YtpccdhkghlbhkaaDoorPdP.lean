/-
  Package pds by contracts: which rules can be done.
-/
import Derived.Test.YtpccdhkghlbhkaaDoorPdO
namespace Go.Proofs.YtpccdhkghlbhkaaDoor
open Go.RowKit Go.Extern.Stop Go.Stop Go.Extern

/-- The places of the first so many rules that can be done. -/
def stp (rs : List Ru) (c : Cf) (i : Nat) : List Int := ((List.range i).filter fun i => (rs[i]?.map fun r => fitsB r c).getD false).map Int.ofNat
theorem stp_succ {rs : List Ru} {i : Nat} {r : Ru} (c : Cf) (h : rs[i]? = some r) : stp rs c (i + 1) = stp rs c i ++ if fitsB r c then [(i : Int)] else [] := stepsC_take c h
theorem stp_len (rs : List Ru) (c : Cf) (i : Nat) : (stp rs c i).length ≤ i := by unfold stp; rw [List.length_map]; exact Nat.le_trans (List.length_filter_le _ _) (by rw [List.length_range]; exact Nat.le_refl _)
set_option maxRecDepth 100000 in
set_option maxHeartbeats 8000000 in
theorem pdsSteps_any (S L : Int) (v : Value) (rs : List Ru) (s0 : Int) (st0 : List Int) (v0 : Value) (w : World) (hv : RusAt w v rs) (hrl : rs.length ≤ 100000) (h0 : IntsAt w v0 st0) (hbd : st0.length ≤ 50000) :
    Calls Tryd.prog 20 #[sysV S L v, cfV s0 v0] w fun e w' => ∃ u, e = .returned u ∧ IntsAt w' u (stepsC rs (s0, st0)) ∧ Below w.heap.size w w' := by
  obtain ⟨va, vc, rfl⟩ := hv.form
  obtain ⟨xa, xc, rfl⟩ := h0.form
  have HV := Lib.hid hv
  show Calls Tryd.prog 20 #[.agg #[.int .i64 S, .int .i64 L, .slice va rs.length vc], .agg #[.int .i64 s0, .slice xa st0.length xc]] w _
  obtain ⟨k1, k2, b2⟩ := two_boxes w 24 40 #[.int .i64 S, .int .i64 L, .slice va rs.length vc] #[.int .i64 s0, .slice xa st0.length xc]
  have HST := Lib.hid (stand_any s0 st0 _ _ (h0.step b2) (by omega))
  obtain ⟨c0', c1'⟩ := cells2 k2
  clear hv h0
  go_enter Tryd.func20, Tryd.ntmps20
  go_upto_region 2 with (fail)
  have z2 : ((w.alloc (.cells #[.int .i64 S, .int .i64 L, .slice va rs.length vc] 24)).alloc (.cells #[.int .i64 s0, .slice xa st0.length xc] 40)).heap.size = w.heap.size + 2 := by rw [World.size_alloc, World.size_alloc]
  generalize (w.alloc (.cells #[.int .i64 S, .int .i64 L, .slice va rs.length vc] 24)).alloc (.cells #[.int .i64 s0, .slice xa st0.length xc] 40) = w3 at *
  have HZ2 := Lib.hid z2
  clear z2
  go_wp2_with (go_at_call 34; refine HST.out.mono ?_; rintro e w4 ⟨sa, sc, rfl, hown, b4⟩; have hn4 := heap_alloc_new w4 (.cells #[.int .i64 s0, .slice sa st0.length sc] 74); have bn4 := sbelow_new w4 (.cells #[.int .i64 s0, .slice sa st0.length sc] 74); have y2 := (cells3 (blk (blk k1 b4) bn4)).2.2)
  have hsys := blk (blk k1 b4) bn4
  have hiv : IntsAt (w4.alloc (.cells #[.int .i64 s0, .slice sa st0.length sc] 74)) (.slice sa st0.length sc) st0.reverse := (IntsAt.own hown (by rw [List.length_reverse])).step bn4
  have hB5 : Below w.heap.size w (w4.alloc (.cells #[.int .i64 s0, .slice sa st0.length sc] 74)) := (b2.trans (b4.mono b2.size)).trans (bn4.mono (by have := b2.size; have := b4.size; omega))
  have HZ4 : Hid (w4.heap.size < (w4.alloc (.cells #[.int .i64 s0, .slice sa st0.length sc] 74)).heap.size) := Lib.hid (by rw [World.size_alloc]; omega)
  clear bn4 hown b4 b2 k1 k2 c0' c1' HST
  generalize w4.alloc (.cells #[.int .i64 s0, .slice sa st0.length sc] 74) = w5 at *
  generalize w4.heap.size = Pb at *
  have HSy := Lib.hid hsys
  have HPb := Lib.hid hn4
  have HIv := Lib.hid hiv
  have HB5 := Lib.hid hB5
  clear hsys hn4 hiv hB5 y2
  go_loopg [14, 5] rs.length (fun g u pv wr => ∃ i : Nat, i ≤ rs.length ∧ g = rs.length - i ∧ u = .int .i64 i ∧ wr.ownsRow w5.heap.size 3 1 pv (stp rs (s0, st0) i).length (encI (stp rs (s0, st0) i)) ∧ Below w5.heap.size w5 wr)
  case atStart => exact ⟨0, Nat.zero_le _, by omega, rfl, World.ownsRow_nil _ _ _ _, Below.refl _ _⟩
  case round =>
    obtain ⟨i, hi, hgi, rfl, hown, hb⟩ := hrel
    have HO := Lib.hid hown
    have HB := Lib.hid hb
    by_cases hlt : i < rs.length
    · obtain ⟨r, hr⟩ : ∃ r, rs[i]? = some r := ⟨_, List.getElem?_eq_getElem hlt⟩
      have hbw : Below w.heap.size w wr := HB5.out.trans (hb.mono HB5.out.size)
      obtain ⟨b, off, pa, pc, rfl, k0, k1, k2, k3, k4, -⟩ := HV.out.at hr hbw
      have HSt := Lib.hid (stp_succ (s0, st0) hr)
      have hsl := stp_len rs (s0, st0) i
      obtain ⟨fr, top, to, push, cost⟩ := r
      replace k0 : wr.cell? ⟨b, off + i * 5, none⟩ = some (.int .i64 fr) := k0
      replace k1 : wr.cell? ⟨b, off + i * 5 + 1, none⟩ = some (.int .i64 top) := k1
      replace k2 : wr.cell? ⟨b, off + i * 5 + 2, none⟩ = some (.int .i64 to) := k2
      replace k3 : wr.cell? ⟨b, off + i * 5 + 3, none⟩ = some (.slice pa push.length pc) := k3
      replace k4 : wr.cell? ⟨b, off + i * 5 + 4, none⟩ = some (.int .u64 cost) := k4
      have hn := heap_alloc_new wr (.cells #[.int .i64 fr, .int .i64 top, .int .i64 to, .slice pa push.length pc, .int .u64 cost] 65)
      have hbn := sbelow_new wr (.cells #[.int .i64 fr, .int .i64 top, .int .i64 to, .slice pa push.length pc, .int .u64 cost] 65)
      have hb6 := hb.trans (hbn.mono hb.size)
      have HB6 := Lib.hid hb6
      have HO6 := Lib.hid (HO.out.kept (grown_of_below hbn) (by cases u5.ownBlock <;> simp))
      have HFi := Lib.hid (fits_any s0 st0.reverse (.slice sa st0.length sc) ⟨fr, top, to, push, cost⟩ pa pc _ (HIv.out.step hb6) (by rw [List.length_reverse]; omega))
      rw [List.reverse_reverse] at HFi
      obtain ⟨n0, n1, n2, n3, n4⟩ := cells5 hn
      obtain ⟨t0, t1⟩ := cells2 (blk HPb.out hb6)
      clear hr hbw hn hbn hb6 hown hb
      generalize fitsB ⟨fr, top, to, push, cost⟩ (s0, st0) = q at *
      go_wp2_with fail
      refine HFi.out.mono ?_
      rintro e w7 ⟨rfl, b7⟩
      have hb7 := HB6.out.trans (b7.mono HB6.out.size)
      have HB7 := Lib.hid hb7
      have HO7 := Lib.hid (HO6.out.kept (grown_of_below b7) (by cases u5.ownBlock <;> simp))
      clear b7 hb7
      cases q with
      | false =>
        rw [if_neg (by decide), List.append_nil] at HSt
        go_wp2_with fail
        go_roundg (rs.length - (i + 1))
        case measure => omega
        case rel => exact ⟨i + 1, by omega, rfl, by go_num, by rw [HSt.out]; exact HO7.out, HB7.out⟩
      | true =>
        rw [if_pos rfl] at HSt
        go_wp2_with (at_builtin; refine wpList_append_ints _ rfl _ _ rfl w5.heap.size _ _ _ rfl (HO7.out.alloc _) _ [(i : Int)] rfl (ints_new w7 i) (by simp; omega) (by have := HB7.out.size; simp; omega) ?_)
        intro v' w8 hown8 hgrow8
        have h5 : Hid (w8.ownsRow w5.heap.size 3 1 v' (stp rs (s0, st0) (i + 1)).length (encI (stp rs (s0, st0) (i + 1)))) := Lib.hid (by
          rw [HSt.out, encI_snoc']
          simpa using hown8)
        have h6 := Lib.hid ((HB7.out.alloc HB7.out.size (.cells #[.int .i64 (i : Int)] 3)).grown hgrow8 (by have := HB7.out.size; simp; omega) (fun k e => (HO7.out.lt k e).1))
        clear hown8 hgrow8 HO7 HO6
        go_wp2_with fail
        go_roundg (rs.length - (i + 1))
        case measure => omega
        case rel => exact ⟨i + 1, by omega, rfl, by go_num, h5.out, h6.out⟩
    · obtain rfl : i = rs.length := by omega
      have HE : Hid (IntsAt wr u5 (stepsC rs (s0, st0))) := Lib.hid (IntsAt.own hown rfl)
      clear hown hb
      go_wp2_with fail
      go_ret
      exact ⟨_, rfl, HE.out, HB5.out.trans (HB.out.mono HB5.out.size)⟩
end Go.Proofs.YtpccdhkghlbhkaaDoor
