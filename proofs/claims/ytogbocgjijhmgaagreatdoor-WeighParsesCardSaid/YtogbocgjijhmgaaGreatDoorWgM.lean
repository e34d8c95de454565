/-
  The statements of weights as walks: whatever the input, the law answers true, and all of old memory stays as it was.
-/
import Derived.Test.YtogbocgjijhmgaaGreatDoorWgL
import Derived.Test.YtogbocgjijhmgaaGreatDoorWgK
namespace Go.Proofs.YtogbocgjijhmgaaGreatDoor
open Go.RowKit Go.Extern.Stop Go.Stop Go.Extern

/-- What every law of weights asks of memory. -/
structure Lk (w : World) : Prop where
  hg : Handle w
  ht : Tab w
  hw : Wds w
theorem Lk.below {w w' : World} (h : Lk w) (hb : Below w.heap.size w w') : Lk w' := ⟨h.hg.below hb, h.ht.below hb, h.hw.below hb⟩
theorem awake20_lk (w : World) (h : Lk w) : Calls Tryz.prog 21 #[] w fun e w' => e = .returned (.bool true) ∧ Below w.heap.size w w' := awake20_any w h.hg h.ht h.hw
theorem tri_new (w : World) (x y z : Int) : TriAt (w.alloc (.cells #[.int .u64 x, .int .u64 y, .int .u64 z] 55)) w.heap.size x y z := heap_alloc_new w _

/-! ### WeighCosts -/
set_option maxRecDepth 100000 in
set_option maxHeartbeats 8000000 in
theorem weighCosts_any (h d p a b c a2 b2 c2 : Int) (hh : 0 ≤ h) (hd : 0 ≤ d) (hp : 0 ≤ p) (ha : 0 ≤ a) (hb : 0 ≤ b) (hc : 0 ≤ c) (ha2 : 0 ≤ a2) (hb2 : 0 ≤ b2) (hc2 : 0 ≤ c2) (w : World) (hl : Lk w) :
    Calls Tryz.prog 8 #[.agg #[.int .u64 h, .int .u64 d, .int .u64 p], .int .u64 a, .int .u64 b, .int .u64 c, .int .u64 a2, .int .u64 b2, .int .u64 c2] w fun e w' => e = .returned (.bool true) ∧ Below w.heap.size w w' := by
  have HL := Lib.hid hl
  have HX := Lib.hid (fun W => gcost_any h d p a b c hh hd hp ha hb hc W)
  have HY := Lib.hid (fun W => gcost_any h d p a2 b2 c2 hh hd hp ha2 hb2 hc2 W)
  have HRX := Lib.hid (fun W => rgcost_any h d p a b c hh hd hp ha hb hc W)
  have HS := Lib.hid (fun W => gcost_any h d p (addI a a2) (addI b b2) (addI c c2) hh hd hp (addI_nn ha ha2) (addI_nn hb hb2) (addI_nn hc hc2) W)
  rw [costI_add h d p a b c a2 b2 c2 hh hd hp ha hb hc ha2 hb2 hc2] at HS
  have HLK := Lib.hid (fun W => glink_any h d p b hh hd hp hb W)
  have HRL := Lib.hid (fun W => rgcost_any h d p 1 b 0 hh hd hp (by decide) hb (by decide) W)
  have HA1 := Lib.hid (fun W => add_any a a2 ha ha2 W)
  have HA2 := Lib.hid (fun W => add_any b b2 hb hb2 W)
  have HA3 := Lib.hid (fun W => add_any c c2 hc hc2 W)
  have nx : 0 ≤ costI h d p a b c := addI_nn (addI_nn (mulI_nn hh ha) (mulI_nn hd hb)) (mulI_nn hp hc)
  have ny : 0 ≤ costI h d p a2 b2 c2 := addI_nn (addI_nn (mulI_nn hh ha2) (mulI_nn hd hb2)) (mulI_nn hp hc2)
  have HA4 := Lib.hid (fun W => add_any (costI h d p a b c) (costI h d p a2 b2 c2) nx ny W)
  generalize addI (costI h d p a b c) (costI h d p a2 b2 c2) = z at *
  generalize costI h d p a b c = x at *
  generalize costI h d p a2 b2 c2 = y at *
  generalize costI h d p 1 b 0 = v at *
  generalize addI a a2 = s1 at *
  generalize addI b b2 = s2 at *
  generalize addI c c2 = s3 at *
  have HB1 := Lib.hid (sbelow_new w (.cells #[.int .u64 h, .int .u64 d, .int .u64 p] 55))
  have HC1 := Lib.hid (tri_new w h d p)
  clear hl hh hd hp ha hb hc ha2 hb2 hc2 nx ny
  go_enter Tryz.func8, Tryz.ntmps8
  go_wp2_with fail
  generalize w.alloc (.cells #[.int .u64 h, .int .u64 d, .int .u64 p] 55) = w1 at *
  refine (awake20_lk _ (HL.out.below HB1.out)).mono ?_
  rintro e w2 ⟨rfl, b2⟩
  have hI := (HC1.out.step b2).step (Below.refl _ _).drew
  have hB := HB1.out.trans (b2.mono HB1.out.size)
  have kk := hI.cells
  clear b2
  go_wp2_with fail
  go_region_held3 (fun W => W.cell? ⟨w.heap.size, 0, none⟩ = some (.int .u64 h) ∧ W.cell? ⟨w.heap.size, 1, none⟩ = some (.int .u64 d) ∧ W.cell? ⟨w.heap.size, 2, none⟩ = some (.int .u64 p))
    (first | exact kk | exact hI.cells)
    (first
    | (go_at_call 28; (with_reducible refine (HX.out _).mono ?_); rintro e w5 ⟨rfl, b5⟩; replace hI := hI.step b5; replace hB := hB.drew.trans (b5.mono hB.size); clear HX)
    | (go_at_call 28; (with_reducible refine (HY.out _).mono ?_); rintro e w6 ⟨rfl, b6⟩; replace hI := hI.step b6; replace hB := hB.trans (b6.mono hB.size)))
  replace hI := hI.step (Below.refl _ _).drew
  replace hB := hB.drew
  have kk := hI.cells
  go_wp2_with fail
  go_region_held3 (fun W => W.cell? ⟨w.heap.size, 0, none⟩ = some (.int .u64 h) ∧ W.cell? ⟨w.heap.size, 1, none⟩ = some (.int .u64 d) ∧ W.cell? ⟨w.heap.size, 2, none⟩ = some (.int .u64 p))
    (first | exact kk | exact hI.cells)
    (first
    | (go_at_call 29; (with_reducible refine (HRX.out _).mono ?_); rintro e w5 ⟨rfl, b5⟩; replace hI := hI.step b5; replace hB := hB.trans (b5.mono hB.size); clear HRX)
    | (go_at_call 30; (with_reducible refine (HA1.out _).mono ?_); rintro e w5 ⟨rfl, rfl⟩; clear HA1)
    | (go_at_call 30; (with_reducible refine (HA2.out _).mono ?_); rintro e w5 ⟨rfl, rfl⟩; clear HA2)
    | (go_at_call 30; (with_reducible refine (HA3.out _).mono ?_); rintro e w5 ⟨rfl, rfl⟩; clear HA3)
    | (go_at_call 28; (with_reducible refine (HS.out _).mono ?_); rintro e w5 ⟨rfl, b5⟩; replace hI := hI.step b5; replace hB := hB.trans (b5.mono hB.size); clear HS)
    | (go_at_call 30; (with_reducible refine (HA4.out _).mono ?_); rintro e w5 ⟨rfl, rfl⟩; clear HA4)
    | (go_at_call 31; (with_reducible refine (HLK.out _).mono ?_); rintro e w5 ⟨rfl, b5⟩; replace hI := hI.step b5; replace hB := hB.trans (b5.mono hB.size); clear HLK)
    | (go_at_call 29; (with_reducible refine (HRL.out _).mono ?_); rintro e w5 ⟨rfl, b5⟩; replace hI := hI.step b5; replace hB := hB.trans (b5.mono hB.size)))
  go_wp2
  go_ret
  exact ⟨rfl, hB⟩
end Go.Proofs.YtogbocgjijhmgaaGreatDoor
