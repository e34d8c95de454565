/-
  Chapter 21's law: which systems may be gone through; what is at hand on the way.
-/
import Derived.Test.YtjanbhodikhdeaaDoorPdS
namespace Go.Proofs.YtjanbhodikhdeaaDoor
open Go.RowKit Go.Extern.Stop Go.Stop Go.Extern

set_option maxRecDepth 100000 in
set_option maxHeartbeats 8000000 in
theorem may21_any (S L : Int) (v : Value) (rs : List Ru) (w : World) (hv : RusAt w v rs) :
    Calls Tryd.prog 6 #[sysV S L v, .int .i64 1000, .int .i64 100] w (LiP (rs.length ≤ 100 ∧ Short rs 2) w) := by
  obtain ⟨va, vc, rfl⟩ := hv.form
  have bn := sbelow_new w (.cells #[.int .i64 S, .int .i64 L, .slice va rs.length vc] 24)
  have H1 := Lib.hid (And.intro (heap_alloc_new w (.cells #[.int .i64 S, .int .i64 L, .slice va rs.length vc] 24)) (And.intro (hv.step bn) bn))
  clear hv bn
  go_enter Tryd.func6, Tryd.ntmps6
  obtain ⟨s0, s1, s2⟩ := cells3 H1.out.1
  go_wp2_with fail
  generalize w.alloc (.cells #[.int .i64 S, .int .i64 L, .slice va rs.length vc] 24) = w1 at *
  refine (light21_any S L _ rs 100 (by decide) _ H1.out.2.1).mono ?_
  rintro e w2 ⟨q, rfl, hq, b2⟩
  have H2 := Lib.hid (And.intro (blk H1.out.1 b2) (And.intro (H1.out.2.1.step b2) (H1.out.2.2.trans (b2.mono H1.out.2.2.size))))
  have HQ := Lib.hid hq
  clear b2 hq H1 s0 s1 s2
  obtain ⟨s0, s1, s2⟩ := cells3 H2.out.1
  cases q with
  | false =>
    go_wp2_with fail
    go_ret
    exact ⟨false, rfl, (fun h => by cases h), H2.out.2.2⟩
  | true =>
    obtain ⟨hn, hs⟩ := HQ.out rfl
    have HN := Lib.hid (And.intro hn hs)
    clear HQ hn hs
    by_cases hS : 1000 < S
    · go_wp2_with fail
      go_ret
      exact ⟨false, rfl, (fun h => by cases h), H2.out.2.2⟩
    · by_cases hL : 20 < L
      · go_wp2_with fail
        go_ret
        exact ⟨false, rfl, (fun h => by cases h), H2.out.2.2⟩
      · go_wp2_with fail
        refine (to21_any S L _ rs _ H2.out.2.1 (by have := HN.out.1; omega) (HN.out.2.mono (by decide))).mono ?_
        rintro e w4 ⟨a4, c4, us, rfl, ho4, b4⟩
        have HR4 := Lib.hid ho4.rusAt
        have HB4 := Lib.hid (H2.out.2.2.trans (b4.mono H2.out.2.2.size))
        clear b4 s0 s1 s2 ho4 H2
        go_wp2_with fail
        have HZ := Lib.hid (fun h => @pdsF_zero S L rs h)
        refine (rcheck21_any S L _ rs _ HR4.out (by have := HN.out.1; omega) (HN.out.2.mono (by decide))).mono ?_
        generalize pdsF S L rs = F at *
        obtain ⟨fc, fa⟩ := F
        rintro e w5 ⟨rfl, b5⟩
        have HB5 := Lib.hid (HB4.out.trans (b5.mono HB4.out.size))
        clear b5 HB4 HR4
        by_cases h0 : fc = 0
        · subst h0
          go_wp2_with fail
          go_ret
          refine ⟨true, rfl, fun _ => ⟨HN.out.1, fun i r hr => ?_⟩, HB5.out⟩
          exact (ruF_zero ((HZ.out (by first | rfl | trivial)).2 r (List.mem_of_getElem? hr))).2.1
        · have hb0 : (fc == 0) = false := by simpa using h0
          go_wp2_with fail
          go_ret
          refine ⟨false, by simp [hb0], (fun h => by cases h), HB5.out⟩
/-- What chapter 21's laws have at hand: the system, the configuration, a run. -/
structure LrS (w : World) (S L : Int) (v : Value) (rs : List Ru) (s0 : Int) (st0 : List Int) (vz : Value) (xs : List Int) (vx : Value) (W : World) : Prop where
  sys : W.heap[w.heap.size]? = some (.cells #[.int .i64 S, .int .i64 L, v] 24 (0, 0))
  cfg : W.heap[w.heap.size + 1]? = some (.cells #[.int .i64 s0, vz] 27 (0, 0))
  rs : RusAt W v rs
  st : IntsAt W vz st0
  xs : IntsAt W vx xs
  hg : Handle W
  below : Below w.heap.size w W
theorem LrS.step {w : World} {S L : Int} {v : Value} {rs : List Ru} {s0 : Int} {st0 : List Int} {vz : Value} {xs : List Int} {vx : Value} {W W' : World} (h : LrS w S L v rs s0 st0 vz xs vx W) (hb : Below W.heap.size W W') : LrS w S L v rs s0 st0 vz xs vx W' :=
  ⟨blk h.sys hb, blk h.cfg hb, h.rs.step hb, h.st.step hb, h.xs.step hb, h.hg.below hb, h.below.trans (hb.mono h.below.size)⟩
theorem LrS.start {w : World} (S L : Int) {v : Value} {rs : List Ru} (s0 : Int) {st0 : List Int} {vz : Value} {xs : List Int} {vx : Value} (hr : RusAt w v rs) (hz : IntsAt w vz st0) (hx : IntsAt w vx xs) (hg : Handle w) :
    LrS w S L v rs s0 st0 vz xs vx ((w.alloc (.cells #[.int .i64 S, .int .i64 L, v] 24)).alloc (.cells #[.int .i64 s0, vz] 27)) := by
  obtain ⟨k1, k2, b2⟩ := two_boxes w 24 27 #[.int .i64 S, .int .i64 L, v] #[.int .i64 s0, vz]
  exact ⟨k1, k2, hr.step b2, hz.step b2, hx.step b2, hg.below b2, b2⟩
end Go.Proofs.YtjanbhodikhdeaaDoor
