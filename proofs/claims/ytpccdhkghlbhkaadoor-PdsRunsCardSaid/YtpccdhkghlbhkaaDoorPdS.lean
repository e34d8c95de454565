/-
  The statement PdsCheck as a walk: whatever the system, the law answers true, and all of old memory stays as it was.
-/
import Derived.Test.YtpccdhkghlbhkaaDoorPdR
import Derived.Test.YtpccdhkghlbhkaaDoorPdG
namespace Go.Proofs.YtpccdhkghlbhkaaDoor
open Go.RowKit Go.Extern.Stop Go.Stop Go.Extern

/-- A system in a law's box, the error's handle at hand. -/
structure LwS (w : World) (C : Nat) (S L : Int) (v : Value) (rs : List Ru) (W : World) : Prop where
  bx : W.heap[C]? = some (.cells #[.int .i64 S, .int .i64 L, v] 24 (0, 0))
  rs : RusAt W v rs
  hg : Handle W
  below : Below w.heap.size w W
theorem LwS.step {w : World} {C : Nat} {S L : Int} {v : Value} {rs : List Ru} {W W' : World} (h : LwS w C S L v rs W) (hb : Below W.heap.size W W') : LwS w C S L v rs W' := ⟨blk h.bx hb, h.rs.step hb, h.hg.below hb, h.below.trans (hb.mono h.below.size)⟩
theorem LwS.start {w : World} (S L : Int) {v : Value} {rs : List Ru} (hr : RusAt w v rs) (hg : Handle w) : LwS w w.heap.size S L v rs (w.alloc (.cells #[.int .i64 S, .int .i64 L, v] 24)) :=
  ⟨heap_alloc_new w _, hr.step (sbelow_new w _), hg.below (sbelow_new w _), sbelow_new w _⟩
theorem Short.mono {rs : List Ru} {a b : Nat} (h : Short rs a) (hab : a ≤ b) : Short rs b := fun i r hr => Nat.le_trans (h i r hr) hab
theorem errIs_any (v : Value) (c a : Int) (w : World) (h : ErrIs w v c a) (hg : Handle w) : Calls Tryd.prog 11 #[v, .int .i64 c, .int .i64 a] w fun e w' => e = .returned (.bool true) ∧ Below w.heap.size w w' := lawIs_err v c a w h hg
set_option maxRecDepth 100000 in
set_option maxHeartbeats 8000000 in
theorem pdsCheckLaw_any (S L : Int) (v : Value) (rs : List Ru) (w : World) (hv : RusAt w v rs) (hg : Handle w) :
    Calls Tryd.prog 3 #[sysV S L v] w fun e w' => e = .returned (.bool true) ∧ Below w.heap.size w w' := by
  obtain ⟨va, vc, rfl⟩ := hv.form
  have H1 := Lib.hid (LwS.start S L hv hg)
  clear hv hg
  go_enter Tryd.func3, Tryd.ntmps3
  go_wp2_with fail
  generalize w.alloc (.cells #[.int .i64 S, .int .i64 L, .slice va rs.length vc] 24) = w1 at *
  refine (awake21_any _ H1.out.hg).mono ?_
  rintro e w2 ⟨rfl, b2⟩
  have H2 := Lib.hid (H1.out.step b2)
  clear b2 H1
  obtain ⟨s0, s1, s2⟩ := cells3 H2.out.bx
  go_wp2_with fail
  refine (light21_any S L _ rs 100 (by decide) _ H2.out.rs).mono ?_
  rintro e w3 ⟨q, rfl, hq, b3⟩
  have H3 := Lib.hid (H2.out.step b3)
  have HQ := Lib.hid hq
  clear b3 hq H2 s0 s1 s2
  cases q with
  | false =>
    go_wp2_with fail
    go_ret
    exact ⟨rfl, H3.out.below⟩
  | true =>
    obtain ⟨hn, hs⟩ := HQ.out rfl
    have HN := Lib.hid (And.intro hn hs)
    clear HQ hn hs
    obtain ⟨s0, s1, s2⟩ := cells3 H3.out.bx
    go_wp2_with fail
    refine (to21_any S L _ rs _ H3.out.rs (by have := HN.out.1; omega) (HN.out.2.mono (by decide))).mono ?_
    rintro e w4 ⟨a4, c4, us, rfl, ho4, b4⟩
    have H4 := Lib.hid (H3.out.step b4)
    have HR4 := Lib.hid ho4.rusAt
    clear b4 H3 s0 s1 s2 ho4
    go_wp2_with fail
    refine (rcheck21_any S L _ rs _ HR4.out (by have := HN.out.1; omega) (HN.out.2.mono (by decide))).mono ?_
    rintro e w5 ⟨rfl, b5⟩
    have H5 := Lib.hid (H4.out.step b5)
    clear b5 H4 HR4
    obtain ⟨s0, s1, s2⟩ := cells3 H5.out.bx
    have HCK := Lib.hid (pdsCheck_any S L _ rs _ H5.out.rs (by have := HN.out.1; omega) (HN.out.2.mono (by decide)))
    generalize pdsF S L rs = F at *
    obtain ⟨fc, fa⟩ := F
    go_wp2_with fail
    refine HCK.out.mono ?_
    rintro e w6 ⟨er, rfl, her, b6⟩
    have H6 := Lib.hid (H5.out.step b6)
    have HE := Lib.hid her
    clear b6 H5 s0 s1 s2 her HCK
    go_wp2_with fail
    refine (errIs_any _ fc fa _ HE.out H6.out.hg).mono ?_
    rintro e w7 ⟨rfl, b7⟩
    go_wp2_with fail
    go_ret
    exact ⟨rfl, H6.out.below.trans (b7.mono H6.out.below.size)⟩
end Go.Proofs.YtpccdhkghlbhkaaDoor
