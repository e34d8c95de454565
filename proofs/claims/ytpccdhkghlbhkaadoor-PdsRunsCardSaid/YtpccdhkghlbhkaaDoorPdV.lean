/-
  The statement PdsRuns as a walk: whatever the system, the configuration and the run, the law answers true, and all of old memory stays as it was.
-/
import Derived.Test.YtpccdhkghlbhkaaDoorPdT
namespace Go.Proofs.YtpccdhkghlbhkaaDoor
open Go.RowKit Go.Extern.Stop Go.Stop Go.Extern

/-- Behind the loop: the document's system, the rules that can be done, and what the stack was. -/
structure LsS (w : World) (S L : Int) (v : Value) (rs : List Ru) (s0 : Int) (st0 : List Int) (vz : Value) (xs : List Int) (vx : Value) (Qb : Nat) (vq uc uw : Value) (W : World) : Prop where
  lr : LrS w S L v rs s0 st0 vz xs vx W
  q : W.heap[Qb]? = some (.cells #[.int .i64 S, .int .i64 L, vq] 31 (0, 0))
  rq : RusAt W vq rs
  can : IntsAt W uc (stepsC rs (s0, st0))
  was : IntsAt W uw st0
theorem LsS.step {w : World} {S L : Int} {v : Value} {rs : List Ru} {s0 : Int} {st0 : List Int} {vz : Value} {xs : List Int} {vx : Value} {Qb : Nat} {vq uc uw : Value} {W W' : World} (h : LsS w S L v rs s0 st0 vz xs vx Qb vq uc uw W) (hb : Below W.heap.size W W') : LsS w S L v rs s0 st0 vz xs vx Qb vq uc uw W' :=
  ⟨h.lr.step hb, blk h.q hb, h.rq.step hb, h.can.step hb, h.was.step hb⟩
/-- Behind the two runs. -/
structure LtS (w : World) (S L : Int) (v : Value) (rs : List Ru) (s0 : Int) (st0 : List Int) (vz : Value) (xs : List Int) (vx : Value) (Qb : Nat) (vq uc uw : Value) (Db Eb : Nat) (X : Ans) (vd vp er : Value) (W : World) : Prop where
  ls : LsS w S L v rs s0 st0 vz xs vx Qb vq uc uw W
  d : W.heap[Db]? = some (.cells #[.int .i64 X.c.1, vd] 40 (0, 0))
  p : W.heap[Eb]? = some (.cells #[.int .i64 X.c.1, vp] 46 (0, 0))
  di : IntsAt W vd X.c.2
  pi : IntsAt W vp X.c.2
  er : ErrIs W er X.code X.at_
theorem LtS.step {w : World} {S L : Int} {v : Value} {rs : List Ru} {s0 : Int} {st0 : List Int} {vz : Value} {xs : List Int} {vx : Value} {Qb : Nat} {vq uc uw : Value} {Db Eb : Nat} {X : Ans} {vd vp er : Value} {W W' : World} (h : LtS w S L v rs s0 st0 vz xs vx Qb vq uc uw Db Eb X vd vp er W) (hb : Below W.heap.size W W') : LtS w S L v rs s0 st0 vz xs vx Qb vq uc uw Db Eb X vd vp er W' :=
  ⟨h.ls.step hb, blk h.d hb, blk h.p hb, h.di.step hb, h.pi.step hb, h.er.keep hb⟩
theorem IntsAt.setNe {w : World} {a : Option Addr} {n k : Nat} {l : List Int} (h : IntsAt w (.slice a n k) l) {q : Nat} (ho : ∀ ad, a = some ad → 0 < n → ad.block ≠ q) (j : Nat) (u : Value) : IntsAt (w.setCell ⟨q, j, none⟩ u) (.slice a n k) l := by
  rcases h with h | ⟨b, off, cap, e, hlt, hc⟩
  · exact .inl h
  · have e2 := e
    injection e2 with e3 e4 e5
    refine .inr ⟨b, off, cap, e, by rw [World.size_setCell]; exact hlt, fun i c hi => ?_⟩
    have hi' := (List.getElem?_eq_some_iff.1 hi).1
    have hb : b ≠ q := ho _ e3 (by omega)
    rw [World.cell?_setCell_other _ _ _ _ (by intro e; injection e with e; omega)]
    exact hc i c hi
theorem sameC_refl (s : Int) (l : List Int) : sameC s s l l = true := by unfold sameC; simp
set_option maxRecDepth 100000 in
set_option maxHeartbeats 16000000 in
theorem pdsRunsLaw_any (S L : Int) (v : Value) (rs : List Ru) (s0 : Int) (vz : Value) (st0 : List Int) (vx : Value) (xs : List Int) (w : World) (hv : RusAt w v rs) (hcs : ∀ (i : Nat) (r : Ru), rs[i]? = some r → 0 ≤ r.cost) (hz : IntsAt w vz st0) (hx : IntsAt w vx xs) (hg : Handle w) :
    Calls Tryd.prog 4 #[sysV S L v, cfV s0 vz, vx] w fun e w' => e = .returned (.bool true) ∧ Below w.heap.size w w' := by
  obtain ⟨va, vc, rfl⟩ := hv.form
  obtain ⟨za, zc, rfl⟩ := hz.form
  obtain ⟨xa, xc, rfl⟩ := hx.form
  have H1 := Lib.hid (LrS.start S L s0 hv hz hx hg)
  have HCs := Lib.hid hcs
  clear hv hz hx hg hcs
  go_enter Tryd.func4, Tryd.ntmps4
  go_wp2_with fail
  generalize (w.alloc (.cells #[.int .i64 S, .int .i64 L, .slice va rs.length vc] 24)).alloc (.cells #[.int .i64 s0, .slice za st0.length zc] 40) = w1 at *
  refine (awake21_any _ H1.out.hg).mono ?_
  rintro e w2 ⟨rfl, b2⟩
  have H2 := Lib.hid (H1.out.step b2)
  clear b2 H1
  obtain ⟨s0', s1', s2'⟩ := cells3 H2.out.sys
  go_wp2_with fail
  refine (may21_any S L _ rs _ H2.out.rs).mono ?_
  rintro e w3 ⟨q, rfl, hq, b3⟩
  have H3 := Lib.hid (H2.out.step b3)
  have HQ := Lib.hid hq
  clear b3 hq H2 s0' s1' s2'
  obtain ⟨s0', s1', s2'⟩ := cells3 H3.out.sys
  obtain ⟨c0', c1'⟩ := cells2 H3.out.cfg
  cases q with
  | false =>
    go_wp2_with fail
    go_ret
    exact ⟨rfl, H3.out.below⟩
  | true =>
    obtain ⟨hn, hs⟩ := HQ.out rfl
    have HN := Lib.hid (And.intro hn hs)
    clear HQ hn hs
    by_cases hxl : (40 : Int) < (xs.length : Int)
    · go_wp2_with fail
      go_ret
      exact ⟨rfl, H3.out.below⟩
    by_cases hzl : (40 : Int) < (st0.length : Int)
    · go_wp2_with fail
      go_ret
      exact ⟨rfl, H3.out.below⟩
    have HLn : Hid (xs.length ≤ 40 ∧ st0.length ≤ 40) := Lib.hid ⟨by omega, by omega⟩
    go_wp2_with (go_at_call 10; refine (to21_any S L _ rs _ H3.out.rs (by have := HN.out.1; omega) (HN.out.2.mono (by decide))).mono ?_; rintro e w4 ⟨a4, c4, us, rfl, ho4, b4⟩; have hn4 := heap_alloc_new w4 (.cells #[.int .i64 S, .int .i64 L, .slice a4 rs.length c4] 31); have bn4 := sbelow_new w4 (.cells #[.int .i64 S, .int .i64 L, .slice a4 rs.length c4] 31); have y2 := (cells3 hn4).2.2)
    have H5 := Lib.hid ((H3.out.step b4).step bn4)
    have HRq := Lib.hid (ho4.rusAt.step bn4)
    have HQb := Lib.hid hn4
    clear bn4 ho4 b4 hn4 y2 s0' s1' s2' c0' c1' hxl hzl H3
    generalize w4.alloc (.cells #[.int .i64 S, .int .i64 L, .slice a4 rs.length c4] 31) = w5 at *
    generalize w4.heap.size = Qb at *
    go_loopg [40, 8] rs.length (fun g u pv wr => ∃ i : Nat, i ≤ rs.length ∧ g = rs.length - i ∧ u = .int .i64 i ∧ wr.ownsRow w5.heap.size 3 1 pv (stp rs (s0, st0) i).length (encI (stp rs (s0, st0) i)) ∧ Below w5.heap.size w5 wr)
    case atStart => exact ⟨0, Nat.zero_le _, by omega, rfl, World.ownsRow_nil _ _ _ _, Below.refl _ _⟩
    case round =>
      obtain ⟨i, hi, hgi, rfl, hown, hb⟩ := hrel
      have HO := Lib.hid hown
      have HB := Lib.hid hb
      by_cases hlt : i < rs.length
      · obtain ⟨r, hr⟩ : ∃ r, rs[i]? = some r := ⟨_, List.getElem?_eq_getElem hlt⟩
        obtain ⟨b, off, pa, pc, rfl, k0, k1, k2, k3, k4, -⟩ := HRq.out.at hr hb
        have HSt := Lib.hid (stp_succ (s0, st0) hr)
        have hsl := stp_len rs (s0, st0) i
        have hrn := HN.out.1
        obtain ⟨fr, top, to, push, cost⟩ := r
        replace k0 : wr.cell? ⟨b, off + i * 5, none⟩ = some (.int .i64 fr) := k0
        replace k1 : wr.cell? ⟨b, off + i * 5 + 1, none⟩ = some (.int .i64 top) := k1
        replace k2 : wr.cell? ⟨b, off + i * 5 + 2, none⟩ = some (.int .i64 to) := k2
        replace k3 : wr.cell? ⟨b, off + i * 5 + 3, none⟩ = some (.slice pa push.length pc) := k3
        replace k4 : wr.cell? ⟨b, off + i * 5 + 4, none⟩ = some (.int .u64 cost) := k4
        have hn := heap_alloc_new wr (.cells #[.int .i64 fr, .int .i64 top, .int .i64 to, .slice pa push.length pc, .int .u64 cost] 44)
        have hbn := sbelow_new wr (.cells #[.int .i64 fr, .int .i64 top, .int .i64 to, .slice pa push.length pc, .int .u64 cost] 44)
        have HB6 := Lib.hid (hb.trans (hbn.mono hb.size))
        have HO6 := Lib.hid (HO.out.kept (grown_of_below hbn) (by cases u8.ownBlock <;> simp))
        have HNw := Lib.hid hn
        have HCan := Lib.hid (fun W (a : Option Addr) (c : Nat) (h : IntsAt W (.slice a st0.length c) st0) => can21_any s0 st0 (.slice a st0.length c) ⟨fr, top, to, push, cost⟩ pa pc W h (by have := HLn.out.2; omega))
        clear hr hn hbn hown hb
        generalize fitsB ⟨fr, top, to, push, cost⟩ (s0, st0) = q at *
        go_upto_region 10 with (fail)
        clear k0 k1 k2 k3 k4
        generalize wr.alloc (.cells #[.int .i64 fr, .int .i64 top, .int .i64 to, .slice pa push.length pc, .int .u64 cost] 44) = w6 at *
        generalize hrb : wr.heap.size = Rb at *
        clear hrb
        have HK : Hid (∀ W, Below w6.heap.size w6 W → W.cell? ⟨w.heap.size + 1, 0, none⟩ = some (.int .i64 s0) ∧ W.cell? ⟨w.heap.size + 1, 1, none⟩ = some (.slice za st0.length zc) ∧ W.cell? ⟨Rb, 0, none⟩ = some (.int .i64 fr) ∧ W.cell? ⟨Rb, 1, none⟩ = some (.int .i64 top) ∧ W.cell? ⟨Rb, 2, none⟩ = some (.int .i64 to) ∧ W.cell? ⟨Rb, 3, none⟩ = some (.slice pa push.length pc) ∧ W.cell? ⟨Rb, 4, none⟩ = some (.int .u64 cost)) := Lib.hid (fun W hb =>
          ⟨(cells2 ((H5.out.step HB6.out).step hb).cfg).1, (cells2 ((H5.out.step HB6.out).step hb).cfg).2, cells5 (blk HNw.out hb)⟩)
        have HCf := Lib.hid (fun W (hb : Below w6.heap.size w6 W) => conf21_any s0 st0 (.slice za st0.length zc) W ((H5.out.step HB6.out).step hb).st (by have := HLn.out.2; omega))
        have hB := (Below.refl w6.heap.size w6).drew
        have kk := HK.out _ hB
        go_region_held3 (fun W => W.cell? ⟨w.heap.size + 1, 0, none⟩ = some (.int .i64 s0) ∧ W.cell? ⟨w.heap.size + 1, 1, none⟩ = some (.slice za st0.length zc) ∧ W.cell? ⟨Rb, 0, none⟩ = some (.int .i64 fr) ∧ W.cell? ⟨Rb, 1, none⟩ = some (.int .i64 top) ∧ W.cell? ⟨Rb, 2, none⟩ = some (.int .i64 to) ∧ W.cell? ⟨Rb, 3, none⟩ = some (.slice pa push.length pc) ∧ W.cell? ⟨Rb, 4, none⟩ = some (.int .u64 cost))
          (first | exact kk | exact HK.out _ hB)
          (first
          | (go_at_call 15; refine (HCf.out _ hB).mono ?_; rintro e w7 ⟨ca, cc, rfl, hown7, b7⟩; have hA := IntsAt.own hown7 rfl; replace hB := hB.trans (b7.mono hB.size); clear b7 hown7)
          | (go_at_call 14; refine (HCan.out _ _ _ hA).mono ?_; rintro e w8 ⟨rfl, b8⟩; replace hB := hB.trans (b8.mono hB.size)))
        rename World => w9
        have HB9 := Lib.hid (HB6.out.trans (hB.mono HB6.out.size))
        have HO9 := Lib.hid (HO6.out.kept (grown_of_below hB) (by cases u8.ownBlock <;> simp))
        clear hB kk hA HK HCf HCan HNw b8
        cases q with
        | false =>
          rw [if_neg (by decide), List.append_nil] at HSt
          go_wp2_with fail
          go_roundg (rs.length - (i + 1))
          case measure => omega
          case rel => exact ⟨i + 1, by omega, rfl, by go_num, by rw [HSt.out]; exact HO9.out, HB9.out⟩
        | true =>
          rw [if_pos rfl] at HSt
          go_wp2_with (at_builtin; refine wpList_append_ints _ rfl _ _ rfl w5.heap.size _ _ _ rfl (HO9.out.alloc _) _ [(i : Int)] rfl (ints_new w9 i) (by simp; omega) (by have := HB9.out.size; simp; omega) ?_)
          intro v' w10 hown10 hgrow10
          have h5 : Hid (w10.ownsRow w5.heap.size 3 1 v' (stp rs (s0, st0) (i + 1)).length (encI (stp rs (s0, st0) (i + 1)))) := Lib.hid (by
            rw [HSt.out, encI_snoc']
            simpa using hown10)
          have h6 := Lib.hid ((HB9.out.alloc HB9.out.size (.cells #[.int .i64 (i : Int)] 3)).grown hgrow10 (by have := HB9.out.size; simp; omega) (fun k e => (HO9.out.lt k e).1))
          clear hown10 hgrow10 HO9 HO6
          go_wp2_with fail
          go_roundg (rs.length - (i + 1))
          case measure => omega
          case rel => exact ⟨i + 1, by omega, rfl, by go_num, h5.out, h6.out⟩
      · obtain rfl : i = rs.length := by omega
        have HE : Hid (IntsAt wr u8 (stepsC rs (s0, st0))) := Lib.hid (IntsAt.own hown rfl)
        have H6 := Lib.hid (H5.out.step hb)
        have HR6 := Lib.hid (HRq.out.step hb)
        have HQ6 := Lib.hid (blk HQb.out hb)
        obtain ⟨c0', c1'⟩ := cells2 H6.out.cfg
        clear hown hb HO HB H5 HRq HQb
        go_wp2_with fail
        refine (cloneI_any st0 _ _ H6.out.st (by have := HLn.out.2; omega)).mono ?_
        rintro e w8 ⟨uw, rfl, hown8, -, b8⟩
        have H8 := Lib.hid (LsS.mk (w := w) (S := S) (L := L) (H6.out.step b8) (blk HQ6.out b8) (HR6.out.step b8) (HE.out.step b8) (IntsAt.own hown8 rfl))
        clear b8 hown8 H6 HE HR6 HQ6 c0' c1'
        obtain ⟨c0', c1'⟩ := cells2 H8.out.lr.cfg
        obtain ⟨s0', s1', s2'⟩ := cells3 H8.out.lr.sys
        obtain ⟨⟨⟨cs, stk⟩, n, code, at_⟩, HX⟩ : ∃ X, Hid (goC rs xs 0 (s0, st0) 0 = X) := ⟨_, Lib.hid rfl⟩
        have hkl : stk.length ≤ 200 := by
          have h := goC_len (rs := rs) (P := 2) (fun r hr => by obtain ⟨i, hi⟩ := List.getElem?_of_mem hr; exact HN.out.2 i r hi) xs 0 (s0, st0) 0
          rw [HX.out] at h
          have h1 : stk.length ≤ st0.length + 2 * xs.length := h
          have := HLn.out
          omega
        have HKL := Lib.hid hkl
        have HD := Lib.hid (pdsDo_any S L _ rs (s0, st0) _ xs _ w8 H8.out.lr.rs (HN.out.2.mono (by decide)) HCs.out (by have := HN.out.1; omega) H8.out.lr.st H8.out.lr.xs (by have := HLn.out; show st0.length + 100 * xs.length ≤ 50000; omega))
        have HRd := Lib.hid (fun (W : World) (a : Option Addr) (c : Nat) (hq : RusAt W (.slice a4 rs.length c4) rs) (h : IntsC W (.slice a st0.length c) st0) (hl : IntsAt W (.slice xa xs.length xc) xs) => rdo21_any S L _ rs (s0, st0) a c xs _ W hq (HN.out.2.mono (by decide)) HCs.out (by have := HN.out.1; omega) h hl (by have := HLn.out; show st0.length + 100 * xs.length ≤ 50000; omega))
        rw [HX.out] at HD HRd
        clear hkl HCs
        go_upto_region 15 with (go_at_call 17; refine HD.out.mono ?_; rintro e w9 ⟨qa, qk, er, rfl, hown9, her9, b9⟩)
        have bn9 := sbelow_new w9 (.cells #[.int .i64 cs, .slice qa stk.length qk] 40)
        have H10 := Lib.hid ((H8.out.step b9).step bn9)
        have HD10 := Lib.hid (heap_alloc_new w9 (.cells #[.int .i64 cs, .slice qa stk.length qk] 40))
        have HI10 : Hid (IntsAt (w9.alloc (.cells #[.int .i64 cs, .slice qa stk.length qk] 40)) (.slice qa stk.length qk) stk) := Lib.hid ((IntsAt.own hown9 rfl).step bn9)
        have HE10 : Hid (ErrIs (w9.alloc (.cells #[.int .i64 cs, .slice qa stk.length qk] 40)) er code at_) := Lib.hid (her9.keep bn9)
        clear b9 bn9 hown9 her9 HD H8 s0' s1' s2' c0' c1'
        generalize w9.alloc (.cells #[.int .i64 cs, .slice qa stk.length qk] 40) = w10 at *
        generalize w9.heap.size = Db at *
        have hbd := (Below.refl w10.heap.size w10).drew
        refine region_T (fun W : World => W.cell? ⟨Qb, 0, none⟩ = some (.int .i64 S) ∧ W.cell? ⟨Qb, 1, none⟩ = some (.int .i64 L) ∧ W.cell? ⟨Qb, 2, none⟩ = some (.slice a4 rs.length c4) ∧ W.cell? ⟨w.heap.size + 1, 0, none⟩ = some (.int .i64 s0) ∧ W.cell? ⟨w.heap.size + 1, 1, none⟩ = some (.slice za st0.length zc)) 14 (by kernel_rfl) ?_
        have mkS : ∀ W, Below w10.heap.size w10 W → W.cell? ⟨Qb, 0, none⟩ = some (.int .i64 S) ∧ W.cell? ⟨Qb, 1, none⟩ = some (.int .i64 L) ∧ W.cell? ⟨Qb, 2, none⟩ = some (.slice a4 rs.length c4) ∧ W.cell? ⟨w.heap.size + 1, 0, none⟩ = some (.int .i64 s0) ∧ W.cell? ⟨w.heap.size + 1, 1, none⟩ = some (.slice za st0.length zc) :=
          fun W hb => ⟨(cells3 (H10.out.step hb).q).1, (cells3 (H10.out.step hb).q).2.1, (cells3 (H10.out.step hb).q).2.2, (cells2 (H10.out.step hb).lr.cfg).1, (cells2 (H10.out.step hb).lr.cfg).2⟩
        /- HERE -/
        refine wpT_take (i := 0) (v := .agg #[.int .i64 S, .int .i64 L, .slice a4 rs.length c4]) rfl (by kernel_rfl) (by kernel_rfl) (by kernel_rfl) (by kernel_rfl) (by kernel_rfl) (by kernel_rfl) (by kernel_rfl) (by kernel_rfl) (fun _ _ _ h => h) (Or.inl ⟨by rfl, ?_⟩) (mkS _ hbd) ?_
        · rintro w' ⟨s0, s1, s2, s3, s4⟩
          go_simp
        try simp only [Act.put]
        refine wpT_take (i := 1) (v := .agg #[.int .i64 s0, .slice za st0.length zc]) rfl (by kernel_rfl) (by kernel_rfl) (by kernel_rfl) (by kernel_rfl) (by kernel_rfl) (by kernel_rfl) (by kernel_rfl) (by kernel_rfl) (fun _ _ _ h => h) (Or.inl ⟨by rfl, ?_⟩) (mkS _ hbd) ?_
        · rintro w' ⟨s0, s1, s2, s3, s4⟩
          go_simp
        try simp only [Act.put]
        refine wpT_take (i := 3) (v := .slice xa xs.length xc) rfl (by kernel_rfl) (by kernel_rfl) (by kernel_rfl) (by kernel_rfl) (by kernel_rfl) (by kernel_rfl) (by kernel_rfl) (by kernel_rfl) (fun _ _ _ h => h) (Or.inl ⟨by rfl, ?_⟩) (mkS _ hbd) ?_
        · rintro w' ⟨s0, s1, s2, s3, s4⟩
          go_simp
        try simp only [Act.put]
        refine wpT_two (i := 2) (i' := 10) (by kernel_rfl) rfl rfl ?_ ?_
        · intro KK hKK
          go_simp
          refine (conf21_any s0 st0 _ _ (H10.out.step hbd).lr.st (by have := HLn.out.2; omega)).mono ?_
          rintro e w11 ⟨ca, cc, rfl, hown11, b11⟩
          have hb11 := hbd.trans (b11.mono hbd.size)
          have hA := IntsC.own hown11 rfl
          refine hKK _ _ ⟨fun _ => mkS _ hb11, ?_⟩
          clear hKK
          try simp only [Act.put]
          refine wpT_two (i := 4) (i' := 10) (by kernel_rfl) rfl rfl ?_ ?_
          · intro KK hKK
            go_simp
            refine (HRd.out _ _ _ (H10.out.step hb11).rq hA (H10.out.step hb11).lr.xs).mono ?_
            rintro e w12 ⟨ra, rk, rfl, hi12, hc12, b12⟩
            have hb12 := hb11.trans (b12.mono hb11.size)
            replace hi12 : IntsAt w12 (.slice ra stk.length rk) stk := hi12
            replace hc12 : Came _ ca ra stk.length := hc12
            refine hKK _ _ ⟨fun _ => mkS _ hb12, ?_⟩
            clear hKK
            try simp only [Act.put]
            refine wpT_take (i := 5) (v := .tuple #[.agg #[.int .i64 cs, .slice ra stk.length rk], .int .u64 n, .int .i64 code, .int .i64 at_]) rfl (by kernel_rfl) (by kernel_rfl) (by kernel_rfl) (by kernel_rfl) (by kernel_rfl) (by kernel_rfl) (by kernel_rfl) (by kernel_rfl) (fun _ _ _ h => h) (Or.inl ⟨by rfl, ?_⟩) (mkS _ hb12) ?_
            · rintro w' ⟨s0, s1, s2, s3, s4⟩
              go_simp
            try simp only [Act.put]
            refine wpT_take (i := 6) (v := .agg #[.int .i64 cs, .slice ra stk.length rk]) rfl (by kernel_rfl) (by kernel_rfl) (by kernel_rfl) (by kernel_rfl) (by kernel_rfl) (by kernel_rfl) (by kernel_rfl) (by kernel_rfl) (fun _ _ _ h => h) (Or.inl ⟨by rfl, ?_⟩) (mkS _ hb12) ?_
            · rintro w' ⟨s0, s1, s2, s3, s4⟩
              go_simp
            try simp only [Act.put]
            refine wpT_take (i := 7) (v := .int .u64 n) rfl (by kernel_rfl) (by kernel_rfl) (by kernel_rfl) (by kernel_rfl) (by kernel_rfl) (by kernel_rfl) (by kernel_rfl) (by kernel_rfl) (fun _ _ _ h => h) (Or.inl ⟨by rfl, ?_⟩) (mkS _ hb12) ?_
            · rintro w' ⟨s0, s1, s2, s3, s4⟩
              go_simp
            try simp only [Act.put]
            refine wpT_take (i := 8) (v := .int .i64 code) rfl (by kernel_rfl) (by kernel_rfl) (by kernel_rfl) (by kernel_rfl) (by kernel_rfl) (by kernel_rfl) (by kernel_rfl) (by kernel_rfl) (fun _ _ _ h => h) (Or.inl ⟨by rfl, ?_⟩) (mkS _ hb12) ?_
            · rintro w' ⟨s0, s1, s2, s3, s4⟩
              go_simp
            try simp only [Act.put]
            refine wpT_take (i := 9) (v := .int .i64 at_) rfl (by kernel_rfl) (by kernel_rfl) (by kernel_rfl) (by kernel_rfl) (by kernel_rfl) (by kernel_rfl) (by kernel_rfl) (by kernel_rfl) (fun _ _ _ h => h) (Or.inl ⟨by rfl, ?_⟩) (mkS _ hb12) ?_
            · rintro w' ⟨s0, s1, s2, s3, s4⟩
              go_simp
            try simp only [Act.put]
            refine wpT_one (i := 10) (by kernel_rfl) rfl ?_
            intro KK hKK
            go_simp
            have hbn := hb12.trans ((sbelow_new w12 (.cells #[.int .i64 0, .slice none 0 0] 46)).mono hb12.size)
            have hbx0 := heap_alloc_new w12 (.cells #[.int .i64 0, .slice none 0 0] 46)
            have hzz : (w12.alloc (.cells #[.int .i64 0, .slice none 0 0] 46)).heap.size = w12.heap.size + 1 := World.size_alloc _ _
            have hEb : w10.heap.size ≤ w12.heap.size := hb12.size
            refine hKK _ _ ⟨fun _ => mkS _ hbn, ?_⟩
            clear hKK
            try simp only [Act.put]
            have hri := hi12.step (sbelow_new w12 (.cells #[.int .i64 0, .slice none 0 0] 46))
            have hrn : ∀ ad, ra = some ad → 0 < stk.length → ad.block ≠ w12.heap.size := fun ad e h => Nat.ne_of_lt (hi12.blk ad e h)
            have hbt := hbn
            have hbx := hbx0
            clear hi12 hc12 hbn hbx0 hzz
            generalize w12.alloc (.cells #[.int .i64 0, .slice none 0 0] 46) = wt at *
            generalize w12.heap.size = Eb at *
            clear hb12 b12 hb11 b11 hown11 hA

            have hsz : Eb < wt.heap.size := blt hbx
            obtain ⟨x0, x1⟩ := cells2 hbx
            have xf0 : wt.frozen? ⟨Eb, 0, none⟩ = false := by unfold World.frozen?; rw [hbx]; simp
            have xf1 : wt.frozen? ⟨Eb, 1, none⟩ = false := by unfold World.frozen?; rw [hbx]; simp
            have hb13 : Below w10.heap.size w10 ((wt.setCell ⟨Eb, 0, none⟩ (.int .i64 cs)).setCell ⟨Eb, 1, none⟩ (.slice ra stk.length rk)) := (hbt.setCell (p := ⟨Eb, 0, none⟩) hEb _).setCell (p := ⟨Eb, 1, none⟩) hEb _
            have H13 := Lib.hid (LtS.mk (X := ⟨(cs, stk), n, code, at_⟩) (H10.out.step hb13) (blk HD10.out hb13) (heap_setCell_same _ _ 1 _ _ (.slice ra stk.length rk) (heap_setCell_same _ _ 0 _ _ (.int .i64 cs) hbx)) (HI10.out.step hb13) ((hri.setNe hrn 0 _).setNe hrn 1 _) (HE10.out.keep hb13))
            refine wpT_one (i := 11) (by kernel_rfl) rfl ?_
            intro KK hKK
            go_simp
            refine hKK _ _ ⟨fun _ => mkS _ hb13, ?_⟩
            clear hKK x0 x1 xf0 xf1 hbx hri hrn hbt
            try simp only [Act.put]
            generalize (wt.setCell ⟨Eb, 0, none⟩ (.int .i64 cs)).setCell ⟨Eb, 1, none⟩ (.slice ra stk.length rk) = w13 at *
            clear hsz hEb
            refine wpT_one (i := 12) (by kernel_rfl) rfl ?_
            intro KK hKK
            go_simp
            refine hKK _ _ ⟨fun _ => mkS _ hb13, ?_⟩
            clear hKK
            try simp only [Act.put]
            refine wpT_one (i := 13) (by kernel_rfl) rfl ?_
            intro KK hKK
            go_simp
            refine hKK _ _ ⟨fun _ => mkS _ hb13, ?_⟩
            clear hKK
            try simp only [Act.put]
            refine wpT_tail 14 1 rfl rfl (by kernel_rfl) (by kernel_rfl) ?_
            simp only [List.drop_succ_cons, List.drop_zero]
            clear hb13 mkS HRd HD10 HI10 HE10 H10 hbd
            go_upto_region 16 with (fail)
            have HK : Hid (∀ W, Below w13.heap.size w13 W → W.cell? ⟨w.heap.size, 0, none⟩ = some (.int .i64 S) ∧ W.cell? ⟨w.heap.size, 1, none⟩ = some (.int .i64 L) ∧ W.cell? ⟨w.heap.size, 2, none⟩ = some (.slice va rs.length vc) ∧ W.cell? ⟨w.heap.size + 1, 0, none⟩ = some (.int .i64 s0) ∧ W.cell? ⟨w.heap.size + 1, 1, none⟩ = some (.slice za st0.length zc) ∧ W.cell? ⟨Db, 0, none⟩ = some (.int .i64 cs) ∧ W.cell? ⟨Db, 1, none⟩ = some (.slice qa stk.length qk) ∧ W.cell? ⟨Eb, 0, none⟩ = some (.int .i64 cs) ∧ W.cell? ⟨Eb, 1, none⟩ = some (.slice ra stk.length rk)) := Lib.hid (fun W hb =>
              have h := H13.out.step hb
              ⟨(cells3 h.ls.lr.sys).1, (cells3 h.ls.lr.sys).2.1, (cells3 h.ls.lr.sys).2.2, (cells2 h.ls.lr.cfg).1, (cells2 h.ls.lr.cfg).2, (cells2 h.d).1, (cells2 h.d).2, (cells2 h.p).1, (cells2 h.p).2⟩)
            have hst : st0.length ≤ 40 := HLn.out.2
            have hsk : stk.length ≤ 200 := HKL.out
            have hrl : rs.length ≤ 100 := HN.out.1
            have hsp : (stepsC rs (s0, st0)).length ≤ 1000000 := Nat.le_trans (stp_len rs (s0, st0) rs.length) (by omega)
            have HS1 := Lib.hid (fun W (hb : Below w13.heap.size w13 W) => pdsSteps_any S L (.slice va rs.length vc) rs s0 st0 (.slice za st0.length zc) W (H13.out.step hb).ls.lr.rs (by omega) (H13.out.step hb).ls.lr.st (by omega))
            have HE1 := Lib.hid (fun W u (hb : Below w13.heap.size w13 W) (hu : IntsAt W u (stepsC rs (s0, st0))) => (equalI_any _ _ u u8 W hu (H13.out.step hb).ls.can hsp).mono fun e w' (h : e = .returned (.bool (decide (stepsC rs (s0, st0) = stepsC rs (s0, st0)))) ∧ Below W.heap.size W w') => (⟨by rw [h.1]; simp, h.2⟩ : e = .returned (.bool true) ∧ Below W.heap.size W w'))
            have HLw := Lib.hid (fun W (hb : Below w13.heap.size w13 W) => lawIs_err er code at_ W (H13.out.step hb).er (H13.out.step hb).ls.lr.hg)
            have HC2 := Lib.hid (fun W (hb : Below w13.heap.size w13 W) => conf21_any cs stk (.slice qa stk.length qk) W (H13.out.step hb).di (by omega))
            have HF1 := Lib.hid (fun W (a : Option Addr) (c : Nat) (hb : Below w13.heap.size w13 W) (h : IntsAt W (.slice a stk.length c) stk) => (rsame21_any cs cs stk stk (.slice a stk.length c) (.slice ra stk.length rk) W h (H13.out.step hb).pi (by omega)).mono fun e w' (h : e = .returned (.bool (sameC cs cs stk stk)) ∧ Below W.heap.size W w') => (⟨by rw [h.1, sameC_refl], h.2⟩ : e = .returned (.bool true) ∧ Below W.heap.size W w'))
            have HE2 := Lib.hid (fun W (hb : Below w13.heap.size w13 W) => (equalI_any st0 st0 (.slice za st0.length zc) uw W (H13.out.step hb).ls.lr.st (H13.out.step hb).ls.was (by omega)).mono fun e w' (h : e = .returned (.bool (decide (st0 = st0))) ∧ Below W.heap.size W w') => (⟨by rw [h.1]; simp, h.2⟩ : e = .returned (.bool true) ∧ Below W.heap.size W w'))
            have HSm := Lib.hid (fun W (hb : Below w13.heap.size w13 W) => same21_any s0 cs st0 stk (.slice za st0.length zc) (.slice qa stk.length qk) W (H13.out.step hb).ls.lr.st (H13.out.step hb).di (by omega))
            have HC1 := Lib.hid (fun W (hb : Below w13.heap.size w13 W) => conf21_any s0 st0 (.slice za st0.length zc) W (H13.out.step hb).ls.lr.st (by omega))
            have HF2 := Lib.hid (fun W (a : Option Addr) (c : Nat) (a' : Option Addr) (c' : Nat) (h : IntsAt W (.slice a st0.length c) st0) (h' : IntsAt W (.slice a' stk.length c') stk) => rsame21_any s0 cs st0 stk (.slice a st0.length c) (.slice a' stk.length c') W h h' (by omega))
            clear hst hsk hrl hsp
            generalize sameC s0 cs st0 stk = sb at HSm HF2
            have hB := (Below.refl w13.heap.size w13).drew
            have kk := HK.out _ hB
            go_region_held3 (fun W => W.cell? ⟨w.heap.size, 0, none⟩ = some (.int .i64 S) ∧ W.cell? ⟨w.heap.size, 1, none⟩ = some (.int .i64 L) ∧ W.cell? ⟨w.heap.size, 2, none⟩ = some (.slice va rs.length vc) ∧ W.cell? ⟨w.heap.size + 1, 0, none⟩ = some (.int .i64 s0) ∧ W.cell? ⟨w.heap.size + 1, 1, none⟩ = some (.slice za st0.length zc) ∧ W.cell? ⟨Db, 0, none⟩ = some (.int .i64 cs) ∧ W.cell? ⟨Db, 1, none⟩ = some (.slice qa stk.length qk) ∧ W.cell? ⟨Eb, 0, none⟩ = some (.int .i64 cs) ∧ W.cell? ⟨Eb, 1, none⟩ = some (.slice ra stk.length rk))
              (first | exact kk | exact HK.out _ hB)
              (first
              | (go_at_call 20; refine (HS1.out _ hB).mono ?_; rintro e w14 ⟨u14, rfl, hU, b14⟩; replace hB := hB.trans (b14.mono hB.size); clear b14)
              | (go_at_call 19; (with_reducible refine (HE1.out _ _ hB hU).mono ?_); rintro e w14 ⟨rfl, b14⟩; replace hB := hB.trans (b14.mono hB.size); clear b14 hU)
              | (go_at_call 11; refine (HLw.out _ hB).mono ?_; rintro e w14 ⟨rfl, b14⟩; replace hB := hB.trans (b14.mono hB.size); clear b14)
              | (go_at_call 15; (with_reducible refine (HC2.out _ hB).mono ?_); rintro e w14 ⟨da, dc, rfl, hown14, b14⟩; have hD := IntsAt.own hown14 rfl; (try replace hE := hE.step b14); replace hB := hB.trans (b14.mono hB.size); clear b14 hown14)
              | (go_at_call 21; (with_reducible refine (HF1.out _ _ _ hB hD).mono ?_); rintro e w14 ⟨rfl, b14⟩; replace hB := hB.trans (b14.mono hB.size); clear b14 hD)
              | (go_at_call 19; (with_reducible refine (HE2.out _ hB).mono ?_); rintro e w14 ⟨rfl, b14⟩; replace hB := hB.trans (b14.mono hB.size); clear b14)
              | (go_at_call 22; (with_reducible refine (HSm.out _ hB).mono ?_); rintro e w14 ⟨rfl, b14⟩; replace hB := hB.trans (b14.mono hB.size); clear b14)
              | (go_at_call 15; (with_reducible refine (HC1.out _ hB).mono ?_); rintro e w14 ⟨ea, ec, rfl, hown14, b14⟩; have hE := IntsAt.own hown14 rfl; replace hB := hB.trans (b14.mono hB.size); clear b14 hown14)
              | (go_at_call 21; (with_reducible refine (HF2.out _ _ _ _ _ hE hD).mono ?_); rintro e w14 ⟨rfl, b14⟩; replace hB := hB.trans (b14.mono hB.size); clear b14))
            have HEND := Lib.hid (H13.out.ls.lr.below.trans (hB.mono H13.out.ls.lr.below.size))
            go_wp2
            go_ret
            exact ⟨by simp, HEND.out⟩
          · intro KK hKK
            go_simp
            have hbn := hb11.trans ((sbelow_new w11 (.cells #[.int .i64 0, .slice none 0 0] 46)).mono hb11.size)
            have hbx0 := heap_alloc_new w11 (.cells #[.int .i64 0, .slice none 0 0] 46)
            have hzz : (w11.alloc (.cells #[.int .i64 0, .slice none 0 0] 46)).heap.size = w11.heap.size + 1 := World.size_alloc _ _
            have hEb : w10.heap.size ≤ w11.heap.size := hb11.size
            refine hKK _ _ ⟨fun _ => mkS _ hbn, ?_⟩
            clear hKK
            try simp only [Act.put]
            have hA1 := hA.step (sbelow_new w11 (.cells #[.int .i64 0, .slice none 0 0] 46))
            have hAb := fun a0 (e : ca = some a0) => (hown11.lt a0.block (by rw [e]; rfl)).2
            clear hA
            generalize w11.alloc (.cells #[.int .i64 0, .slice none 0 0] 46) = wn at *
            generalize w11.heap.size = Eb at *
            have hA := hA1
            clear hA1
            refine wpT_one (i := 4) (by kernel_rfl) rfl ?_
            intro KK hKK
            go_simp
            refine (HRd.out _ _ _ (H10.out.step hbn).rq hA (H10.out.step hbn).lr.xs).mono ?_
            rintro e w12 ⟨ra, rk, rfl, hi12, hc12, b12⟩
            have hb12 := hbn.trans (b12.mono hbn.size)
            replace hi12 : IntsAt w12 (.slice ra stk.length rk) stk := hi12
            replace hc12 : Came _ ca ra stk.length := hc12
            refine hKK _ _ ⟨fun _ => mkS _ hb12, ?_⟩
            clear hKK
            try simp only [Act.put]
            refine wpT_take (i := 5) (v := .tuple #[.agg #[.int .i64 cs, .slice ra stk.length rk], .int .u64 n, .int .i64 code, .int .i64 at_]) rfl (by kernel_rfl) (by kernel_rfl) (by kernel_rfl) (by kernel_rfl) (by kernel_rfl) (by kernel_rfl) (by kernel_rfl) (by kernel_rfl) (fun _ _ _ h => h) (Or.inl ⟨by rfl, ?_⟩) (mkS _ hb12) ?_
            · rintro w' ⟨s0, s1, s2, s3, s4⟩
              go_simp
            try simp only [Act.put]
            refine wpT_take (i := 6) (v := .agg #[.int .i64 cs, .slice ra stk.length rk]) rfl (by kernel_rfl) (by kernel_rfl) (by kernel_rfl) (by kernel_rfl) (by kernel_rfl) (by kernel_rfl) (by kernel_rfl) (by kernel_rfl) (fun _ _ _ h => h) (Or.inl ⟨by rfl, ?_⟩) (mkS _ hb12) ?_
            · rintro w' ⟨s0, s1, s2, s3, s4⟩
              go_simp
            try simp only [Act.put]
            refine wpT_take (i := 7) (v := .int .u64 n) rfl (by kernel_rfl) (by kernel_rfl) (by kernel_rfl) (by kernel_rfl) (by kernel_rfl) (by kernel_rfl) (by kernel_rfl) (by kernel_rfl) (fun _ _ _ h => h) (Or.inl ⟨by rfl, ?_⟩) (mkS _ hb12) ?_
            · rintro w' ⟨s0, s1, s2, s3, s4⟩
              go_simp
            try simp only [Act.put]
            refine wpT_take (i := 8) (v := .int .i64 code) rfl (by kernel_rfl) (by kernel_rfl) (by kernel_rfl) (by kernel_rfl) (by kernel_rfl) (by kernel_rfl) (by kernel_rfl) (by kernel_rfl) (fun _ _ _ h => h) (Or.inl ⟨by rfl, ?_⟩) (mkS _ hb12) ?_
            · rintro w' ⟨s0, s1, s2, s3, s4⟩
              go_simp
            try simp only [Act.put]
            refine wpT_take (i := 9) (v := .int .i64 at_) rfl (by kernel_rfl) (by kernel_rfl) (by kernel_rfl) (by kernel_rfl) (by kernel_rfl) (by kernel_rfl) (by kernel_rfl) (by kernel_rfl) (fun _ _ _ h => h) (Or.inl ⟨by rfl, ?_⟩) (mkS _ hb12) ?_
            · rintro w' ⟨s0, s1, s2, s3, s4⟩
              go_simp
            try simp only [Act.put]
            have hbt := hb12
            have hbx := blk hbx0 b12
            have hri := hi12
            have hrn : ∀ ad, ra = some ad → 0 < stk.length → ad.block ≠ Eb := fun ad e h => by
              rcases hc12 ad e h with h1 | ⟨a0, e0, h1⟩
              · omega
              · have h2 := hAb a0 e0
                omega
            clear hi12 hc12
            rename World => wt
            clear hb12 b12 hbn hb11 b11 hown11 hA hAb hzz hbx0

            have hsz : Eb < wt.heap.size := blt hbx
            obtain ⟨x0, x1⟩ := cells2 hbx
            have xf0 : wt.frozen? ⟨Eb, 0, none⟩ = false := by unfold World.frozen?; rw [hbx]; simp
            have xf1 : wt.frozen? ⟨Eb, 1, none⟩ = false := by unfold World.frozen?; rw [hbx]; simp
            have hb13 : Below w10.heap.size w10 ((wt.setCell ⟨Eb, 0, none⟩ (.int .i64 cs)).setCell ⟨Eb, 1, none⟩ (.slice ra stk.length rk)) := (hbt.setCell (p := ⟨Eb, 0, none⟩) hEb _).setCell (p := ⟨Eb, 1, none⟩) hEb _
            have H13 := Lib.hid (LtS.mk (X := ⟨(cs, stk), n, code, at_⟩) (H10.out.step hb13) (blk HD10.out hb13) (heap_setCell_same _ _ 1 _ _ (.slice ra stk.length rk) (heap_setCell_same _ _ 0 _ _ (.int .i64 cs) hbx)) (HI10.out.step hb13) ((hri.setNe hrn 0 _).setNe hrn 1 _) (HE10.out.keep hb13))
            refine wpT_one (i := 11) (by kernel_rfl) rfl ?_
            intro KK hKK
            go_simp
            refine hKK _ _ ⟨fun _ => mkS _ hb13, ?_⟩
            clear hKK x0 x1 xf0 xf1 hbx hri hrn hbt
            try simp only [Act.put]
            generalize (wt.setCell ⟨Eb, 0, none⟩ (.int .i64 cs)).setCell ⟨Eb, 1, none⟩ (.slice ra stk.length rk) = w13 at *
            clear hsz hEb
            refine wpT_one (i := 12) (by kernel_rfl) rfl ?_
            intro KK hKK
            go_simp
            refine hKK _ _ ⟨fun _ => mkS _ hb13, ?_⟩
            clear hKK
            try simp only [Act.put]
            refine wpT_one (i := 13) (by kernel_rfl) rfl ?_
            intro KK hKK
            go_simp
            refine hKK _ _ ⟨fun _ => mkS _ hb13, ?_⟩
            clear hKK
            try simp only [Act.put]
            refine wpT_tail 14 1 rfl rfl (by kernel_rfl) (by kernel_rfl) ?_
            simp only [List.drop_succ_cons, List.drop_zero]
            clear hb13 mkS HRd HD10 HI10 HE10 H10 hbd
            go_upto_region 16 with (fail)
            have HK : Hid (∀ W, Below w13.heap.size w13 W → W.cell? ⟨w.heap.size, 0, none⟩ = some (.int .i64 S) ∧ W.cell? ⟨w.heap.size, 1, none⟩ = some (.int .i64 L) ∧ W.cell? ⟨w.heap.size, 2, none⟩ = some (.slice va rs.length vc) ∧ W.cell? ⟨w.heap.size + 1, 0, none⟩ = some (.int .i64 s0) ∧ W.cell? ⟨w.heap.size + 1, 1, none⟩ = some (.slice za st0.length zc) ∧ W.cell? ⟨Db, 0, none⟩ = some (.int .i64 cs) ∧ W.cell? ⟨Db, 1, none⟩ = some (.slice qa stk.length qk) ∧ W.cell? ⟨Eb, 0, none⟩ = some (.int .i64 cs) ∧ W.cell? ⟨Eb, 1, none⟩ = some (.slice ra stk.length rk)) := Lib.hid (fun W hb =>
              have h := H13.out.step hb
              ⟨(cells3 h.ls.lr.sys).1, (cells3 h.ls.lr.sys).2.1, (cells3 h.ls.lr.sys).2.2, (cells2 h.ls.lr.cfg).1, (cells2 h.ls.lr.cfg).2, (cells2 h.d).1, (cells2 h.d).2, (cells2 h.p).1, (cells2 h.p).2⟩)
            have hst : st0.length ≤ 40 := HLn.out.2
            have hsk : stk.length ≤ 200 := HKL.out
            have hrl : rs.length ≤ 100 := HN.out.1
            have hsp : (stepsC rs (s0, st0)).length ≤ 1000000 := Nat.le_trans (stp_len rs (s0, st0) rs.length) (by omega)
            have HS1 := Lib.hid (fun W (hb : Below w13.heap.size w13 W) => pdsSteps_any S L (.slice va rs.length vc) rs s0 st0 (.slice za st0.length zc) W (H13.out.step hb).ls.lr.rs (by omega) (H13.out.step hb).ls.lr.st (by omega))
            have HE1 := Lib.hid (fun W u (hb : Below w13.heap.size w13 W) (hu : IntsAt W u (stepsC rs (s0, st0))) => (equalI_any _ _ u u8 W hu (H13.out.step hb).ls.can hsp).mono fun e w' (h : e = .returned (.bool (decide (stepsC rs (s0, st0) = stepsC rs (s0, st0)))) ∧ Below W.heap.size W w') => (⟨by rw [h.1]; simp, h.2⟩ : e = .returned (.bool true) ∧ Below W.heap.size W w'))
            have HLw := Lib.hid (fun W (hb : Below w13.heap.size w13 W) => lawIs_err er code at_ W (H13.out.step hb).er (H13.out.step hb).ls.lr.hg)
            have HC2 := Lib.hid (fun W (hb : Below w13.heap.size w13 W) => conf21_any cs stk (.slice qa stk.length qk) W (H13.out.step hb).di (by omega))
            have HF1 := Lib.hid (fun W (a : Option Addr) (c : Nat) (hb : Below w13.heap.size w13 W) (h : IntsAt W (.slice a stk.length c) stk) => (rsame21_any cs cs stk stk (.slice a stk.length c) (.slice ra stk.length rk) W h (H13.out.step hb).pi (by omega)).mono fun e w' (h : e = .returned (.bool (sameC cs cs stk stk)) ∧ Below W.heap.size W w') => (⟨by rw [h.1, sameC_refl], h.2⟩ : e = .returned (.bool true) ∧ Below W.heap.size W w'))
            have HE2 := Lib.hid (fun W (hb : Below w13.heap.size w13 W) => (equalI_any st0 st0 (.slice za st0.length zc) uw W (H13.out.step hb).ls.lr.st (H13.out.step hb).ls.was (by omega)).mono fun e w' (h : e = .returned (.bool (decide (st0 = st0))) ∧ Below W.heap.size W w') => (⟨by rw [h.1]; simp, h.2⟩ : e = .returned (.bool true) ∧ Below W.heap.size W w'))
            have HSm := Lib.hid (fun W (hb : Below w13.heap.size w13 W) => same21_any s0 cs st0 stk (.slice za st0.length zc) (.slice qa stk.length qk) W (H13.out.step hb).ls.lr.st (H13.out.step hb).di (by omega))
            have HC1 := Lib.hid (fun W (hb : Below w13.heap.size w13 W) => conf21_any s0 st0 (.slice za st0.length zc) W (H13.out.step hb).ls.lr.st (by omega))
            have HF2 := Lib.hid (fun W (a : Option Addr) (c : Nat) (a' : Option Addr) (c' : Nat) (h : IntsAt W (.slice a st0.length c) st0) (h' : IntsAt W (.slice a' stk.length c') stk) => rsame21_any s0 cs st0 stk (.slice a st0.length c) (.slice a' stk.length c') W h h' (by omega))
            clear hst hsk hrl hsp
            generalize sameC s0 cs st0 stk = sb at HSm HF2
            have hB := (Below.refl w13.heap.size w13).drew
            have kk := HK.out _ hB
            go_region_held3 (fun W => W.cell? ⟨w.heap.size, 0, none⟩ = some (.int .i64 S) ∧ W.cell? ⟨w.heap.size, 1, none⟩ = some (.int .i64 L) ∧ W.cell? ⟨w.heap.size, 2, none⟩ = some (.slice va rs.length vc) ∧ W.cell? ⟨w.heap.size + 1, 0, none⟩ = some (.int .i64 s0) ∧ W.cell? ⟨w.heap.size + 1, 1, none⟩ = some (.slice za st0.length zc) ∧ W.cell? ⟨Db, 0, none⟩ = some (.int .i64 cs) ∧ W.cell? ⟨Db, 1, none⟩ = some (.slice qa stk.length qk) ∧ W.cell? ⟨Eb, 0, none⟩ = some (.int .i64 cs) ∧ W.cell? ⟨Eb, 1, none⟩ = some (.slice ra stk.length rk))
              (first | exact kk | exact HK.out _ hB)
              (first
              | (go_at_call 20; refine (HS1.out _ hB).mono ?_; rintro e w14 ⟨u14, rfl, hU, b14⟩; replace hB := hB.trans (b14.mono hB.size); clear b14)
              | (go_at_call 19; (with_reducible refine (HE1.out _ _ hB hU).mono ?_); rintro e w14 ⟨rfl, b14⟩; replace hB := hB.trans (b14.mono hB.size); clear b14 hU)
              | (go_at_call 11; refine (HLw.out _ hB).mono ?_; rintro e w14 ⟨rfl, b14⟩; replace hB := hB.trans (b14.mono hB.size); clear b14)
              | (go_at_call 15; (with_reducible refine (HC2.out _ hB).mono ?_); rintro e w14 ⟨da, dc, rfl, hown14, b14⟩; have hD := IntsAt.own hown14 rfl; (try replace hE := hE.step b14); replace hB := hB.trans (b14.mono hB.size); clear b14 hown14)
              | (go_at_call 21; (with_reducible refine (HF1.out _ _ _ hB hD).mono ?_); rintro e w14 ⟨rfl, b14⟩; replace hB := hB.trans (b14.mono hB.size); clear b14 hD)
              | (go_at_call 19; (with_reducible refine (HE2.out _ hB).mono ?_); rintro e w14 ⟨rfl, b14⟩; replace hB := hB.trans (b14.mono hB.size); clear b14)
              | (go_at_call 22; (with_reducible refine (HSm.out _ hB).mono ?_); rintro e w14 ⟨rfl, b14⟩; replace hB := hB.trans (b14.mono hB.size); clear b14)
              | (go_at_call 15; (with_reducible refine (HC1.out _ hB).mono ?_); rintro e w14 ⟨ea, ec, rfl, hown14, b14⟩; have hE := IntsAt.own hown14 rfl; replace hB := hB.trans (b14.mono hB.size); clear b14 hown14)
              | (go_at_call 21; (with_reducible refine (HF2.out _ _ _ _ _ hE hD).mono ?_); rintro e w14 ⟨rfl, b14⟩; replace hB := hB.trans (b14.mono hB.size); clear b14))
            have HEND := Lib.hid (H13.out.ls.lr.below.trans (hB.mono H13.out.ls.lr.below.size))
            go_wp2
            go_ret
            exact ⟨by simp, HEND.out⟩
        · intro KK hKK
          go_simp
          have hbn : Below w10.heap.size w10 (w10.alloc (.cells #[.int .i64 0, .slice none 0 0] 46)).drew := (sbelow_new w10 (.cells #[.int .i64 0, .slice none 0 0] 46)).drew
          have hbx0 : (w10.alloc (.cells #[.int .i64 0, .slice none 0 0] 46)).drew.heap[w10.heap.size]? = some (.cells #[.int .i64 0, .slice none 0 0] 46 (0, 0)) := heap_alloc_new w10 (.cells #[.int .i64 0, .slice none 0 0] 46)
          have hzz : (w10.alloc (.cells #[.int .i64 0, .slice none 0 0] 46)).drew.heap.size = w10.heap.size + 1 := World.size_alloc _ _
          have hEb : w10.heap.size ≤ w10.heap.size := Nat.le_refl _
          refine hKK _ _ ⟨fun _ => mkS _ hbn, ?_⟩
          clear hKK
          try simp only [Act.put]
          generalize (w10.alloc (.cells #[.int .i64 0, .slice none 0 0] 46)).drew = wn at *
          refine wpT_one (i := 2) (by kernel_rfl) rfl ?_
          intro KK hKK
          go_simp
          refine (conf21_any s0 st0 _ _ (H10.out.step hbn).lr.st (by have := HLn.out.2; omega)).mono ?_
          rintro e w11 ⟨ca, cc, rfl, hown11, b11⟩
          have hb11 := hbn.trans (b11.mono hbn.size)
          have hA := IntsC.own hown11 rfl
          refine hKK _ _ ⟨fun _ => mkS _ hb11, ?_⟩
          clear hKK
          try simp only [Act.put]
          have hAb := fun a0 (e : ca = some a0) => (hown11.lt a0.block (by rw [e]; rfl)).1
          refine wpT_one (i := 4) (by kernel_rfl) rfl ?_
          intro KK hKK
          go_simp
          refine (HRd.out _ _ _ (H10.out.step hb11).rq hA (H10.out.step hb11).lr.xs).mono ?_
          rintro e w12 ⟨ra, rk, rfl, hi12, hc12, b12⟩
          have hb12 := hb11.trans (b12.mono hb11.size)
          replace hi12 : IntsAt w12 (.slice ra stk.length rk) stk := hi12
          replace hc12 : Came _ ca ra stk.length := hc12
          refine hKK _ _ ⟨fun _ => mkS _ hb12, ?_⟩
          clear hKK
          try simp only [Act.put]
          refine wpT_take (i := 5) (v := .tuple #[.agg #[.int .i64 cs, .slice ra stk.length rk], .int .u64 n, .int .i64 code, .int .i64 at_]) rfl (by kernel_rfl) (by kernel_rfl) (by kernel_rfl) (by kernel_rfl) (by kernel_rfl) (by kernel_rfl) (by kernel_rfl) (by kernel_rfl) (fun _ _ _ h => h) (Or.inl ⟨by rfl, ?_⟩) (mkS _ hb12) ?_
          · rintro w' ⟨s0, s1, s2, s3, s4⟩
            go_simp
          try simp only [Act.put]
          refine wpT_take (i := 6) (v := .agg #[.int .i64 cs, .slice ra stk.length rk]) rfl (by kernel_rfl) (by kernel_rfl) (by kernel_rfl) (by kernel_rfl) (by kernel_rfl) (by kernel_rfl) (by kernel_rfl) (by kernel_rfl) (fun _ _ _ h => h) (Or.inl ⟨by rfl, ?_⟩) (mkS _ hb12) ?_
          · rintro w' ⟨s0, s1, s2, s3, s4⟩
            go_simp
          try simp only [Act.put]
          refine wpT_take (i := 7) (v := .int .u64 n) rfl (by kernel_rfl) (by kernel_rfl) (by kernel_rfl) (by kernel_rfl) (by kernel_rfl) (by kernel_rfl) (by kernel_rfl) (by kernel_rfl) (fun _ _ _ h => h) (Or.inl ⟨by rfl, ?_⟩) (mkS _ hb12) ?_
          · rintro w' ⟨s0, s1, s2, s3, s4⟩
            go_simp
          try simp only [Act.put]
          refine wpT_take (i := 8) (v := .int .i64 code) rfl (by kernel_rfl) (by kernel_rfl) (by kernel_rfl) (by kernel_rfl) (by kernel_rfl) (by kernel_rfl) (by kernel_rfl) (by kernel_rfl) (fun _ _ _ h => h) (Or.inl ⟨by rfl, ?_⟩) (mkS _ hb12) ?_
          · rintro w' ⟨s0, s1, s2, s3, s4⟩
            go_simp
          try simp only [Act.put]
          refine wpT_take (i := 9) (v := .int .i64 at_) rfl (by kernel_rfl) (by kernel_rfl) (by kernel_rfl) (by kernel_rfl) (by kernel_rfl) (by kernel_rfl) (by kernel_rfl) (by kernel_rfl) (fun _ _ _ h => h) (Or.inl ⟨by rfl, ?_⟩) (mkS _ hb12) ?_
          · rintro w' ⟨s0, s1, s2, s3, s4⟩
            go_simp
          try simp only [Act.put]
          have hbt := hb12
          have hbx := blk (blk hbx0 b11) b12
          have hri := hi12
          have hrn : ∀ ad, ra = some ad → 0 < stk.length → ad.block ≠ w10.heap.size := fun ad e h => by
            rcases hc12 ad e h with h1 | ⟨a0, e0, h1⟩
            · have := b11.size
              omega
            · have h2 := hAb a0 e0
              omega
          clear hi12 hc12
          rename World => wt
          clear hb12 b12 hb11 b11 hown11 hA hAb hzz hbx0 hbn

          have hsz : w10.heap.size < wt.heap.size := blt hbx
          obtain ⟨x0, x1⟩ := cells2 hbx
          have xf0 : wt.frozen? ⟨w10.heap.size, 0, none⟩ = false := by unfold World.frozen?; rw [hbx]; simp
          have xf1 : wt.frozen? ⟨w10.heap.size, 1, none⟩ = false := by unfold World.frozen?; rw [hbx]; simp
          have hb13 : Below w10.heap.size w10 ((wt.setCell ⟨w10.heap.size, 0, none⟩ (.int .i64 cs)).setCell ⟨w10.heap.size, 1, none⟩ (.slice ra stk.length rk)) := (hbt.setCell (p := ⟨w10.heap.size, 0, none⟩) hEb _).setCell (p := ⟨w10.heap.size, 1, none⟩) hEb _
          have H13 := Lib.hid (LtS.mk (X := ⟨(cs, stk), n, code, at_⟩) (H10.out.step hb13) (blk HD10.out hb13) (heap_setCell_same _ _ 1 _ _ (.slice ra stk.length rk) (heap_setCell_same _ _ 0 _ _ (.int .i64 cs) hbx)) (HI10.out.step hb13) ((hri.setNe hrn 0 _).setNe hrn 1 _) (HE10.out.keep hb13))
          refine wpT_one (i := 11) (by kernel_rfl) rfl ?_
          intro KK hKK
          go_simp
          refine hKK _ _ ⟨fun _ => mkS _ hb13, ?_⟩
          clear hKK x0 x1 xf0 xf1 hbx hri hrn hbt
          try simp only [Act.put]
          generalize (wt.setCell ⟨w10.heap.size, 0, none⟩ (.int .i64 cs)).setCell ⟨w10.heap.size, 1, none⟩ (.slice ra stk.length rk) = w13 at *
          clear hsz hEb
          refine wpT_one (i := 12) (by kernel_rfl) rfl ?_
          intro KK hKK
          go_simp
          refine hKK _ _ ⟨fun _ => mkS _ hb13, ?_⟩
          clear hKK
          try simp only [Act.put]
          refine wpT_one (i := 13) (by kernel_rfl) rfl ?_
          intro KK hKK
          go_simp
          refine hKK _ _ ⟨fun _ => mkS _ hb13, ?_⟩
          clear hKK
          try simp only [Act.put]
          refine wpT_tail 14 1 rfl rfl (by kernel_rfl) (by kernel_rfl) ?_
          simp only [List.drop_succ_cons, List.drop_zero]
          clear hb13 mkS HRd HD10 HI10 HE10 H10 hbd
          go_upto_region 16 with (fail)
          have HK : Hid (∀ W, Below w13.heap.size w13 W → W.cell? ⟨w.heap.size, 0, none⟩ = some (.int .i64 S) ∧ W.cell? ⟨w.heap.size, 1, none⟩ = some (.int .i64 L) ∧ W.cell? ⟨w.heap.size, 2, none⟩ = some (.slice va rs.length vc) ∧ W.cell? ⟨w.heap.size + 1, 0, none⟩ = some (.int .i64 s0) ∧ W.cell? ⟨w.heap.size + 1, 1, none⟩ = some (.slice za st0.length zc) ∧ W.cell? ⟨Db, 0, none⟩ = some (.int .i64 cs) ∧ W.cell? ⟨Db, 1, none⟩ = some (.slice qa stk.length qk) ∧ W.cell? ⟨w10.heap.size, 0, none⟩ = some (.int .i64 cs) ∧ W.cell? ⟨w10.heap.size, 1, none⟩ = some (.slice ra stk.length rk)) := Lib.hid (fun W hb =>
            have h := H13.out.step hb
            ⟨(cells3 h.ls.lr.sys).1, (cells3 h.ls.lr.sys).2.1, (cells3 h.ls.lr.sys).2.2, (cells2 h.ls.lr.cfg).1, (cells2 h.ls.lr.cfg).2, (cells2 h.d).1, (cells2 h.d).2, (cells2 h.p).1, (cells2 h.p).2⟩)
          have hst : st0.length ≤ 40 := HLn.out.2
          have hsk : stk.length ≤ 200 := HKL.out
          have hrl : rs.length ≤ 100 := HN.out.1
          have hsp : (stepsC rs (s0, st0)).length ≤ 1000000 := Nat.le_trans (stp_len rs (s0, st0) rs.length) (by omega)
          have HS1 := Lib.hid (fun W (hb : Below w13.heap.size w13 W) => pdsSteps_any S L (.slice va rs.length vc) rs s0 st0 (.slice za st0.length zc) W (H13.out.step hb).ls.lr.rs (by omega) (H13.out.step hb).ls.lr.st (by omega))
          have HE1 := Lib.hid (fun W u (hb : Below w13.heap.size w13 W) (hu : IntsAt W u (stepsC rs (s0, st0))) => (equalI_any _ _ u u8 W hu (H13.out.step hb).ls.can hsp).mono fun e w' (h : e = .returned (.bool (decide (stepsC rs (s0, st0) = stepsC rs (s0, st0)))) ∧ Below W.heap.size W w') => (⟨by rw [h.1]; simp, h.2⟩ : e = .returned (.bool true) ∧ Below W.heap.size W w'))
          have HLw := Lib.hid (fun W (hb : Below w13.heap.size w13 W) => lawIs_err er code at_ W (H13.out.step hb).er (H13.out.step hb).ls.lr.hg)
          have HC2 := Lib.hid (fun W (hb : Below w13.heap.size w13 W) => conf21_any cs stk (.slice qa stk.length qk) W (H13.out.step hb).di (by omega))
          have HF1 := Lib.hid (fun W (a : Option Addr) (c : Nat) (hb : Below w13.heap.size w13 W) (h : IntsAt W (.slice a stk.length c) stk) => (rsame21_any cs cs stk stk (.slice a stk.length c) (.slice ra stk.length rk) W h (H13.out.step hb).pi (by omega)).mono fun e w' (h : e = .returned (.bool (sameC cs cs stk stk)) ∧ Below W.heap.size W w') => (⟨by rw [h.1, sameC_refl], h.2⟩ : e = .returned (.bool true) ∧ Below W.heap.size W w'))
          have HE2 := Lib.hid (fun W (hb : Below w13.heap.size w13 W) => (equalI_any st0 st0 (.slice za st0.length zc) uw W (H13.out.step hb).ls.lr.st (H13.out.step hb).ls.was (by omega)).mono fun e w' (h : e = .returned (.bool (decide (st0 = st0))) ∧ Below W.heap.size W w') => (⟨by rw [h.1]; simp, h.2⟩ : e = .returned (.bool true) ∧ Below W.heap.size W w'))
          have HSm := Lib.hid (fun W (hb : Below w13.heap.size w13 W) => same21_any s0 cs st0 stk (.slice za st0.length zc) (.slice qa stk.length qk) W (H13.out.step hb).ls.lr.st (H13.out.step hb).di (by omega))
          have HC1 := Lib.hid (fun W (hb : Below w13.heap.size w13 W) => conf21_any s0 st0 (.slice za st0.length zc) W (H13.out.step hb).ls.lr.st (by omega))
          have HF2 := Lib.hid (fun W (a : Option Addr) (c : Nat) (a' : Option Addr) (c' : Nat) (h : IntsAt W (.slice a st0.length c) st0) (h' : IntsAt W (.slice a' stk.length c') stk) => rsame21_any s0 cs st0 stk (.slice a st0.length c) (.slice a' stk.length c') W h h' (by omega))
          clear hst hsk hrl hsp
          generalize sameC s0 cs st0 stk = sb at HSm HF2
          have hB := (Below.refl w13.heap.size w13).drew
          have kk := HK.out _ hB
          go_region_held3 (fun W => W.cell? ⟨w.heap.size, 0, none⟩ = some (.int .i64 S) ∧ W.cell? ⟨w.heap.size, 1, none⟩ = some (.int .i64 L) ∧ W.cell? ⟨w.heap.size, 2, none⟩ = some (.slice va rs.length vc) ∧ W.cell? ⟨w.heap.size + 1, 0, none⟩ = some (.int .i64 s0) ∧ W.cell? ⟨w.heap.size + 1, 1, none⟩ = some (.slice za st0.length zc) ∧ W.cell? ⟨Db, 0, none⟩ = some (.int .i64 cs) ∧ W.cell? ⟨Db, 1, none⟩ = some (.slice qa stk.length qk) ∧ W.cell? ⟨w10.heap.size, 0, none⟩ = some (.int .i64 cs) ∧ W.cell? ⟨w10.heap.size, 1, none⟩ = some (.slice ra stk.length rk))
            (first | exact kk | exact HK.out _ hB)
            (first
            | (go_at_call 20; refine (HS1.out _ hB).mono ?_; rintro e w14 ⟨u14, rfl, hU, b14⟩; replace hB := hB.trans (b14.mono hB.size); clear b14)
            | (go_at_call 19; (with_reducible refine (HE1.out _ _ hB hU).mono ?_); rintro e w14 ⟨rfl, b14⟩; replace hB := hB.trans (b14.mono hB.size); clear b14 hU)
            | (go_at_call 11; refine (HLw.out _ hB).mono ?_; rintro e w14 ⟨rfl, b14⟩; replace hB := hB.trans (b14.mono hB.size); clear b14)
            | (go_at_call 15; (with_reducible refine (HC2.out _ hB).mono ?_); rintro e w14 ⟨da, dc, rfl, hown14, b14⟩; have hD := IntsAt.own hown14 rfl; (try replace hE := hE.step b14); replace hB := hB.trans (b14.mono hB.size); clear b14 hown14)
            | (go_at_call 21; (with_reducible refine (HF1.out _ _ _ hB hD).mono ?_); rintro e w14 ⟨rfl, b14⟩; replace hB := hB.trans (b14.mono hB.size); clear b14 hD)
            | (go_at_call 19; (with_reducible refine (HE2.out _ hB).mono ?_); rintro e w14 ⟨rfl, b14⟩; replace hB := hB.trans (b14.mono hB.size); clear b14)
            | (go_at_call 22; (with_reducible refine (HSm.out _ hB).mono ?_); rintro e w14 ⟨rfl, b14⟩; replace hB := hB.trans (b14.mono hB.size); clear b14)
            | (go_at_call 15; (with_reducible refine (HC1.out _ hB).mono ?_); rintro e w14 ⟨ea, ec, rfl, hown14, b14⟩; have hE := IntsAt.own hown14 rfl; replace hB := hB.trans (b14.mono hB.size); clear b14 hown14)
            | (go_at_call 21; (with_reducible refine (HF2.out _ _ _ _ _ hE hD).mono ?_); rintro e w14 ⟨rfl, b14⟩; replace hB := hB.trans (b14.mono hB.size); clear b14))
          have HEND := Lib.hid (H13.out.ls.lr.below.trans (hB.mono H13.out.ls.lr.below.size))
          go_wp2
          go_ret
          exact ⟨by simp, HEND.out⟩
end Go.Proofs.YtpccdhkghlbhkaaDoor
