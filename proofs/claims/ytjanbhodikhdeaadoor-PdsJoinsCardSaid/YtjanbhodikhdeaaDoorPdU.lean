/-
  The statement PdsJoins as a walk: whatever the system, the configuration, the two runs and what lies below, the law answers true, and all of old memory stays as it was.
-/
import Derived.Test.YtjanbhodikhdeaaDoorPdT
import Derived.Test.YtjanbhodikhdeaaDoorPdZ
import Derived.Deep.DeepCutAuto
namespace Go.Proofs.YtjanbhodikhdeaaDoor
open Go.RowKit Go.Extern.Stop Go.Stop Go.Extern

theorem joins_ok {rs : List Ru} (hc : ∀ r ∈ rs, 0 ≤ r.cost) (c : Cf) (xa xb : List Int) (h1 : (goC rs xa 0 c 0).code = 0) :
    (goC rs (xa ++ xb) 0 c 0).c = (goC rs xb 0 (goC rs xa 0 c 0).c 0).c ∧ (goC rs (xa ++ xb) 0 c 0).code = (goC rs xb 0 (goC rs xa 0 c 0).c 0).code ∧ (goC rs (xa ++ xb) 0 c 0).n = addI (goC rs xa 0 c 0).n (goC rs xb 0 (goC rs xa 0 c 0).c 0).n := by
  have hb := goC_bd hc xa 0 c 0 (by omega) (by decide)
  have e := goC_cost hc xb (0 + (xa.length : Int)) (goC rs xa 0 c 0).c (goC rs xa 0 c 0).n 0 hb.1 (by omega)
  rw [addI_zero, capI_of_le hb.2] at e
  have e2 := goC_at xb (0 + (xa.length : Int)) 0 (goC rs xa 0 c 0).c 0 (rs := rs)
  rw [goC_app xa xb 0 c 0 h1]
  exact ⟨e.1.trans e2.1, e.2.1.trans e2.2.2, e.2.2.trans (by rw [e2.2.1])⟩
theorem joins_bad {rs : List Ru} (hc : ∀ r ∈ rs, 0 ≤ r.cost) (c : Cf) (xa xb : List Int) (h : (goC rs xa 0 c 0).code ≠ 0 ∨ (goC rs xb 0 (goC rs xa 0 c 0).c 0).code ≠ 0) : (goC rs (xa ++ xb) 0 c 0).code ≠ 0 := by
  by_cases h1 : (goC rs xa 0 c 0).code = 0
  · rw [(joins_ok hc c xa xb h1).2.1]
    rcases h with h | h
    · exact absurd h1 h
    · exact h
  · rw [goC_app_bad xa xb 0 c 0 h1]
    exact h1
/-- What PdsJoins has at hand. -/
structure LjS (w : World) (S L : Int) (v : Value) (rs : List Ru) (s0 : Int) (st0 : List Int) (vz : Value) (xa : List Int) (va : Value) (xb : List Int) (vb : Value) (xl : List Int) (vl : Value) (W : World) : Prop where
  lr : LrS w S L v rs s0 st0 vz xa va W
  b : IntsAt W vb xb
  z : IntsAt W vl xl
theorem LjS.step {w : World} {S L : Int} {v : Value} {rs : List Ru} {s0 : Int} {st0 : List Int} {vz : Value} {xa : List Int} {va : Value} {xb : List Int} {vb : Value} {xl : List Int} {vl : Value} {W W' : World} (h : LjS w S L v rs s0 st0 vz xa va xb vb xl vl W) (hb : Below W.heap.size W W') : LjS w S L v rs s0 st0 vz xa va xb vb xl vl W' :=
  ⟨h.lr.step hb, h.b.step hb, h.z.step hb⟩
theorem Short.len {rs : List Ru} (h : Short rs 2) (l : List Int) (a : Int) (c : Cf) (n : Int) : (goC rs l a c n).c.2.length ≤ c.2.length + 2 * l.length :=
  goC_len (P := 2) (fun r hr => by obtain ⟨i, hi⟩ := List.getElem?_of_mem hr; exact h i r hi) l a c n
set_option maxRecDepth 100000 in
set_option maxHeartbeats 32000000 in
theorem pdsJoinsLaw_any (S L : Int) (v : Value) (rs : List Ru) (s0 : Int) (vz : Value) (st0 : List Int) (vxa vxb vxl : Value) (xa xb xl : List Int) (w : World) (hv : RusAt w v rs) (hcs : ∀ (i : Nat) (r : Ru), rs[i]? = some r → 0 ≤ r.cost) (hz : IntsAt w vz st0) (hxa : IntsAt w vxa xa) (hxb : IntsAt w vxb xb) (hxl : IntsAt w vxl xl) (hg : Handle w) :
    Calls Tryd.prog 3 #[sysV S L v, cfV s0 vz, vxa, vxb, vxl] w fun e w' => e = .returned (.bool true) ∧ Below w.heap.size w w' := by
  obtain ⟨va, vc, rfl⟩ := hv.form
  obtain ⟨za, zc, rfl⟩ := hz.form
  obtain ⟨xaa, xac, rfl⟩ := hxa.form
  obtain ⟨xba, xbc, rfl⟩ := hxb.form
  obtain ⟨xla, xlc, rfl⟩ := hxl.form
  have hs0 := LrS.start S L s0 hv hz hxa hg
  have hbs := (two_boxes w 24 27 #[.int .i64 S, .int .i64 L, .slice va rs.length vc] #[.int .i64 s0, .slice za st0.length zc]).2.2
  have H1 := Lib.hid (LjS.mk hs0 (hxb.step hbs) (hxl.step hbs))
  have HCs := Lib.hid hcs
  clear hv hz hxa hxb hxl hg hcs hs0 hbs
  go_enter Tryd.func3, Tryd.ntmps3
  go_wp2_with fail
  generalize (w.alloc (.cells #[.int .i64 S, .int .i64 L, .slice va rs.length vc] 24)).alloc (.cells #[.int .i64 s0, .slice za st0.length zc] 27) = w1 at *
  refine (awake21_any _ H1.out.lr.hg).mono ?_
  rintro e w2 ⟨rfl, b2⟩
  have H2 := Lib.hid (H1.out.step b2)
  clear b2 H1
  obtain ⟨s0', s1', s2'⟩ := cells3 H2.out.lr.sys
  go_wp2_with fail
  refine (may21_any S L _ rs _ H2.out.lr.rs).mono ?_
  rintro e w3 ⟨q, rfl, hq, b3⟩
  have H3 := Lib.hid (H2.out.step b3)
  have HQ := Lib.hid hq
  clear b3 hq H2 s0' s1' s2'
  obtain ⟨s0', s1', s2'⟩ := cells3 H3.out.lr.sys
  obtain ⟨c0', c1'⟩ := cells2 H3.out.lr.cfg
  cases q with
  | false =>
    go_wp2_with fail
    go_ret
    exact ⟨rfl, H3.out.lr.below⟩
  | true =>
  obtain ⟨hn, hs⟩ := HQ.out rfl
  have HN := Lib.hid (And.intro hn hs)
  clear HQ hn hs
  by_cases hal : (40 : Int) < (xa.length : Int)
  · go_wp2_with fail
    go_ret
    exact ⟨rfl, H3.out.lr.below⟩
  by_cases hbl : (40 : Int) < (xb.length : Int)
  · go_wp2_with fail
    go_ret
    exact ⟨rfl, H3.out.lr.below⟩
  by_cases hzl : (40 : Int) < (st0.length : Int)
  · go_wp2_with fail
    go_ret
    exact ⟨rfl, H3.out.lr.below⟩
  by_cases hll : (40 : Int) < (xl.length : Int)
  · go_wp2_with fail
    go_ret
    exact ⟨rfl, H3.out.lr.below⟩
  obtain ⟨⟨⟨c1, k1⟩, n1, e1, p1⟩, HX1⟩ : ∃ X, Hid (goC rs xa 0 (s0, st0) 0 = X) := ⟨_, Lib.hid rfl⟩
  obtain ⟨⟨⟨c2, k2⟩, n2, e2, p2⟩, HX2⟩ : ∃ X, Hid (goC rs xb 0 (c1, k1) 0 = X) := ⟨_, Lib.hid rfl⟩
  obtain ⟨⟨⟨c3, k3⟩, n3, e3, p3⟩, HX3⟩ : ∃ X, Hid (goC rs (xa ++ xb) 0 (s0, st0) 0 = X) := ⟨_, Lib.hid rfl⟩
  have hk1 : k1.length ≤ st0.length + 2 * xa.length := by have h := HN.out.2.len xa 0 (s0, st0) 0; rw [HX1.out] at h; exact h
  have hk2 : k2.length ≤ k1.length + 2 * xb.length := by have h := HN.out.2.len xb 0 (c1, k1) 0; rw [HX2.out] at h; exact h
  have hk3 : k3.length ≤ st0.length + 2 * (xa ++ xb).length := by have h := HN.out.2.len (xa ++ xb) 0 (s0, st0) 0; rw [HX3.out] at h; exact h
  rw [List.length_append] at hk3
  have HLn : Hid (xa.length ≤ 40 ∧ xb.length ≤ 40 ∧ st0.length ≤ 40 ∧ xl.length ≤ 40 ∧ k1.length ≤ 120 ∧ k2.length ≤ 200 ∧ k3.length ≤ 200 ∧ rs.length ≤ 100) := Lib.hid (by have := HN.out.1; omega)
  clear hk1 hk2 hk3
  have HD1 := Lib.hid (pdsDo_any S L _ rs (s0, st0) _ xa _ w3 H3.out.lr.rs (HN.out.2.mono (by decide)) HCs.out (by have := HN.out.1; omega) H3.out.lr.st H3.out.lr.xs (by have := HLn.out; show st0.length + 100 * xa.length ≤ 50000; omega))
  rw [HX1.out] at HD1
  go_upto_region 6 with (go_at_call 7; refine HD1.out.mono ?_; rintro e w4 ⟨ya, yk, ey, rfl, hown4, her4, b4⟩)
  have bn4 := sbelow_new w4 (.cells #[.int .i64 c1, .slice ya k1.length yk] 27)
  have H5 := Lib.hid ((H3.out.step b4).step bn4)
  have HY5 := Lib.hid (CfS.mk (X := ⟨(c1, k1), n1, e1, p1⟩) (heap_alloc_new w4 (.cells #[.int .i64 c1, .slice ya k1.length yk] 27)) ((IntsAt.own hown4 rfl).step bn4) (her4.keep bn4))
  clear b4 bn4 hown4 her4 HD1 H3 s0' s1' s2' c0' c1' hal hbl hzl hll
  generalize w4.alloc (.cells #[.int .i64 c1, .slice ya k1.length yk] 27) = w5 at *
  generalize w4.heap.size = Yb at *
  obtain ⟨s0', s1', s2'⟩ := cells3 H5.out.lr.sys
  obtain ⟨c0', c1'⟩ := cells2 HY5.out.box
  have HD2 := Lib.hid (pdsDo_any S L _ rs (c1, k1) _ xb _ w5 H5.out.lr.rs (HN.out.2.mono (by decide)) HCs.out (by have := HN.out.1; omega) HY5.out.ii H5.out.b (by have := HLn.out; show k1.length + 100 * xb.length ≤ 50000; omega))
  rw [HX2.out] at HD2
  go_upto_region 7 with (go_at_call 7; refine HD2.out.mono ?_; rintro e w4 ⟨ua, uk, ef, rfl, hown4, her4, b4⟩)
  have bn4 := sbelow_new w4 (.cells #[.int .i64 c2, .slice ua k2.length uk] 27)
  have H11 := Lib.hid ((H5.out.step b4).step bn4)
  have HY11 := Lib.hid ((HY5.out.step b4).step bn4)
  have HU11 := Lib.hid (CfS.mk (X := ⟨(c2, k2), n2, e2, p2⟩) (heap_alloc_new w4 (.cells #[.int .i64 c2, .slice ua k2.length uk] 27)) ((IntsAt.own hown4 rfl).step bn4) (her4.keep bn4))
  clear b4 bn4 hown4 her4 HD2 H5 HY5 s0' s1' s2' c0' c1'
  generalize w4.alloc (.cells #[.int .i64 c2, .slice ua k2.length uk] 27) = w11 at *
  generalize w4.heap.size = Ub at *
  have HD3 := Lib.hid (fun W (hb : Below w11.heap.size w11 W) (u : Value) (h : IntsAt W u (xa ++ xb)) => pdsDo_any S L _ rs (s0, st0) _ (xa ++ xb) u W (H11.out.step hb).lr.rs (HN.out.2.mono (by decide)) HCs.out (by have := HN.out.1; omega) (H11.out.step hb).lr.st h (by have := HLn.out; rw [List.length_append]; show st0.length + 100 * (xa.length + xb.length) ≤ 50000; omega))
  rw [HX3.out] at HD3
  go_cut [17, 18, 19] (fun v17 v18 v19 wx => ∃ (Zb : Nat) (ra : Option Addr) (rk : Nat) (er : Value), v17 = .pointer (some ⟨Zb, 0, none⟩) ∧ v18 = .int .u64 n3 ∧ v19 = er ∧ CfS Zb ⟨(c3, k3), n3, e3, p3⟩ (.slice ra k3.length rk) er wx ∧ Below w11.heap.size w11 wx)
  case first =>
    have hbd := (Below.refl w11.heap.size w11).drew
    refine region_T (fun W : World => W.cell? ⟨w.heap.size, 0, none⟩ = some (.int .i64 S) ∧ W.cell? ⟨w.heap.size, 1, none⟩ = some (.int .i64 L) ∧ W.cell? ⟨w.heap.size, 2, none⟩ = some (.slice va rs.length vc) ∧ W.cell? ⟨w.heap.size + 1, 0, none⟩ = some (.int .i64 s0) ∧ W.cell? ⟨w.heap.size + 1, 1, none⟩ = some (.slice za st0.length zc)) 14 (by kernel_rfl) ?_
    have mkS : ∀ W, Below w11.heap.size w11 W → W.cell? ⟨w.heap.size, 0, none⟩ = some (.int .i64 S) ∧ W.cell? ⟨w.heap.size, 1, none⟩ = some (.int .i64 L) ∧ W.cell? ⟨w.heap.size, 2, none⟩ = some (.slice va rs.length vc) ∧ W.cell? ⟨w.heap.size + 1, 0, none⟩ = some (.int .i64 s0) ∧ W.cell? ⟨w.heap.size + 1, 1, none⟩ = some (.slice za st0.length zc) :=
      fun W hb => ⟨(cells3 (H11.out.step hb).lr.sys).1, (cells3 (H11.out.step hb).lr.sys).2.1, (cells3 (H11.out.step hb).lr.sys).2.2, (cells2 (H11.out.step hb).lr.cfg).1, (cells2 (H11.out.step hb).lr.cfg).2⟩
    refine wpT_take (i := 0) (v := .agg #[.int .i64 S, .int .i64 L, .slice va rs.length vc]) rfl (by kernel_rfl) (by kernel_rfl) (by kernel_rfl) (by kernel_rfl) (by kernel_rfl) (by kernel_rfl) (by kernel_rfl) (by kernel_rfl) (fun _ _ _ h => h) (Or.inl ⟨by rfl, ?_⟩) (mkS _ hbd) ?_
    · rintro w' ⟨s0, s1, s2, s3, s4⟩
      go_simp
    try simp only [Act.put]
    refine wpT_take (i := 1) (v := .agg #[.int .i64 s0, .slice za st0.length zc]) rfl (by kernel_rfl) (by kernel_rfl) (by kernel_rfl) (by kernel_rfl) (by kernel_rfl) (by kernel_rfl) (by kernel_rfl) (by kernel_rfl) (fun _ _ _ h => h) (Or.inl ⟨by rfl, ?_⟩) (mkS _ hbd) ?_
    · rintro w' ⟨s0, s1, s2, s3, s4⟩
      go_simp
    try simp only [Act.put]
    refine wpT_take (i := 2) (v := .slice xaa xa.length xac) rfl (by kernel_rfl) (by kernel_rfl) (by kernel_rfl) (by kernel_rfl) (by kernel_rfl) (by kernel_rfl) (by kernel_rfl) (by kernel_rfl) (fun _ _ _ h => h) (Or.inl ⟨by rfl, ?_⟩) (mkS _ hbd) ?_
    · rintro w' ⟨s0, s1, s2, s3, s4⟩
      go_simp
    try simp only [Act.put]
    refine wpT_take (i := 3) (v := .slice xba xb.length xbc) rfl (by kernel_rfl) (by kernel_rfl) (by kernel_rfl) (by kernel_rfl) (by kernel_rfl) (by kernel_rfl) (by kernel_rfl) (by kernel_rfl) (fun _ _ _ h => h) (Or.inl ⟨by rfl, ?_⟩) (mkS _ hbd) ?_
    · rintro w' ⟨s0, s1, s2, s3, s4⟩
      go_simp
    try simp only [Act.put]
    refine wpT_two (i := 4) (i' := 11) (by kernel_rfl) rfl rfl ?_ ?_
    · as_aux_lemma =>
        intro KK hKK
        go_simp
        have hb1 : Below w11.heap.size w11 (w11.alloc (.cells #[.slice xaa xa.length xac, .slice xba xb.length xbc] 25)).drew := (sbelow_new w11 (.cells #[.slice xaa xa.length xac, .slice xba xb.length xbc] 25)).drew
        have hA1 : (w11.alloc (.cells #[.slice xaa xa.length xac, .slice xba xb.length xbc] 25)).drew.heap[w11.heap.size]? = some (.cells #[.slice xaa xa.length xac, .slice xba xb.length xbc] 25 (0, 0)) := heap_alloc_new w11 (.cells #[.slice xaa xa.length xac, .slice xba xb.length xbc] 25)
        refine hKK _ _ ⟨fun _ => mkS _ hb1, ?_⟩
        clear hKK
        try simp only [Act.put]
        generalize (w11.alloc (.cells #[.slice xaa xa.length xac, .slice xba xb.length xbc] 25)).drew = y1 at *
        refine wpT_two (i := 5) (i' := 11) (by kernel_rfl) rfl rfl ?_ ?_
        · as_aux_lemma =>
            intro KK hKK
            go_simp
            refine (concatI_any (w11.heap.size) _ _ xa xb y1 (blt hA1) (cells2 hA1).1 (cells2 hA1).2 ((H11.out.step hb1).lr.xs) ((H11.out.step hb1).b) (by have := HLn.out; omega) (by have := HLn.out; omega)).mono ?_
            rintro e y2 ⟨gc, rfl, hownc, b2⟩
            obtain ⟨gac, gcc, rfl⟩ := row_slice hownc
            have hCc := IntsAt.own hownc (by rw [List.length_append])
            clear hownc
            have hb2 := hb1.trans (b2.mono hb1.size)
            replace hA1 := blk hA1 b2
            refine hKK _ _ ⟨fun _ => mkS _ hb2, ?_⟩
            clear hKK
            try simp only [Act.put]
            refine wpT_two (i := 6) (i' := 11) (by kernel_rfl) rfl rfl ?_ ?_
            · as_aux_lemma =>
                intro KK hKK
                go_simp
                refine (HD3.out y2 hb2 _ hCc).mono ?_
                rintro e y3 ⟨ra, rk, er, rfl, hownD, herD, b3⟩
                have hDi := IntsAt.own hownD rfl
                clear hownD
                have hb3 := hb2.trans (b3.mono hb2.size)
                replace hA1 := blk hA1 b3
                replace hCc := hCc.step b3
                refine hKK _ _ ⟨fun _ => mkS _ hb3, ?_⟩
                clear hKK
                try simp only []
                refine wpT_take (i := 7) (v := .tuple #[.agg #[.int .i64 c3, .slice ra k3.length rk], .int .u64 n3, er]) rfl (by kernel_rfl) (by kernel_rfl) (by kernel_rfl) (by kernel_rfl) (by kernel_rfl) (by kernel_rfl) (by kernel_rfl) (by kernel_rfl) (fun _ _ _ h => h) (Or.inl ⟨by rfl, ?_⟩) (mkS _ hb3) ?_
                · rintro w' ⟨s0, s1, s2, s3, s4⟩
                  go_simp
                try simp only [Act.put]
                refine wpT_take (i := 8) (v := .agg #[.int .i64 c3, .slice ra k3.length rk]) rfl (by kernel_rfl) (by kernel_rfl) (by kernel_rfl) (by kernel_rfl) (by kernel_rfl) (by kernel_rfl) (by kernel_rfl) (by kernel_rfl) (fun _ _ _ h => h) (Or.inl ⟨by rfl, ?_⟩) (mkS _ hb3) ?_
                · rintro w' ⟨s0, s1, s2, s3, s4⟩
                  go_simp
                try simp only [Act.put]
                refine wpT_take (i := 9) (v := .int .u64 n3) rfl (by kernel_rfl) (by kernel_rfl) (by kernel_rfl) (by kernel_rfl) (by kernel_rfl) (by kernel_rfl) (by kernel_rfl) (by kernel_rfl) (fun _ _ _ h => h) (Or.inl ⟨by rfl, ?_⟩) (mkS _ hb3) ?_
                · rintro w' ⟨s0, s1, s2, s3, s4⟩
                  go_simp
                try simp only [Act.put]
                refine wpT_take (i := 10) (v := er) rfl (by kernel_rfl) (by kernel_rfl) (by kernel_rfl) (by kernel_rfl) (by kernel_rfl) (by kernel_rfl) (by kernel_rfl) (by kernel_rfl) (fun _ _ _ h => h) (Or.inl ⟨by rfl, ?_⟩) (mkS _ hb3) ?_
                · rintro w' ⟨s0, s1, s2, s3, s4⟩
                  go_simp
                try simp only [Act.put]
                refine wpT_one (i := 11) (by kernel_rfl) rfl ?_
                intro KK hKK
                go_simp
                have b4 := sbelow_new y3 (.cells #[.int .i64 0, .slice none 0 0] 27)
                have hb4 := hb3.trans (b4.mono hb3.size)
                have hX := heap_alloc_new y3 (.cells #[.int .i64 0, .slice none 0 0] 27)
                have hXb : w11.heap.size ≤ y3.heap.size := hb3.size
                have hDn := fun ad e h => Nat.ne_of_lt (hDi.blk ad e h)
                replace hA1 := blk hA1 b4
                replace hCc := hCc.step b4
                replace hDi := hDi.step b4
                replace herD := herD.keep b4
                refine hKK _ _ ⟨fun _ => mkS _ hb4, ?_⟩
                clear hKK
                try simp only [Act.put]
                generalize y3.alloc (.cells #[.int .i64 0, .slice none 0 0] 27) = y4 at *
                have hsz : y3.heap.size < y4.heap.size := blt hX
                obtain ⟨x0, x1⟩ := cells2 hX
                have xf0 : y4.frozen? ⟨y3.heap.size, 0, none⟩ = false := by unfold World.frozen?; rw [hX]; simp
                have xf1 : y4.frozen? ⟨y3.heap.size, 1, none⟩ = false := by unfold World.frozen?; rw [hX]; simp
                have hbz : Below w11.heap.size w11 ((y4.setCell ⟨y3.heap.size, 0, none⟩ (.int .i64 c3)).setCell ⟨y3.heap.size, 1, none⟩ (.slice ra k3.length rk)) := (hb4.setCell (p := ⟨y3.heap.size, 0, none⟩) hXb _).setCell (p := ⟨y3.heap.size, 1, none⟩) hXb _
                have hx2 := (cells2 (heap_setCell_same _ _ 0 _ _ (.int .i64 c3) hX)).2
                have HF := Lib.hid (CfS.mk (X := ⟨(c3, k3), n3, e3, p3⟩) (heap_setCell_same _ _ 1 _ _ (.slice ra k3.length rk) (heap_setCell_same _ _ 0 _ _ (.int .i64 c3) hX)) ((hDi.setNe hDn 0 _).setNe hDn 1 _) ((herD.beside x1 0 _).beside hx2 1 _))
                clear hx2 hDi hDn herD
                refine wpT_one (i := 12) (by kernel_rfl) rfl ?_
                intro KK hKK
                go_simp
                refine hKK _ _ ⟨fun _ => mkS _ hbz, ?_⟩
                clear hKK x0 x1 xf0 xf1 hX hsz
                try simp only [Act.put]
                generalize (y4.setCell ⟨y3.heap.size, 0, none⟩ (.int .i64 c3)).setCell ⟨y3.heap.size, 1, none⟩ (.slice ra k3.length rk) = yz at *
                refine wpT_one (i := 13) (by kernel_rfl) rfl ?_
                intro KK hKK
                go_simp
                refine hKK _ _ ⟨fun _ => mkS _ hbz, ?_⟩
                clear hKK
                try simp only [Act.put]
                refine wpT_tail 14 1 rfl rfl (by kernel_rfl) (by kernel_rfl) ?_
                simp only [List.drop_succ_cons, List.drop_zero]
                go_wp2_with fail
                go_meet
                case rel => exact ⟨_, _, _, er, rfl, rfl, rfl, HF.out, hbz⟩
            · as_aux_lemma =>
                intro KK hKK
                go_simp
                have b3 := sbelow_new y2 (.cells #[.int .i64 0, .slice none 0 0] 27)
                have hb3 := hb2.trans (b3.mono hb2.size)
                have hX := heap_alloc_new y2 (.cells #[.int .i64 0, .slice none 0 0] 27)
                have hXb : w11.heap.size ≤ y2.heap.size := hb2.size
                replace hA1 := blk hA1 b3
                replace hCc := hCc.step b3
                refine hKK _ _ ⟨fun _ => mkS _ hb3, ?_⟩
                clear hKK
                try simp only [Act.put]
                generalize y2.alloc (.cells #[.int .i64 0, .slice none 0 0] 27) = y3 at *
                refine wpT_one (i := 6) (by kernel_rfl) rfl ?_
                intro KK hKK
                go_simp
                refine (HD3.out y3 hb3 _ hCc).mono ?_
                rintro e y4 ⟨ra, rk, er, rfl, hownD, herD, b4⟩
                have hDi := IntsAt.own hownD rfl
                have hDn : ∀ ad, ra = some ad → 0 < k3.length → ad.block ≠ y2.heap.size := fun ad e h => by
                  have h1 := (hownD.lt ad.block (by rw [e]; rfl)).1
                  have h2 := blt hX
                  omega
                clear hownD
                have hb4 := hb3.trans (b4.mono hb3.size)
                replace hA1 := blk hA1 b4
                replace hCc := hCc.step b4
                replace hX := blk hX b4
                refine hKK _ _ ⟨fun _ => mkS _ hb4, ?_⟩
                clear hKK
                try simp only []
                refine wpT_take (i := 7) (v := .tuple #[.agg #[.int .i64 c3, .slice ra k3.length rk], .int .u64 n3, er]) rfl (by kernel_rfl) (by kernel_rfl) (by kernel_rfl) (by kernel_rfl) (by kernel_rfl) (by kernel_rfl) (by kernel_rfl) (by kernel_rfl) (fun _ _ _ h => h) (Or.inl ⟨by rfl, ?_⟩) (mkS _ hb4) ?_
                · rintro w' ⟨s0, s1, s2, s3, s4⟩
                  go_simp
                try simp only [Act.put]
                refine wpT_take (i := 8) (v := .agg #[.int .i64 c3, .slice ra k3.length rk]) rfl (by kernel_rfl) (by kernel_rfl) (by kernel_rfl) (by kernel_rfl) (by kernel_rfl) (by kernel_rfl) (by kernel_rfl) (by kernel_rfl) (fun _ _ _ h => h) (Or.inl ⟨by rfl, ?_⟩) (mkS _ hb4) ?_
                · rintro w' ⟨s0, s1, s2, s3, s4⟩
                  go_simp
                try simp only [Act.put]
                refine wpT_take (i := 9) (v := .int .u64 n3) rfl (by kernel_rfl) (by kernel_rfl) (by kernel_rfl) (by kernel_rfl) (by kernel_rfl) (by kernel_rfl) (by kernel_rfl) (by kernel_rfl) (fun _ _ _ h => h) (Or.inl ⟨by rfl, ?_⟩) (mkS _ hb4) ?_
                · rintro w' ⟨s0, s1, s2, s3, s4⟩
                  go_simp
                try simp only [Act.put]
                refine wpT_take (i := 10) (v := er) rfl (by kernel_rfl) (by kernel_rfl) (by kernel_rfl) (by kernel_rfl) (by kernel_rfl) (by kernel_rfl) (by kernel_rfl) (by kernel_rfl) (fun _ _ _ h => h) (Or.inl ⟨by rfl, ?_⟩) (mkS _ hb4) ?_
                · rintro w' ⟨s0, s1, s2, s3, s4⟩
                  go_simp
                try simp only [Act.put]
                have hsz : y2.heap.size < y4.heap.size := blt hX
                obtain ⟨x0, x1⟩ := cells2 hX
                have xf0 : y4.frozen? ⟨y2.heap.size, 0, none⟩ = false := by unfold World.frozen?; rw [hX]; simp
                have xf1 : y4.frozen? ⟨y2.heap.size, 1, none⟩ = false := by unfold World.frozen?; rw [hX]; simp
                have hbz : Below w11.heap.size w11 ((y4.setCell ⟨y2.heap.size, 0, none⟩ (.int .i64 c3)).setCell ⟨y2.heap.size, 1, none⟩ (.slice ra k3.length rk)) := (hb4.setCell (p := ⟨y2.heap.size, 0, none⟩) hXb _).setCell (p := ⟨y2.heap.size, 1, none⟩) hXb _
                have hx2 := (cells2 (heap_setCell_same _ _ 0 _ _ (.int .i64 c3) hX)).2
                have HF := Lib.hid (CfS.mk (X := ⟨(c3, k3), n3, e3, p3⟩) (heap_setCell_same _ _ 1 _ _ (.slice ra k3.length rk) (heap_setCell_same _ _ 0 _ _ (.int .i64 c3) hX)) ((hDi.setNe hDn 0 _).setNe hDn 1 _) ((herD.beside x1 0 _).beside hx2 1 _))
                clear hx2 hDi hDn herD
                refine wpT_one (i := 12) (by kernel_rfl) rfl ?_
                intro KK hKK
                go_simp
                refine hKK _ _ ⟨fun _ => mkS _ hbz, ?_⟩
                clear hKK x0 x1 xf0 xf1 hX hsz
                try simp only [Act.put]
                generalize (y4.setCell ⟨y2.heap.size, 0, none⟩ (.int .i64 c3)).setCell ⟨y2.heap.size, 1, none⟩ (.slice ra k3.length rk) = yz at *
                refine wpT_one (i := 13) (by kernel_rfl) rfl ?_
                intro KK hKK
                go_simp
                refine hKK _ _ ⟨fun _ => mkS _ hbz, ?_⟩
                clear hKK
                try simp only [Act.put]
                refine wpT_tail 14 1 rfl rfl (by kernel_rfl) (by kernel_rfl) ?_
                simp only [List.drop_succ_cons, List.drop_zero]
                go_wp2_with fail
                go_meet
                case rel => exact ⟨_, _, _, er, rfl, rfl, rfl, HF.out, hbz⟩
        · as_aux_lemma =>
            intro KK hKK
            go_simp
            have b2 := sbelow_new y1 (.cells #[.int .i64 0, .slice none 0 0] 27)
            have hb2 := hb1.trans (b2.mono hb1.size)
            have hX := heap_alloc_new y1 (.cells #[.int .i64 0, .slice none 0 0] 27)
            have hXb : w11.heap.size ≤ y1.heap.size := hb1.size
            replace hA1 := blk hA1 b2
            refine hKK _ _ ⟨fun _ => mkS _ hb2, ?_⟩
            clear hKK
            try simp only [Act.put]
            generalize y1.alloc (.cells #[.int .i64 0, .slice none 0 0] 27) = y2 at *
            refine wpT_one (i := 5) (by kernel_rfl) rfl ?_
            intro KK hKK
            go_simp
            refine (concatI_any (w11.heap.size) _ _ xa xb y2 (blt hA1) (cells2 hA1).1 (cells2 hA1).2 ((H11.out.step hb2).lr.xs) ((H11.out.step hb2).b) (by have := HLn.out; omega) (by have := HLn.out; omega)).mono ?_
            rintro e y3 ⟨gc, rfl, hownc, b3⟩
            obtain ⟨gac, gcc, rfl⟩ := row_slice hownc
            have hCc := IntsAt.own hownc (by rw [List.length_append])
            clear hownc
            have hb3 := hb2.trans (b3.mono hb2.size)
            replace hA1 := blk hA1 b3
            replace hX := blk hX b3
            refine hKK _ _ ⟨fun _ => mkS _ hb3, ?_⟩
            clear hKK
            try simp only [Act.put]
            refine wpT_one (i := 6) (by kernel_rfl) rfl ?_
            intro KK hKK
            go_simp
            refine (HD3.out y3 hb3 _ hCc).mono ?_
            rintro e y4 ⟨ra, rk, er, rfl, hownD, herD, b4⟩
            have hDi := IntsAt.own hownD rfl
            have hDn : ∀ ad, ra = some ad → 0 < k3.length → ad.block ≠ y1.heap.size := fun ad e h => by
              have h1 := (hownD.lt ad.block (by rw [e]; rfl)).1
              have h2 := blt hX
              omega
            clear hownD
            have hb4 := hb3.trans (b4.mono hb3.size)
            replace hA1 := blk hA1 b4
            replace hX := blk hX b4
            replace hCc := hCc.step b4
            refine hKK _ _ ⟨fun _ => mkS _ hb4, ?_⟩
            clear hKK
            try simp only []
            refine wpT_take (i := 7) (v := .tuple #[.agg #[.int .i64 c3, .slice ra k3.length rk], .int .u64 n3, er]) rfl (by kernel_rfl) (by kernel_rfl) (by kernel_rfl) (by kernel_rfl) (by kernel_rfl) (by kernel_rfl) (by kernel_rfl) (by kernel_rfl) (fun _ _ _ h => h) (Or.inl ⟨by rfl, ?_⟩) (mkS _ hb4) ?_
            · rintro w' ⟨s0, s1, s2, s3, s4⟩
              go_simp
            try simp only [Act.put]
            refine wpT_take (i := 8) (v := .agg #[.int .i64 c3, .slice ra k3.length rk]) rfl (by kernel_rfl) (by kernel_rfl) (by kernel_rfl) (by kernel_rfl) (by kernel_rfl) (by kernel_rfl) (by kernel_rfl) (by kernel_rfl) (fun _ _ _ h => h) (Or.inl ⟨by rfl, ?_⟩) (mkS _ hb4) ?_
            · rintro w' ⟨s0, s1, s2, s3, s4⟩
              go_simp
            try simp only [Act.put]
            refine wpT_take (i := 9) (v := .int .u64 n3) rfl (by kernel_rfl) (by kernel_rfl) (by kernel_rfl) (by kernel_rfl) (by kernel_rfl) (by kernel_rfl) (by kernel_rfl) (by kernel_rfl) (fun _ _ _ h => h) (Or.inl ⟨by rfl, ?_⟩) (mkS _ hb4) ?_
            · rintro w' ⟨s0, s1, s2, s3, s4⟩
              go_simp
            try simp only [Act.put]
            refine wpT_take (i := 10) (v := er) rfl (by kernel_rfl) (by kernel_rfl) (by kernel_rfl) (by kernel_rfl) (by kernel_rfl) (by kernel_rfl) (by kernel_rfl) (by kernel_rfl) (fun _ _ _ h => h) (Or.inl ⟨by rfl, ?_⟩) (mkS _ hb4) ?_
            · rintro w' ⟨s0, s1, s2, s3, s4⟩
              go_simp
            try simp only [Act.put]
            have hsz : y1.heap.size < y4.heap.size := blt hX
            obtain ⟨x0, x1⟩ := cells2 hX
            have xf0 : y4.frozen? ⟨y1.heap.size, 0, none⟩ = false := by unfold World.frozen?; rw [hX]; simp
            have xf1 : y4.frozen? ⟨y1.heap.size, 1, none⟩ = false := by unfold World.frozen?; rw [hX]; simp
            have hbz : Below w11.heap.size w11 ((y4.setCell ⟨y1.heap.size, 0, none⟩ (.int .i64 c3)).setCell ⟨y1.heap.size, 1, none⟩ (.slice ra k3.length rk)) := (hb4.setCell (p := ⟨y1.heap.size, 0, none⟩) hXb _).setCell (p := ⟨y1.heap.size, 1, none⟩) hXb _
            have hx2 := (cells2 (heap_setCell_same _ _ 0 _ _ (.int .i64 c3) hX)).2
            have HF := Lib.hid (CfS.mk (X := ⟨(c3, k3), n3, e3, p3⟩) (heap_setCell_same _ _ 1 _ _ (.slice ra k3.length rk) (heap_setCell_same _ _ 0 _ _ (.int .i64 c3) hX)) ((hDi.setNe hDn 0 _).setNe hDn 1 _) ((herD.beside x1 0 _).beside hx2 1 _))
            clear hx2 hDi hDn herD
            refine wpT_one (i := 12) (by kernel_rfl) rfl ?_
            intro KK hKK
            go_simp
            refine hKK _ _ ⟨fun _ => mkS _ hbz, ?_⟩
            clear hKK x0 x1 xf0 xf1 hX hsz
            try simp only [Act.put]
            generalize (y4.setCell ⟨y1.heap.size, 0, none⟩ (.int .i64 c3)).setCell ⟨y1.heap.size, 1, none⟩ (.slice ra k3.length rk) = yz at *
            refine wpT_one (i := 13) (by kernel_rfl) rfl ?_
            intro KK hKK
            go_simp
            refine hKK _ _ ⟨fun _ => mkS _ hbz, ?_⟩
            clear hKK
            try simp only [Act.put]
            refine wpT_tail 14 1 rfl rfl (by kernel_rfl) (by kernel_rfl) ?_
            simp only [List.drop_succ_cons, List.drop_zero]
            go_wp2_with fail
            go_meet
            case rel => exact ⟨_, _, _, er, rfl, rfl, rfl, HF.out, hbz⟩
    · as_aux_lemma =>
        intro KK hKK
        go_simp
        have hb1 : Below w11.heap.size w11 (w11.alloc (.cells #[.int .i64 0, .slice none 0 0] 27)).drew := (sbelow_new w11 (.cells #[.int .i64 0, .slice none 0 0] 27)).drew
        have hX : (w11.alloc (.cells #[.int .i64 0, .slice none 0 0] 27)).drew.heap[w11.heap.size]? = some (.cells #[.int .i64 0, .slice none 0 0] 27 (0, 0)) := heap_alloc_new w11 (.cells #[.int .i64 0, .slice none 0 0] 27)
        have hXb : w11.heap.size ≤ w11.heap.size := Nat.le_refl _
        refine hKK _ _ ⟨fun _ => mkS _ hb1, ?_⟩
        clear hKK
        try simp only [Act.put]
        generalize (w11.alloc (.cells #[.int .i64 0, .slice none 0 0] 27)).drew = y1 at *
        refine wpT_one (i := 4) (by kernel_rfl) rfl ?_
        intro KK hKK
        go_simp
        have b2 := sbelow_new y1 (.cells #[.slice xaa xa.length xac, .slice xba xb.length xbc] 25)
        have hb2 := hb1.trans (b2.mono hb1.size)
        have hA1 := heap_alloc_new y1 (.cells #[.slice xaa xa.length xac, .slice xba xb.length xbc] 25)
        replace hX := blk hX b2
        refine hKK _ _ ⟨fun _ => mkS _ hb2, ?_⟩
        clear hKK
        try simp only [Act.put]
        generalize y1.alloc (.cells #[.slice xaa xa.length xac, .slice xba xb.length xbc] 25) = y2 at *
        refine wpT_one (i := 5) (by kernel_rfl) rfl ?_
        intro KK hKK
        go_simp
        refine (concatI_any (y1.heap.size) _ _ xa xb y2 (blt hA1) (cells2 hA1).1 (cells2 hA1).2 ((H11.out.step hb2).lr.xs) ((H11.out.step hb2).b) (by have := HLn.out; omega) (by have := HLn.out; omega)).mono ?_
        rintro e y3 ⟨gc, rfl, hownc, b3⟩
        obtain ⟨gac, gcc, rfl⟩ := row_slice hownc
        have hCc := IntsAt.own hownc (by rw [List.length_append])
        clear hownc
        have hb3 := hb2.trans (b3.mono hb2.size)
        replace hX := blk hX b3
        replace hA1 := blk hA1 b3
        refine hKK _ _ ⟨fun _ => mkS _ hb3, ?_⟩
        clear hKK
        try simp only [Act.put]
        refine wpT_one (i := 6) (by kernel_rfl) rfl ?_
        intro KK hKK
        go_simp
        refine (HD3.out y3 hb3 _ hCc).mono ?_
        rintro e y4 ⟨ra, rk, er, rfl, hownD, herD, b4⟩
        have hDi := IntsAt.own hownD rfl
        have hDn : ∀ ad, ra = some ad → 0 < k3.length → ad.block ≠ w11.heap.size := fun ad e h => by
          have h1 := (hownD.lt ad.block (by rw [e]; rfl)).1
          have h2 := blt hX
          omega
        clear hownD
        have hb4 := hb3.trans (b4.mono hb3.size)
        replace hX := blk hX b4
        replace hA1 := blk hA1 b4
        replace hCc := hCc.step b4
        refine hKK _ _ ⟨fun _ => mkS _ hb4, ?_⟩
        clear hKK
        try simp only []
        refine wpT_take (i := 7) (v := .tuple #[.agg #[.int .i64 c3, .slice ra k3.length rk], .int .u64 n3, er]) rfl (by kernel_rfl) (by kernel_rfl) (by kernel_rfl) (by kernel_rfl) (by kernel_rfl) (by kernel_rfl) (by kernel_rfl) (by kernel_rfl) (fun _ _ _ h => h) (Or.inl ⟨by rfl, ?_⟩) (mkS _ hb4) ?_
        · rintro w' ⟨s0, s1, s2, s3, s4⟩
          go_simp
        try simp only [Act.put]
        refine wpT_take (i := 8) (v := .agg #[.int .i64 c3, .slice ra k3.length rk]) rfl (by kernel_rfl) (by kernel_rfl) (by kernel_rfl) (by kernel_rfl) (by kernel_rfl) (by kernel_rfl) (by kernel_rfl) (by kernel_rfl) (fun _ _ _ h => h) (Or.inl ⟨by rfl, ?_⟩) (mkS _ hb4) ?_
        · rintro w' ⟨s0, s1, s2, s3, s4⟩
          go_simp
        try simp only [Act.put]
        refine wpT_take (i := 9) (v := .int .u64 n3) rfl (by kernel_rfl) (by kernel_rfl) (by kernel_rfl) (by kernel_rfl) (by kernel_rfl) (by kernel_rfl) (by kernel_rfl) (by kernel_rfl) (fun _ _ _ h => h) (Or.inl ⟨by rfl, ?_⟩) (mkS _ hb4) ?_
        · rintro w' ⟨s0, s1, s2, s3, s4⟩
          go_simp
        try simp only [Act.put]
        refine wpT_take (i := 10) (v := er) rfl (by kernel_rfl) (by kernel_rfl) (by kernel_rfl) (by kernel_rfl) (by kernel_rfl) (by kernel_rfl) (by kernel_rfl) (by kernel_rfl) (fun _ _ _ h => h) (Or.inl ⟨by rfl, ?_⟩) (mkS _ hb4) ?_
        · rintro w' ⟨s0, s1, s2, s3, s4⟩
          go_simp
        try simp only [Act.put]
        have hsz : w11.heap.size < y4.heap.size := blt hX
        obtain ⟨x0, x1⟩ := cells2 hX
        have xf0 : y4.frozen? ⟨w11.heap.size, 0, none⟩ = false := by unfold World.frozen?; rw [hX]; simp
        have xf1 : y4.frozen? ⟨w11.heap.size, 1, none⟩ = false := by unfold World.frozen?; rw [hX]; simp
        have hbz : Below w11.heap.size w11 ((y4.setCell ⟨w11.heap.size, 0, none⟩ (.int .i64 c3)).setCell ⟨w11.heap.size, 1, none⟩ (.slice ra k3.length rk)) := (hb4.setCell (p := ⟨w11.heap.size, 0, none⟩) hXb _).setCell (p := ⟨w11.heap.size, 1, none⟩) hXb _
        have hx2 := (cells2 (heap_setCell_same _ _ 0 _ _ (.int .i64 c3) hX)).2
        have HF := Lib.hid (CfS.mk (X := ⟨(c3, k3), n3, e3, p3⟩) (heap_setCell_same _ _ 1 _ _ (.slice ra k3.length rk) (heap_setCell_same _ _ 0 _ _ (.int .i64 c3) hX)) ((hDi.setNe hDn 0 _).setNe hDn 1 _) ((herD.beside x1 0 _).beside hx2 1 _))
        clear hx2 hDi hDn herD
        refine wpT_one (i := 12) (by kernel_rfl) rfl ?_
        intro KK hKK
        go_simp
        refine hKK _ _ ⟨fun _ => mkS _ hbz, ?_⟩
        clear hKK x0 x1 xf0 xf1 hX hsz
        try simp only [Act.put]
        generalize (y4.setCell ⟨w11.heap.size, 0, none⟩ (.int .i64 c3)).setCell ⟨w11.heap.size, 1, none⟩ (.slice ra k3.length rk) = yz at *
        refine wpT_one (i := 13) (by kernel_rfl) rfl ?_
        intro KK hKK
        go_simp
        refine hKK _ _ ⟨fun _ => mkS _ hbz, ?_⟩
        clear hKK
        try simp only [Act.put]
        refine wpT_tail 14 1 rfl rfl (by kernel_rfl) (by kernel_rfl) ?_
        simp only [List.drop_succ_cons, List.drop_zero]
        go_wp2_with fail
        go_meet
        case rel => exact ⟨_, _, _, er, rfl, rfl, rfl, HF.out, hbz⟩
  case rest =>
  obtain ⟨Zb, qz, qzk, ez, rfl, rfl, rfl, hcz, hbz⟩ := hcut
  have H13 := Lib.hid (H11.out.step hbz)
  have HY13 := Lib.hid (HY11.out.step hbz)
  have HU13 := Lib.hid (HU11.out.step hbz)
  have HZ13 := Lib.hid hcz
  have hcr : ∀ r ∈ rs, 0 ≤ r.cost := fun r hr => by obtain ⟨i, hi⟩ := List.getElem?_of_mem hr; exact HCs.out i r hi
  clear hcz hbz H11 HY11 HU11 HD3
  by_cases hbad : e1 ≠ 0 ∨ e2 ≠ 0
  · have hbad3 : e3 ≠ 0 := by
      have h := joins_bad hcr (s0, st0) xa xb
      rw [HX1.out, HX2.out, HX3.out] at h
      exact h hbad
    obtain ⟨fz, rfl, -⟩ := HZ13.out.er.fb hbad3
    clear hbad3 hcr
    by_cases h1 : e1 = 0
    · have h2 : e2 ≠ 0 := hbad.resolve_left (fun h => h h1)
      subst h1
      obtain rfl := HY13.out.er.nil_of
      obtain ⟨fu, rfl, -⟩ := HU13.out.er.fb h2
      clear hbad h2
      unfold pf
      go_wp2_with fail
      go_ret
      exact ⟨rfl, H13.out.lr.below⟩
    · obtain ⟨fy, rfl, -⟩ := HY13.out.er.fb h1
      clear hbad h1
      unfold pf
      go_wp2_with fail
      go_ret
      exact ⟨rfl, H13.out.lr.below⟩
  obtain ⟨h1, h2⟩ : e1 = 0 ∧ e2 = 0 := by omega
  subst h1 h2
  have hj := joins_ok hcr (s0, st0) xa xb
  rw [HX1.out, HX2.out, HX3.out] at hj
  have hj0 := hj rfl
  have hjc : (c3, k3) = (c2, k2) := hj0.1
  have hje : e3 = 0 := hj0.2.1
  have HN3 : Hid (n3 = addI n1 n2) := Lib.hid hj0.2.2
  have e5 := congrArg Prod.fst hjc
  have e6 := congrArg Prod.snd hjc
  simp only [] at e5 e6
  subst e5 e6 hje
  have hn1 : 0 ≤ n1 := by have h := (goC_bd hcr xa 0 (s0, st0) 0 (by omega) (by decide)).1; rw [HX1.out] at h; exact h
  have hn2 : 0 ≤ n2 := by have h := (goC_bd hcr xb 0 (c1, k1) 0 (by omega) (by decide)).1; rw [HX2.out] at h; exact h
  have HAd := Lib.hid (fun W => add_any n1 n2 hn1 hn2 W)
  rw [← HN3.out] at HAd
  clear hj hj0 hjc hn1 hn2 hcr hbad HN3 HX1 HX2
  obtain rfl := HY13.out.er.nil_of
  obtain rfl := HU13.out.er.nil_of
  obtain rfl := HZ13.out.er.nil_of
  have HSm := Lib.hid (same21_any c3 c3 k3 k3 _ _ _ HU13.out.ii HZ13.out.ii (by have := HLn.out; show k3.length ≤ 1000000; omega))
  rw [sameC_same] at HSm
  obtain ⟨y0', y1'⟩ := cells2 HU13.out.box
  obtain ⟨z0', z1'⟩ := cells2 HZ13.out.box
  go_upto_region 12 with (first
    | (go_at_call 9; refine HSm.out.mono ?_; rintro e w4 ⟨rfl, b14⟩)
    | (go_at_call 10; refine (HAd.out _).mono ?_; rintro e w14 ⟨rfl, rfl⟩))
  have H14 := Lib.hid (H13.out.step b14)
  have HZ14 := Lib.hid (HZ13.out.step b14)
  clear b14 y0' y1' z0' z1' HSm HAd HY13 HU13 H13 HZ13
  obtain ⟨k4, HK4⟩ : ∃ k, Hid (k3 ++ xl = k) := ⟨_, Lib.hid rfl⟩
  have HX4 : Hid (goC rs (xa ++ xb) 0 (s0, st0 ++ xl) 0 = ⟨(c3, k4), n3, 0, p3⟩) := Lib.hid (by
    have h := goC_below xl (xa ++ xb) 0 (s0, st0) 0 (by rw [HX3.out])
    rw [HX3.out] at h
    rw [← HK4.out]
    exact h)
  have hl4 : k4.length ≤ 240 := by rw [← HK4.out, List.length_append]; have := HLn.out; omega
  have HL4 := Lib.hid hl4
  clear hl4
  have HD4 := Lib.hid (fun W (hb : Below w14.heap.size w14 W) (t t' : Value) (h : IntsAt W t (st0 ++ xl)) (h' : IntsAt W t' (xa ++ xb)) => pdsDo_any S L _ rs (s0, st0 ++ xl) t (xa ++ xb) t' W (H14.out.step hb).lr.rs (HN.out.2.mono (by decide)) HCs.out (by have := HN.out.1; omega) h h' (by have := HLn.out; show (st0 ++ xl).length + 100 * (xa ++ xb).length ≤ 50000; rw [List.length_append, List.length_append]; omega))
  rw [HX4.out] at HD4
  clear HX4 HX3
  go_cut [20, 21, 22] (fun v20 v21 v22 wx => ∃ (Wb : Nat) (ra : Option Addr) (rk : Nat) (er : Value), v20 = .pointer (some ⟨Wb, 0, none⟩) ∧ v21 = .int .u64 n3 ∧ v22 = er ∧ CfS Wb ⟨(c3, k4), n3, 0, p3⟩ (.slice ra k4.length rk) er wx ∧ Below w14.heap.size w14 wx)
  case first =>
    have hbd := (Below.refl w14.heap.size w14).drew
    refine region_T (fun W : World => W.cell? ⟨w.heap.size, 0, none⟩ = some (.int .i64 S) ∧ W.cell? ⟨w.heap.size, 1, none⟩ = some (.int .i64 L) ∧ W.cell? ⟨w.heap.size, 2, none⟩ = some (.slice va rs.length vc) ∧ W.cell? ⟨w.heap.size + 1, 0, none⟩ = some (.int .i64 s0) ∧ W.cell? ⟨w.heap.size + 1, 1, none⟩ = some (.slice za st0.length zc)) 21 (by kernel_rfl) ?_
    have mkS : ∀ W, Below w14.heap.size w14 W → W.cell? ⟨w.heap.size, 0, none⟩ = some (.int .i64 S) ∧ W.cell? ⟨w.heap.size, 1, none⟩ = some (.int .i64 L) ∧ W.cell? ⟨w.heap.size, 2, none⟩ = some (.slice va rs.length vc) ∧ W.cell? ⟨w.heap.size + 1, 0, none⟩ = some (.int .i64 s0) ∧ W.cell? ⟨w.heap.size + 1, 1, none⟩ = some (.slice za st0.length zc) :=
      fun W hb => ⟨(cells3 (H14.out.step hb).lr.sys).1, (cells3 (H14.out.step hb).lr.sys).2.1, (cells3 (H14.out.step hb).lr.sys).2.2, (cells2 (H14.out.step hb).lr.cfg).1, (cells2 (H14.out.step hb).lr.cfg).2⟩
    refine wpT_take (i := 0) (v := .agg #[.int .i64 S, .int .i64 L, .slice va rs.length vc]) rfl (by kernel_rfl) (by kernel_rfl) (by kernel_rfl) (by kernel_rfl) (by kernel_rfl) (by kernel_rfl) (by kernel_rfl) (by kernel_rfl) (fun _ _ _ h => h) (Or.inl ⟨by rfl, ?_⟩) (mkS _ hbd) ?_
    · rintro w' ⟨s0, s1, s2, s3, s4⟩
      go_simp
    try simp only [Act.put]
    refine wpT_take (i := 1) (v := .pointer (some ⟨w.heap.size + 1, 0, none⟩)) rfl (by kernel_rfl) (by kernel_rfl) (by kernel_rfl) (by kernel_rfl) (by kernel_rfl) (by kernel_rfl) (by kernel_rfl) (by kernel_rfl) (fun _ _ _ h => h) (Or.inl ⟨by rfl, ?_⟩) (mkS _ hbd) ?_
    · rintro w' ⟨s0, s1, s2, s3, s4⟩
      go_simp
    try simp only [Act.put]
    refine wpT_take (i := 2) (v := .int .i64 s0) rfl (by kernel_rfl) (by kernel_rfl) (by kernel_rfl) (by kernel_rfl) (by kernel_rfl) (by kernel_rfl) (by kernel_rfl) (by kernel_rfl) (fun _ _ _ h => h) (Or.inl ⟨by rfl, ?_⟩) (mkS _ hbd) ?_
    · rintro w' ⟨s0, s1, s2, s3, s4⟩
      go_simp
    try simp only [Act.put]
    refine wpT_take (i := 3) (v := .pointer (some ⟨w.heap.size + 1, 1, none⟩)) rfl (by kernel_rfl) (by kernel_rfl) (by kernel_rfl) (by kernel_rfl) (by kernel_rfl) (by kernel_rfl) (by kernel_rfl) (by kernel_rfl) (fun _ _ _ h => h) (Or.inl ⟨by rfl, ?_⟩) (mkS _ hbd) ?_
    · rintro w' ⟨s0, s1, s2, s3, s4⟩
      go_simp
    try simp only [Act.put]
    refine wpT_take (i := 4) (v := .slice za st0.length zc) rfl (by kernel_rfl) (by kernel_rfl) (by kernel_rfl) (by kernel_rfl) (by kernel_rfl) (by kernel_rfl) (by kernel_rfl) (by kernel_rfl) (fun _ _ _ h => h) (Or.inl ⟨by rfl, ?_⟩) (mkS _ hbd) ?_
    · rintro w' ⟨s0, s1, s2, s3, s4⟩
      go_simp
    try simp only [Act.put]
    refine wpT_take (i := 5) (v := .slice xla xl.length xlc) rfl (by kernel_rfl) (by kernel_rfl) (by kernel_rfl) (by kernel_rfl) (by kernel_rfl) (by kernel_rfl) (by kernel_rfl) (by kernel_rfl) (fun _ _ _ h => h) (Or.inl ⟨by rfl, ?_⟩) (mkS _ hbd) ?_
    · rintro w' ⟨s0, s1, s2, s3, s4⟩
      go_simp
    try simp only [Act.put]
    refine wpT_take (i := 9) (v := .slice xaa xa.length xac) rfl (by kernel_rfl) (by kernel_rfl) (by kernel_rfl) (by kernel_rfl) (by kernel_rfl) (by kernel_rfl) (by kernel_rfl) (by kernel_rfl) (fun _ _ _ h => h) (Or.inl ⟨by rfl, ?_⟩) (mkS _ hbd) ?_
    · rintro w' ⟨s0, s1, s2, s3, s4⟩
      go_simp
    try simp only [Act.put]
    refine wpT_take (i := 10) (v := .slice xba xb.length xbc) rfl (by kernel_rfl) (by kernel_rfl) (by kernel_rfl) (by kernel_rfl) (by kernel_rfl) (by kernel_rfl) (by kernel_rfl) (by kernel_rfl) (fun _ _ _ h => h) (Or.inl ⟨by rfl, ?_⟩) (mkS _ hbd) ?_
    · rintro w' ⟨s0, s1, s2, s3, s4⟩
      go_simp
    try simp only [Act.put]
    refine wpT_three (i := 6) (j := 11) (k := 18) (by kernel_rfl) rfl rfl rfl ?_ ?_ ?_
    · as_aux_lemma =>
        intro KK hKK
        go_simp
        have hb1 : Below w14.heap.size w14 (w14.alloc (.cells #[.slice za st0.length zc, .slice xla xl.length xlc] 25)).drew := (sbelow_new w14 (.cells #[.slice za st0.length zc, .slice xla xl.length xlc] 25)).drew
        have hA1 : (w14.alloc (.cells #[.slice za st0.length zc, .slice xla xl.length xlc] 25)).drew.heap[w14.heap.size]? = some (.cells #[.slice za st0.length zc, .slice xla xl.length xlc] 25 (0, 0)) := heap_alloc_new w14 (.cells #[.slice za st0.length zc, .slice xla xl.length xlc] 25)
        refine hKK _ _ ⟨fun _ => mkS _ hb1, ?_⟩
        clear hKK
        try simp only [Act.put]
        generalize (w14.alloc (.cells #[.slice za st0.length zc, .slice xla xl.length xlc] 25)).drew = y1 at *
        refine wpT_three (i := 7) (j := 11) (k := 18) (by kernel_rfl) rfl rfl rfl ?_ ?_ ?_
        · as_aux_lemma =>
            intro KK hKK
            go_simp
            refine (concatI_any (w14.heap.size) _ _ st0 xl y1 (blt hA1) (cells2 hA1).1 (cells2 hA1).2 ((H14.out.step hb1).lr.st) ((H14.out.step hb1).z) (by have := HLn.out; omega) (by have := HLn.out; omega)).mono ?_
            rintro e y2 ⟨gc, rfl, hownc, b2⟩
            obtain ⟨gac, gcc, rfl⟩ := row_slice hownc
            have hCc := IntsAt.own hownc (by rw [List.length_append])
            clear hownc
            have hb2 := hb1.trans (b2.mono hb1.size)
            replace hA1 := blk hA1 b2
            refine hKK _ _ ⟨fun _ => mkS _ hb2, ?_⟩
            clear hKK
            try simp only [Act.put]
            refine wpT_take (i := 8) (v := .agg #[.int .i64 s0, .slice gac (st0.length + xl.length) gcc]) rfl (by kernel_rfl) (by kernel_rfl) (by kernel_rfl) (by kernel_rfl) (by kernel_rfl) (by kernel_rfl) (by kernel_rfl) (by kernel_rfl) (fun _ _ _ h => h) (Or.inl ⟨by rfl, ?_⟩) (mkS _ hb2) ?_
            · rintro w' ⟨s0, s1, s2, s3, s4⟩
              go_simp
            try simp only [Act.put]
            refine wpT_two (i := 11) (i' := 18) (by kernel_rfl) rfl rfl ?_ ?_
            · as_aux_lemma =>
                intro KK hKK
                go_simp
                have b3 := sbelow_new y2 (.cells #[.slice xaa xa.length xac, .slice xba xb.length xbc] 25)
                have hb3 := hb2.trans (b3.mono hb2.size)
                have hA2 := heap_alloc_new y2 (.cells #[.slice xaa xa.length xac, .slice xba xb.length xbc] 25)
                replace hA1 := blk hA1 b3
                replace hCc := hCc.step b3
                refine hKK _ _ ⟨fun _ => mkS _ hb3, ?_⟩
                clear hKK
                try simp only [Act.put]
                generalize y2.alloc (.cells #[.slice xaa xa.length xac, .slice xba xb.length xbc] 25) = y3 at *
                refine wpT_two (i := 12) (i' := 18) (by kernel_rfl) rfl rfl ?_ ?_
                · as_aux_lemma =>
                    intro KK hKK
                    go_simp
                    refine (concatI_any (y2.heap.size) _ _ xa xb y3 (blt hA2) (cells2 hA2).1 (cells2 hA2).2 ((H14.out.step hb3).lr.xs) ((H14.out.step hb3).b) (by have := HLn.out; omega) (by have := HLn.out; omega)).mono ?_
                    rintro e y4 ⟨gd, rfl, hownd, b4⟩
                    obtain ⟨gad, gcd, rfl⟩ := row_slice hownd
                    have hCd := IntsAt.own hownd (by rw [List.length_append])
                    clear hownd
                    have hb4 := hb3.trans (b4.mono hb3.size)
                    replace hA1 := blk hA1 b4
                    replace hCc := hCc.step b4
                    replace hA2 := blk hA2 b4
                    refine hKK _ _ ⟨fun _ => mkS _ hb4, ?_⟩
                    clear hKK
                    try simp only [Act.put]
                    refine wpT_two (i := 13) (i' := 18) (by kernel_rfl) rfl rfl ?_ ?_
                    · as_aux_lemma =>
                        intro KK hKK
                        go_simp
                        refine (HD4.out y4 hb4 _ _ hCc hCd).mono ?_
                        rintro e y5 ⟨ra, rk, er, rfl, hownD, herD, b5⟩
                        have hDi := IntsAt.own hownD rfl
                        clear hownD
                        have hb5 := hb4.trans (b5.mono hb4.size)
                        replace hA1 := blk hA1 b5
                        replace hCc := hCc.step b5
                        replace hA2 := blk hA2 b5
                        replace hCd := hCd.step b5
                        refine hKK _ _ ⟨fun _ => mkS _ hb5, ?_⟩
                        clear hKK
                        try simp only []
                        refine wpT_take (i := 14) (v := .tuple #[.agg #[.int .i64 c3, .slice ra k4.length rk], .int .u64 n3, er]) rfl (by kernel_rfl) (by kernel_rfl) (by kernel_rfl) (by kernel_rfl) (by kernel_rfl) (by kernel_rfl) (by kernel_rfl) (by kernel_rfl) (fun _ _ _ h => h) (Or.inl ⟨by rfl, ?_⟩) (mkS _ hb5) ?_
                        · rintro w' ⟨s0, s1, s2, s3, s4⟩
                          go_simp
                        try simp only [Act.put]
                        refine wpT_take (i := 15) (v := .agg #[.int .i64 c3, .slice ra k4.length rk]) rfl (by kernel_rfl) (by kernel_rfl) (by kernel_rfl) (by kernel_rfl) (by kernel_rfl) (by kernel_rfl) (by kernel_rfl) (by kernel_rfl) (fun _ _ _ h => h) (Or.inl ⟨by rfl, ?_⟩) (mkS _ hb5) ?_
                        · rintro w' ⟨s0, s1, s2, s3, s4⟩
                          go_simp
                        try simp only [Act.put]
                        refine wpT_take (i := 16) (v := .int .u64 n3) rfl (by kernel_rfl) (by kernel_rfl) (by kernel_rfl) (by kernel_rfl) (by kernel_rfl) (by kernel_rfl) (by kernel_rfl) (by kernel_rfl) (fun _ _ _ h => h) (Or.inl ⟨by rfl, ?_⟩) (mkS _ hb5) ?_
                        · rintro w' ⟨s0, s1, s2, s3, s4⟩
                          go_simp
                        try simp only [Act.put]
                        refine wpT_take (i := 17) (v := er) rfl (by kernel_rfl) (by kernel_rfl) (by kernel_rfl) (by kernel_rfl) (by kernel_rfl) (by kernel_rfl) (by kernel_rfl) (by kernel_rfl) (fun _ _ _ h => h) (Or.inl ⟨by rfl, ?_⟩) (mkS _ hb5) ?_
                        · rintro w' ⟨s0, s1, s2, s3, s4⟩
                          go_simp
                        try simp only [Act.put]
                        refine wpT_one (i := 18) (by kernel_rfl) rfl ?_
                        intro KK hKK
                        go_simp
                        have b6 := sbelow_new y5 (.cells #[.int .i64 0, .slice none 0 0] 27)
                        have hb6 := hb5.trans (b6.mono hb5.size)
                        have hX := heap_alloc_new y5 (.cells #[.int .i64 0, .slice none 0 0] 27)
                        have hXb : w14.heap.size ≤ y5.heap.size := hb5.size
                        have hDn := fun ad e h => Nat.ne_of_lt (hDi.blk ad e h)
                        replace hA1 := blk hA1 b6
                        replace hCc := hCc.step b6
                        replace hA2 := blk hA2 b6
                        replace hCd := hCd.step b6
                        replace hDi := hDi.step b6
                        replace herD := herD.keep b6
                        refine hKK _ _ ⟨fun _ => mkS _ hb6, ?_⟩
                        clear hKK
                        try simp only [Act.put]
                        generalize y5.alloc (.cells #[.int .i64 0, .slice none 0 0] 27) = y6 at *
                        have hsz : y5.heap.size < y6.heap.size := blt hX
                        obtain ⟨x0, x1⟩ := cells2 hX
                        have xf0 : y6.frozen? ⟨y5.heap.size, 0, none⟩ = false := by unfold World.frozen?; rw [hX]; simp
                        have xf1 : y6.frozen? ⟨y5.heap.size, 1, none⟩ = false := by unfold World.frozen?; rw [hX]; simp
                        have hbz : Below w14.heap.size w14 ((y6.setCell ⟨y5.heap.size, 0, none⟩ (.int .i64 c3)).setCell ⟨y5.heap.size, 1, none⟩ (.slice ra k4.length rk)) := (hb6.setCell (p := ⟨y5.heap.size, 0, none⟩) hXb _).setCell (p := ⟨y5.heap.size, 1, none⟩) hXb _
                        have hx2 := (cells2 (heap_setCell_same _ _ 0 _ _ (.int .i64 c3) hX)).2
                        have HF := Lib.hid (CfS.mk (X := ⟨(c3, k4), n3, 0, p3⟩) (heap_setCell_same _ _ 1 _ _ (.slice ra k4.length rk) (heap_setCell_same _ _ 0 _ _ (.int .i64 c3) hX)) ((hDi.setNe hDn 0 _).setNe hDn 1 _) ((herD.beside x1 0 _).beside hx2 1 _))
                        clear hx2 hDi hDn herD
                        refine wpT_one (i := 19) (by kernel_rfl) rfl ?_
                        intro KK hKK
                        go_simp
                        refine hKK _ _ ⟨fun _ => mkS _ hbz, ?_⟩
                        clear hKK x0 x1 xf0 xf1 hX hsz
                        try simp only [Act.put]
                        generalize (y6.setCell ⟨y5.heap.size, 0, none⟩ (.int .i64 c3)).setCell ⟨y5.heap.size, 1, none⟩ (.slice ra k4.length rk) = yz at *
                        refine wpT_one (i := 20) (by kernel_rfl) rfl ?_
                        intro KK hKK
                        go_simp
                        refine hKK _ _ ⟨fun _ => mkS _ hbz, ?_⟩
                        clear hKK
                        try simp only [Act.put]
                        refine wpT_tail 21 1 rfl rfl (by kernel_rfl) (by kernel_rfl) ?_
                        simp only [List.drop_succ_cons, List.drop_zero]
                        go_wp2_with fail
                        go_meet
                        case rel => exact ⟨_, _, _, er, rfl, rfl, rfl, HF.out, hbz⟩
                    · as_aux_lemma =>
                        intro KK hKK
                        go_simp
                        have b5 := sbelow_new y4 (.cells #[.int .i64 0, .slice none 0 0] 27)
                        have hb5 := hb4.trans (b5.mono hb4.size)
                        have hX := heap_alloc_new y4 (.cells #[.int .i64 0, .slice none 0 0] 27)
                        have hXb : w14.heap.size ≤ y4.heap.size := hb4.size
                        replace hA1 := blk hA1 b5
                        replace hCc := hCc.step b5
                        replace hA2 := blk hA2 b5
                        replace hCd := hCd.step b5
                        refine hKK _ _ ⟨fun _ => mkS _ hb5, ?_⟩
                        clear hKK
                        try simp only [Act.put]
                        generalize y4.alloc (.cells #[.int .i64 0, .slice none 0 0] 27) = y5 at *
                        refine wpT_one (i := 13) (by kernel_rfl) rfl ?_
                        intro KK hKK
                        go_simp
                        refine (HD4.out y5 hb5 _ _ hCc hCd).mono ?_
                        rintro e y6 ⟨ra, rk, er, rfl, hownD, herD, b6⟩
                        have hDi := IntsAt.own hownD rfl
                        have hDn : ∀ ad, ra = some ad → 0 < k4.length → ad.block ≠ y4.heap.size := fun ad e h => by
                          have h1 := (hownD.lt ad.block (by rw [e]; rfl)).1
                          have h2 := blt hX
                          omega
                        clear hownD
                        have hb6 := hb5.trans (b6.mono hb5.size)
                        replace hA1 := blk hA1 b6
                        replace hCc := hCc.step b6
                        replace hA2 := blk hA2 b6
                        replace hCd := hCd.step b6
                        replace hX := blk hX b6
                        refine hKK _ _ ⟨fun _ => mkS _ hb6, ?_⟩
                        clear hKK
                        try simp only []
                        refine wpT_take (i := 14) (v := .tuple #[.agg #[.int .i64 c3, .slice ra k4.length rk], .int .u64 n3, er]) rfl (by kernel_rfl) (by kernel_rfl) (by kernel_rfl) (by kernel_rfl) (by kernel_rfl) (by kernel_rfl) (by kernel_rfl) (by kernel_rfl) (fun _ _ _ h => h) (Or.inl ⟨by rfl, ?_⟩) (mkS _ hb6) ?_
                        · rintro w' ⟨s0, s1, s2, s3, s4⟩
                          go_simp
                        try simp only [Act.put]
                        refine wpT_take (i := 15) (v := .agg #[.int .i64 c3, .slice ra k4.length rk]) rfl (by kernel_rfl) (by kernel_rfl) (by kernel_rfl) (by kernel_rfl) (by kernel_rfl) (by kernel_rfl) (by kernel_rfl) (by kernel_rfl) (fun _ _ _ h => h) (Or.inl ⟨by rfl, ?_⟩) (mkS _ hb6) ?_
                        · rintro w' ⟨s0, s1, s2, s3, s4⟩
                          go_simp
                        try simp only [Act.put]
                        refine wpT_take (i := 16) (v := .int .u64 n3) rfl (by kernel_rfl) (by kernel_rfl) (by kernel_rfl) (by kernel_rfl) (by kernel_rfl) (by kernel_rfl) (by kernel_rfl) (by kernel_rfl) (fun _ _ _ h => h) (Or.inl ⟨by rfl, ?_⟩) (mkS _ hb6) ?_
                        · rintro w' ⟨s0, s1, s2, s3, s4⟩
                          go_simp
                        try simp only [Act.put]
                        refine wpT_take (i := 17) (v := er) rfl (by kernel_rfl) (by kernel_rfl) (by kernel_rfl) (by kernel_rfl) (by kernel_rfl) (by kernel_rfl) (by kernel_rfl) (by kernel_rfl) (fun _ _ _ h => h) (Or.inl ⟨by rfl, ?_⟩) (mkS _ hb6) ?_
                        · rintro w' ⟨s0, s1, s2, s3, s4⟩
                          go_simp
                        try simp only [Act.put]
                        have hsz : y4.heap.size < y6.heap.size := blt hX
                        obtain ⟨x0, x1⟩ := cells2 hX
                        have xf0 : y6.frozen? ⟨y4.heap.size, 0, none⟩ = false := by unfold World.frozen?; rw [hX]; simp
                        have xf1 : y6.frozen? ⟨y4.heap.size, 1, none⟩ = false := by unfold World.frozen?; rw [hX]; simp
                        have hbz : Below w14.heap.size w14 ((y6.setCell ⟨y4.heap.size, 0, none⟩ (.int .i64 c3)).setCell ⟨y4.heap.size, 1, none⟩ (.slice ra k4.length rk)) := (hb6.setCell (p := ⟨y4.heap.size, 0, none⟩) hXb _).setCell (p := ⟨y4.heap.size, 1, none⟩) hXb _
                        have hx2 := (cells2 (heap_setCell_same _ _ 0 _ _ (.int .i64 c3) hX)).2
                        have HF := Lib.hid (CfS.mk (X := ⟨(c3, k4), n3, 0, p3⟩) (heap_setCell_same _ _ 1 _ _ (.slice ra k4.length rk) (heap_setCell_same _ _ 0 _ _ (.int .i64 c3) hX)) ((hDi.setNe hDn 0 _).setNe hDn 1 _) ((herD.beside x1 0 _).beside hx2 1 _))
                        clear hx2 hDi hDn herD
                        refine wpT_one (i := 19) (by kernel_rfl) rfl ?_
                        intro KK hKK
                        go_simp
                        refine hKK _ _ ⟨fun _ => mkS _ hbz, ?_⟩
                        clear hKK x0 x1 xf0 xf1 hX hsz
                        try simp only [Act.put]
                        generalize (y6.setCell ⟨y4.heap.size, 0, none⟩ (.int .i64 c3)).setCell ⟨y4.heap.size, 1, none⟩ (.slice ra k4.length rk) = yz at *
                        refine wpT_one (i := 20) (by kernel_rfl) rfl ?_
                        intro KK hKK
                        go_simp
                        refine hKK _ _ ⟨fun _ => mkS _ hbz, ?_⟩
                        clear hKK
                        try simp only [Act.put]
                        refine wpT_tail 21 1 rfl rfl (by kernel_rfl) (by kernel_rfl) ?_
                        simp only [List.drop_succ_cons, List.drop_zero]
                        go_wp2_with fail
                        go_meet
                        case rel => exact ⟨_, _, _, er, rfl, rfl, rfl, HF.out, hbz⟩
                · as_aux_lemma =>
                    intro KK hKK
                    go_simp
                    have b4 := sbelow_new y3 (.cells #[.int .i64 0, .slice none 0 0] 27)
                    have hb4 := hb3.trans (b4.mono hb3.size)
                    have hX := heap_alloc_new y3 (.cells #[.int .i64 0, .slice none 0 0] 27)
                    have hXb : w14.heap.size ≤ y3.heap.size := hb3.size
                    replace hA1 := blk hA1 b4
                    replace hCc := hCc.step b4
                    replace hA2 := blk hA2 b4
                    refine hKK _ _ ⟨fun _ => mkS _ hb4, ?_⟩
                    clear hKK
                    try simp only [Act.put]
                    generalize y3.alloc (.cells #[.int .i64 0, .slice none 0 0] 27) = y4 at *
                    refine wpT_one (i := 12) (by kernel_rfl) rfl ?_
                    intro KK hKK
                    go_simp
                    refine (concatI_any (y2.heap.size) _ _ xa xb y4 (blt hA2) (cells2 hA2).1 (cells2 hA2).2 ((H14.out.step hb4).lr.xs) ((H14.out.step hb4).b) (by have := HLn.out; omega) (by have := HLn.out; omega)).mono ?_
                    rintro e y5 ⟨gd, rfl, hownd, b5⟩
                    obtain ⟨gad, gcd, rfl⟩ := row_slice hownd
                    have hCd := IntsAt.own hownd (by rw [List.length_append])
                    clear hownd
                    have hb5 := hb4.trans (b5.mono hb4.size)
                    replace hA1 := blk hA1 b5
                    replace hCc := hCc.step b5
                    replace hA2 := blk hA2 b5
                    replace hX := blk hX b5
                    refine hKK _ _ ⟨fun _ => mkS _ hb5, ?_⟩
                    clear hKK
                    try simp only [Act.put]
                    refine wpT_one (i := 13) (by kernel_rfl) rfl ?_
                    intro KK hKK
                    go_simp
                    refine (HD4.out y5 hb5 _ _ hCc hCd).mono ?_
                    rintro e y6 ⟨ra, rk, er, rfl, hownD, herD, b6⟩
                    have hDi := IntsAt.own hownD rfl
                    have hDn : ∀ ad, ra = some ad → 0 < k4.length → ad.block ≠ y3.heap.size := fun ad e h => by
                      have h1 := (hownD.lt ad.block (by rw [e]; rfl)).1
                      have h2 := blt hX
                      omega
                    clear hownD
                    have hb6 := hb5.trans (b6.mono hb5.size)
                    replace hA1 := blk hA1 b6
                    replace hCc := hCc.step b6
                    replace hA2 := blk hA2 b6
                    replace hX := blk hX b6
                    replace hCd := hCd.step b6
                    refine hKK _ _ ⟨fun _ => mkS _ hb6, ?_⟩
                    clear hKK
                    try simp only []
                    refine wpT_take (i := 14) (v := .tuple #[.agg #[.int .i64 c3, .slice ra k4.length rk], .int .u64 n3, er]) rfl (by kernel_rfl) (by kernel_rfl) (by kernel_rfl) (by kernel_rfl) (by kernel_rfl) (by kernel_rfl) (by kernel_rfl) (by kernel_rfl) (fun _ _ _ h => h) (Or.inl ⟨by rfl, ?_⟩) (mkS _ hb6) ?_
                    · rintro w' ⟨s0, s1, s2, s3, s4⟩
                      go_simp
                    try simp only [Act.put]
                    refine wpT_take (i := 15) (v := .agg #[.int .i64 c3, .slice ra k4.length rk]) rfl (by kernel_rfl) (by kernel_rfl) (by kernel_rfl) (by kernel_rfl) (by kernel_rfl) (by kernel_rfl) (by kernel_rfl) (by kernel_rfl) (fun _ _ _ h => h) (Or.inl ⟨by rfl, ?_⟩) (mkS _ hb6) ?_
                    · rintro w' ⟨s0, s1, s2, s3, s4⟩
                      go_simp
                    try simp only [Act.put]
                    refine wpT_take (i := 16) (v := .int .u64 n3) rfl (by kernel_rfl) (by kernel_rfl) (by kernel_rfl) (by kernel_rfl) (by kernel_rfl) (by kernel_rfl) (by kernel_rfl) (by kernel_rfl) (fun _ _ _ h => h) (Or.inl ⟨by rfl, ?_⟩) (mkS _ hb6) ?_
                    · rintro w' ⟨s0, s1, s2, s3, s4⟩
                      go_simp
                    try simp only [Act.put]
                    refine wpT_take (i := 17) (v := er) rfl (by kernel_rfl) (by kernel_rfl) (by kernel_rfl) (by kernel_rfl) (by kernel_rfl) (by kernel_rfl) (by kernel_rfl) (by kernel_rfl) (fun _ _ _ h => h) (Or.inl ⟨by rfl, ?_⟩) (mkS _ hb6) ?_
                    · rintro w' ⟨s0, s1, s2, s3, s4⟩
                      go_simp
                    try simp only [Act.put]
                    have hsz : y3.heap.size < y6.heap.size := blt hX
                    obtain ⟨x0, x1⟩ := cells2 hX
                    have xf0 : y6.frozen? ⟨y3.heap.size, 0, none⟩ = false := by unfold World.frozen?; rw [hX]; simp
                    have xf1 : y6.frozen? ⟨y3.heap.size, 1, none⟩ = false := by unfold World.frozen?; rw [hX]; simp
                    have hbz : Below w14.heap.size w14 ((y6.setCell ⟨y3.heap.size, 0, none⟩ (.int .i64 c3)).setCell ⟨y3.heap.size, 1, none⟩ (.slice ra k4.length rk)) := (hb6.setCell (p := ⟨y3.heap.size, 0, none⟩) hXb _).setCell (p := ⟨y3.heap.size, 1, none⟩) hXb _
                    have hx2 := (cells2 (heap_setCell_same _ _ 0 _ _ (.int .i64 c3) hX)).2
                    have HF := Lib.hid (CfS.mk (X := ⟨(c3, k4), n3, 0, p3⟩) (heap_setCell_same _ _ 1 _ _ (.slice ra k4.length rk) (heap_setCell_same _ _ 0 _ _ (.int .i64 c3) hX)) ((hDi.setNe hDn 0 _).setNe hDn 1 _) ((herD.beside x1 0 _).beside hx2 1 _))
                    clear hx2 hDi hDn herD
                    refine wpT_one (i := 19) (by kernel_rfl) rfl ?_
                    intro KK hKK
                    go_simp
                    refine hKK _ _ ⟨fun _ => mkS _ hbz, ?_⟩
                    clear hKK x0 x1 xf0 xf1 hX hsz
                    try simp only [Act.put]
                    generalize (y6.setCell ⟨y3.heap.size, 0, none⟩ (.int .i64 c3)).setCell ⟨y3.heap.size, 1, none⟩ (.slice ra k4.length rk) = yz at *
                    refine wpT_one (i := 20) (by kernel_rfl) rfl ?_
                    intro KK hKK
                    go_simp
                    refine hKK _ _ ⟨fun _ => mkS _ hbz, ?_⟩
                    clear hKK
                    try simp only [Act.put]
                    refine wpT_tail 21 1 rfl rfl (by kernel_rfl) (by kernel_rfl) ?_
                    simp only [List.drop_succ_cons, List.drop_zero]
                    go_wp2_with fail
                    go_meet
                    case rel => exact ⟨_, _, _, er, rfl, rfl, rfl, HF.out, hbz⟩
            · as_aux_lemma =>
                intro KK hKK
                go_simp
                have b3 := sbelow_new y2 (.cells #[.int .i64 0, .slice none 0 0] 27)
                have hb3 := hb2.trans (b3.mono hb2.size)
                have hX := heap_alloc_new y2 (.cells #[.int .i64 0, .slice none 0 0] 27)
                have hXb : w14.heap.size ≤ y2.heap.size := hb2.size
                replace hA1 := blk hA1 b3
                replace hCc := hCc.step b3
                refine hKK _ _ ⟨fun _ => mkS _ hb3, ?_⟩
                clear hKK
                try simp only [Act.put]
                generalize y2.alloc (.cells #[.int .i64 0, .slice none 0 0] 27) = y3 at *
                refine wpT_one (i := 11) (by kernel_rfl) rfl ?_
                intro KK hKK
                go_simp
                have b4 := sbelow_new y3 (.cells #[.slice xaa xa.length xac, .slice xba xb.length xbc] 25)
                have hb4 := hb3.trans (b4.mono hb3.size)
                have hA2 := heap_alloc_new y3 (.cells #[.slice xaa xa.length xac, .slice xba xb.length xbc] 25)
                replace hA1 := blk hA1 b4
                replace hCc := hCc.step b4
                replace hX := blk hX b4
                refine hKK _ _ ⟨fun _ => mkS _ hb4, ?_⟩
                clear hKK
                try simp only [Act.put]
                generalize y3.alloc (.cells #[.slice xaa xa.length xac, .slice xba xb.length xbc] 25) = y4 at *
                refine wpT_one (i := 12) (by kernel_rfl) rfl ?_
                intro KK hKK
                go_simp
                refine (concatI_any (y3.heap.size) _ _ xa xb y4 (blt hA2) (cells2 hA2).1 (cells2 hA2).2 ((H14.out.step hb4).lr.xs) ((H14.out.step hb4).b) (by have := HLn.out; omega) (by have := HLn.out; omega)).mono ?_
                rintro e y5 ⟨gd, rfl, hownd, b5⟩
                obtain ⟨gad, gcd, rfl⟩ := row_slice hownd
                have hCd := IntsAt.own hownd (by rw [List.length_append])
                clear hownd
                have hb5 := hb4.trans (b5.mono hb4.size)
                replace hA1 := blk hA1 b5
                replace hCc := hCc.step b5
                replace hX := blk hX b5
                replace hA2 := blk hA2 b5
                refine hKK _ _ ⟨fun _ => mkS _ hb5, ?_⟩
                clear hKK
                try simp only [Act.put]
                refine wpT_one (i := 13) (by kernel_rfl) rfl ?_
                intro KK hKK
                go_simp
                refine (HD4.out y5 hb5 _ _ hCc hCd).mono ?_
                rintro e y6 ⟨ra, rk, er, rfl, hownD, herD, b6⟩
                have hDi := IntsAt.own hownD rfl
                have hDn : ∀ ad, ra = some ad → 0 < k4.length → ad.block ≠ y2.heap.size := fun ad e h => by
                  have h1 := (hownD.lt ad.block (by rw [e]; rfl)).1
                  have h2 := blt hX
                  omega
                clear hownD
                have hb6 := hb5.trans (b6.mono hb5.size)
                replace hA1 := blk hA1 b6
                replace hCc := hCc.step b6
                replace hX := blk hX b6
                replace hA2 := blk hA2 b6
                replace hCd := hCd.step b6
                refine hKK _ _ ⟨fun _ => mkS _ hb6, ?_⟩
                clear hKK
                try simp only []
                refine wpT_take (i := 14) (v := .tuple #[.agg #[.int .i64 c3, .slice ra k4.length rk], .int .u64 n3, er]) rfl (by kernel_rfl) (by kernel_rfl) (by kernel_rfl) (by kernel_rfl) (by kernel_rfl) (by kernel_rfl) (by kernel_rfl) (by kernel_rfl) (fun _ _ _ h => h) (Or.inl ⟨by rfl, ?_⟩) (mkS _ hb6) ?_
                · rintro w' ⟨s0, s1, s2, s3, s4⟩
                  go_simp
                try simp only [Act.put]
                refine wpT_take (i := 15) (v := .agg #[.int .i64 c3, .slice ra k4.length rk]) rfl (by kernel_rfl) (by kernel_rfl) (by kernel_rfl) (by kernel_rfl) (by kernel_rfl) (by kernel_rfl) (by kernel_rfl) (by kernel_rfl) (fun _ _ _ h => h) (Or.inl ⟨by rfl, ?_⟩) (mkS _ hb6) ?_
                · rintro w' ⟨s0, s1, s2, s3, s4⟩
                  go_simp
                try simp only [Act.put]
                refine wpT_take (i := 16) (v := .int .u64 n3) rfl (by kernel_rfl) (by kernel_rfl) (by kernel_rfl) (by kernel_rfl) (by kernel_rfl) (by kernel_rfl) (by kernel_rfl) (by kernel_rfl) (fun _ _ _ h => h) (Or.inl ⟨by rfl, ?_⟩) (mkS _ hb6) ?_
                · rintro w' ⟨s0, s1, s2, s3, s4⟩
                  go_simp
                try simp only [Act.put]
                refine wpT_take (i := 17) (v := er) rfl (by kernel_rfl) (by kernel_rfl) (by kernel_rfl) (by kernel_rfl) (by kernel_rfl) (by kernel_rfl) (by kernel_rfl) (by kernel_rfl) (fun _ _ _ h => h) (Or.inl ⟨by rfl, ?_⟩) (mkS _ hb6) ?_
                · rintro w' ⟨s0, s1, s2, s3, s4⟩
                  go_simp
                try simp only [Act.put]
                have hsz : y2.heap.size < y6.heap.size := blt hX
                obtain ⟨x0, x1⟩ := cells2 hX
                have xf0 : y6.frozen? ⟨y2.heap.size, 0, none⟩ = false := by unfold World.frozen?; rw [hX]; simp
                have xf1 : y6.frozen? ⟨y2.heap.size, 1, none⟩ = false := by unfold World.frozen?; rw [hX]; simp
                have hbz : Below w14.heap.size w14 ((y6.setCell ⟨y2.heap.size, 0, none⟩ (.int .i64 c3)).setCell ⟨y2.heap.size, 1, none⟩ (.slice ra k4.length rk)) := (hb6.setCell (p := ⟨y2.heap.size, 0, none⟩) hXb _).setCell (p := ⟨y2.heap.size, 1, none⟩) hXb _
                have hx2 := (cells2 (heap_setCell_same _ _ 0 _ _ (.int .i64 c3) hX)).2
                have HF := Lib.hid (CfS.mk (X := ⟨(c3, k4), n3, 0, p3⟩) (heap_setCell_same _ _ 1 _ _ (.slice ra k4.length rk) (heap_setCell_same _ _ 0 _ _ (.int .i64 c3) hX)) ((hDi.setNe hDn 0 _).setNe hDn 1 _) ((herD.beside x1 0 _).beside hx2 1 _))
                clear hx2 hDi hDn herD
                refine wpT_one (i := 19) (by kernel_rfl) rfl ?_
                intro KK hKK
                go_simp
                refine hKK _ _ ⟨fun _ => mkS _ hbz, ?_⟩
                clear hKK x0 x1 xf0 xf1 hX hsz
                try simp only [Act.put]
                generalize (y6.setCell ⟨y2.heap.size, 0, none⟩ (.int .i64 c3)).setCell ⟨y2.heap.size, 1, none⟩ (.slice ra k4.length rk) = yz at *
                refine wpT_one (i := 20) (by kernel_rfl) rfl ?_
                intro KK hKK
                go_simp
                refine hKK _ _ ⟨fun _ => mkS _ hbz, ?_⟩
                clear hKK
                try simp only [Act.put]
                refine wpT_tail 21 1 rfl rfl (by kernel_rfl) (by kernel_rfl) ?_
                simp only [List.drop_succ_cons, List.drop_zero]
                go_wp2_with fail
                go_meet
                case rel => exact ⟨_, _, _, er, rfl, rfl, rfl, HF.out, hbz⟩
        · as_aux_lemma =>
            intro KK hKK
            go_simp
            have b2 := sbelow_new y1 (.cells #[.slice xaa xa.length xac, .slice xba xb.length xbc] 25)
            have hb2 := hb1.trans (b2.mono hb1.size)
            have hA2 := heap_alloc_new y1 (.cells #[.slice xaa xa.length xac, .slice xba xb.length xbc] 25)
            replace hA1 := blk hA1 b2
            refine hKK _ _ ⟨fun _ => mkS _ hb2, ?_⟩
            clear hKK
            try simp only [Act.put]
            generalize y1.alloc (.cells #[.slice xaa xa.length xac, .slice xba xb.length xbc] 25) = y2 at *
            refine wpT_two (i := 7) (i' := 18) (by kernel_rfl) rfl rfl ?_ ?_
            · as_aux_lemma =>
                intro KK hKK
                go_simp
                refine (concatI_any (w14.heap.size) _ _ st0 xl y2 (blt hA1) (cells2 hA1).1 (cells2 hA1).2 ((H14.out.step hb2).lr.st) ((H14.out.step hb2).z) (by have := HLn.out; omega) (by have := HLn.out; omega)).mono ?_
                rintro e y3 ⟨gc, rfl, hownc, b3⟩
                obtain ⟨gac, gcc, rfl⟩ := row_slice hownc
                have hCc := IntsAt.own hownc (by rw [List.length_append])
                clear hownc
                have hb3 := hb2.trans (b3.mono hb2.size)
                replace hA1 := blk hA1 b3
                replace hA2 := blk hA2 b3
                refine hKK _ _ ⟨fun _ => mkS _ hb3, ?_⟩
                clear hKK
                try simp only [Act.put]
                refine wpT_take (i := 8) (v := .agg #[.int .i64 s0, .slice gac (st0.length + xl.length) gcc]) rfl (by kernel_rfl) (by kernel_rfl) (by kernel_rfl) (by kernel_rfl) (by kernel_rfl) (by kernel_rfl) (by kernel_rfl) (by kernel_rfl) (fun _ _ _ h => h) (Or.inl ⟨by rfl, ?_⟩) (mkS _ hb3) ?_
                · rintro w' ⟨s0, s1, s2, s3, s4⟩
                  go_simp
                try simp only [Act.put]
                refine wpT_two (i := 12) (i' := 18) (by kernel_rfl) rfl rfl ?_ ?_
                · as_aux_lemma =>
                    intro KK hKK
                    go_simp
                    refine (concatI_any (y1.heap.size) _ _ xa xb y3 (blt hA2) (cells2 hA2).1 (cells2 hA2).2 ((H14.out.step hb3).lr.xs) ((H14.out.step hb3).b) (by have := HLn.out; omega) (by have := HLn.out; omega)).mono ?_
                    rintro e y4 ⟨gd, rfl, hownd, b4⟩
                    obtain ⟨gad, gcd, rfl⟩ := row_slice hownd
                    have hCd := IntsAt.own hownd (by rw [List.length_append])
                    clear hownd
                    have hb4 := hb3.trans (b4.mono hb3.size)
                    replace hA1 := blk hA1 b4
                    replace hA2 := blk hA2 b4
                    replace hCc := hCc.step b4
                    refine hKK _ _ ⟨fun _ => mkS _ hb4, ?_⟩
                    clear hKK
                    try simp only [Act.put]
                    refine wpT_two (i := 13) (i' := 18) (by kernel_rfl) rfl rfl ?_ ?_
                    · as_aux_lemma =>
                        intro KK hKK
                        go_simp
                        refine (HD4.out y4 hb4 _ _ hCc hCd).mono ?_
                        rintro e y5 ⟨ra, rk, er, rfl, hownD, herD, b5⟩
                        have hDi := IntsAt.own hownD rfl
                        clear hownD
                        have hb5 := hb4.trans (b5.mono hb4.size)
                        replace hA1 := blk hA1 b5
                        replace hA2 := blk hA2 b5
                        replace hCc := hCc.step b5
                        replace hCd := hCd.step b5
                        refine hKK _ _ ⟨fun _ => mkS _ hb5, ?_⟩
                        clear hKK
                        try simp only []
                        refine wpT_take (i := 14) (v := .tuple #[.agg #[.int .i64 c3, .slice ra k4.length rk], .int .u64 n3, er]) rfl (by kernel_rfl) (by kernel_rfl) (by kernel_rfl) (by kernel_rfl) (by kernel_rfl) (by kernel_rfl) (by kernel_rfl) (by kernel_rfl) (fun _ _ _ h => h) (Or.inl ⟨by rfl, ?_⟩) (mkS _ hb5) ?_
                        · rintro w' ⟨s0, s1, s2, s3, s4⟩
                          go_simp
                        try simp only [Act.put]
                        refine wpT_take (i := 15) (v := .agg #[.int .i64 c3, .slice ra k4.length rk]) rfl (by kernel_rfl) (by kernel_rfl) (by kernel_rfl) (by kernel_rfl) (by kernel_rfl) (by kernel_rfl) (by kernel_rfl) (by kernel_rfl) (fun _ _ _ h => h) (Or.inl ⟨by rfl, ?_⟩) (mkS _ hb5) ?_
                        · rintro w' ⟨s0, s1, s2, s3, s4⟩
                          go_simp
                        try simp only [Act.put]
                        refine wpT_take (i := 16) (v := .int .u64 n3) rfl (by kernel_rfl) (by kernel_rfl) (by kernel_rfl) (by kernel_rfl) (by kernel_rfl) (by kernel_rfl) (by kernel_rfl) (by kernel_rfl) (fun _ _ _ h => h) (Or.inl ⟨by rfl, ?_⟩) (mkS _ hb5) ?_
                        · rintro w' ⟨s0, s1, s2, s3, s4⟩
                          go_simp
                        try simp only [Act.put]
                        refine wpT_take (i := 17) (v := er) rfl (by kernel_rfl) (by kernel_rfl) (by kernel_rfl) (by kernel_rfl) (by kernel_rfl) (by kernel_rfl) (by kernel_rfl) (by kernel_rfl) (fun _ _ _ h => h) (Or.inl ⟨by rfl, ?_⟩) (mkS _ hb5) ?_
                        · rintro w' ⟨s0, s1, s2, s3, s4⟩
                          go_simp
                        try simp only [Act.put]
                        refine wpT_one (i := 18) (by kernel_rfl) rfl ?_
                        intro KK hKK
                        go_simp
                        have b6 := sbelow_new y5 (.cells #[.int .i64 0, .slice none 0 0] 27)
                        have hb6 := hb5.trans (b6.mono hb5.size)
                        have hX := heap_alloc_new y5 (.cells #[.int .i64 0, .slice none 0 0] 27)
                        have hXb : w14.heap.size ≤ y5.heap.size := hb5.size
                        have hDn := fun ad e h => Nat.ne_of_lt (hDi.blk ad e h)
                        replace hA1 := blk hA1 b6
                        replace hA2 := blk hA2 b6
                        replace hCc := hCc.step b6
                        replace hCd := hCd.step b6
                        replace hDi := hDi.step b6
                        replace herD := herD.keep b6
                        refine hKK _ _ ⟨fun _ => mkS _ hb6, ?_⟩
                        clear hKK
                        try simp only [Act.put]
                        generalize y5.alloc (.cells #[.int .i64 0, .slice none 0 0] 27) = y6 at *
                        have hsz : y5.heap.size < y6.heap.size := blt hX
                        obtain ⟨x0, x1⟩ := cells2 hX
                        have xf0 : y6.frozen? ⟨y5.heap.size, 0, none⟩ = false := by unfold World.frozen?; rw [hX]; simp
                        have xf1 : y6.frozen? ⟨y5.heap.size, 1, none⟩ = false := by unfold World.frozen?; rw [hX]; simp
                        have hbz : Below w14.heap.size w14 ((y6.setCell ⟨y5.heap.size, 0, none⟩ (.int .i64 c3)).setCell ⟨y5.heap.size, 1, none⟩ (.slice ra k4.length rk)) := (hb6.setCell (p := ⟨y5.heap.size, 0, none⟩) hXb _).setCell (p := ⟨y5.heap.size, 1, none⟩) hXb _
                        have hx2 := (cells2 (heap_setCell_same _ _ 0 _ _ (.int .i64 c3) hX)).2
                        have HF := Lib.hid (CfS.mk (X := ⟨(c3, k4), n3, 0, p3⟩) (heap_setCell_same _ _ 1 _ _ (.slice ra k4.length rk) (heap_setCell_same _ _ 0 _ _ (.int .i64 c3) hX)) ((hDi.setNe hDn 0 _).setNe hDn 1 _) ((herD.beside x1 0 _).beside hx2 1 _))
                        clear hx2 hDi hDn herD
                        refine wpT_one (i := 19) (by kernel_rfl) rfl ?_
                        intro KK hKK
                        go_simp
                        refine hKK _ _ ⟨fun _ => mkS _ hbz, ?_⟩
                        clear hKK x0 x1 xf0 xf1 hX hsz
                        try simp only [Act.put]
                        generalize (y6.setCell ⟨y5.heap.size, 0, none⟩ (.int .i64 c3)).setCell ⟨y5.heap.size, 1, none⟩ (.slice ra k4.length rk) = yz at *
                        refine wpT_one (i := 20) (by kernel_rfl) rfl ?_
                        intro KK hKK
                        go_simp
                        refine hKK _ _ ⟨fun _ => mkS _ hbz, ?_⟩
                        clear hKK
                        try simp only [Act.put]
                        refine wpT_tail 21 1 rfl rfl (by kernel_rfl) (by kernel_rfl) ?_
                        simp only [List.drop_succ_cons, List.drop_zero]
                        go_wp2_with fail
                        go_meet
                        case rel => exact ⟨_, _, _, er, rfl, rfl, rfl, HF.out, hbz⟩
                    · as_aux_lemma =>
                        intro KK hKK
                        go_simp
                        have b5 := sbelow_new y4 (.cells #[.int .i64 0, .slice none 0 0] 27)
                        have hb5 := hb4.trans (b5.mono hb4.size)
                        have hX := heap_alloc_new y4 (.cells #[.int .i64 0, .slice none 0 0] 27)
                        have hXb : w14.heap.size ≤ y4.heap.size := hb4.size
                        replace hA1 := blk hA1 b5
                        replace hA2 := blk hA2 b5
                        replace hCc := hCc.step b5
                        replace hCd := hCd.step b5
                        refine hKK _ _ ⟨fun _ => mkS _ hb5, ?_⟩
                        clear hKK
                        try simp only [Act.put]
                        generalize y4.alloc (.cells #[.int .i64 0, .slice none 0 0] 27) = y5 at *
                        refine wpT_one (i := 13) (by kernel_rfl) rfl ?_
                        intro KK hKK
                        go_simp
                        refine (HD4.out y5 hb5 _ _ hCc hCd).mono ?_
                        rintro e y6 ⟨ra, rk, er, rfl, hownD, herD, b6⟩
                        have hDi := IntsAt.own hownD rfl
                        have hDn : ∀ ad, ra = some ad → 0 < k4.length → ad.block ≠ y4.heap.size := fun ad e h => by
                          have h1 := (hownD.lt ad.block (by rw [e]; rfl)).1
                          have h2 := blt hX
                          omega
                        clear hownD
                        have hb6 := hb5.trans (b6.mono hb5.size)
                        replace hA1 := blk hA1 b6
                        replace hA2 := blk hA2 b6
                        replace hCc := hCc.step b6
                        replace hCd := hCd.step b6
                        replace hX := blk hX b6
                        refine hKK _ _ ⟨fun _ => mkS _ hb6, ?_⟩
                        clear hKK
                        try simp only []
                        refine wpT_take (i := 14) (v := .tuple #[.agg #[.int .i64 c3, .slice ra k4.length rk], .int .u64 n3, er]) rfl (by kernel_rfl) (by kernel_rfl) (by kernel_rfl) (by kernel_rfl) (by kernel_rfl) (by kernel_rfl) (by kernel_rfl) (by kernel_rfl) (fun _ _ _ h => h) (Or.inl ⟨by rfl, ?_⟩) (mkS _ hb6) ?_
                        · rintro w' ⟨s0, s1, s2, s3, s4⟩
                          go_simp
                        try simp only [Act.put]
                        refine wpT_take (i := 15) (v := .agg #[.int .i64 c3, .slice ra k4.length rk]) rfl (by kernel_rfl) (by kernel_rfl) (by kernel_rfl) (by kernel_rfl) (by kernel_rfl) (by kernel_rfl) (by kernel_rfl) (by kernel_rfl) (fun _ _ _ h => h) (Or.inl ⟨by rfl, ?_⟩) (mkS _ hb6) ?_
                        · rintro w' ⟨s0, s1, s2, s3, s4⟩
                          go_simp
                        try simp only [Act.put]
                        refine wpT_take (i := 16) (v := .int .u64 n3) rfl (by kernel_rfl) (by kernel_rfl) (by kernel_rfl) (by kernel_rfl) (by kernel_rfl) (by kernel_rfl) (by kernel_rfl) (by kernel_rfl) (fun _ _ _ h => h) (Or.inl ⟨by rfl, ?_⟩) (mkS _ hb6) ?_
                        · rintro w' ⟨s0, s1, s2, s3, s4⟩
                          go_simp
                        try simp only [Act.put]
                        refine wpT_take (i := 17) (v := er) rfl (by kernel_rfl) (by kernel_rfl) (by kernel_rfl) (by kernel_rfl) (by kernel_rfl) (by kernel_rfl) (by kernel_rfl) (by kernel_rfl) (fun _ _ _ h => h) (Or.inl ⟨by rfl, ?_⟩) (mkS _ hb6) ?_
                        · rintro w' ⟨s0, s1, s2, s3, s4⟩
                          go_simp
                        try simp only [Act.put]
                        have hsz : y4.heap.size < y6.heap.size := blt hX
                        obtain ⟨x0, x1⟩ := cells2 hX
                        have xf0 : y6.frozen? ⟨y4.heap.size, 0, none⟩ = false := by unfold World.frozen?; rw [hX]; simp
                        have xf1 : y6.frozen? ⟨y4.heap.size, 1, none⟩ = false := by unfold World.frozen?; rw [hX]; simp
                        have hbz : Below w14.heap.size w14 ((y6.setCell ⟨y4.heap.size, 0, none⟩ (.int .i64 c3)).setCell ⟨y4.heap.size, 1, none⟩ (.slice ra k4.length rk)) := (hb6.setCell (p := ⟨y4.heap.size, 0, none⟩) hXb _).setCell (p := ⟨y4.heap.size, 1, none⟩) hXb _
                        have hx2 := (cells2 (heap_setCell_same _ _ 0 _ _ (.int .i64 c3) hX)).2
                        have HF := Lib.hid (CfS.mk (X := ⟨(c3, k4), n3, 0, p3⟩) (heap_setCell_same _ _ 1 _ _ (.slice ra k4.length rk) (heap_setCell_same _ _ 0 _ _ (.int .i64 c3) hX)) ((hDi.setNe hDn 0 _).setNe hDn 1 _) ((herD.beside x1 0 _).beside hx2 1 _))
                        clear hx2 hDi hDn herD
                        refine wpT_one (i := 19) (by kernel_rfl) rfl ?_
                        intro KK hKK
                        go_simp
                        refine hKK _ _ ⟨fun _ => mkS _ hbz, ?_⟩
                        clear hKK x0 x1 xf0 xf1 hX hsz
                        try simp only [Act.put]
                        generalize (y6.setCell ⟨y4.heap.size, 0, none⟩ (.int .i64 c3)).setCell ⟨y4.heap.size, 1, none⟩ (.slice ra k4.length rk) = yz at *
                        refine wpT_one (i := 20) (by kernel_rfl) rfl ?_
                        intro KK hKK
                        go_simp
                        refine hKK _ _ ⟨fun _ => mkS _ hbz, ?_⟩
                        clear hKK
                        try simp only [Act.put]
                        refine wpT_tail 21 1 rfl rfl (by kernel_rfl) (by kernel_rfl) ?_
                        simp only [List.drop_succ_cons, List.drop_zero]
                        go_wp2_with fail
                        go_meet
                        case rel => exact ⟨_, _, _, er, rfl, rfl, rfl, HF.out, hbz⟩
                · as_aux_lemma =>
                    intro KK hKK
                    go_simp
                    have b4 := sbelow_new y3 (.cells #[.int .i64 0, .slice none 0 0] 27)
                    have hb4 := hb3.trans (b4.mono hb3.size)
                    have hX := heap_alloc_new y3 (.cells #[.int .i64 0, .slice none 0 0] 27)
                    have hXb : w14.heap.size ≤ y3.heap.size := hb3.size
                    replace hA1 := blk hA1 b4
                    replace hA2 := blk hA2 b4
                    replace hCc := hCc.step b4
                    refine hKK _ _ ⟨fun _ => mkS _ hb4, ?_⟩
                    clear hKK
                    try simp only [Act.put]
                    generalize y3.alloc (.cells #[.int .i64 0, .slice none 0 0] 27) = y4 at *
                    refine wpT_one (i := 12) (by kernel_rfl) rfl ?_
                    intro KK hKK
                    go_simp
                    refine (concatI_any (y1.heap.size) _ _ xa xb y4 (blt hA2) (cells2 hA2).1 (cells2 hA2).2 ((H14.out.step hb4).lr.xs) ((H14.out.step hb4).b) (by have := HLn.out; omega) (by have := HLn.out; omega)).mono ?_
                    rintro e y5 ⟨gd, rfl, hownd, b5⟩
                    obtain ⟨gad, gcd, rfl⟩ := row_slice hownd
                    have hCd := IntsAt.own hownd (by rw [List.length_append])
                    clear hownd
                    have hb5 := hb4.trans (b5.mono hb4.size)
                    replace hA1 := blk hA1 b5
                    replace hA2 := blk hA2 b5
                    replace hCc := hCc.step b5
                    replace hX := blk hX b5
                    refine hKK _ _ ⟨fun _ => mkS _ hb5, ?_⟩
                    clear hKK
                    try simp only [Act.put]
                    refine wpT_one (i := 13) (by kernel_rfl) rfl ?_
                    intro KK hKK
                    go_simp
                    refine (HD4.out y5 hb5 _ _ hCc hCd).mono ?_
                    rintro e y6 ⟨ra, rk, er, rfl, hownD, herD, b6⟩
                    have hDi := IntsAt.own hownD rfl
                    have hDn : ∀ ad, ra = some ad → 0 < k4.length → ad.block ≠ y3.heap.size := fun ad e h => by
                      have h1 := (hownD.lt ad.block (by rw [e]; rfl)).1
                      have h2 := blt hX
                      omega
                    clear hownD
                    have hb6 := hb5.trans (b6.mono hb5.size)
                    replace hA1 := blk hA1 b6
                    replace hA2 := blk hA2 b6
                    replace hCc := hCc.step b6
                    replace hX := blk hX b6
                    replace hCd := hCd.step b6
                    refine hKK _ _ ⟨fun _ => mkS _ hb6, ?_⟩
                    clear hKK
                    try simp only []
                    refine wpT_take (i := 14) (v := .tuple #[.agg #[.int .i64 c3, .slice ra k4.length rk], .int .u64 n3, er]) rfl (by kernel_rfl) (by kernel_rfl) (by kernel_rfl) (by kernel_rfl) (by kernel_rfl) (by kernel_rfl) (by kernel_rfl) (by kernel_rfl) (fun _ _ _ h => h) (Or.inl ⟨by rfl, ?_⟩) (mkS _ hb6) ?_
                    · rintro w' ⟨s0, s1, s2, s3, s4⟩
                      go_simp
                    try simp only [Act.put]
                    refine wpT_take (i := 15) (v := .agg #[.int .i64 c3, .slice ra k4.length rk]) rfl (by kernel_rfl) (by kernel_rfl) (by kernel_rfl) (by kernel_rfl) (by kernel_rfl) (by kernel_rfl) (by kernel_rfl) (by kernel_rfl) (fun _ _ _ h => h) (Or.inl ⟨by rfl, ?_⟩) (mkS _ hb6) ?_
                    · rintro w' ⟨s0, s1, s2, s3, s4⟩
                      go_simp
                    try simp only [Act.put]
                    refine wpT_take (i := 16) (v := .int .u64 n3) rfl (by kernel_rfl) (by kernel_rfl) (by kernel_rfl) (by kernel_rfl) (by kernel_rfl) (by kernel_rfl) (by kernel_rfl) (by kernel_rfl) (fun _ _ _ h => h) (Or.inl ⟨by rfl, ?_⟩) (mkS _ hb6) ?_
                    · rintro w' ⟨s0, s1, s2, s3, s4⟩
                      go_simp
                    try simp only [Act.put]
                    refine wpT_take (i := 17) (v := er) rfl (by kernel_rfl) (by kernel_rfl) (by kernel_rfl) (by kernel_rfl) (by kernel_rfl) (by kernel_rfl) (by kernel_rfl) (by kernel_rfl) (fun _ _ _ h => h) (Or.inl ⟨by rfl, ?_⟩) (mkS _ hb6) ?_
                    · rintro w' ⟨s0, s1, s2, s3, s4⟩
                      go_simp
                    try simp only [Act.put]
                    have hsz : y3.heap.size < y6.heap.size := blt hX
                    obtain ⟨x0, x1⟩ := cells2 hX
                    have xf0 : y6.frozen? ⟨y3.heap.size, 0, none⟩ = false := by unfold World.frozen?; rw [hX]; simp
                    have xf1 : y6.frozen? ⟨y3.heap.size, 1, none⟩ = false := by unfold World.frozen?; rw [hX]; simp
                    have hbz : Below w14.heap.size w14 ((y6.setCell ⟨y3.heap.size, 0, none⟩ (.int .i64 c3)).setCell ⟨y3.heap.size, 1, none⟩ (.slice ra k4.length rk)) := (hb6.setCell (p := ⟨y3.heap.size, 0, none⟩) hXb _).setCell (p := ⟨y3.heap.size, 1, none⟩) hXb _
                    have hx2 := (cells2 (heap_setCell_same _ _ 0 _ _ (.int .i64 c3) hX)).2
                    have HF := Lib.hid (CfS.mk (X := ⟨(c3, k4), n3, 0, p3⟩) (heap_setCell_same _ _ 1 _ _ (.slice ra k4.length rk) (heap_setCell_same _ _ 0 _ _ (.int .i64 c3) hX)) ((hDi.setNe hDn 0 _).setNe hDn 1 _) ((herD.beside x1 0 _).beside hx2 1 _))
                    clear hx2 hDi hDn herD
                    refine wpT_one (i := 19) (by kernel_rfl) rfl ?_
                    intro KK hKK
                    go_simp
                    refine hKK _ _ ⟨fun _ => mkS _ hbz, ?_⟩
                    clear hKK x0 x1 xf0 xf1 hX hsz
                    try simp only [Act.put]
                    generalize (y6.setCell ⟨y3.heap.size, 0, none⟩ (.int .i64 c3)).setCell ⟨y3.heap.size, 1, none⟩ (.slice ra k4.length rk) = yz at *
                    refine wpT_one (i := 20) (by kernel_rfl) rfl ?_
                    intro KK hKK
                    go_simp
                    refine hKK _ _ ⟨fun _ => mkS _ hbz, ?_⟩
                    clear hKK
                    try simp only [Act.put]
                    refine wpT_tail 21 1 rfl rfl (by kernel_rfl) (by kernel_rfl) ?_
                    simp only [List.drop_succ_cons, List.drop_zero]
                    go_wp2_with fail
                    go_meet
                    case rel => exact ⟨_, _, _, er, rfl, rfl, rfl, HF.out, hbz⟩
            · as_aux_lemma =>
                intro KK hKK
                go_simp
                have b3 := sbelow_new y2 (.cells #[.int .i64 0, .slice none 0 0] 27)
                have hb3 := hb2.trans (b3.mono hb2.size)
                have hX := heap_alloc_new y2 (.cells #[.int .i64 0, .slice none 0 0] 27)
                have hXb : w14.heap.size ≤ y2.heap.size := hb2.size
                replace hA1 := blk hA1 b3
                replace hA2 := blk hA2 b3
                refine hKK _ _ ⟨fun _ => mkS _ hb3, ?_⟩
                clear hKK
                try simp only [Act.put]
                generalize y2.alloc (.cells #[.int .i64 0, .slice none 0 0] 27) = y3 at *
                refine wpT_one (i := 7) (by kernel_rfl) rfl ?_
                intro KK hKK
                go_simp
                refine (concatI_any (w14.heap.size) _ _ st0 xl y3 (blt hA1) (cells2 hA1).1 (cells2 hA1).2 ((H14.out.step hb3).lr.st) ((H14.out.step hb3).z) (by have := HLn.out; omega) (by have := HLn.out; omega)).mono ?_
                rintro e y4 ⟨gc, rfl, hownc, b4⟩
                obtain ⟨gac, gcc, rfl⟩ := row_slice hownc
                have hCc := IntsAt.own hownc (by rw [List.length_append])
                clear hownc
                have hb4 := hb3.trans (b4.mono hb3.size)
                replace hA1 := blk hA1 b4
                replace hA2 := blk hA2 b4
                replace hX := blk hX b4
                refine hKK _ _ ⟨fun _ => mkS _ hb4, ?_⟩
                clear hKK
                try simp only [Act.put]
                refine wpT_take (i := 8) (v := .agg #[.int .i64 s0, .slice gac (st0.length + xl.length) gcc]) rfl (by kernel_rfl) (by kernel_rfl) (by kernel_rfl) (by kernel_rfl) (by kernel_rfl) (by kernel_rfl) (by kernel_rfl) (by kernel_rfl) (fun _ _ _ h => h) (Or.inl ⟨by rfl, ?_⟩) (mkS _ hb4) ?_
                · rintro w' ⟨s0, s1, s2, s3, s4⟩
                  go_simp
                try simp only [Act.put]
                refine wpT_one (i := 12) (by kernel_rfl) rfl ?_
                intro KK hKK
                go_simp
                refine (concatI_any (y1.heap.size) _ _ xa xb y4 (blt hA2) (cells2 hA2).1 (cells2 hA2).2 ((H14.out.step hb4).lr.xs) ((H14.out.step hb4).b) (by have := HLn.out; omega) (by have := HLn.out; omega)).mono ?_
                rintro e y5 ⟨gd, rfl, hownd, b5⟩
                obtain ⟨gad, gcd, rfl⟩ := row_slice hownd
                have hCd := IntsAt.own hownd (by rw [List.length_append])
                clear hownd
                have hb5 := hb4.trans (b5.mono hb4.size)
                replace hA1 := blk hA1 b5
                replace hA2 := blk hA2 b5
                replace hX := blk hX b5
                replace hCc := hCc.step b5
                refine hKK _ _ ⟨fun _ => mkS _ hb5, ?_⟩
                clear hKK
                try simp only [Act.put]
                refine wpT_one (i := 13) (by kernel_rfl) rfl ?_
                intro KK hKK
                go_simp
                refine (HD4.out y5 hb5 _ _ hCc hCd).mono ?_
                rintro e y6 ⟨ra, rk, er, rfl, hownD, herD, b6⟩
                have hDi := IntsAt.own hownD rfl
                have hDn : ∀ ad, ra = some ad → 0 < k4.length → ad.block ≠ y2.heap.size := fun ad e h => by
                  have h1 := (hownD.lt ad.block (by rw [e]; rfl)).1
                  have h2 := blt hX
                  omega
                clear hownD
                have hb6 := hb5.trans (b6.mono hb5.size)
                replace hA1 := blk hA1 b6
                replace hA2 := blk hA2 b6
                replace hX := blk hX b6
                replace hCc := hCc.step b6
                replace hCd := hCd.step b6
                refine hKK _ _ ⟨fun _ => mkS _ hb6, ?_⟩
                clear hKK
                try simp only []
                refine wpT_take (i := 14) (v := .tuple #[.agg #[.int .i64 c3, .slice ra k4.length rk], .int .u64 n3, er]) rfl (by kernel_rfl) (by kernel_rfl) (by kernel_rfl) (by kernel_rfl) (by kernel_rfl) (by kernel_rfl) (by kernel_rfl) (by kernel_rfl) (fun _ _ _ h => h) (Or.inl ⟨by rfl, ?_⟩) (mkS _ hb6) ?_
                · rintro w' ⟨s0, s1, s2, s3, s4⟩
                  go_simp
                try simp only [Act.put]
                refine wpT_take (i := 15) (v := .agg #[.int .i64 c3, .slice ra k4.length rk]) rfl (by kernel_rfl) (by kernel_rfl) (by kernel_rfl) (by kernel_rfl) (by kernel_rfl) (by kernel_rfl) (by kernel_rfl) (by kernel_rfl) (fun _ _ _ h => h) (Or.inl ⟨by rfl, ?_⟩) (mkS _ hb6) ?_
                · rintro w' ⟨s0, s1, s2, s3, s4⟩
                  go_simp
                try simp only [Act.put]
                refine wpT_take (i := 16) (v := .int .u64 n3) rfl (by kernel_rfl) (by kernel_rfl) (by kernel_rfl) (by kernel_rfl) (by kernel_rfl) (by kernel_rfl) (by kernel_rfl) (by kernel_rfl) (fun _ _ _ h => h) (Or.inl ⟨by rfl, ?_⟩) (mkS _ hb6) ?_
                · rintro w' ⟨s0, s1, s2, s3, s4⟩
                  go_simp
                try simp only [Act.put]
                refine wpT_take (i := 17) (v := er) rfl (by kernel_rfl) (by kernel_rfl) (by kernel_rfl) (by kernel_rfl) (by kernel_rfl) (by kernel_rfl) (by kernel_rfl) (by kernel_rfl) (fun _ _ _ h => h) (Or.inl ⟨by rfl, ?_⟩) (mkS _ hb6) ?_
                · rintro w' ⟨s0, s1, s2, s3, s4⟩
                  go_simp
                try simp only [Act.put]
                have hsz : y2.heap.size < y6.heap.size := blt hX
                obtain ⟨x0, x1⟩ := cells2 hX
                have xf0 : y6.frozen? ⟨y2.heap.size, 0, none⟩ = false := by unfold World.frozen?; rw [hX]; simp
                have xf1 : y6.frozen? ⟨y2.heap.size, 1, none⟩ = false := by unfold World.frozen?; rw [hX]; simp
                have hbz : Below w14.heap.size w14 ((y6.setCell ⟨y2.heap.size, 0, none⟩ (.int .i64 c3)).setCell ⟨y2.heap.size, 1, none⟩ (.slice ra k4.length rk)) := (hb6.setCell (p := ⟨y2.heap.size, 0, none⟩) hXb _).setCell (p := ⟨y2.heap.size, 1, none⟩) hXb _
                have hx2 := (cells2 (heap_setCell_same _ _ 0 _ _ (.int .i64 c3) hX)).2
                have HF := Lib.hid (CfS.mk (X := ⟨(c3, k4), n3, 0, p3⟩) (heap_setCell_same _ _ 1 _ _ (.slice ra k4.length rk) (heap_setCell_same _ _ 0 _ _ (.int .i64 c3) hX)) ((hDi.setNe hDn 0 _).setNe hDn 1 _) ((herD.beside x1 0 _).beside hx2 1 _))
                clear hx2 hDi hDn herD
                refine wpT_one (i := 19) (by kernel_rfl) rfl ?_
                intro KK hKK
                go_simp
                refine hKK _ _ ⟨fun _ => mkS _ hbz, ?_⟩
                clear hKK x0 x1 xf0 xf1 hX hsz
                try simp only [Act.put]
                generalize (y6.setCell ⟨y2.heap.size, 0, none⟩ (.int .i64 c3)).setCell ⟨y2.heap.size, 1, none⟩ (.slice ra k4.length rk) = yz at *
                refine wpT_one (i := 20) (by kernel_rfl) rfl ?_
                intro KK hKK
                go_simp
                refine hKK _ _ ⟨fun _ => mkS _ hbz, ?_⟩
                clear hKK
                try simp only [Act.put]
                refine wpT_tail 21 1 rfl rfl (by kernel_rfl) (by kernel_rfl) ?_
                simp only [List.drop_succ_cons, List.drop_zero]
                go_wp2_with fail
                go_meet
                case rel => exact ⟨_, _, _, er, rfl, rfl, rfl, HF.out, hbz⟩
        · as_aux_lemma =>
            intro KK hKK
            go_simp
            have b2 := sbelow_new y1 (.cells #[.int .i64 0, .slice none 0 0] 27)
            have hb2 := hb1.trans (b2.mono hb1.size)
            have hX := heap_alloc_new y1 (.cells #[.int .i64 0, .slice none 0 0] 27)
            have hXb : w14.heap.size ≤ y1.heap.size := hb1.size
            replace hA1 := blk hA1 b2
            refine hKK _ _ ⟨fun _ => mkS _ hb2, ?_⟩
            clear hKK
            try simp only [Act.put]
            generalize y1.alloc (.cells #[.int .i64 0, .slice none 0 0] 27) = y2 at *
            refine wpT_two (i := 7) (i' := 11) (by kernel_rfl) rfl rfl ?_ ?_
            · as_aux_lemma =>
                intro KK hKK
                go_simp
                refine (concatI_any (w14.heap.size) _ _ st0 xl y2 (blt hA1) (cells2 hA1).1 (cells2 hA1).2 ((H14.out.step hb2).lr.st) ((H14.out.step hb2).z) (by have := HLn.out; omega) (by have := HLn.out; omega)).mono ?_
                rintro e y3 ⟨gc, rfl, hownc, b3⟩
                obtain ⟨gac, gcc, rfl⟩ := row_slice hownc
                have hCc := IntsAt.own hownc (by rw [List.length_append])
                clear hownc
                have hb3 := hb2.trans (b3.mono hb2.size)
                replace hA1 := blk hA1 b3
                replace hX := blk hX b3
                refine hKK _ _ ⟨fun _ => mkS _ hb3, ?_⟩
                clear hKK
                try simp only [Act.put]
                refine wpT_take (i := 8) (v := .agg #[.int .i64 s0, .slice gac (st0.length + xl.length) gcc]) rfl (by kernel_rfl) (by kernel_rfl) (by kernel_rfl) (by kernel_rfl) (by kernel_rfl) (by kernel_rfl) (by kernel_rfl) (by kernel_rfl) (fun _ _ _ h => h) (Or.inl ⟨by rfl, ?_⟩) (mkS _ hb3) ?_
                · rintro w' ⟨s0, s1, s2, s3, s4⟩
                  go_simp
                try simp only [Act.put]
                refine wpT_one (i := 11) (by kernel_rfl) rfl ?_
                intro KK hKK
                go_simp
                have b4 := sbelow_new y3 (.cells #[.slice xaa xa.length xac, .slice xba xb.length xbc] 25)
                have hb4 := hb3.trans (b4.mono hb3.size)
                have hA2 := heap_alloc_new y3 (.cells #[.slice xaa xa.length xac, .slice xba xb.length xbc] 25)
                replace hA1 := blk hA1 b4
                replace hX := blk hX b4
                replace hCc := hCc.step b4
                refine hKK _ _ ⟨fun _ => mkS _ hb4, ?_⟩
                clear hKK
                try simp only [Act.put]
                generalize y3.alloc (.cells #[.slice xaa xa.length xac, .slice xba xb.length xbc] 25) = y4 at *
                refine wpT_one (i := 12) (by kernel_rfl) rfl ?_
                intro KK hKK
                go_simp
                refine (concatI_any (y3.heap.size) _ _ xa xb y4 (blt hA2) (cells2 hA2).1 (cells2 hA2).2 ((H14.out.step hb4).lr.xs) ((H14.out.step hb4).b) (by have := HLn.out; omega) (by have := HLn.out; omega)).mono ?_
                rintro e y5 ⟨gd, rfl, hownd, b5⟩
                obtain ⟨gad, gcd, rfl⟩ := row_slice hownd
                have hCd := IntsAt.own hownd (by rw [List.length_append])
                clear hownd
                have hb5 := hb4.trans (b5.mono hb4.size)
                replace hA1 := blk hA1 b5
                replace hX := blk hX b5
                replace hCc := hCc.step b5
                replace hA2 := blk hA2 b5
                refine hKK _ _ ⟨fun _ => mkS _ hb5, ?_⟩
                clear hKK
                try simp only [Act.put]
                refine wpT_one (i := 13) (by kernel_rfl) rfl ?_
                intro KK hKK
                go_simp
                refine (HD4.out y5 hb5 _ _ hCc hCd).mono ?_
                rintro e y6 ⟨ra, rk, er, rfl, hownD, herD, b6⟩
                have hDi := IntsAt.own hownD rfl
                have hDn : ∀ ad, ra = some ad → 0 < k4.length → ad.block ≠ y1.heap.size := fun ad e h => by
                  have h1 := (hownD.lt ad.block (by rw [e]; rfl)).1
                  have h2 := blt hX
                  omega
                clear hownD
                have hb6 := hb5.trans (b6.mono hb5.size)
                replace hA1 := blk hA1 b6
                replace hX := blk hX b6
                replace hCc := hCc.step b6
                replace hA2 := blk hA2 b6
                replace hCd := hCd.step b6
                refine hKK _ _ ⟨fun _ => mkS _ hb6, ?_⟩
                clear hKK
                try simp only []
                refine wpT_take (i := 14) (v := .tuple #[.agg #[.int .i64 c3, .slice ra k4.length rk], .int .u64 n3, er]) rfl (by kernel_rfl) (by kernel_rfl) (by kernel_rfl) (by kernel_rfl) (by kernel_rfl) (by kernel_rfl) (by kernel_rfl) (by kernel_rfl) (fun _ _ _ h => h) (Or.inl ⟨by rfl, ?_⟩) (mkS _ hb6) ?_
                · rintro w' ⟨s0, s1, s2, s3, s4⟩
                  go_simp
                try simp only [Act.put]
                refine wpT_take (i := 15) (v := .agg #[.int .i64 c3, .slice ra k4.length rk]) rfl (by kernel_rfl) (by kernel_rfl) (by kernel_rfl) (by kernel_rfl) (by kernel_rfl) (by kernel_rfl) (by kernel_rfl) (by kernel_rfl) (fun _ _ _ h => h) (Or.inl ⟨by rfl, ?_⟩) (mkS _ hb6) ?_
                · rintro w' ⟨s0, s1, s2, s3, s4⟩
                  go_simp
                try simp only [Act.put]
                refine wpT_take (i := 16) (v := .int .u64 n3) rfl (by kernel_rfl) (by kernel_rfl) (by kernel_rfl) (by kernel_rfl) (by kernel_rfl) (by kernel_rfl) (by kernel_rfl) (by kernel_rfl) (fun _ _ _ h => h) (Or.inl ⟨by rfl, ?_⟩) (mkS _ hb6) ?_
                · rintro w' ⟨s0, s1, s2, s3, s4⟩
                  go_simp
                try simp only [Act.put]
                refine wpT_take (i := 17) (v := er) rfl (by kernel_rfl) (by kernel_rfl) (by kernel_rfl) (by kernel_rfl) (by kernel_rfl) (by kernel_rfl) (by kernel_rfl) (by kernel_rfl) (fun _ _ _ h => h) (Or.inl ⟨by rfl, ?_⟩) (mkS _ hb6) ?_
                · rintro w' ⟨s0, s1, s2, s3, s4⟩
                  go_simp
                try simp only [Act.put]
                have hsz : y1.heap.size < y6.heap.size := blt hX
                obtain ⟨x0, x1⟩ := cells2 hX
                have xf0 : y6.frozen? ⟨y1.heap.size, 0, none⟩ = false := by unfold World.frozen?; rw [hX]; simp
                have xf1 : y6.frozen? ⟨y1.heap.size, 1, none⟩ = false := by unfold World.frozen?; rw [hX]; simp
                have hbz : Below w14.heap.size w14 ((y6.setCell ⟨y1.heap.size, 0, none⟩ (.int .i64 c3)).setCell ⟨y1.heap.size, 1, none⟩ (.slice ra k4.length rk)) := (hb6.setCell (p := ⟨y1.heap.size, 0, none⟩) hXb _).setCell (p := ⟨y1.heap.size, 1, none⟩) hXb _
                have hx2 := (cells2 (heap_setCell_same _ _ 0 _ _ (.int .i64 c3) hX)).2
                have HF := Lib.hid (CfS.mk (X := ⟨(c3, k4), n3, 0, p3⟩) (heap_setCell_same _ _ 1 _ _ (.slice ra k4.length rk) (heap_setCell_same _ _ 0 _ _ (.int .i64 c3) hX)) ((hDi.setNe hDn 0 _).setNe hDn 1 _) ((herD.beside x1 0 _).beside hx2 1 _))
                clear hx2 hDi hDn herD
                refine wpT_one (i := 19) (by kernel_rfl) rfl ?_
                intro KK hKK
                go_simp
                refine hKK _ _ ⟨fun _ => mkS _ hbz, ?_⟩
                clear hKK x0 x1 xf0 xf1 hX hsz
                try simp only [Act.put]
                generalize (y6.setCell ⟨y1.heap.size, 0, none⟩ (.int .i64 c3)).setCell ⟨y1.heap.size, 1, none⟩ (.slice ra k4.length rk) = yz at *
                refine wpT_one (i := 20) (by kernel_rfl) rfl ?_
                intro KK hKK
                go_simp
                refine hKK _ _ ⟨fun _ => mkS _ hbz, ?_⟩
                clear hKK
                try simp only [Act.put]
                refine wpT_tail 21 1 rfl rfl (by kernel_rfl) (by kernel_rfl) ?_
                simp only [List.drop_succ_cons, List.drop_zero]
                go_wp2_with fail
                go_meet
                case rel => exact ⟨_, _, _, er, rfl, rfl, rfl, HF.out, hbz⟩
            · as_aux_lemma =>
                intro KK hKK
                go_simp
                have b3 := sbelow_new y2 (.cells #[.slice xaa xa.length xac, .slice xba xb.length xbc] 25)
                have hb3 := hb2.trans (b3.mono hb2.size)
                have hA2 := heap_alloc_new y2 (.cells #[.slice xaa xa.length xac, .slice xba xb.length xbc] 25)
                replace hA1 := blk hA1 b3
                replace hX := blk hX b3
                refine hKK _ _ ⟨fun _ => mkS _ hb3, ?_⟩
                clear hKK
                try simp only [Act.put]
                generalize y2.alloc (.cells #[.slice xaa xa.length xac, .slice xba xb.length xbc] 25) = y3 at *
                refine wpT_one (i := 7) (by kernel_rfl) rfl ?_
                intro KK hKK
                go_simp
                refine (concatI_any (w14.heap.size) _ _ st0 xl y3 (blt hA1) (cells2 hA1).1 (cells2 hA1).2 ((H14.out.step hb3).lr.st) ((H14.out.step hb3).z) (by have := HLn.out; omega) (by have := HLn.out; omega)).mono ?_
                rintro e y4 ⟨gc, rfl, hownc, b4⟩
                obtain ⟨gac, gcc, rfl⟩ := row_slice hownc
                have hCc := IntsAt.own hownc (by rw [List.length_append])
                clear hownc
                have hb4 := hb3.trans (b4.mono hb3.size)
                replace hA1 := blk hA1 b4
                replace hX := blk hX b4
                replace hA2 := blk hA2 b4
                refine hKK _ _ ⟨fun _ => mkS _ hb4, ?_⟩
                clear hKK
                try simp only [Act.put]
                refine wpT_take (i := 8) (v := .agg #[.int .i64 s0, .slice gac (st0.length + xl.length) gcc]) rfl (by kernel_rfl) (by kernel_rfl) (by kernel_rfl) (by kernel_rfl) (by kernel_rfl) (by kernel_rfl) (by kernel_rfl) (by kernel_rfl) (fun _ _ _ h => h) (Or.inl ⟨by rfl, ?_⟩) (mkS _ hb4) ?_
                · rintro w' ⟨s0, s1, s2, s3, s4⟩
                  go_simp
                try simp only [Act.put]
                refine wpT_one (i := 12) (by kernel_rfl) rfl ?_
                intro KK hKK
                go_simp
                refine (concatI_any (y2.heap.size) _ _ xa xb y4 (blt hA2) (cells2 hA2).1 (cells2 hA2).2 ((H14.out.step hb4).lr.xs) ((H14.out.step hb4).b) (by have := HLn.out; omega) (by have := HLn.out; omega)).mono ?_
                rintro e y5 ⟨gd, rfl, hownd, b5⟩
                obtain ⟨gad, gcd, rfl⟩ := row_slice hownd
                have hCd := IntsAt.own hownd (by rw [List.length_append])
                clear hownd
                have hb5 := hb4.trans (b5.mono hb4.size)
                replace hA1 := blk hA1 b5
                replace hX := blk hX b5
                replace hA2 := blk hA2 b5
                replace hCc := hCc.step b5
                refine hKK _ _ ⟨fun _ => mkS _ hb5, ?_⟩
                clear hKK
                try simp only [Act.put]
                refine wpT_one (i := 13) (by kernel_rfl) rfl ?_
                intro KK hKK
                go_simp
                refine (HD4.out y5 hb5 _ _ hCc hCd).mono ?_
                rintro e y6 ⟨ra, rk, er, rfl, hownD, herD, b6⟩
                have hDi := IntsAt.own hownD rfl
                have hDn : ∀ ad, ra = some ad → 0 < k4.length → ad.block ≠ y1.heap.size := fun ad e h => by
                  have h1 := (hownD.lt ad.block (by rw [e]; rfl)).1
                  have h2 := blt hX
                  omega
                clear hownD
                have hb6 := hb5.trans (b6.mono hb5.size)
                replace hA1 := blk hA1 b6
                replace hX := blk hX b6
                replace hA2 := blk hA2 b6
                replace hCc := hCc.step b6
                replace hCd := hCd.step b6
                refine hKK _ _ ⟨fun _ => mkS _ hb6, ?_⟩
                clear hKK
                try simp only []
                refine wpT_take (i := 14) (v := .tuple #[.agg #[.int .i64 c3, .slice ra k4.length rk], .int .u64 n3, er]) rfl (by kernel_rfl) (by kernel_rfl) (by kernel_rfl) (by kernel_rfl) (by kernel_rfl) (by kernel_rfl) (by kernel_rfl) (by kernel_rfl) (fun _ _ _ h => h) (Or.inl ⟨by rfl, ?_⟩) (mkS _ hb6) ?_
                · rintro w' ⟨s0, s1, s2, s3, s4⟩
                  go_simp
                try simp only [Act.put]
                refine wpT_take (i := 15) (v := .agg #[.int .i64 c3, .slice ra k4.length rk]) rfl (by kernel_rfl) (by kernel_rfl) (by kernel_rfl) (by kernel_rfl) (by kernel_rfl) (by kernel_rfl) (by kernel_rfl) (by kernel_rfl) (fun _ _ _ h => h) (Or.inl ⟨by rfl, ?_⟩) (mkS _ hb6) ?_
                · rintro w' ⟨s0, s1, s2, s3, s4⟩
                  go_simp
                try simp only [Act.put]
                refine wpT_take (i := 16) (v := .int .u64 n3) rfl (by kernel_rfl) (by kernel_rfl) (by kernel_rfl) (by kernel_rfl) (by kernel_rfl) (by kernel_rfl) (by kernel_rfl) (by kernel_rfl) (fun _ _ _ h => h) (Or.inl ⟨by rfl, ?_⟩) (mkS _ hb6) ?_
                · rintro w' ⟨s0, s1, s2, s3, s4⟩
                  go_simp
                try simp only [Act.put]
                refine wpT_take (i := 17) (v := er) rfl (by kernel_rfl) (by kernel_rfl) (by kernel_rfl) (by kernel_rfl) (by kernel_rfl) (by kernel_rfl) (by kernel_rfl) (by kernel_rfl) (fun _ _ _ h => h) (Or.inl ⟨by rfl, ?_⟩) (mkS _ hb6) ?_
                · rintro w' ⟨s0, s1, s2, s3, s4⟩
                  go_simp
                try simp only [Act.put]
                have hsz : y1.heap.size < y6.heap.size := blt hX
                obtain ⟨x0, x1⟩ := cells2 hX
                have xf0 : y6.frozen? ⟨y1.heap.size, 0, none⟩ = false := by unfold World.frozen?; rw [hX]; simp
                have xf1 : y6.frozen? ⟨y1.heap.size, 1, none⟩ = false := by unfold World.frozen?; rw [hX]; simp
                have hbz : Below w14.heap.size w14 ((y6.setCell ⟨y1.heap.size, 0, none⟩ (.int .i64 c3)).setCell ⟨y1.heap.size, 1, none⟩ (.slice ra k4.length rk)) := (hb6.setCell (p := ⟨y1.heap.size, 0, none⟩) hXb _).setCell (p := ⟨y1.heap.size, 1, none⟩) hXb _
                have hx2 := (cells2 (heap_setCell_same _ _ 0 _ _ (.int .i64 c3) hX)).2
                have HF := Lib.hid (CfS.mk (X := ⟨(c3, k4), n3, 0, p3⟩) (heap_setCell_same _ _ 1 _ _ (.slice ra k4.length rk) (heap_setCell_same _ _ 0 _ _ (.int .i64 c3) hX)) ((hDi.setNe hDn 0 _).setNe hDn 1 _) ((herD.beside x1 0 _).beside hx2 1 _))
                clear hx2 hDi hDn herD
                refine wpT_one (i := 19) (by kernel_rfl) rfl ?_
                intro KK hKK
                go_simp
                refine hKK _ _ ⟨fun _ => mkS _ hbz, ?_⟩
                clear hKK x0 x1 xf0 xf1 hX hsz
                try simp only [Act.put]
                generalize (y6.setCell ⟨y1.heap.size, 0, none⟩ (.int .i64 c3)).setCell ⟨y1.heap.size, 1, none⟩ (.slice ra k4.length rk) = yz at *
                refine wpT_one (i := 20) (by kernel_rfl) rfl ?_
                intro KK hKK
                go_simp
                refine hKK _ _ ⟨fun _ => mkS _ hbz, ?_⟩
                clear hKK
                try simp only [Act.put]
                refine wpT_tail 21 1 rfl rfl (by kernel_rfl) (by kernel_rfl) ?_
                simp only [List.drop_succ_cons, List.drop_zero]
                go_wp2_with fail
                go_meet
                case rel => exact ⟨_, _, _, er, rfl, rfl, rfl, HF.out, hbz⟩
    · as_aux_lemma =>
        intro KK hKK
        go_simp
        have hb1 : Below w14.heap.size w14 (w14.alloc (.cells #[.slice xaa xa.length xac, .slice xba xb.length xbc] 25)).drew := (sbelow_new w14 (.cells #[.slice xaa xa.length xac, .slice xba xb.length xbc] 25)).drew
        have hA2 : (w14.alloc (.cells #[.slice xaa xa.length xac, .slice xba xb.length xbc] 25)).drew.heap[w14.heap.size]? = some (.cells #[.slice xaa xa.length xac, .slice xba xb.length xbc] 25 (0, 0)) := heap_alloc_new w14 (.cells #[.slice xaa xa.length xac, .slice xba xb.length xbc] 25)
        refine hKK _ _ ⟨fun _ => mkS _ hb1, ?_⟩
        clear hKK
        try simp only [Act.put]
        generalize (w14.alloc (.cells #[.slice xaa xa.length xac, .slice xba xb.length xbc] 25)).drew = y1 at *
        refine wpT_two (i := 6) (i' := 18) (by kernel_rfl) rfl rfl ?_ ?_
        · as_aux_lemma =>
            intro KK hKK
            go_simp
            have b2 := sbelow_new y1 (.cells #[.slice za st0.length zc, .slice xla xl.length xlc] 25)
            have hb2 := hb1.trans (b2.mono hb1.size)
            have hA1 := heap_alloc_new y1 (.cells #[.slice za st0.length zc, .slice xla xl.length xlc] 25)
            replace hA2 := blk hA2 b2
            refine hKK _ _ ⟨fun _ => mkS _ hb2, ?_⟩
            clear hKK
            try simp only [Act.put]
            generalize y1.alloc (.cells #[.slice za st0.length zc, .slice xla xl.length xlc] 25) = y2 at *
            refine wpT_two (i := 7) (i' := 18) (by kernel_rfl) rfl rfl ?_ ?_
            · as_aux_lemma =>
                intro KK hKK
                go_simp
                refine (concatI_any (y1.heap.size) _ _ st0 xl y2 (blt hA1) (cells2 hA1).1 (cells2 hA1).2 ((H14.out.step hb2).lr.st) ((H14.out.step hb2).z) (by have := HLn.out; omega) (by have := HLn.out; omega)).mono ?_
                rintro e y3 ⟨gc, rfl, hownc, b3⟩
                obtain ⟨gac, gcc, rfl⟩ := row_slice hownc
                have hCc := IntsAt.own hownc (by rw [List.length_append])
                clear hownc
                have hb3 := hb2.trans (b3.mono hb2.size)
                replace hA2 := blk hA2 b3
                replace hA1 := blk hA1 b3
                refine hKK _ _ ⟨fun _ => mkS _ hb3, ?_⟩
                clear hKK
                try simp only [Act.put]
                refine wpT_take (i := 8) (v := .agg #[.int .i64 s0, .slice gac (st0.length + xl.length) gcc]) rfl (by kernel_rfl) (by kernel_rfl) (by kernel_rfl) (by kernel_rfl) (by kernel_rfl) (by kernel_rfl) (by kernel_rfl) (by kernel_rfl) (fun _ _ _ h => h) (Or.inl ⟨by rfl, ?_⟩) (mkS _ hb3) ?_
                · rintro w' ⟨s0, s1, s2, s3, s4⟩
                  go_simp
                try simp only [Act.put]
                refine wpT_two (i := 12) (i' := 18) (by kernel_rfl) rfl rfl ?_ ?_
                · as_aux_lemma =>
                    intro KK hKK
                    go_simp
                    refine (concatI_any (w14.heap.size) _ _ xa xb y3 (blt hA2) (cells2 hA2).1 (cells2 hA2).2 ((H14.out.step hb3).lr.xs) ((H14.out.step hb3).b) (by have := HLn.out; omega) (by have := HLn.out; omega)).mono ?_
                    rintro e y4 ⟨gd, rfl, hownd, b4⟩
                    obtain ⟨gad, gcd, rfl⟩ := row_slice hownd
                    have hCd := IntsAt.own hownd (by rw [List.length_append])
                    clear hownd
                    have hb4 := hb3.trans (b4.mono hb3.size)
                    replace hA2 := blk hA2 b4
                    replace hA1 := blk hA1 b4
                    replace hCc := hCc.step b4
                    refine hKK _ _ ⟨fun _ => mkS _ hb4, ?_⟩
                    clear hKK
                    try simp only [Act.put]
                    refine wpT_two (i := 13) (i' := 18) (by kernel_rfl) rfl rfl ?_ ?_
                    · as_aux_lemma =>
                        intro KK hKK
                        go_simp
                        refine (HD4.out y4 hb4 _ _ hCc hCd).mono ?_
                        rintro e y5 ⟨ra, rk, er, rfl, hownD, herD, b5⟩
                        have hDi := IntsAt.own hownD rfl
                        clear hownD
                        have hb5 := hb4.trans (b5.mono hb4.size)
                        replace hA2 := blk hA2 b5
                        replace hA1 := blk hA1 b5
                        replace hCc := hCc.step b5
                        replace hCd := hCd.step b5
                        refine hKK _ _ ⟨fun _ => mkS _ hb5, ?_⟩
                        clear hKK
                        try simp only []
                        refine wpT_take (i := 14) (v := .tuple #[.agg #[.int .i64 c3, .slice ra k4.length rk], .int .u64 n3, er]) rfl (by kernel_rfl) (by kernel_rfl) (by kernel_rfl) (by kernel_rfl) (by kernel_rfl) (by kernel_rfl) (by kernel_rfl) (by kernel_rfl) (fun _ _ _ h => h) (Or.inl ⟨by rfl, ?_⟩) (mkS _ hb5) ?_
                        · rintro w' ⟨s0, s1, s2, s3, s4⟩
                          go_simp
                        try simp only [Act.put]
                        refine wpT_take (i := 15) (v := .agg #[.int .i64 c3, .slice ra k4.length rk]) rfl (by kernel_rfl) (by kernel_rfl) (by kernel_rfl) (by kernel_rfl) (by kernel_rfl) (by kernel_rfl) (by kernel_rfl) (by kernel_rfl) (fun _ _ _ h => h) (Or.inl ⟨by rfl, ?_⟩) (mkS _ hb5) ?_
                        · rintro w' ⟨s0, s1, s2, s3, s4⟩
                          go_simp
                        try simp only [Act.put]
                        refine wpT_take (i := 16) (v := .int .u64 n3) rfl (by kernel_rfl) (by kernel_rfl) (by kernel_rfl) (by kernel_rfl) (by kernel_rfl) (by kernel_rfl) (by kernel_rfl) (by kernel_rfl) (fun _ _ _ h => h) (Or.inl ⟨by rfl, ?_⟩) (mkS _ hb5) ?_
                        · rintro w' ⟨s0, s1, s2, s3, s4⟩
                          go_simp
                        try simp only [Act.put]
                        refine wpT_take (i := 17) (v := er) rfl (by kernel_rfl) (by kernel_rfl) (by kernel_rfl) (by kernel_rfl) (by kernel_rfl) (by kernel_rfl) (by kernel_rfl) (by kernel_rfl) (fun _ _ _ h => h) (Or.inl ⟨by rfl, ?_⟩) (mkS _ hb5) ?_
                        · rintro w' ⟨s0, s1, s2, s3, s4⟩
                          go_simp
                        try simp only [Act.put]
                        refine wpT_one (i := 18) (by kernel_rfl) rfl ?_
                        intro KK hKK
                        go_simp
                        have b6 := sbelow_new y5 (.cells #[.int .i64 0, .slice none 0 0] 27)
                        have hb6 := hb5.trans (b6.mono hb5.size)
                        have hX := heap_alloc_new y5 (.cells #[.int .i64 0, .slice none 0 0] 27)
                        have hXb : w14.heap.size ≤ y5.heap.size := hb5.size
                        have hDn := fun ad e h => Nat.ne_of_lt (hDi.blk ad e h)
                        replace hA2 := blk hA2 b6
                        replace hA1 := blk hA1 b6
                        replace hCc := hCc.step b6
                        replace hCd := hCd.step b6
                        replace hDi := hDi.step b6
                        replace herD := herD.keep b6
                        refine hKK _ _ ⟨fun _ => mkS _ hb6, ?_⟩
                        clear hKK
                        try simp only [Act.put]
                        generalize y5.alloc (.cells #[.int .i64 0, .slice none 0 0] 27) = y6 at *
                        have hsz : y5.heap.size < y6.heap.size := blt hX
                        obtain ⟨x0, x1⟩ := cells2 hX
                        have xf0 : y6.frozen? ⟨y5.heap.size, 0, none⟩ = false := by unfold World.frozen?; rw [hX]; simp
                        have xf1 : y6.frozen? ⟨y5.heap.size, 1, none⟩ = false := by unfold World.frozen?; rw [hX]; simp
                        have hbz : Below w14.heap.size w14 ((y6.setCell ⟨y5.heap.size, 0, none⟩ (.int .i64 c3)).setCell ⟨y5.heap.size, 1, none⟩ (.slice ra k4.length rk)) := (hb6.setCell (p := ⟨y5.heap.size, 0, none⟩) hXb _).setCell (p := ⟨y5.heap.size, 1, none⟩) hXb _
                        have hx2 := (cells2 (heap_setCell_same _ _ 0 _ _ (.int .i64 c3) hX)).2
                        have HF := Lib.hid (CfS.mk (X := ⟨(c3, k4), n3, 0, p3⟩) (heap_setCell_same _ _ 1 _ _ (.slice ra k4.length rk) (heap_setCell_same _ _ 0 _ _ (.int .i64 c3) hX)) ((hDi.setNe hDn 0 _).setNe hDn 1 _) ((herD.beside x1 0 _).beside hx2 1 _))
                        clear hx2 hDi hDn herD
                        refine wpT_one (i := 19) (by kernel_rfl) rfl ?_
                        intro KK hKK
                        go_simp
                        refine hKK _ _ ⟨fun _ => mkS _ hbz, ?_⟩
                        clear hKK x0 x1 xf0 xf1 hX hsz
                        try simp only [Act.put]
                        generalize (y6.setCell ⟨y5.heap.size, 0, none⟩ (.int .i64 c3)).setCell ⟨y5.heap.size, 1, none⟩ (.slice ra k4.length rk) = yz at *
                        refine wpT_one (i := 20) (by kernel_rfl) rfl ?_
                        intro KK hKK
                        go_simp
                        refine hKK _ _ ⟨fun _ => mkS _ hbz, ?_⟩
                        clear hKK
                        try simp only [Act.put]
                        refine wpT_tail 21 1 rfl rfl (by kernel_rfl) (by kernel_rfl) ?_
                        simp only [List.drop_succ_cons, List.drop_zero]
                        go_wp2_with fail
                        go_meet
                        case rel => exact ⟨_, _, _, er, rfl, rfl, rfl, HF.out, hbz⟩
                    · as_aux_lemma =>
                        intro KK hKK
                        go_simp
                        have b5 := sbelow_new y4 (.cells #[.int .i64 0, .slice none 0 0] 27)
                        have hb5 := hb4.trans (b5.mono hb4.size)
                        have hX := heap_alloc_new y4 (.cells #[.int .i64 0, .slice none 0 0] 27)
                        have hXb : w14.heap.size ≤ y4.heap.size := hb4.size
                        replace hA2 := blk hA2 b5
                        replace hA1 := blk hA1 b5
                        replace hCc := hCc.step b5
                        replace hCd := hCd.step b5
                        refine hKK _ _ ⟨fun _ => mkS _ hb5, ?_⟩
                        clear hKK
                        try simp only [Act.put]
                        generalize y4.alloc (.cells #[.int .i64 0, .slice none 0 0] 27) = y5 at *
                        refine wpT_one (i := 13) (by kernel_rfl) rfl ?_
                        intro KK hKK
                        go_simp
                        refine (HD4.out y5 hb5 _ _ hCc hCd).mono ?_
                        rintro e y6 ⟨ra, rk, er, rfl, hownD, herD, b6⟩
                        have hDi := IntsAt.own hownD rfl
                        have hDn : ∀ ad, ra = some ad → 0 < k4.length → ad.block ≠ y4.heap.size := fun ad e h => by
                          have h1 := (hownD.lt ad.block (by rw [e]; rfl)).1
                          have h2 := blt hX
                          omega
                        clear hownD
                        have hb6 := hb5.trans (b6.mono hb5.size)
                        replace hA2 := blk hA2 b6
                        replace hA1 := blk hA1 b6
                        replace hCc := hCc.step b6
                        replace hCd := hCd.step b6
                        replace hX := blk hX b6
                        refine hKK _ _ ⟨fun _ => mkS _ hb6, ?_⟩
                        clear hKK
                        try simp only []
                        refine wpT_take (i := 14) (v := .tuple #[.agg #[.int .i64 c3, .slice ra k4.length rk], .int .u64 n3, er]) rfl (by kernel_rfl) (by kernel_rfl) (by kernel_rfl) (by kernel_rfl) (by kernel_rfl) (by kernel_rfl) (by kernel_rfl) (by kernel_rfl) (fun _ _ _ h => h) (Or.inl ⟨by rfl, ?_⟩) (mkS _ hb6) ?_
                        · rintro w' ⟨s0, s1, s2, s3, s4⟩
                          go_simp
                        try simp only [Act.put]
                        refine wpT_take (i := 15) (v := .agg #[.int .i64 c3, .slice ra k4.length rk]) rfl (by kernel_rfl) (by kernel_rfl) (by kernel_rfl) (by kernel_rfl) (by kernel_rfl) (by kernel_rfl) (by kernel_rfl) (by kernel_rfl) (fun _ _ _ h => h) (Or.inl ⟨by rfl, ?_⟩) (mkS _ hb6) ?_
                        · rintro w' ⟨s0, s1, s2, s3, s4⟩
                          go_simp
                        try simp only [Act.put]
                        refine wpT_take (i := 16) (v := .int .u64 n3) rfl (by kernel_rfl) (by kernel_rfl) (by kernel_rfl) (by kernel_rfl) (by kernel_rfl) (by kernel_rfl) (by kernel_rfl) (by kernel_rfl) (fun _ _ _ h => h) (Or.inl ⟨by rfl, ?_⟩) (mkS _ hb6) ?_
                        · rintro w' ⟨s0, s1, s2, s3, s4⟩
                          go_simp
                        try simp only [Act.put]
                        refine wpT_take (i := 17) (v := er) rfl (by kernel_rfl) (by kernel_rfl) (by kernel_rfl) (by kernel_rfl) (by kernel_rfl) (by kernel_rfl) (by kernel_rfl) (by kernel_rfl) (fun _ _ _ h => h) (Or.inl ⟨by rfl, ?_⟩) (mkS _ hb6) ?_
                        · rintro w' ⟨s0, s1, s2, s3, s4⟩
                          go_simp
                        try simp only [Act.put]
                        have hsz : y4.heap.size < y6.heap.size := blt hX
                        obtain ⟨x0, x1⟩ := cells2 hX
                        have xf0 : y6.frozen? ⟨y4.heap.size, 0, none⟩ = false := by unfold World.frozen?; rw [hX]; simp
                        have xf1 : y6.frozen? ⟨y4.heap.size, 1, none⟩ = false := by unfold World.frozen?; rw [hX]; simp
                        have hbz : Below w14.heap.size w14 ((y6.setCell ⟨y4.heap.size, 0, none⟩ (.int .i64 c3)).setCell ⟨y4.heap.size, 1, none⟩ (.slice ra k4.length rk)) := (hb6.setCell (p := ⟨y4.heap.size, 0, none⟩) hXb _).setCell (p := ⟨y4.heap.size, 1, none⟩) hXb _
                        have hx2 := (cells2 (heap_setCell_same _ _ 0 _ _ (.int .i64 c3) hX)).2
                        have HF := Lib.hid (CfS.mk (X := ⟨(c3, k4), n3, 0, p3⟩) (heap_setCell_same _ _ 1 _ _ (.slice ra k4.length rk) (heap_setCell_same _ _ 0 _ _ (.int .i64 c3) hX)) ((hDi.setNe hDn 0 _).setNe hDn 1 _) ((herD.beside x1 0 _).beside hx2 1 _))
                        clear hx2 hDi hDn herD
                        refine wpT_one (i := 19) (by kernel_rfl) rfl ?_
                        intro KK hKK
                        go_simp
                        refine hKK _ _ ⟨fun _ => mkS _ hbz, ?_⟩
                        clear hKK x0 x1 xf0 xf1 hX hsz
                        try simp only [Act.put]
                        generalize (y6.setCell ⟨y4.heap.size, 0, none⟩ (.int .i64 c3)).setCell ⟨y4.heap.size, 1, none⟩ (.slice ra k4.length rk) = yz at *
                        refine wpT_one (i := 20) (by kernel_rfl) rfl ?_
                        intro KK hKK
                        go_simp
                        refine hKK _ _ ⟨fun _ => mkS _ hbz, ?_⟩
                        clear hKK
                        try simp only [Act.put]
                        refine wpT_tail 21 1 rfl rfl (by kernel_rfl) (by kernel_rfl) ?_
                        simp only [List.drop_succ_cons, List.drop_zero]
                        go_wp2_with fail
                        go_meet
                        case rel => exact ⟨_, _, _, er, rfl, rfl, rfl, HF.out, hbz⟩
                · as_aux_lemma =>
                    intro KK hKK
                    go_simp
                    have b4 := sbelow_new y3 (.cells #[.int .i64 0, .slice none 0 0] 27)
                    have hb4 := hb3.trans (b4.mono hb3.size)
                    have hX := heap_alloc_new y3 (.cells #[.int .i64 0, .slice none 0 0] 27)
                    have hXb : w14.heap.size ≤ y3.heap.size := hb3.size
                    replace hA2 := blk hA2 b4
                    replace hA1 := blk hA1 b4
                    replace hCc := hCc.step b4
                    refine hKK _ _ ⟨fun _ => mkS _ hb4, ?_⟩
                    clear hKK
                    try simp only [Act.put]
                    generalize y3.alloc (.cells #[.int .i64 0, .slice none 0 0] 27) = y4 at *
                    refine wpT_one (i := 12) (by kernel_rfl) rfl ?_
                    intro KK hKK
                    go_simp
                    refine (concatI_any (w14.heap.size) _ _ xa xb y4 (blt hA2) (cells2 hA2).1 (cells2 hA2).2 ((H14.out.step hb4).lr.xs) ((H14.out.step hb4).b) (by have := HLn.out; omega) (by have := HLn.out; omega)).mono ?_
                    rintro e y5 ⟨gd, rfl, hownd, b5⟩
                    obtain ⟨gad, gcd, rfl⟩ := row_slice hownd
                    have hCd := IntsAt.own hownd (by rw [List.length_append])
                    clear hownd
                    have hb5 := hb4.trans (b5.mono hb4.size)
                    replace hA2 := blk hA2 b5
                    replace hA1 := blk hA1 b5
                    replace hCc := hCc.step b5
                    replace hX := blk hX b5
                    refine hKK _ _ ⟨fun _ => mkS _ hb5, ?_⟩
                    clear hKK
                    try simp only [Act.put]
                    refine wpT_one (i := 13) (by kernel_rfl) rfl ?_
                    intro KK hKK
                    go_simp
                    refine (HD4.out y5 hb5 _ _ hCc hCd).mono ?_
                    rintro e y6 ⟨ra, rk, er, rfl, hownD, herD, b6⟩
                    have hDi := IntsAt.own hownD rfl
                    have hDn : ∀ ad, ra = some ad → 0 < k4.length → ad.block ≠ y3.heap.size := fun ad e h => by
                      have h1 := (hownD.lt ad.block (by rw [e]; rfl)).1
                      have h2 := blt hX
                      omega
                    clear hownD
                    have hb6 := hb5.trans (b6.mono hb5.size)
                    replace hA2 := blk hA2 b6
                    replace hA1 := blk hA1 b6
                    replace hCc := hCc.step b6
                    replace hX := blk hX b6
                    replace hCd := hCd.step b6
                    refine hKK _ _ ⟨fun _ => mkS _ hb6, ?_⟩
                    clear hKK
                    try simp only []
                    refine wpT_take (i := 14) (v := .tuple #[.agg #[.int .i64 c3, .slice ra k4.length rk], .int .u64 n3, er]) rfl (by kernel_rfl) (by kernel_rfl) (by kernel_rfl) (by kernel_rfl) (by kernel_rfl) (by kernel_rfl) (by kernel_rfl) (by kernel_rfl) (fun _ _ _ h => h) (Or.inl ⟨by rfl, ?_⟩) (mkS _ hb6) ?_
                    · rintro w' ⟨s0, s1, s2, s3, s4⟩
                      go_simp
                    try simp only [Act.put]
                    refine wpT_take (i := 15) (v := .agg #[.int .i64 c3, .slice ra k4.length rk]) rfl (by kernel_rfl) (by kernel_rfl) (by kernel_rfl) (by kernel_rfl) (by kernel_rfl) (by kernel_rfl) (by kernel_rfl) (by kernel_rfl) (fun _ _ _ h => h) (Or.inl ⟨by rfl, ?_⟩) (mkS _ hb6) ?_
                    · rintro w' ⟨s0, s1, s2, s3, s4⟩
                      go_simp
                    try simp only [Act.put]
                    refine wpT_take (i := 16) (v := .int .u64 n3) rfl (by kernel_rfl) (by kernel_rfl) (by kernel_rfl) (by kernel_rfl) (by kernel_rfl) (by kernel_rfl) (by kernel_rfl) (by kernel_rfl) (fun _ _ _ h => h) (Or.inl ⟨by rfl, ?_⟩) (mkS _ hb6) ?_
                    · rintro w' ⟨s0, s1, s2, s3, s4⟩
                      go_simp
                    try simp only [Act.put]
                    refine wpT_take (i := 17) (v := er) rfl (by kernel_rfl) (by kernel_rfl) (by kernel_rfl) (by kernel_rfl) (by kernel_rfl) (by kernel_rfl) (by kernel_rfl) (by kernel_rfl) (fun _ _ _ h => h) (Or.inl ⟨by rfl, ?_⟩) (mkS _ hb6) ?_
                    · rintro w' ⟨s0, s1, s2, s3, s4⟩
                      go_simp
                    try simp only [Act.put]
                    have hsz : y3.heap.size < y6.heap.size := blt hX
                    obtain ⟨x0, x1⟩ := cells2 hX
                    have xf0 : y6.frozen? ⟨y3.heap.size, 0, none⟩ = false := by unfold World.frozen?; rw [hX]; simp
                    have xf1 : y6.frozen? ⟨y3.heap.size, 1, none⟩ = false := by unfold World.frozen?; rw [hX]; simp
                    have hbz : Below w14.heap.size w14 ((y6.setCell ⟨y3.heap.size, 0, none⟩ (.int .i64 c3)).setCell ⟨y3.heap.size, 1, none⟩ (.slice ra k4.length rk)) := (hb6.setCell (p := ⟨y3.heap.size, 0, none⟩) hXb _).setCell (p := ⟨y3.heap.size, 1, none⟩) hXb _
                    have hx2 := (cells2 (heap_setCell_same _ _ 0 _ _ (.int .i64 c3) hX)).2
                    have HF := Lib.hid (CfS.mk (X := ⟨(c3, k4), n3, 0, p3⟩) (heap_setCell_same _ _ 1 _ _ (.slice ra k4.length rk) (heap_setCell_same _ _ 0 _ _ (.int .i64 c3) hX)) ((hDi.setNe hDn 0 _).setNe hDn 1 _) ((herD.beside x1 0 _).beside hx2 1 _))
                    clear hx2 hDi hDn herD
                    refine wpT_one (i := 19) (by kernel_rfl) rfl ?_
                    intro KK hKK
                    go_simp
                    refine hKK _ _ ⟨fun _ => mkS _ hbz, ?_⟩
                    clear hKK x0 x1 xf0 xf1 hX hsz
                    try simp only [Act.put]
                    generalize (y6.setCell ⟨y3.heap.size, 0, none⟩ (.int .i64 c3)).setCell ⟨y3.heap.size, 1, none⟩ (.slice ra k4.length rk) = yz at *
                    refine wpT_one (i := 20) (by kernel_rfl) rfl ?_
                    intro KK hKK
                    go_simp
                    refine hKK _ _ ⟨fun _ => mkS _ hbz, ?_⟩
                    clear hKK
                    try simp only [Act.put]
                    refine wpT_tail 21 1 rfl rfl (by kernel_rfl) (by kernel_rfl) ?_
                    simp only [List.drop_succ_cons, List.drop_zero]
                    go_wp2_with fail
                    go_meet
                    case rel => exact ⟨_, _, _, er, rfl, rfl, rfl, HF.out, hbz⟩
            · as_aux_lemma =>
                intro KK hKK
                go_simp
                have b3 := sbelow_new y2 (.cells #[.int .i64 0, .slice none 0 0] 27)
                have hb3 := hb2.trans (b3.mono hb2.size)
                have hX := heap_alloc_new y2 (.cells #[.int .i64 0, .slice none 0 0] 27)
                have hXb : w14.heap.size ≤ y2.heap.size := hb2.size
                replace hA2 := blk hA2 b3
                replace hA1 := blk hA1 b3
                refine hKK _ _ ⟨fun _ => mkS _ hb3, ?_⟩
                clear hKK
                try simp only [Act.put]
                generalize y2.alloc (.cells #[.int .i64 0, .slice none 0 0] 27) = y3 at *
                refine wpT_one (i := 7) (by kernel_rfl) rfl ?_
                intro KK hKK
                go_simp
                refine (concatI_any (y1.heap.size) _ _ st0 xl y3 (blt hA1) (cells2 hA1).1 (cells2 hA1).2 ((H14.out.step hb3).lr.st) ((H14.out.step hb3).z) (by have := HLn.out; omega) (by have := HLn.out; omega)).mono ?_
                rintro e y4 ⟨gc, rfl, hownc, b4⟩
                obtain ⟨gac, gcc, rfl⟩ := row_slice hownc
                have hCc := IntsAt.own hownc (by rw [List.length_append])
                clear hownc
                have hb4 := hb3.trans (b4.mono hb3.size)
                replace hA2 := blk hA2 b4
                replace hA1 := blk hA1 b4
                replace hX := blk hX b4
                refine hKK _ _ ⟨fun _ => mkS _ hb4, ?_⟩
                clear hKK
                try simp only [Act.put]
                refine wpT_take (i := 8) (v := .agg #[.int .i64 s0, .slice gac (st0.length + xl.length) gcc]) rfl (by kernel_rfl) (by kernel_rfl) (by kernel_rfl) (by kernel_rfl) (by kernel_rfl) (by kernel_rfl) (by kernel_rfl) (by kernel_rfl) (fun _ _ _ h => h) (Or.inl ⟨by rfl, ?_⟩) (mkS _ hb4) ?_
                · rintro w' ⟨s0, s1, s2, s3, s4⟩
                  go_simp
                try simp only [Act.put]
                refine wpT_one (i := 12) (by kernel_rfl) rfl ?_
                intro KK hKK
                go_simp
                refine (concatI_any (w14.heap.size) _ _ xa xb y4 (blt hA2) (cells2 hA2).1 (cells2 hA2).2 ((H14.out.step hb4).lr.xs) ((H14.out.step hb4).b) (by have := HLn.out; omega) (by have := HLn.out; omega)).mono ?_
                rintro e y5 ⟨gd, rfl, hownd, b5⟩
                obtain ⟨gad, gcd, rfl⟩ := row_slice hownd
                have hCd := IntsAt.own hownd (by rw [List.length_append])
                clear hownd
                have hb5 := hb4.trans (b5.mono hb4.size)
                replace hA2 := blk hA2 b5
                replace hA1 := blk hA1 b5
                replace hX := blk hX b5
                replace hCc := hCc.step b5
                refine hKK _ _ ⟨fun _ => mkS _ hb5, ?_⟩
                clear hKK
                try simp only [Act.put]
                refine wpT_one (i := 13) (by kernel_rfl) rfl ?_
                intro KK hKK
                go_simp
                refine (HD4.out y5 hb5 _ _ hCc hCd).mono ?_
                rintro e y6 ⟨ra, rk, er, rfl, hownD, herD, b6⟩
                have hDi := IntsAt.own hownD rfl
                have hDn : ∀ ad, ra = some ad → 0 < k4.length → ad.block ≠ y2.heap.size := fun ad e h => by
                  have h1 := (hownD.lt ad.block (by rw [e]; rfl)).1
                  have h2 := blt hX
                  omega
                clear hownD
                have hb6 := hb5.trans (b6.mono hb5.size)
                replace hA2 := blk hA2 b6
                replace hA1 := blk hA1 b6
                replace hX := blk hX b6
                replace hCc := hCc.step b6
                replace hCd := hCd.step b6
                refine hKK _ _ ⟨fun _ => mkS _ hb6, ?_⟩
                clear hKK
                try simp only []
                refine wpT_take (i := 14) (v := .tuple #[.agg #[.int .i64 c3, .slice ra k4.length rk], .int .u64 n3, er]) rfl (by kernel_rfl) (by kernel_rfl) (by kernel_rfl) (by kernel_rfl) (by kernel_rfl) (by kernel_rfl) (by kernel_rfl) (by kernel_rfl) (fun _ _ _ h => h) (Or.inl ⟨by rfl, ?_⟩) (mkS _ hb6) ?_
                · rintro w' ⟨s0, s1, s2, s3, s4⟩
                  go_simp
                try simp only [Act.put]
                refine wpT_take (i := 15) (v := .agg #[.int .i64 c3, .slice ra k4.length rk]) rfl (by kernel_rfl) (by kernel_rfl) (by kernel_rfl) (by kernel_rfl) (by kernel_rfl) (by kernel_rfl) (by kernel_rfl) (by kernel_rfl) (fun _ _ _ h => h) (Or.inl ⟨by rfl, ?_⟩) (mkS _ hb6) ?_
                · rintro w' ⟨s0, s1, s2, s3, s4⟩
                  go_simp
                try simp only [Act.put]
                refine wpT_take (i := 16) (v := .int .u64 n3) rfl (by kernel_rfl) (by kernel_rfl) (by kernel_rfl) (by kernel_rfl) (by kernel_rfl) (by kernel_rfl) (by kernel_rfl) (by kernel_rfl) (fun _ _ _ h => h) (Or.inl ⟨by rfl, ?_⟩) (mkS _ hb6) ?_
                · rintro w' ⟨s0, s1, s2, s3, s4⟩
                  go_simp
                try simp only [Act.put]
                refine wpT_take (i := 17) (v := er) rfl (by kernel_rfl) (by kernel_rfl) (by kernel_rfl) (by kernel_rfl) (by kernel_rfl) (by kernel_rfl) (by kernel_rfl) (by kernel_rfl) (fun _ _ _ h => h) (Or.inl ⟨by rfl, ?_⟩) (mkS _ hb6) ?_
                · rintro w' ⟨s0, s1, s2, s3, s4⟩
                  go_simp
                try simp only [Act.put]
                have hsz : y2.heap.size < y6.heap.size := blt hX
                obtain ⟨x0, x1⟩ := cells2 hX
                have xf0 : y6.frozen? ⟨y2.heap.size, 0, none⟩ = false := by unfold World.frozen?; rw [hX]; simp
                have xf1 : y6.frozen? ⟨y2.heap.size, 1, none⟩ = false := by unfold World.frozen?; rw [hX]; simp
                have hbz : Below w14.heap.size w14 ((y6.setCell ⟨y2.heap.size, 0, none⟩ (.int .i64 c3)).setCell ⟨y2.heap.size, 1, none⟩ (.slice ra k4.length rk)) := (hb6.setCell (p := ⟨y2.heap.size, 0, none⟩) hXb _).setCell (p := ⟨y2.heap.size, 1, none⟩) hXb _
                have hx2 := (cells2 (heap_setCell_same _ _ 0 _ _ (.int .i64 c3) hX)).2
                have HF := Lib.hid (CfS.mk (X := ⟨(c3, k4), n3, 0, p3⟩) (heap_setCell_same _ _ 1 _ _ (.slice ra k4.length rk) (heap_setCell_same _ _ 0 _ _ (.int .i64 c3) hX)) ((hDi.setNe hDn 0 _).setNe hDn 1 _) ((herD.beside x1 0 _).beside hx2 1 _))
                clear hx2 hDi hDn herD
                refine wpT_one (i := 19) (by kernel_rfl) rfl ?_
                intro KK hKK
                go_simp
                refine hKK _ _ ⟨fun _ => mkS _ hbz, ?_⟩
                clear hKK x0 x1 xf0 xf1 hX hsz
                try simp only [Act.put]
                generalize (y6.setCell ⟨y2.heap.size, 0, none⟩ (.int .i64 c3)).setCell ⟨y2.heap.size, 1, none⟩ (.slice ra k4.length rk) = yz at *
                refine wpT_one (i := 20) (by kernel_rfl) rfl ?_
                intro KK hKK
                go_simp
                refine hKK _ _ ⟨fun _ => mkS _ hbz, ?_⟩
                clear hKK
                try simp only [Act.put]
                refine wpT_tail 21 1 rfl rfl (by kernel_rfl) (by kernel_rfl) ?_
                simp only [List.drop_succ_cons, List.drop_zero]
                go_wp2_with fail
                go_meet
                case rel => exact ⟨_, _, _, er, rfl, rfl, rfl, HF.out, hbz⟩
        · as_aux_lemma =>
            intro KK hKK
            go_simp
            have b2 := sbelow_new y1 (.cells #[.int .i64 0, .slice none 0 0] 27)
            have hb2 := hb1.trans (b2.mono hb1.size)
            have hX := heap_alloc_new y1 (.cells #[.int .i64 0, .slice none 0 0] 27)
            have hXb : w14.heap.size ≤ y1.heap.size := hb1.size
            replace hA2 := blk hA2 b2
            refine hKK _ _ ⟨fun _ => mkS _ hb2, ?_⟩
            clear hKK
            try simp only [Act.put]
            generalize y1.alloc (.cells #[.int .i64 0, .slice none 0 0] 27) = y2 at *
            refine wpT_one (i := 6) (by kernel_rfl) rfl ?_
            intro KK hKK
            go_simp
            have b3 := sbelow_new y2 (.cells #[.slice za st0.length zc, .slice xla xl.length xlc] 25)
            have hb3 := hb2.trans (b3.mono hb2.size)
            have hA1 := heap_alloc_new y2 (.cells #[.slice za st0.length zc, .slice xla xl.length xlc] 25)
            replace hA2 := blk hA2 b3
            replace hX := blk hX b3
            refine hKK _ _ ⟨fun _ => mkS _ hb3, ?_⟩
            clear hKK
            try simp only [Act.put]
            generalize y2.alloc (.cells #[.slice za st0.length zc, .slice xla xl.length xlc] 25) = y3 at *
            refine wpT_one (i := 7) (by kernel_rfl) rfl ?_
            intro KK hKK
            go_simp
            refine (concatI_any (y2.heap.size) _ _ st0 xl y3 (blt hA1) (cells2 hA1).1 (cells2 hA1).2 ((H14.out.step hb3).lr.st) ((H14.out.step hb3).z) (by have := HLn.out; omega) (by have := HLn.out; omega)).mono ?_
            rintro e y4 ⟨gc, rfl, hownc, b4⟩
            obtain ⟨gac, gcc, rfl⟩ := row_slice hownc
            have hCc := IntsAt.own hownc (by rw [List.length_append])
            clear hownc
            have hb4 := hb3.trans (b4.mono hb3.size)
            replace hA2 := blk hA2 b4
            replace hX := blk hX b4
            replace hA1 := blk hA1 b4
            refine hKK _ _ ⟨fun _ => mkS _ hb4, ?_⟩
            clear hKK
            try simp only [Act.put]
            refine wpT_take (i := 8) (v := .agg #[.int .i64 s0, .slice gac (st0.length + xl.length) gcc]) rfl (by kernel_rfl) (by kernel_rfl) (by kernel_rfl) (by kernel_rfl) (by kernel_rfl) (by kernel_rfl) (by kernel_rfl) (by kernel_rfl) (fun _ _ _ h => h) (Or.inl ⟨by rfl, ?_⟩) (mkS _ hb4) ?_
            · rintro w' ⟨s0, s1, s2, s3, s4⟩
              go_simp
            try simp only [Act.put]
            refine wpT_one (i := 12) (by kernel_rfl) rfl ?_
            intro KK hKK
            go_simp
            refine (concatI_any (w14.heap.size) _ _ xa xb y4 (blt hA2) (cells2 hA2).1 (cells2 hA2).2 ((H14.out.step hb4).lr.xs) ((H14.out.step hb4).b) (by have := HLn.out; omega) (by have := HLn.out; omega)).mono ?_
            rintro e y5 ⟨gd, rfl, hownd, b5⟩
            obtain ⟨gad, gcd, rfl⟩ := row_slice hownd
            have hCd := IntsAt.own hownd (by rw [List.length_append])
            clear hownd
            have hb5 := hb4.trans (b5.mono hb4.size)
            replace hA2 := blk hA2 b5
            replace hX := blk hX b5
            replace hA1 := blk hA1 b5
            replace hCc := hCc.step b5
            refine hKK _ _ ⟨fun _ => mkS _ hb5, ?_⟩
            clear hKK
            try simp only [Act.put]
            refine wpT_one (i := 13) (by kernel_rfl) rfl ?_
            intro KK hKK
            go_simp
            refine (HD4.out y5 hb5 _ _ hCc hCd).mono ?_
            rintro e y6 ⟨ra, rk, er, rfl, hownD, herD, b6⟩
            have hDi := IntsAt.own hownD rfl
            have hDn : ∀ ad, ra = some ad → 0 < k4.length → ad.block ≠ y1.heap.size := fun ad e h => by
              have h1 := (hownD.lt ad.block (by rw [e]; rfl)).1
              have h2 := blt hX
              omega
            clear hownD
            have hb6 := hb5.trans (b6.mono hb5.size)
            replace hA2 := blk hA2 b6
            replace hX := blk hX b6
            replace hA1 := blk hA1 b6
            replace hCc := hCc.step b6
            replace hCd := hCd.step b6
            refine hKK _ _ ⟨fun _ => mkS _ hb6, ?_⟩
            clear hKK
            try simp only []
            refine wpT_take (i := 14) (v := .tuple #[.agg #[.int .i64 c3, .slice ra k4.length rk], .int .u64 n3, er]) rfl (by kernel_rfl) (by kernel_rfl) (by kernel_rfl) (by kernel_rfl) (by kernel_rfl) (by kernel_rfl) (by kernel_rfl) (by kernel_rfl) (fun _ _ _ h => h) (Or.inl ⟨by rfl, ?_⟩) (mkS _ hb6) ?_
            · rintro w' ⟨s0, s1, s2, s3, s4⟩
              go_simp
            try simp only [Act.put]
            refine wpT_take (i := 15) (v := .agg #[.int .i64 c3, .slice ra k4.length rk]) rfl (by kernel_rfl) (by kernel_rfl) (by kernel_rfl) (by kernel_rfl) (by kernel_rfl) (by kernel_rfl) (by kernel_rfl) (by kernel_rfl) (fun _ _ _ h => h) (Or.inl ⟨by rfl, ?_⟩) (mkS _ hb6) ?_
            · rintro w' ⟨s0, s1, s2, s3, s4⟩
              go_simp
            try simp only [Act.put]
            refine wpT_take (i := 16) (v := .int .u64 n3) rfl (by kernel_rfl) (by kernel_rfl) (by kernel_rfl) (by kernel_rfl) (by kernel_rfl) (by kernel_rfl) (by kernel_rfl) (by kernel_rfl) (fun _ _ _ h => h) (Or.inl ⟨by rfl, ?_⟩) (mkS _ hb6) ?_
            · rintro w' ⟨s0, s1, s2, s3, s4⟩
              go_simp
            try simp only [Act.put]
            refine wpT_take (i := 17) (v := er) rfl (by kernel_rfl) (by kernel_rfl) (by kernel_rfl) (by kernel_rfl) (by kernel_rfl) (by kernel_rfl) (by kernel_rfl) (by kernel_rfl) (fun _ _ _ h => h) (Or.inl ⟨by rfl, ?_⟩) (mkS _ hb6) ?_
            · rintro w' ⟨s0, s1, s2, s3, s4⟩
              go_simp
            try simp only [Act.put]
            have hsz : y1.heap.size < y6.heap.size := blt hX
            obtain ⟨x0, x1⟩ := cells2 hX
            have xf0 : y6.frozen? ⟨y1.heap.size, 0, none⟩ = false := by unfold World.frozen?; rw [hX]; simp
            have xf1 : y6.frozen? ⟨y1.heap.size, 1, none⟩ = false := by unfold World.frozen?; rw [hX]; simp
            have hbz : Below w14.heap.size w14 ((y6.setCell ⟨y1.heap.size, 0, none⟩ (.int .i64 c3)).setCell ⟨y1.heap.size, 1, none⟩ (.slice ra k4.length rk)) := (hb6.setCell (p := ⟨y1.heap.size, 0, none⟩) hXb _).setCell (p := ⟨y1.heap.size, 1, none⟩) hXb _
            have hx2 := (cells2 (heap_setCell_same _ _ 0 _ _ (.int .i64 c3) hX)).2
            have HF := Lib.hid (CfS.mk (X := ⟨(c3, k4), n3, 0, p3⟩) (heap_setCell_same _ _ 1 _ _ (.slice ra k4.length rk) (heap_setCell_same _ _ 0 _ _ (.int .i64 c3) hX)) ((hDi.setNe hDn 0 _).setNe hDn 1 _) ((herD.beside x1 0 _).beside hx2 1 _))
            clear hx2 hDi hDn herD
            refine wpT_one (i := 19) (by kernel_rfl) rfl ?_
            intro KK hKK
            go_simp
            refine hKK _ _ ⟨fun _ => mkS _ hbz, ?_⟩
            clear hKK x0 x1 xf0 xf1 hX hsz
            try simp only [Act.put]
            generalize (y6.setCell ⟨y1.heap.size, 0, none⟩ (.int .i64 c3)).setCell ⟨y1.heap.size, 1, none⟩ (.slice ra k4.length rk) = yz at *
            refine wpT_one (i := 20) (by kernel_rfl) rfl ?_
            intro KK hKK
            go_simp
            refine hKK _ _ ⟨fun _ => mkS _ hbz, ?_⟩
            clear hKK
            try simp only [Act.put]
            refine wpT_tail 21 1 rfl rfl (by kernel_rfl) (by kernel_rfl) ?_
            simp only [List.drop_succ_cons, List.drop_zero]
            go_wp2_with fail
            go_meet
            case rel => exact ⟨_, _, _, er, rfl, rfl, rfl, HF.out, hbz⟩
    · as_aux_lemma =>
        intro KK hKK
        go_simp
        have hb1 : Below w14.heap.size w14 (w14.alloc (.cells #[.int .i64 0, .slice none 0 0] 27)).drew := (sbelow_new w14 (.cells #[.int .i64 0, .slice none 0 0] 27)).drew
        have hX : (w14.alloc (.cells #[.int .i64 0, .slice none 0 0] 27)).drew.heap[w14.heap.size]? = some (.cells #[.int .i64 0, .slice none 0 0] 27 (0, 0)) := heap_alloc_new w14 (.cells #[.int .i64 0, .slice none 0 0] 27)
        have hXb : w14.heap.size ≤ w14.heap.size := Nat.le_refl _
        refine hKK _ _ ⟨fun _ => mkS _ hb1, ?_⟩
        clear hKK
        try simp only [Act.put]
        generalize (w14.alloc (.cells #[.int .i64 0, .slice none 0 0] 27)).drew = y1 at *
        refine wpT_two (i := 6) (i' := 11) (by kernel_rfl) rfl rfl ?_ ?_
        · as_aux_lemma =>
            intro KK hKK
            go_simp
            have b2 := sbelow_new y1 (.cells #[.slice za st0.length zc, .slice xla xl.length xlc] 25)
            have hb2 := hb1.trans (b2.mono hb1.size)
            have hA1 := heap_alloc_new y1 (.cells #[.slice za st0.length zc, .slice xla xl.length xlc] 25)
            replace hX := blk hX b2
            refine hKK _ _ ⟨fun _ => mkS _ hb2, ?_⟩
            clear hKK
            try simp only [Act.put]
            generalize y1.alloc (.cells #[.slice za st0.length zc, .slice xla xl.length xlc] 25) = y2 at *
            refine wpT_two (i := 7) (i' := 11) (by kernel_rfl) rfl rfl ?_ ?_
            · as_aux_lemma =>
                intro KK hKK
                go_simp
                refine (concatI_any (y1.heap.size) _ _ st0 xl y2 (blt hA1) (cells2 hA1).1 (cells2 hA1).2 ((H14.out.step hb2).lr.st) ((H14.out.step hb2).z) (by have := HLn.out; omega) (by have := HLn.out; omega)).mono ?_
                rintro e y3 ⟨gc, rfl, hownc, b3⟩
                obtain ⟨gac, gcc, rfl⟩ := row_slice hownc
                have hCc := IntsAt.own hownc (by rw [List.length_append])
                clear hownc
                have hb3 := hb2.trans (b3.mono hb2.size)
                replace hX := blk hX b3
                replace hA1 := blk hA1 b3
                refine hKK _ _ ⟨fun _ => mkS _ hb3, ?_⟩
                clear hKK
                try simp only [Act.put]
                refine wpT_take (i := 8) (v := .agg #[.int .i64 s0, .slice gac (st0.length + xl.length) gcc]) rfl (by kernel_rfl) (by kernel_rfl) (by kernel_rfl) (by kernel_rfl) (by kernel_rfl) (by kernel_rfl) (by kernel_rfl) (by kernel_rfl) (fun _ _ _ h => h) (Or.inl ⟨by rfl, ?_⟩) (mkS _ hb3) ?_
                · rintro w' ⟨s0, s1, s2, s3, s4⟩
                  go_simp
                try simp only [Act.put]
                refine wpT_one (i := 11) (by kernel_rfl) rfl ?_
                intro KK hKK
                go_simp
                have b4 := sbelow_new y3 (.cells #[.slice xaa xa.length xac, .slice xba xb.length xbc] 25)
                have hb4 := hb3.trans (b4.mono hb3.size)
                have hA2 := heap_alloc_new y3 (.cells #[.slice xaa xa.length xac, .slice xba xb.length xbc] 25)
                replace hX := blk hX b4
                replace hA1 := blk hA1 b4
                replace hCc := hCc.step b4
                refine hKK _ _ ⟨fun _ => mkS _ hb4, ?_⟩
                clear hKK
                try simp only [Act.put]
                generalize y3.alloc (.cells #[.slice xaa xa.length xac, .slice xba xb.length xbc] 25) = y4 at *
                refine wpT_one (i := 12) (by kernel_rfl) rfl ?_
                intro KK hKK
                go_simp
                refine (concatI_any (y3.heap.size) _ _ xa xb y4 (blt hA2) (cells2 hA2).1 (cells2 hA2).2 ((H14.out.step hb4).lr.xs) ((H14.out.step hb4).b) (by have := HLn.out; omega) (by have := HLn.out; omega)).mono ?_
                rintro e y5 ⟨gd, rfl, hownd, b5⟩
                obtain ⟨gad, gcd, rfl⟩ := row_slice hownd
                have hCd := IntsAt.own hownd (by rw [List.length_append])
                clear hownd
                have hb5 := hb4.trans (b5.mono hb4.size)
                replace hX := blk hX b5
                replace hA1 := blk hA1 b5
                replace hCc := hCc.step b5
                replace hA2 := blk hA2 b5
                refine hKK _ _ ⟨fun _ => mkS _ hb5, ?_⟩
                clear hKK
                try simp only [Act.put]
                refine wpT_one (i := 13) (by kernel_rfl) rfl ?_
                intro KK hKK
                go_simp
                refine (HD4.out y5 hb5 _ _ hCc hCd).mono ?_
                rintro e y6 ⟨ra, rk, er, rfl, hownD, herD, b6⟩
                have hDi := IntsAt.own hownD rfl
                have hDn : ∀ ad, ra = some ad → 0 < k4.length → ad.block ≠ w14.heap.size := fun ad e h => by
                  have h1 := (hownD.lt ad.block (by rw [e]; rfl)).1
                  have h2 := blt hX
                  omega
                clear hownD
                have hb6 := hb5.trans (b6.mono hb5.size)
                replace hX := blk hX b6
                replace hA1 := blk hA1 b6
                replace hCc := hCc.step b6
                replace hA2 := blk hA2 b6
                replace hCd := hCd.step b6
                refine hKK _ _ ⟨fun _ => mkS _ hb6, ?_⟩
                clear hKK
                try simp only []
                refine wpT_take (i := 14) (v := .tuple #[.agg #[.int .i64 c3, .slice ra k4.length rk], .int .u64 n3, er]) rfl (by kernel_rfl) (by kernel_rfl) (by kernel_rfl) (by kernel_rfl) (by kernel_rfl) (by kernel_rfl) (by kernel_rfl) (by kernel_rfl) (fun _ _ _ h => h) (Or.inl ⟨by rfl, ?_⟩) (mkS _ hb6) ?_
                · rintro w' ⟨s0, s1, s2, s3, s4⟩
                  go_simp
                try simp only [Act.put]
                refine wpT_take (i := 15) (v := .agg #[.int .i64 c3, .slice ra k4.length rk]) rfl (by kernel_rfl) (by kernel_rfl) (by kernel_rfl) (by kernel_rfl) (by kernel_rfl) (by kernel_rfl) (by kernel_rfl) (by kernel_rfl) (fun _ _ _ h => h) (Or.inl ⟨by rfl, ?_⟩) (mkS _ hb6) ?_
                · rintro w' ⟨s0, s1, s2, s3, s4⟩
                  go_simp
                try simp only [Act.put]
                refine wpT_take (i := 16) (v := .int .u64 n3) rfl (by kernel_rfl) (by kernel_rfl) (by kernel_rfl) (by kernel_rfl) (by kernel_rfl) (by kernel_rfl) (by kernel_rfl) (by kernel_rfl) (fun _ _ _ h => h) (Or.inl ⟨by rfl, ?_⟩) (mkS _ hb6) ?_
                · rintro w' ⟨s0, s1, s2, s3, s4⟩
                  go_simp
                try simp only [Act.put]
                refine wpT_take (i := 17) (v := er) rfl (by kernel_rfl) (by kernel_rfl) (by kernel_rfl) (by kernel_rfl) (by kernel_rfl) (by kernel_rfl) (by kernel_rfl) (by kernel_rfl) (fun _ _ _ h => h) (Or.inl ⟨by rfl, ?_⟩) (mkS _ hb6) ?_
                · rintro w' ⟨s0, s1, s2, s3, s4⟩
                  go_simp
                try simp only [Act.put]
                have hsz : w14.heap.size < y6.heap.size := blt hX
                obtain ⟨x0, x1⟩ := cells2 hX
                have xf0 : y6.frozen? ⟨w14.heap.size, 0, none⟩ = false := by unfold World.frozen?; rw [hX]; simp
                have xf1 : y6.frozen? ⟨w14.heap.size, 1, none⟩ = false := by unfold World.frozen?; rw [hX]; simp
                have hbz : Below w14.heap.size w14 ((y6.setCell ⟨w14.heap.size, 0, none⟩ (.int .i64 c3)).setCell ⟨w14.heap.size, 1, none⟩ (.slice ra k4.length rk)) := (hb6.setCell (p := ⟨w14.heap.size, 0, none⟩) hXb _).setCell (p := ⟨w14.heap.size, 1, none⟩) hXb _
                have hx2 := (cells2 (heap_setCell_same _ _ 0 _ _ (.int .i64 c3) hX)).2
                have HF := Lib.hid (CfS.mk (X := ⟨(c3, k4), n3, 0, p3⟩) (heap_setCell_same _ _ 1 _ _ (.slice ra k4.length rk) (heap_setCell_same _ _ 0 _ _ (.int .i64 c3) hX)) ((hDi.setNe hDn 0 _).setNe hDn 1 _) ((herD.beside x1 0 _).beside hx2 1 _))
                clear hx2 hDi hDn herD
                refine wpT_one (i := 19) (by kernel_rfl) rfl ?_
                intro KK hKK
                go_simp
                refine hKK _ _ ⟨fun _ => mkS _ hbz, ?_⟩
                clear hKK x0 x1 xf0 xf1 hX hsz
                try simp only [Act.put]
                generalize (y6.setCell ⟨w14.heap.size, 0, none⟩ (.int .i64 c3)).setCell ⟨w14.heap.size, 1, none⟩ (.slice ra k4.length rk) = yz at *
                refine wpT_one (i := 20) (by kernel_rfl) rfl ?_
                intro KK hKK
                go_simp
                refine hKK _ _ ⟨fun _ => mkS _ hbz, ?_⟩
                clear hKK
                try simp only [Act.put]
                refine wpT_tail 21 1 rfl rfl (by kernel_rfl) (by kernel_rfl) ?_
                simp only [List.drop_succ_cons, List.drop_zero]
                go_wp2_with fail
                go_meet
                case rel => exact ⟨_, _, _, er, rfl, rfl, rfl, HF.out, hbz⟩
            · as_aux_lemma =>
                intro KK hKK
                go_simp
                have b3 := sbelow_new y2 (.cells #[.slice xaa xa.length xac, .slice xba xb.length xbc] 25)
                have hb3 := hb2.trans (b3.mono hb2.size)
                have hA2 := heap_alloc_new y2 (.cells #[.slice xaa xa.length xac, .slice xba xb.length xbc] 25)
                replace hX := blk hX b3
                replace hA1 := blk hA1 b3
                refine hKK _ _ ⟨fun _ => mkS _ hb3, ?_⟩
                clear hKK
                try simp only [Act.put]
                generalize y2.alloc (.cells #[.slice xaa xa.length xac, .slice xba xb.length xbc] 25) = y3 at *
                refine wpT_one (i := 7) (by kernel_rfl) rfl ?_
                intro KK hKK
                go_simp
                refine (concatI_any (y1.heap.size) _ _ st0 xl y3 (blt hA1) (cells2 hA1).1 (cells2 hA1).2 ((H14.out.step hb3).lr.st) ((H14.out.step hb3).z) (by have := HLn.out; omega) (by have := HLn.out; omega)).mono ?_
                rintro e y4 ⟨gc, rfl, hownc, b4⟩
                obtain ⟨gac, gcc, rfl⟩ := row_slice hownc
                have hCc := IntsAt.own hownc (by rw [List.length_append])
                clear hownc
                have hb4 := hb3.trans (b4.mono hb3.size)
                replace hX := blk hX b4
                replace hA1 := blk hA1 b4
                replace hA2 := blk hA2 b4
                refine hKK _ _ ⟨fun _ => mkS _ hb4, ?_⟩
                clear hKK
                try simp only [Act.put]
                refine wpT_take (i := 8) (v := .agg #[.int .i64 s0, .slice gac (st0.length + xl.length) gcc]) rfl (by kernel_rfl) (by kernel_rfl) (by kernel_rfl) (by kernel_rfl) (by kernel_rfl) (by kernel_rfl) (by kernel_rfl) (by kernel_rfl) (fun _ _ _ h => h) (Or.inl ⟨by rfl, ?_⟩) (mkS _ hb4) ?_
                · rintro w' ⟨s0, s1, s2, s3, s4⟩
                  go_simp
                try simp only [Act.put]
                refine wpT_one (i := 12) (by kernel_rfl) rfl ?_
                intro KK hKK
                go_simp
                refine (concatI_any (y2.heap.size) _ _ xa xb y4 (blt hA2) (cells2 hA2).1 (cells2 hA2).2 ((H14.out.step hb4).lr.xs) ((H14.out.step hb4).b) (by have := HLn.out; omega) (by have := HLn.out; omega)).mono ?_
                rintro e y5 ⟨gd, rfl, hownd, b5⟩
                obtain ⟨gad, gcd, rfl⟩ := row_slice hownd
                have hCd := IntsAt.own hownd (by rw [List.length_append])
                clear hownd
                have hb5 := hb4.trans (b5.mono hb4.size)
                replace hX := blk hX b5
                replace hA1 := blk hA1 b5
                replace hA2 := blk hA2 b5
                replace hCc := hCc.step b5
                refine hKK _ _ ⟨fun _ => mkS _ hb5, ?_⟩
                clear hKK
                try simp only [Act.put]
                refine wpT_one (i := 13) (by kernel_rfl) rfl ?_
                intro KK hKK
                go_simp
                refine (HD4.out y5 hb5 _ _ hCc hCd).mono ?_
                rintro e y6 ⟨ra, rk, er, rfl, hownD, herD, b6⟩
                have hDi := IntsAt.own hownD rfl
                have hDn : ∀ ad, ra = some ad → 0 < k4.length → ad.block ≠ w14.heap.size := fun ad e h => by
                  have h1 := (hownD.lt ad.block (by rw [e]; rfl)).1
                  have h2 := blt hX
                  omega
                clear hownD
                have hb6 := hb5.trans (b6.mono hb5.size)
                replace hX := blk hX b6
                replace hA1 := blk hA1 b6
                replace hA2 := blk hA2 b6
                replace hCc := hCc.step b6
                replace hCd := hCd.step b6
                refine hKK _ _ ⟨fun _ => mkS _ hb6, ?_⟩
                clear hKK
                try simp only []
                refine wpT_take (i := 14) (v := .tuple #[.agg #[.int .i64 c3, .slice ra k4.length rk], .int .u64 n3, er]) rfl (by kernel_rfl) (by kernel_rfl) (by kernel_rfl) (by kernel_rfl) (by kernel_rfl) (by kernel_rfl) (by kernel_rfl) (by kernel_rfl) (fun _ _ _ h => h) (Or.inl ⟨by rfl, ?_⟩) (mkS _ hb6) ?_
                · rintro w' ⟨s0, s1, s2, s3, s4⟩
                  go_simp
                try simp only [Act.put]
                refine wpT_take (i := 15) (v := .agg #[.int .i64 c3, .slice ra k4.length rk]) rfl (by kernel_rfl) (by kernel_rfl) (by kernel_rfl) (by kernel_rfl) (by kernel_rfl) (by kernel_rfl) (by kernel_rfl) (by kernel_rfl) (fun _ _ _ h => h) (Or.inl ⟨by rfl, ?_⟩) (mkS _ hb6) ?_
                · rintro w' ⟨s0, s1, s2, s3, s4⟩
                  go_simp
                try simp only [Act.put]
                refine wpT_take (i := 16) (v := .int .u64 n3) rfl (by kernel_rfl) (by kernel_rfl) (by kernel_rfl) (by kernel_rfl) (by kernel_rfl) (by kernel_rfl) (by kernel_rfl) (by kernel_rfl) (fun _ _ _ h => h) (Or.inl ⟨by rfl, ?_⟩) (mkS _ hb6) ?_
                · rintro w' ⟨s0, s1, s2, s3, s4⟩
                  go_simp
                try simp only [Act.put]
                refine wpT_take (i := 17) (v := er) rfl (by kernel_rfl) (by kernel_rfl) (by kernel_rfl) (by kernel_rfl) (by kernel_rfl) (by kernel_rfl) (by kernel_rfl) (by kernel_rfl) (fun _ _ _ h => h) (Or.inl ⟨by rfl, ?_⟩) (mkS _ hb6) ?_
                · rintro w' ⟨s0, s1, s2, s3, s4⟩
                  go_simp
                try simp only [Act.put]
                have hsz : w14.heap.size < y6.heap.size := blt hX
                obtain ⟨x0, x1⟩ := cells2 hX
                have xf0 : y6.frozen? ⟨w14.heap.size, 0, none⟩ = false := by unfold World.frozen?; rw [hX]; simp
                have xf1 : y6.frozen? ⟨w14.heap.size, 1, none⟩ = false := by unfold World.frozen?; rw [hX]; simp
                have hbz : Below w14.heap.size w14 ((y6.setCell ⟨w14.heap.size, 0, none⟩ (.int .i64 c3)).setCell ⟨w14.heap.size, 1, none⟩ (.slice ra k4.length rk)) := (hb6.setCell (p := ⟨w14.heap.size, 0, none⟩) hXb _).setCell (p := ⟨w14.heap.size, 1, none⟩) hXb _
                have hx2 := (cells2 (heap_setCell_same _ _ 0 _ _ (.int .i64 c3) hX)).2
                have HF := Lib.hid (CfS.mk (X := ⟨(c3, k4), n3, 0, p3⟩) (heap_setCell_same _ _ 1 _ _ (.slice ra k4.length rk) (heap_setCell_same _ _ 0 _ _ (.int .i64 c3) hX)) ((hDi.setNe hDn 0 _).setNe hDn 1 _) ((herD.beside x1 0 _).beside hx2 1 _))
                clear hx2 hDi hDn herD
                refine wpT_one (i := 19) (by kernel_rfl) rfl ?_
                intro KK hKK
                go_simp
                refine hKK _ _ ⟨fun _ => mkS _ hbz, ?_⟩
                clear hKK x0 x1 xf0 xf1 hX hsz
                try simp only [Act.put]
                generalize (y6.setCell ⟨w14.heap.size, 0, none⟩ (.int .i64 c3)).setCell ⟨w14.heap.size, 1, none⟩ (.slice ra k4.length rk) = yz at *
                refine wpT_one (i := 20) (by kernel_rfl) rfl ?_
                intro KK hKK
                go_simp
                refine hKK _ _ ⟨fun _ => mkS _ hbz, ?_⟩
                clear hKK
                try simp only [Act.put]
                refine wpT_tail 21 1 rfl rfl (by kernel_rfl) (by kernel_rfl) ?_
                simp only [List.drop_succ_cons, List.drop_zero]
                go_wp2_with fail
                go_meet
                case rel => exact ⟨_, _, _, er, rfl, rfl, rfl, HF.out, hbz⟩
        · as_aux_lemma =>
            intro KK hKK
            go_simp
            have b2 := sbelow_new y1 (.cells #[.slice xaa xa.length xac, .slice xba xb.length xbc] 25)
            have hb2 := hb1.trans (b2.mono hb1.size)
            have hA2 := heap_alloc_new y1 (.cells #[.slice xaa xa.length xac, .slice xba xb.length xbc] 25)
            replace hX := blk hX b2
            refine hKK _ _ ⟨fun _ => mkS _ hb2, ?_⟩
            clear hKK
            try simp only [Act.put]
            generalize y1.alloc (.cells #[.slice xaa xa.length xac, .slice xba xb.length xbc] 25) = y2 at *
            refine wpT_one (i := 6) (by kernel_rfl) rfl ?_
            intro KK hKK
            go_simp
            have b3 := sbelow_new y2 (.cells #[.slice za st0.length zc, .slice xla xl.length xlc] 25)
            have hb3 := hb2.trans (b3.mono hb2.size)
            have hA1 := heap_alloc_new y2 (.cells #[.slice za st0.length zc, .slice xla xl.length xlc] 25)
            replace hX := blk hX b3
            replace hA2 := blk hA2 b3
            refine hKK _ _ ⟨fun _ => mkS _ hb3, ?_⟩
            clear hKK
            try simp only [Act.put]
            generalize y2.alloc (.cells #[.slice za st0.length zc, .slice xla xl.length xlc] 25) = y3 at *
            refine wpT_one (i := 7) (by kernel_rfl) rfl ?_
            intro KK hKK
            go_simp
            refine (concatI_any (y2.heap.size) _ _ st0 xl y3 (blt hA1) (cells2 hA1).1 (cells2 hA1).2 ((H14.out.step hb3).lr.st) ((H14.out.step hb3).z) (by have := HLn.out; omega) (by have := HLn.out; omega)).mono ?_
            rintro e y4 ⟨gc, rfl, hownc, b4⟩
            obtain ⟨gac, gcc, rfl⟩ := row_slice hownc
            have hCc := IntsAt.own hownc (by rw [List.length_append])
            clear hownc
            have hb4 := hb3.trans (b4.mono hb3.size)
            replace hX := blk hX b4
            replace hA2 := blk hA2 b4
            replace hA1 := blk hA1 b4
            refine hKK _ _ ⟨fun _ => mkS _ hb4, ?_⟩
            clear hKK
            try simp only [Act.put]
            refine wpT_take (i := 8) (v := .agg #[.int .i64 s0, .slice gac (st0.length + xl.length) gcc]) rfl (by kernel_rfl) (by kernel_rfl) (by kernel_rfl) (by kernel_rfl) (by kernel_rfl) (by kernel_rfl) (by kernel_rfl) (by kernel_rfl) (fun _ _ _ h => h) (Or.inl ⟨by rfl, ?_⟩) (mkS _ hb4) ?_
            · rintro w' ⟨s0, s1, s2, s3, s4⟩
              go_simp
            try simp only [Act.put]
            refine wpT_one (i := 12) (by kernel_rfl) rfl ?_
            intro KK hKK
            go_simp
            refine (concatI_any (y1.heap.size) _ _ xa xb y4 (blt hA2) (cells2 hA2).1 (cells2 hA2).2 ((H14.out.step hb4).lr.xs) ((H14.out.step hb4).b) (by have := HLn.out; omega) (by have := HLn.out; omega)).mono ?_
            rintro e y5 ⟨gd, rfl, hownd, b5⟩
            obtain ⟨gad, gcd, rfl⟩ := row_slice hownd
            have hCd := IntsAt.own hownd (by rw [List.length_append])
            clear hownd
            have hb5 := hb4.trans (b5.mono hb4.size)
            replace hX := blk hX b5
            replace hA2 := blk hA2 b5
            replace hA1 := blk hA1 b5
            replace hCc := hCc.step b5
            refine hKK _ _ ⟨fun _ => mkS _ hb5, ?_⟩
            clear hKK
            try simp only [Act.put]
            refine wpT_one (i := 13) (by kernel_rfl) rfl ?_
            intro KK hKK
            go_simp
            refine (HD4.out y5 hb5 _ _ hCc hCd).mono ?_
            rintro e y6 ⟨ra, rk, er, rfl, hownD, herD, b6⟩
            have hDi := IntsAt.own hownD rfl
            have hDn : ∀ ad, ra = some ad → 0 < k4.length → ad.block ≠ w14.heap.size := fun ad e h => by
              have h1 := (hownD.lt ad.block (by rw [e]; rfl)).1
              have h2 := blt hX
              omega
            clear hownD
            have hb6 := hb5.trans (b6.mono hb5.size)
            replace hX := blk hX b6
            replace hA2 := blk hA2 b6
            replace hA1 := blk hA1 b6
            replace hCc := hCc.step b6
            replace hCd := hCd.step b6
            refine hKK _ _ ⟨fun _ => mkS _ hb6, ?_⟩
            clear hKK
            try simp only []
            refine wpT_take (i := 14) (v := .tuple #[.agg #[.int .i64 c3, .slice ra k4.length rk], .int .u64 n3, er]) rfl (by kernel_rfl) (by kernel_rfl) (by kernel_rfl) (by kernel_rfl) (by kernel_rfl) (by kernel_rfl) (by kernel_rfl) (by kernel_rfl) (fun _ _ _ h => h) (Or.inl ⟨by rfl, ?_⟩) (mkS _ hb6) ?_
            · rintro w' ⟨s0, s1, s2, s3, s4⟩
              go_simp
            try simp only [Act.put]
            refine wpT_take (i := 15) (v := .agg #[.int .i64 c3, .slice ra k4.length rk]) rfl (by kernel_rfl) (by kernel_rfl) (by kernel_rfl) (by kernel_rfl) (by kernel_rfl) (by kernel_rfl) (by kernel_rfl) (by kernel_rfl) (fun _ _ _ h => h) (Or.inl ⟨by rfl, ?_⟩) (mkS _ hb6) ?_
            · rintro w' ⟨s0, s1, s2, s3, s4⟩
              go_simp
            try simp only [Act.put]
            refine wpT_take (i := 16) (v := .int .u64 n3) rfl (by kernel_rfl) (by kernel_rfl) (by kernel_rfl) (by kernel_rfl) (by kernel_rfl) (by kernel_rfl) (by kernel_rfl) (by kernel_rfl) (fun _ _ _ h => h) (Or.inl ⟨by rfl, ?_⟩) (mkS _ hb6) ?_
            · rintro w' ⟨s0, s1, s2, s3, s4⟩
              go_simp
            try simp only [Act.put]
            refine wpT_take (i := 17) (v := er) rfl (by kernel_rfl) (by kernel_rfl) (by kernel_rfl) (by kernel_rfl) (by kernel_rfl) (by kernel_rfl) (by kernel_rfl) (by kernel_rfl) (fun _ _ _ h => h) (Or.inl ⟨by rfl, ?_⟩) (mkS _ hb6) ?_
            · rintro w' ⟨s0, s1, s2, s3, s4⟩
              go_simp
            try simp only [Act.put]
            have hsz : w14.heap.size < y6.heap.size := blt hX
            obtain ⟨x0, x1⟩ := cells2 hX
            have xf0 : y6.frozen? ⟨w14.heap.size, 0, none⟩ = false := by unfold World.frozen?; rw [hX]; simp
            have xf1 : y6.frozen? ⟨w14.heap.size, 1, none⟩ = false := by unfold World.frozen?; rw [hX]; simp
            have hbz : Below w14.heap.size w14 ((y6.setCell ⟨w14.heap.size, 0, none⟩ (.int .i64 c3)).setCell ⟨w14.heap.size, 1, none⟩ (.slice ra k4.length rk)) := (hb6.setCell (p := ⟨w14.heap.size, 0, none⟩) hXb _).setCell (p := ⟨w14.heap.size, 1, none⟩) hXb _
            have hx2 := (cells2 (heap_setCell_same _ _ 0 _ _ (.int .i64 c3) hX)).2
            have HF := Lib.hid (CfS.mk (X := ⟨(c3, k4), n3, 0, p3⟩) (heap_setCell_same _ _ 1 _ _ (.slice ra k4.length rk) (heap_setCell_same _ _ 0 _ _ (.int .i64 c3) hX)) ((hDi.setNe hDn 0 _).setNe hDn 1 _) ((herD.beside x1 0 _).beside hx2 1 _))
            clear hx2 hDi hDn herD
            refine wpT_one (i := 19) (by kernel_rfl) rfl ?_
            intro KK hKK
            go_simp
            refine hKK _ _ ⟨fun _ => mkS _ hbz, ?_⟩
            clear hKK x0 x1 xf0 xf1 hX hsz
            try simp only [Act.put]
            generalize (y6.setCell ⟨w14.heap.size, 0, none⟩ (.int .i64 c3)).setCell ⟨w14.heap.size, 1, none⟩ (.slice ra k4.length rk) = yz at *
            refine wpT_one (i := 20) (by kernel_rfl) rfl ?_
            intro KK hKK
            go_simp
            refine hKK _ _ ⟨fun _ => mkS _ hbz, ?_⟩
            clear hKK
            try simp only [Act.put]
            refine wpT_tail 21 1 rfl rfl (by kernel_rfl) (by kernel_rfl) ?_
            simp only [List.drop_succ_cons, List.drop_zero]
            go_wp2_with fail
            go_meet
            case rel => exact ⟨_, _, _, er, rfl, rfl, rfl, HF.out, hbz⟩
  case rest =>
  obtain ⟨Wb, qw, qwk, ew, rfl, rfl, rfl, hcw, hbw⟩ := hcut
  obtain rfl := hcw.er.nil_of
  have H15 := Lib.hid (H14.out.step hbw)
  have HZ15 := Lib.hid (HZ14.out.step hbw)
  have HW15 := Lib.hid hcw
  clear hcw hbw H14 HZ14 HD4
  go_upto_region 13 with (fail)
  have HK : Hid (∀ W, Below wc.heap.size wc W → W.cell? ⟨Wb, 0, none⟩ = some (.int .i64 c3) ∧ W.cell? ⟨Wb, 1, none⟩ = some (.slice qw k4.length qwk) ∧ W.cell? ⟨Zb, 0, none⟩ = some (.int .i64 c3) ∧ W.cell? ⟨Zb, 1, none⟩ = some (.slice qz k3.length qzk)) := Lib.hid (fun W hb =>
    ⟨(cells2 (HW15.out.step hb).box).1, (cells2 (HW15.out.step hb).box).2, (cells2 (HZ15.out.step hb).box).1, (cells2 (HZ15.out.step hb).box).2⟩)
  have HCt := Lib.hid (catI_any k3 xl (.slice qz k3.length qzk) (.slice xla xl.length xlc) wc HZ15.out.ii H15.out.z (by have := HLn.out; omega) (by have := HLn.out; omega))
  have HEq := Lib.hid (fun W (a : Option Addr) (c : Nat) (hb : Below wc.heap.size wc W) (h : IntsAt W (.slice a (k3.length + xl.length) c) (k3 ++ xl)) => (equalI_any k4 (k3 ++ xl) (.slice qw k4.length qwk) _ W (HW15.out.step hb).ii h (by have := HL4.out; omega)).mono fun e w' (h : e = .returned (.bool (decide (k4 = k3 ++ xl))) ∧ Below W.heap.size W w') => (⟨by rw [h.1, HK4.out]; simp, h.2⟩ : e = .returned (.bool true) ∧ Below W.heap.size W w'))
  have hB := (Below.refl wc.heap.size wc).drew
  have kk := HK.out _ hB
  go_region_held3 (fun W => W.cell? ⟨Wb, 0, none⟩ = some (.int .i64 c3) ∧ W.cell? ⟨Wb, 1, none⟩ = some (.slice qw k4.length qwk) ∧ W.cell? ⟨Zb, 0, none⟩ = some (.int .i64 c3) ∧ W.cell? ⟨Zb, 1, none⟩ = some (.slice qz k3.length qzk))
    (first | exact kk | exact HK.out _ hB | exact HK.out _ (hB.trans ((sbelow_new _ _).mono hB.size)))
    (first
    | (go_at_call 8; (with_reducible refine HCt.out.mono ?_); rintro e w16 ⟨ga, gc, rfl, hD, b16⟩; replace hB := b16)
    | (go_at_call 11; (with_reducible refine (HEq.out _ _ _ hB hD).mono ?_); rintro e w17 ⟨rfl, b17⟩; replace hB := hB.trans (b17.mono hB.size); clear b17))
  have HEND := Lib.hid (H15.out.lr.below.trans (hB.mono H15.out.lr.below.size))
  go_wp2
  go_ret
  exact ⟨by simp, HEND.out⟩
end Go.Proofs.YtjanbhodikhdeaaDoor
