/-
  TableCheck's law, by contract.
-/
import Derived.Test.YtlcpbfklnjlgnaaGreatDoorGy
import Derived.Test.YtlcpbfklnjlgnaaGreatDoorGz
import Derived.Test.YtlcpbfklnjlgnaaGreatDoorGza
import Derived.Test.YtlcpbfklnjlgnaaGreatDoorGp
import Derived.Test.YtlcpbfklnjlgnaaGreatDoorGx
namespace Go.Proofs.YtlcpbfklnjlgnaaGreatDoor
open Go.RowKit Go.Extern.Stop Go.Stop Go.Extern

theorem firstF_words {f : Nat → Flt} {m : Nat} (h : ∀ i, (f i).2.2.length ≤ m) : ∀ (k i : Nat), (firstF f k i).2.2.length ≤ m + 1
  | 0, _ => by simp [firstF]
  | k + 1, i => by
    unfold firstF
    split
    · exact firstF_words h k (i + 1)
    · unfold inF
      split
      · have := h i; omega
      · have := h i; simp; omega
theorem chkGr_words (ls : List Lk) (ks : List Int) (inn top : Int) (es : List EnA) : (chkGr ls ks inn top es).2.2.length ≤ 1 := by
  unfold chkGr
  split
  · simp
  · refine firstF_words (m := 0) (fun i => ?_) _ _
    unfold chkEs
    cases es[i]? with
    | none => simp
    | some p =>
      simp only [Option.map_some, Option.getD_some]
      unfold chkEn
      split
      · simp
      · split <;> simp
theorem chkGs_words (ls : List Lk) (ks : List Int) (inn top : Int) (gs : List (List EnA)) : (chkGs ls ks inn top gs).2.2.length ≤ 2 := by
  unfold chkGs
  split
  · simp
  · refine firstF_words (m := 1) (fun i => ?_) _ _
    unfold chkGi
    cases gs[i]? with
    | none => simp
    | some l => exact chkGr_words ls ks inn top l
theorem chkT_words (ls : List Lk) (ks : List Int) (rows : List RwA) : (chkT ls ks rows).2.2.length ≤ 4 := by
  unfold chkT
  split
  · simp
  · have h := firstF_words (f := chkRs ls ks rows) (m := 2) (fun i => by
      unfold chkRs
      cases rows[i]? with
      | none => simp
      | some r =>
        simp only [Option.map_some, Option.getD_some]
        unfold chkRw
        split
        · simp
        · split
          · simp
          · split
            · simp
            · exact chkGs_words _ _ _ _ _) rows.length 0
    unfold inF
    split
    · omega
    · simp; omega
set_option maxRecDepth 100000 in
set_option maxHeartbeats 20000000 in
theorem tableCheck_any (vr vl vk v : Value) (rs : List ByteArray) (ls : List Lk) (ks : List Int) (rows : List RwA) (w : World) (ht : TpAt w vr vl rs ls) (hds : ∀ (i : Nat) (l : Lk), ls[i]? = some l → 0 ≤ l.ds)
    (hk : IntsAt w vk ks) (hv : RsP OpsAt w v rows) (hg : Handle w) (htab : TabB w) (hp : Tab w) :
    Calls Tryz.prog 3 #[.agg #[vr, vl], vk, v] w fun e w' => e = .returned (.bool true) ∧ Below w.heap.size w w' := by
  have HI := Lib.hid (TB.start ht)
  have HAw := Lib.hid (fun W h1 h2 => awake12_any W h1 h2)
  have HLt := Lib.hid (fun W h => light11_any vr vl rs ls W h)
  have HLr := Lib.hid (fun W (h : Below w.heap.size w W) => (show Calls Tryz.prog 6 #[v, .int .i64 300] W (LiPost W (LightRs rows 300)) from lightRs_any rows v 300 (by decide) W (hv.step keep_ops h)))
  have HTo := Lib.hid (fun W h (hl : LightT rs ls) => to11_any vr vl rs ls W h (by have := hl.nr; omega) (by have := hl.nl; omega))
  have HRc := Lib.hid (fun (u0 u1 : Value) W (h : TpAt W u0 u1 rs ls) (hl : LightT rs ls) => rcheck_any u0 u1 rs ls W h hl hds)
  have HTr := Lib.hid (fun W (h : Below w.heap.size w W) (hl : LightRs rows 300) => to12_any v rows W (hv.step keep_ops h) (by have := hl.n; omega) hl.r)
  have HRb := Lib.hid (fun (u0 u1 u : Value) W (h : TpAt W u0 u1 rs ls) (hb : Below w.heap.size w W) (h2 : RsP OpsC W u rows) (hkl : ks.length ≤ 100) (hl : LightT rs ls) (hlr : LightRs rows 300) =>
    rtbCheck_any u0 u1 vk u rs ls ks rows W h (hk.step hb) h2 hkl (by have := hl.nl; omega) (fun i r j l k p hr hl hp => by have := ((hlr.r i r hr).2 j l hl).2 k p hp; omega))
  have HCk := Lib.hid (fun W (h : Below w.heap.size w W) => tbCheck_any vr vl vk v rs ls ks rows W (ht.step h) (hk.step h) (htab.below htab.lt h) (hp.below h) (hv.step keep_ops h))
  have HW := Lib.hid (chkT_words ls ks rows)
  have HHan := Lib.hid (fun W (h : Below w.heap.size w W) => And.intro (hg.below h) (htab.below htab.lt h))
  obtain ⟨ra, rcap, rfl⟩ := ht.rs.form
  obtain ⟨la, lcap, rfl⟩ := ht.ls.form
  obtain ⟨ka, kcap, rfl⟩ := hk.form
  obtain ⟨va, vcap, rfl⟩ := hv.form
  clear ht hds hk hv hg htab hp
  go_enter Tryz.func3, Tryz.ntmps3
  go_wp2_with fail
  refine (HAw.out _ (HHan.out _ HI.out.below).1 (HHan.out _ HI.out.below).2).mono ?_
  rintro e w1 ⟨rfl, b1⟩
  have HI1 := Lib.hid (HI.out.step b1)
  clear b1 HI HAw
  have k0 := HI1.out.c0
  have k1 := HI1.out.c1
  go_wp2_with fail
  refine (HLt.out _ HI1.out.tp).mono ?_
  rintro e w2 ⟨m, rfl, hm, b2⟩
  have HI2 := Lib.hid (HI1.out.step b2)
  clear b2 HI1 HLt k0 k1
  cases m with
  | false =>
    clear hm
    go_wp2_with fail
    go_ret
    exact ⟨rfl, HI2.out.below⟩
  | true =>
    have HL := Lib.hid (hm rfl)
    clear hm
    by_cases hkl : ks.length ≤ 100
    · have hkl' : ¬ (100 : Int) < ks.length := by omega
      go_wp2_with fail
      refine (HLr.out _ HI2.out.below).mono ?_
      rintro e w3 ⟨m, rfl, hm, b3⟩
      have HI3 := Lib.hid (HI2.out.step b3)
      clear b3 HI2 HLr
      cases m with
      | false =>
        clear hm
        go_wp2_with fail
        go_ret
        exact ⟨rfl, HI3.out.below⟩
      | true =>
        have HLr := Lib.hid (hm rfl)
        clear hm
        have k0 := HI3.out.c0
        have k1 := HI3.out.c1
        go_wp2_with fail
        refine (HTo.out _ HI3.out.tp HL.out).mono ?_
        rintro e w4 ⟨u0, u1, rfl, htu, b4⟩
        have HI4 := Lib.hid (HI3.out.step b4)
        have HTu := Lib.hid htu
        obtain ⟨ua, uc, rfl⟩ := htu.rs.form
        obtain ⟨ua', uc', rfl⟩ := htu.ls.form
        clear b4 HI3 k0 k1 htu
        go_wp2_with fail
        refine (HRc.out _ _ _ HTu.out HL.out).mono ?_
        rintro e w5 ⟨c, a, s, rfl, -, b5⟩
        have HI5 := Lib.hid (HI4.out.step b5)
        clear b5 HI4 HTu
        by_cases hc : c = 0
        · subst hc
          have k0 := HI5.out.c0
          have k1 := HI5.out.c1
          go_wp2_with fail
          refine (HTo.out _ HI5.out.tp HL.out).mono ?_
          rintro e w6 ⟨u0, u1, rfl, htu, b6⟩
          have HI6 := Lib.hid (HI5.out.step b6)
          have HTu := Lib.hid htu
          obtain ⟨ua, uc, rfl⟩ := htu.rs.form
          obtain ⟨ua', uc', rfl⟩ := htu.ls.form
          clear b6 HI5 k0 k1 htu
          go_wp2_with fail
          refine (HTr.out _ HI6.out.below HLr.out).mono ?_
          rintro e w7 ⟨u, rfl, hu, b7⟩
          have HI7 := Lib.hid (HI6.out.step b7)
          have HTu7 := Lib.hid (HTu.out.step b7)
          have HU := Lib.hid hu
          obtain ⟨xa, xc, rfl⟩ := hu.form
          clear b7 HI6 HTu hu
          go_wp2_with fail
          refine (HRb.out _ _ _ _ HTu7.out HI7.out.below HU.out hkl HL.out HLr.out).mono ?_
          rintro e w8 ⟨u, rfl, hu, b8⟩
          have HI8 := Lib.hid (HI7.out.step b8)
          have HU8 := Lib.hid hu
          obtain ⟨ya, yc, hyc⟩ := hu.form
          clear b8 HI7 HTu7 HU hu HRb HTr HRc HTo
          generalize chkT ls ks rows = F at *
          subst hyc
          have k0 := HI8.out.c0
          have k1 := HI8.out.c1
          go_wp2_with fail
          refine (HCk.out _ HI8.out.below).mono ?_
          intro e w9 hp
          have hb9 : Below w8.heap.size w8 w9 := by obtain ⟨_, _, _, _, h⟩ := hp; exact h
          obtain ⟨ve, rfl, hwi⟩ := within_any F (by have := HW.out; omega) e w8 w9 hp _ w9 (Below.refl _ _) (HU8.out.keep hb9) (HHan.out _ (HI8.out.below.trans (hb9.mono HI8.out.below.size))).1
          have HWi := Lib.hid hwi
          have HB9 := Lib.hid (HI8.out.below.trans (hb9.mono HI8.out.below.size))
          have hve : ve = .nilIface ∨ ∃ T V, ve = .iface T V := by
            rcases hp.cases with ⟨e, -⟩ | ⟨T, V, -, e, -⟩
            · injection e with e
              exact .inl e
            · injection e with e
              exact .inr ⟨T, V, e⟩
          clear hp hb9 hwi k0 k1
          rcases hve with rfl | ⟨T, V, rfl⟩
          · go_wp2_with fail
            refine HWi.out.mono ?_
            rintro e w10 ⟨rfl, b10⟩
            go_wp2_with fail
            go_ret
            exact ⟨rfl, HB9.out.trans (b10.mono HB9.out.size)⟩
          · go_wp2_with fail
            refine HWi.out.mono ?_
            rintro e w10 ⟨rfl, b10⟩
            go_wp2_with fail
            go_ret
            exact ⟨rfl, HB9.out.trans (b10.mono HB9.out.size)⟩
        · have hc' : (c != 0) = true := by simpa using hc
          go_wp2_with fail
          go_ret
          exact ⟨rfl, HI5.out.below⟩
    · have hkl' : (100 : Int) < ks.length := by omega
      go_wp2_with fail
      go_ret
      exact ⟨rfl, HI2.out.below⟩
end Go.Proofs.YtlcpbfklnjlgnaaGreatDoor
