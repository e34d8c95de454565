/-
  The statement PdsLong as a walk: whatever the top, the labels, what lies below, the cost and the state, the law answers true, and all of old memory stays as it was.
-/
import Derived.Test.YtjanbhodikhdeaaDoorPdX
import Derived.Test.YtjanbhodikhdeaaDoorPdZ
import Derived.Deep.DeepCutAuto
namespace Go.Proofs.YtjanbhodikhdeaaDoor
open Go.RowKit Go.Extern.Stop Go.Stop Go.Extern

/-- A slice of bytes. -/
def U8sAt (w : World) (v : Value) (l : List Int) : Prop :=
  (∃ a cap, v = .slice a 0 cap ∧ l = []) ∨ ∃ b off cap, v = .slice (some ⟨b, off, none⟩) l.length cap ∧ b < w.heap.size ∧ ∀ i c, l[i]? = some c → w.cell? ⟨b, off + i, none⟩ = some (.int .u8 c)
theorem U8sAt.form {w : World} {v : Value} {l : List Int} (h : U8sAt w v l) : ∃ a cap, v = .slice a l.length cap := by
  rcases h with ⟨a, cap, rfl, rfl⟩ | ⟨b, off, cap, rfl, -⟩
  · exact ⟨a, cap, rfl⟩
  · exact ⟨_, cap, rfl⟩
theorem U8sAt.at {w w' : World} {a : Option Addr} {n cap : Nat} {l : List Int} (h : U8sAt w (.slice a n cap) l) {i : Nat} {c : Int} (hi : l[i]? = some c) (hb : Below w.heap.size w w') :
    ∃ b off, a = some ⟨b, off, none⟩ ∧ w'.cell? ⟨b, off + i, none⟩ = some (.int .u8 c) := by
  rcases h with ⟨a, cap, -, rfl⟩ | ⟨b, off, cap, e, hlt, hc⟩
  · simp at hi
  · injection e with e
    exact ⟨b, off, e, (hb.cell (p := ⟨b, off + i, none⟩) hlt).trans (hc i c hi)⟩
/-- What the law makes of bytes. -/
def mdL (l : List Int) : List Int := l.map (fun x => x % 100)
theorem mdL_len (l : List Int) : (mdL l).length = l.length := by simp [mdL]
theorem mdL_take {l : List Int} {i : Nat} {x : Int} (h : l[i]? = some x) : (mdL l).take (i + 1) = (mdL l).take i ++ [x % 100] := by
  have e : (mdL l)[i]? = some (x % 100) := by unfold mdL; rw [List.getElem?_map, h]; rfl
  rw [List.take_add_one, e]
  rfl
theorem mdL_bd (l : List Int) : ∀ x ∈ mdL l, 0 ≤ x ∧ x < 100 := by
  intro x hx
  obtain ⟨y, -, rfl⟩ := List.mem_map.1 hx
  omega
/-- The two rows, and old memory. -/
structure LgS (w : World) (l : List Int) (vl : Value) (r : List Int) (vr : Value) (W : World) : Prop where
  l : IntsC W vl l
  r : IntsAt W vr r
  below : Below w.heap.size w W
theorem LgS.step {w : World} {l : List Int} {vl : Value} {r : List Int} {vr : Value} {W W' : World} (h : LgS w l vl r vr W) (hb : Below W.heap.size W W') : LgS w l vl r vr W' :=
  ⟨h.l.step hb, h.r.step hb, h.below.trans (hb.mono h.below.size)⟩
/-- .. and the system. -/
structure LhS (w : World) (l : List Int) (vl : Value) (r : List Int) (vr : Value) (Sb : Nat) (vs : Value) (rs : List Ru) (W : World) : Prop where
  lg : LgS w l vl r vr W
  sys : W.heap[Sb]? = some (.cells #[.int .i64 20, .int .i64 100, vs] 24 (0, 0))
  rs : RusAt W vs rs
theorem LhS.step {w : World} {l : List Int} {vl : Value} {r : List Int} {vr : Value} {Sb : Nat} {vs : Value} {rs : List Ru} {W W' : World} (h : LhS w l vl r vr Sb vs rs W) (hb : Below W.heap.size W W') : LhS w l vl r vr Sb vs rs W' :=
  ⟨h.lg.step hb, blk h.sys hb, h.rs.step hb⟩
theorem ints_blk {W : World} {q : Nat} {x : Int} (h : W.heap[q]? = some (.cells #[.int .i64 x] 3 (0, 0))) : IntsAt W (.slice (some ⟨q, 0, none⟩) 1 1) [x] := by
  refine .inr ⟨q, 0, 1, rfl, blt h, fun i c hi => ?_⟩
  rcases i with _ | i
  · obtain rfl : x = c := by simpa using hi
    rw [Lib.cell_of_heap h]
    rfl
  · simp at hi
theorem lg_ok (top sd : Int) (push : List Int) (cost : Int) (m : Nat) (hm : m = push.length - 2) (hl : push.length ≤ 10) (ht : 0 ≤ top ∧ top < 100) (hsd : 0 ≤ sd ∧ sd < 2) (hp : ∀ x ∈ push, 0 ≤ x ∧ x < 100) (hc : 0 ≤ cost) :
    Short (lgL 0 top sd push cost 2 m m) 2 ∧ ∀ (i : Nat) (r : Ru), (lgL 0 top sd push cost 2 m m)[i]? = some r → 0 ≤ r.cost := by
  have h0 := (pdsF_zero (by rw [lg_may top sd push cost m hm hl ht hsd hp])).2
  refine ⟨fun i r hr => (ruF_zero (h0 r (List.mem_of_getElem? hr))).2.1, fun i r hr => ?_⟩
  have hi : i ≤ m := by
    have := (List.getElem?_eq_some_iff.1 hr).1
    rw [lgL_len] at this
    omega
  rw [lgL_at hi] at hr
  obtain rfl := Option.some.inj hr
  unfold lgR
  split
  · exact capI_nonneg hc
  · exact Int.le_refl 0
set_option maxRecDepth 100000 in
set_option maxHeartbeats 16000000 in
theorem pdsLongLaw_any (t : Int) (bp bb : List Int) (vp vb : Value) (cost o : Int) (w : World) (ht : 0 ≤ t ∧ t ≤ 255) (hpb : ∀ x ∈ bp, 0 ≤ x ∧ x ≤ 255) (hbb : ∀ x ∈ bb, 0 ≤ x ∧ x ≤ 255) (hc : 0 ≤ cost) (ho : 0 ≤ o ∧ o ≤ 255) (hp : U8sAt w vp bp) (hb : U8sAt w vb bb) (hg : Handle w) :
    Calls Tryd.prog 4 #[.int .u8 t, vp, vb, .int .u64 cost, .int .u8 o] w fun e w' => e = .returned (.bool true) ∧ Below w.heap.size w w' := by
  obtain ⟨pa, pc, rfl⟩ := hp.form
  obtain ⟨ba, bc, rfl⟩ := hb.form
  have HP := Lib.hid hp
  have HBb := Lib.hid hb
  have HPb := Lib.hid hpb
  have HBbb := Lib.hid hbb
  have HG := Lib.hid hg
  have HC := Lib.hid hc
  have HTo := Lib.hid (And.intro ht ho)
  clear hp hb hpb hbb hg hc ht ho
  go_enter Tryd.func4, Tryd.ntmps4
  go_wp2_with fail
  refine (awake21_any _ HG.out).mono ?_
  rintro e w1 ⟨rfl, b1⟩
  have B1 := Lib.hid b1
  clear b1
  by_cases hpl : (10 : Int) < (bp.length : Int)
  · go_wp2_with fail
    go_ret
    exact ⟨rfl, B1.out⟩
  by_cases hbl : (10 : Int) < (bb.length : Int)
  · go_wp2_with fail
    go_ret
    exact ⟨rfl, B1.out⟩
  go_wp2_with fail
  go_loopg [36, 11] bp.length (fun g u pv wr => ∃ i : Nat, i ≤ bp.length ∧ g = bp.length - i ∧ u = .int .i64 i ∧ wr.ownsRow w1.heap.size 3 1 pv ((mdL bp).take i).length (encI ((mdL bp).take i)) ∧ Below w1.heap.size w1 wr)
  case atStart => exact ⟨0, Nat.zero_le _, by omega, rfl, World.ownsRow_nil _ _ _ _, Below.refl _ _⟩
  case round =>
    obtain ⟨i, hi, hgi, rfl, hown, hb⟩ := hrel
    have HO := Lib.hid hown
    have HB := Lib.hid hb
    by_cases hlt : i < bp.length
    · obtain ⟨x, hx⟩ : ∃ x, bp[i]? = some x := ⟨_, List.getElem?_eq_getElem hlt⟩
      obtain ⟨b, off, rfl, k0⟩ := HP.out.at hx (B1.out.trans (hb.mono B1.out.size))
      obtain ⟨hx0, hx1⟩ := HPb.out x (List.mem_of_getElem? hx)
      have HT := Lib.hid (mdL_take hx)
      obtain ⟨y, hy⟩ : ∃ y, x % 100 = y := ⟨_, rfl⟩
      have hm : Int.tmod x 100 = y := by rw [Int.tmod_eq_emod_of_nonneg hx0, hy]
      have hy0 : 0 ≤ y := by omega
      have hy1 : y < 100 := by omega
      have hyw : IntKind.i64.wrap y = y := by rw [IntKind.wrap_i64]; omega
      have hyu : IntKind.u8.wrap y = y := by rw [IntKind.wrap_u8]; omega
      rw [hy] at HT
      have htl : ((mdL bp).take i).length ≤ 10 := by rw [List.length_take, mdL_len]; omega
      clear hy hx hown hb hx0 hx1
      go_wp2_with (at_builtin; refine wpList_append_ints _ rfl _ _ rfl w1.heap.size _ _ _ rfl (HO.out.alloc _) _ [y] rfl (ints_new wr y) (by simp; omega) (by have := HB.out.size; simp; omega) ?_)
      intro v' w10 hown10 hgrow10
      have h5 : Hid (w10.ownsRow w1.heap.size 3 1 v' ((mdL bp).take (i + 1)).length (encI ((mdL bp).take (i + 1)))) := Lib.hid (by
        rw [HT.out, encI_snoc']
        simpa using hown10)
      have h6 := Lib.hid ((HB.out.alloc HB.out.size (.cells #[.int .i64 y] 3)).grown hgrow10 (by have := HB.out.size; simp; omega) (fun k e => (HO.out.lt k e).1))
      clear hown10 hgrow10 HO HB
      go_wp2_with fail
      go_roundg (bp.length - (i + 1))
      case measure => omega
      case rel => exact ⟨i + 1, by omega, rfl, by go_num, h5.out, h6.out⟩
    · obtain rfl : i = bp.length := by omega
      have hfull : (mdL bp).take bp.length = mdL bp := by rw [← mdL_len bp, List.take_length]
      rw [hfull] at hown
      clear HO HB hfull
      rename World => w2
      have B2 := Lib.hid (B1.out.trans (hb.mono B1.out.size))
      have HL2 := Lib.hid (IntsC.own hown rfl)
      clear hown hb
      obtain ⟨la, lc, rfl⟩ := HL2.out.1.form
      go_wp2_with fail
      go_loopg [49, 12] bb.length (fun g u pv wr => ∃ i : Nat, i ≤ bb.length ∧ g = bb.length - i ∧ u = .int .i64 i ∧ wr.ownsRow w2.heap.size 3 1 pv ((mdL bb).take i).length (encI ((mdL bb).take i)) ∧ Below w2.heap.size w2 wr)
      case atStart => exact ⟨0, Nat.zero_le _, by omega, rfl, World.ownsRow_nil _ _ _ _, Below.refl _ _⟩
      case round =>
        obtain ⟨i, hi, hgi, rfl, hown, hb⟩ := hrel
        have HO := Lib.hid hown
        have HB := Lib.hid hb
        by_cases hlt : i < bb.length
        · obtain ⟨x, hx⟩ : ∃ x, bb[i]? = some x := ⟨_, List.getElem?_eq_getElem hlt⟩
          obtain ⟨b, off, rfl, k0⟩ := HBb.out.at hx (B2.out.trans (hb.mono B2.out.size))
          obtain ⟨hx0, hx1⟩ := HBbb.out x (List.mem_of_getElem? hx)
          have HT := Lib.hid (mdL_take hx)
          obtain ⟨y, hy⟩ : ∃ y, x % 100 = y := ⟨_, rfl⟩
          have hm : Int.tmod x 100 = y := by rw [Int.tmod_eq_emod_of_nonneg hx0, hy]
          have hy0 : 0 ≤ y := by omega
          have hy1 : y < 100 := by omega
          have hyw : IntKind.i64.wrap y = y := by rw [IntKind.wrap_i64]; omega
          have hyu : IntKind.u8.wrap y = y := by rw [IntKind.wrap_u8]; omega
          rw [hy] at HT
          have htl : ((mdL bb).take i).length ≤ 10 := by rw [List.length_take, mdL_len]; omega
          clear hy hx hown hb hx0 hx1
          go_wp2_with (at_builtin; refine wpList_append_ints _ rfl _ _ rfl w2.heap.size _ _ _ rfl (HO.out.alloc _) _ [y] rfl (ints_new wr y) (by simp; omega) (by have := HB.out.size; simp; omega) ?_)
          intro v' w10 hown10 hgrow10
          have h5 : Hid (w10.ownsRow w2.heap.size 3 1 v' ((mdL bb).take (i + 1)).length (encI ((mdL bb).take (i + 1)))) := Lib.hid (by
            rw [HT.out, encI_snoc']
            simpa using hown10)
          have h6 := Lib.hid ((HB.out.alloc HB.out.size (.cells #[.int .i64 y] 3)).grown hgrow10 (by have := HB.out.size; simp; omega) (fun k e => (HO.out.lt k e).1))
          clear hown10 hgrow10 HO HB
          go_wp2_with fail
          go_roundg (bb.length - (i + 1))
          case measure => omega
          case rel => exact ⟨i + 1, by omega, rfl, by go_num, h5.out, h6.out⟩
        · obtain rfl : i = bb.length := by omega
          have hfull : (mdL bb).take bb.length = mdL bb := by rw [← mdL_len bb, List.take_length]
          rw [hfull] at hown
          clear HO HB hfull
          rename World => w5
          obtain ⟨rest, HRe⟩ : ∃ r, Hid (mdL bb = r) := ⟨_, Lib.hid rfl⟩
          obtain ⟨l, HLe⟩ : ∃ r, Hid (mdL bp = r) := ⟨_, Lib.hid rfl⟩
          have HLl : Hid (l.length ≤ 10 ∧ rest.length ≤ 10 ∧ ∀ x ∈ l, 0 ≤ x ∧ x < 100) := Lib.hid (by
            rw [← HRe.out, ← HLe.out, mdL_len, mdL_len]
            exact ⟨by omega, by omega, mdL_bd bp⟩)
          rw [HRe.out] at hown
          rw [HLe.out] at HL2 ⊢
          obtain ⟨ra0, rc0, rfl⟩ := row_slice hown
          have H5 : Hid (LgS w l (.slice la l.length lc) rest (.slice ra0 rest.length rc0) w5) := Lib.hid ⟨HL2.out.step hb, IntsAt.own hown rfl, B2.out.trans (hb.mono B2.out.size)⟩
          clear hown hb HL2 HRe HLe B1 B2 hpl hbl
          obtain ⟨tm, htm⟩ : ∃ y, t % 100 = y := ⟨_, rfl⟩
          obtain ⟨om, hom⟩ : ∃ y, o % 2 = y := ⟨_, rfl⟩
          have hT := HTo.out
          have htm1 : Int.tmod t 100 = tm := by rw [Int.tmod_eq_emod_of_nonneg (by omega), htm]
          have hom1 : Int.tmod o 2 = om := by rw [Int.tmod_eq_emod_of_nonneg (by omega), hom]
          have htm2 : 0 ≤ tm := by omega
          have htm3 : tm < 100 := by omega
          have hom2 : 0 ≤ om := by omega
          have hom3 : om < 2 := by omega
          have htw : IntKind.i64.wrap tm = tm := by rw [IntKind.wrap_i64]; omega
          have htu : IntKind.u8.wrap tm = tm := by rw [IntKind.wrap_u8]; omega
          have how : IntKind.i64.wrap om = om := by rw [IntKind.wrap_i64]; omega
          have hou : IntKind.u8.wrap om = om := by rw [IntKind.wrap_u8]; omega
          have HTm : Hid ((0 ≤ tm ∧ tm < 100) ∧ (0 ≤ om ∧ om < 2)) := Lib.hid ⟨⟨htm2, htm3⟩, hom2, hom3⟩
          obtain ⟨m, HM⟩ : ∃ m, Hid (m = l.length - 2) := ⟨_, Lib.hid rfl⟩
          obtain ⟨R, HR⟩ : ∃ R, Hid (lgL 0 tm om l cost 2 m m = R) := ⟨_, Lib.hid rfl⟩
          have HOk := Lib.hid (lg_ok tm om l cost m HM.out HLl.out.1 HTm.out.1 HTm.out.2 HLl.out.2.2 HC.out)
          have HMy := Lib.hid (lg_may tm om l cost m HM.out HLl.out.1 HTm.out.1 HTm.out.2 HLl.out.2.2)
          have HWh := Lib.hid (lg_whole tm om l rest cost 2 m HM.out)
          have HRl := Lib.hid (lgL_len 0 tm om l cost 2 m m)
          have HLo := Lib.hid (pdsLong_any 0 tm om l (.slice la l.length lc) cost 2 w5 H5.out.l HLl.out.1 (by omega) HC.out m HM.out)
          rw [HR.out] at HOk HMy HWh HRl HLo
          clear htm hom hT HTo
          go_upto_region 18 with (go_at_call 12; refine HLo.out.mono ?_; rintro e w6 ⟨vL, us, rfl, hR, b6⟩; obtain ⟨sa, sc, rfl⟩ := hR.rusAt.form)
          have bn6 := sbelow_new w6 (.cells #[.int .i64 20, .int .i64 100, .slice sa R.length sc] 24)
          have H7 : Hid (LhS w l (.slice la l.length lc) rest (.slice ra0 rest.length rc0) w6.heap.size (.slice sa R.length sc) R (w6.alloc (.cells #[.int .i64 20, .int .i64 100, .slice sa R.length sc] 24))) :=
            Lib.hid ⟨(H5.out.step b6).step bn6, heap_alloc_new w6 _, (hR.rusAt).step bn6⟩
          clear hR b6 bn6 H5 HLo
          generalize w6.alloc (.cells #[.int .i64 20, .int .i64 100, .slice sa R.length sc] 24) = w7 at *
          generalize w6.heap.size = Sb at *
          obtain ⟨s0', s1', s2'⟩ := cells3 H7.out.sys
          have hRl9 : R.length ≤ 9 := by have := HRl.out; have := HM.out; have := HLl.out.1; omega
          have hmx : max (1 : Int) ((l.length : Int) - 1) = (R.length : Int) := by have := HRl.out; have := HM.out; have := HLl.out.1; omega
          have HCk := Lib.hid (pdsCheck_any 20 100 _ R w7 H7.out.rs (by omega) (fun i r hr => Nat.le_trans (HOk.out.1 i r hr) (by decide)))
          rw [HMy.out] at HCk
          have HR9 := Lib.hid hRl9
          have hll := HLl.out.1
          go_wp2_with fail
          refine HCk.out.mono ?_
          rintro e w8 ⟨ev, rfl, hev, b8⟩
          obtain rfl := hev.nil_of
          have H8 := Lib.hid (H7.out.step b8)
          clear hev b8 H7 HCk s0' s1' s2' hRl9
          go_wp2_with fail
          clear hmx hll
          go_loopg [85, 19] R.length (fun g u pv wr => ∃ i : Nat, i ≤ R.length ∧ g = R.length - i ∧ u = .int .i64 i ∧ wr.ownsRow w8.heap.size 3 1 pv (upI i).length (encI (upI i)) ∧ Below w8.heap.size w8 wr)
          case atStart => exact ⟨0, Nat.zero_le _, by omega, rfl, World.ownsRow_nil _ _ _ _, Below.refl _ _⟩
          case round =>
            obtain ⟨i, hi, hgi, rfl, hown, hb⟩ := hrel
            have HO := Lib.hid hown
            have HB := Lib.hid hb
            by_cases hlt : i < R.length
            · have hr9 := HR9.out
              have htl : (upI i).length ≤ 10 := by rw [upI_len]; have := HR9.out; omega
              have HT := Lib.hid (upI_succ i)
              clear hown hb
              go_wp2_with (at_builtin; refine wpList_append_ints _ rfl _ _ rfl w8.heap.size _ _ _ rfl (HO.out.alloc _) _ [(i : Int)] rfl (ints_new wr i) (by simp; omega) (by have := HB.out.size; simp; omega) ?_)
              intro v' w10 hown10 hgrow10
              have h5 : Hid (w10.ownsRow w8.heap.size 3 1 v' (upI (i + 1)).length (encI (upI (i + 1)))) := Lib.hid (by
                rw [HT.out, encI_snoc']
                simpa using hown10)
              have h6 := Lib.hid ((HB.out.alloc HB.out.size (.cells #[.int .i64 (i : Int)] 3)).grown hgrow10 (by have := HB.out.size; simp; omega) (fun k e => (HO.out.lt k e).1))
              clear hown10 hgrow10 HO HB
              go_wp2_with fail
              go_roundg (R.length - (i + 1))
              case measure => omega
              case rel => exact ⟨i + 1, by omega, rfl, by go_num, h5.out, h6.out⟩
            · obtain rfl : i = R.length := by omega
              clear HO HB
              rename World => w11
              have H11 := Lib.hid (H8.out.step hb)
              rw [upI_len] at hown
              obtain ⟨ua, uc, rfl⟩ := row_slice hown
              have HU : Hid (IntsAt w11 (.slice ua R.length uc) (upI R.length)) := Lib.hid (IntsAt.own hown (upI_len _).symm)
              clear hown hb H8
              go_upto_region 26 with (fail)
              obtain ⟨k4, HK4⟩ : ∃ k, Hid (l ++ rest = k) := ⟨_, Lib.hid rfl⟩
              obtain ⟨cc, HCc⟩ : ∃ k, Hid (capI cost = k) := ⟨_, Lib.hid rfl⟩
              have HRl := Lib.hid (show rest.length ≤ 10 from HLl.out.2.1)
              have HWi : Hid (goC R (upI R.length) 0 (0, tm :: rest) 0 = ⟨(om, k4), cc, 0, 0⟩) := Lib.hid (by
                have h := HWh.out
                rw [HK4.out, HCc.out] at h
                have e : R.length = m + 1 := by rw [← HR.out, lgL_len]
                rw [e]
                exact h)
              have HD4 := Lib.hid (fun W (hb : Below w11.heap.size w11 W) (u : Value) (h : IntsAt W u ([tm] ++ rest)) => pdsDo_any 20 100 (.slice sa R.length sc) R (0, tm :: rest) u (upI R.length) (.slice ua R.length uc) W (H11.out.step hb).rs (fun i r hr => Nat.le_trans (HOk.out.1 i r hr) (by decide)) HOk.out.2 (by have := HR9.out; omega) h (HU.out.step hb) (by have := HRl.out; have := HR9.out; rw [upI_len]; show (tm :: rest).length + 100 * R.length ≤ 50000; rw [List.length_cons]; omega))
              rw [HWi.out] at HD4
              clear HWi HWh
              go_cut [21, 22, 23] (fun v21 v22 v23 wx => ∃ (Cb : Nat) (ra : Option Addr) (rk : Nat) (er : Value), v21 = .pointer (some ⟨Cb, 0, none⟩) ∧ v22 = .int .u64 cc ∧ v23 = er ∧ CfS Cb ⟨(om, k4), cc, 0, 0⟩ (.slice ra k4.length rk) er wx ∧ Below w11.heap.size w11 wx)
              case first =>
                have hbd := (Below.refl w11.heap.size w11).drew
                refine region_T (fun W : World => W.cell? ⟨Sb, 0, none⟩ = some (.int .i64 20) ∧ W.cell? ⟨Sb, 1, none⟩ = some (.int .i64 100) ∧ W.cell? ⟨Sb, 2, none⟩ = some (.slice sa R.length sc)) 18 (by kernel_rfl) ?_
                have mkS : ∀ W, Below w11.heap.size w11 W → W.cell? ⟨Sb, 0, none⟩ = some (.int .i64 20) ∧ W.cell? ⟨Sb, 1, none⟩ = some (.int .i64 100) ∧ W.cell? ⟨Sb, 2, none⟩ = some (.slice sa R.length sc) := fun W hb => cells3 (H11.out.step hb).sys
                refine wpT_take (i := 0) (v := .agg #[.int .i64 20, .int .i64 100, .slice sa R.length sc]) rfl (by kernel_rfl) (by kernel_rfl) (by kernel_rfl) (by kernel_rfl) (by kernel_rfl) (by kernel_rfl) (by kernel_rfl) (by kernel_rfl) (fun _ _ _ h => h) (Or.inl ⟨by rfl, ?_⟩) (mkS _ hbd) ?_
                · rintro w' ⟨s0, s1, s2⟩
                  go_simp
                try simp only [Act.put]
                refine wpT_take (i := 1) (v := .int .u8 t) rfl (by kernel_rfl) (by kernel_rfl) (by kernel_rfl) (by kernel_rfl) (by kernel_rfl) (by kernel_rfl) (by kernel_rfl) (by kernel_rfl) (fun _ _ _ h => h) (Or.inl ⟨by rfl, ?_⟩) (mkS _ hbd) ?_
                · rintro w' ⟨s0, s1, s2⟩
                  go_simp
                try simp only [Act.put]
                refine wpT_take (i := 2) (v := .int .u8 tm) rfl (by kernel_rfl) (by kernel_rfl) (by kernel_rfl) (by kernel_rfl) (by kernel_rfl) (by kernel_rfl) (by kernel_rfl) (by kernel_rfl) (fun _ _ _ h => h) (Or.inl ⟨by rfl, ?_⟩) (mkS _ hbd) ?_
                · rintro w' ⟨s0, s1, s2⟩
                  go_simp
                try simp only [Act.put]
                refine wpT_take (i := 3) (v := .int .i64 tm) rfl (by kernel_rfl) (by kernel_rfl) (by kernel_rfl) (by kernel_rfl) (by kernel_rfl) (by kernel_rfl) (by kernel_rfl) (by kernel_rfl) (fun _ _ _ h => h) (Or.inl ⟨by rfl, ?_⟩) (mkS _ hbd) ?_
                · rintro w' ⟨s0, s1, s2⟩
                  go_simp
                try simp only [Act.put]
                refine wpT_take (i := 5) (v := .slice ra0 rest.length rc0) rfl (by kernel_rfl) (by kernel_rfl) (by kernel_rfl) (by kernel_rfl) (by kernel_rfl) (by kernel_rfl) (by kernel_rfl) (by kernel_rfl) (fun _ _ _ h => h) (Or.inl ⟨by rfl, ?_⟩) (mkS _ hbd) ?_
                · rintro w' ⟨s0, s1, s2⟩
                  go_simp
                try simp only [Act.put]
                refine wpT_take (i := 9) (v := .slice ua R.length uc) rfl (by kernel_rfl) (by kernel_rfl) (by kernel_rfl) (by kernel_rfl) (by kernel_rfl) (by kernel_rfl) (by kernel_rfl) (by kernel_rfl) (fun _ _ _ h => h) (Or.inl ⟨by rfl, ?_⟩) (mkS _ hbd) ?_
                · rintro w' ⟨s0, s1, s2⟩
                  go_simp
                try simp only [Act.put]
                refine wpT_two (i := 4) (i' := 15) (by kernel_rfl) rfl rfl ?_ ?_
                · intro KK hKK
                  go_simp
                  have hb1 : Below w11.heap.size w11 (w11.alloc (.cells #[.int .i64 tm] 3)).drew := (sbelow_new w11 (.cells #[.int .i64 tm] 3)).drew
                  have hA1 : (w11.alloc (.cells #[.int .i64 tm] 3)).drew.heap[w11.heap.size]? = some (.cells #[.int .i64 tm] 3 (0, 0)) := heap_alloc_new w11 (.cells #[.int .i64 tm] 3)
                  refine hKK _ _ ⟨fun _ => mkS _ hb1, ?_⟩
                  clear hKK
                  try simp only [Act.put]
                  generalize (w11.alloc (.cells #[.int .i64 tm] 3)).drew = y1 at *
                  refine wpT_two (i := 6) (i' := 15) (by kernel_rfl) rfl rfl ?_ ?_
                  · intro KK hKK
                    go_simp
                    have b2 := sbelow_new y1 (.cells #[.slice (some ⟨w11.heap.size, 0, none⟩) 1 1, .slice ra0 rest.length rc0] 25)
                    have hb2 := hb1.trans (b2.mono hb1.size)
                    have hA2 := heap_alloc_new y1 (.cells #[.slice (some ⟨w11.heap.size, 0, none⟩) 1 1, .slice ra0 rest.length rc0] 25)
                    replace hA1 := blk hA1 b2
                    refine hKK _ _ ⟨fun _ => mkS _ hb2, ?_⟩
                    clear hKK
                    try simp only [Act.put]
                    generalize y1.alloc (.cells #[.slice (some ⟨w11.heap.size, 0, none⟩) 1 1, .slice ra0 rest.length rc0] 25) = y2 at *
                    refine wpT_two (i := 7) (i' := 15) (by kernel_rfl) rfl rfl ?_ ?_
                    · intro KK hKK
                      go_simp
                      refine (concatI_any (y1.heap.size) _ _ [tm] rest y2 (blt hA2) (cells2 hA2).1 (cells2 hA2).2 (ints_blk hA1) ((H11.out.step hb2).lg.r) (by simp) (by have := HRl.out; omega)).mono ?_
                      rintro e y3 ⟨gc, rfl, hownc, b3⟩
                      obtain ⟨gac, gcc, rfl⟩ := row_slice hownc
                      have hCc := IntsAt.own hownc (by rw [List.length_append])
                      clear hownc
                      have hb3 := hb2.trans (b3.mono hb2.size)
                      replace hA1 := blk hA1 b3
                      replace hA2 := blk hA2 b3
                      refine hKK _ _ ⟨fun _ => mkS _ hb3, ?_⟩
                      clear hKK
                      try simp only [Act.put]
                      refine wpT_take (i := 8) (v := .agg #[.int .i64 0, .slice gac ([tm].length + rest.length) gcc]) rfl (by kernel_rfl) (by kernel_rfl) (by kernel_rfl) (by kernel_rfl) (by kernel_rfl) (by kernel_rfl) (by kernel_rfl) (by kernel_rfl) (fun _ _ _ h => h) (Or.inl ⟨by rfl, ?_⟩) (mkS _ hb3) ?_
                      · rintro w' ⟨s0, s1, s2⟩
                        go_simp
                      try simp only [Act.put]
                      refine wpT_two (i := 10) (i' := 15) (by kernel_rfl) rfl rfl ?_ ?_
                      · intro KK hKK
                        go_simp
                        refine (HD4.out y3 hb3 _ hCc).mono ?_
                        rintro e y4 ⟨ra, rk, er, rfl, hownD, herD, b4⟩
                        have hDi := IntsAt.own hownD rfl
                        clear hownD
                        have hb4 := hb3.trans (b4.mono hb3.size)
                        replace hA1 := blk hA1 b4
                        replace hA2 := blk hA2 b4
                        replace hCc := hCc.step b4
                        refine hKK _ _ ⟨fun _ => mkS _ hb4, ?_⟩
                        clear hKK
                        try simp only []
                        refine wpT_take (i := 11) (v := .tuple #[.agg #[.int .i64 om, .slice ra k4.length rk], .int .u64 cc, er]) rfl (by kernel_rfl) (by kernel_rfl) (by kernel_rfl) (by kernel_rfl) (by kernel_rfl) (by kernel_rfl) (by kernel_rfl) (by kernel_rfl) (fun _ _ _ h => h) (Or.inl ⟨by rfl, ?_⟩) (mkS _ hb4) ?_
                        · rintro w' ⟨s0, s1, s2⟩
                          go_simp
                        try simp only [Act.put]
                        refine wpT_take (i := 12) (v := .agg #[.int .i64 om, .slice ra k4.length rk]) rfl (by kernel_rfl) (by kernel_rfl) (by kernel_rfl) (by kernel_rfl) (by kernel_rfl) (by kernel_rfl) (by kernel_rfl) (by kernel_rfl) (fun _ _ _ h => h) (Or.inl ⟨by rfl, ?_⟩) (mkS _ hb4) ?_
                        · rintro w' ⟨s0, s1, s2⟩
                          go_simp
                        try simp only [Act.put]
                        refine wpT_take (i := 13) (v := .int .u64 cc) rfl (by kernel_rfl) (by kernel_rfl) (by kernel_rfl) (by kernel_rfl) (by kernel_rfl) (by kernel_rfl) (by kernel_rfl) (by kernel_rfl) (fun _ _ _ h => h) (Or.inl ⟨by rfl, ?_⟩) (mkS _ hb4) ?_
                        · rintro w' ⟨s0, s1, s2⟩
                          go_simp
                        try simp only [Act.put]
                        refine wpT_take (i := 14) (v := er) rfl (by kernel_rfl) (by kernel_rfl) (by kernel_rfl) (by kernel_rfl) (by kernel_rfl) (by kernel_rfl) (by kernel_rfl) (by kernel_rfl) (fun _ _ _ h => h) (Or.inl ⟨by rfl, ?_⟩) (mkS _ hb4) ?_
                        · rintro w' ⟨s0, s1, s2⟩
                          go_simp
                        try simp only [Act.put]
                        refine wpT_one (i := 15) (by kernel_rfl) rfl ?_
                        intro KK hKK
                        go_simp
                        have b5 := sbelow_new y4 (.cells #[.int .i64 0, .slice none 0 0] 27)
                        have hb5 := hb4.trans (b5.mono hb4.size)
                        have hX := heap_alloc_new y4 (.cells #[.int .i64 0, .slice none 0 0] 27)
                        have hXb : w11.heap.size ≤ y4.heap.size := hb4.size
                        have hDn := fun ad e h => Nat.ne_of_lt (hDi.blk ad e h)
                        replace hA1 := blk hA1 b5
                        replace hA2 := blk hA2 b5
                        replace hCc := hCc.step b5
                        replace hDi := hDi.step b5
                        replace herD := herD.keep b5
                        refine hKK _ _ ⟨fun _ => mkS _ hb5, ?_⟩
                        clear hKK
                        try simp only [Act.put]
                        generalize y4.alloc (.cells #[.int .i64 0, .slice none 0 0] 27) = y5 at *
                        have hsz : y4.heap.size < y5.heap.size := blt hX
                        obtain ⟨x0, x1⟩ := cells2 hX
                        have xf0 : y5.frozen? ⟨y4.heap.size, 0, none⟩ = false := by unfold World.frozen?; rw [hX]; simp
                        have xf1 : y5.frozen? ⟨y4.heap.size, 1, none⟩ = false := by unfold World.frozen?; rw [hX]; simp
                        have hbz : Below w11.heap.size w11 ((y5.setCell ⟨y4.heap.size, 0, none⟩ (.int .i64 om)).setCell ⟨y4.heap.size, 1, none⟩ (.slice ra k4.length rk)) := (hb5.setCell (p := ⟨y4.heap.size, 0, none⟩) hXb _).setCell (p := ⟨y4.heap.size, 1, none⟩) hXb _
                        have hx2 := (cells2 (heap_setCell_same _ _ 0 _ _ (.int .i64 om) hX)).2
                        have HF := Lib.hid (CfS.mk (X := ⟨(om, k4), cc, 0, 0⟩) (heap_setCell_same _ _ 1 _ _ (.slice ra k4.length rk) (heap_setCell_same _ _ 0 _ _ (.int .i64 om) hX)) ((hDi.setNe hDn 0 _).setNe hDn 1 _) ((herD.beside x1 0 _).beside hx2 1 _))
                        clear hx2 hDi hDn herD
                        refine wpT_one (i := 16) (by kernel_rfl) rfl ?_
                        intro KK hKK
                        go_simp
                        refine hKK _ _ ⟨fun _ => mkS _ hbz, ?_⟩
                        clear hKK x0 x1 xf0 xf1 hX hsz
                        try simp only [Act.put]
                        generalize (y5.setCell ⟨y4.heap.size, 0, none⟩ (.int .i64 om)).setCell ⟨y4.heap.size, 1, none⟩ (.slice ra k4.length rk) = yz at *
                        refine wpT_one (i := 17) (by kernel_rfl) rfl ?_
                        intro KK hKK
                        go_simp
                        refine hKK _ _ ⟨fun _ => mkS _ hbz, ?_⟩
                        clear hKK
                        try simp only [Act.put]
                        refine wpT_tail 18 1 rfl rfl (by kernel_rfl) (by kernel_rfl) ?_
                        simp only [List.drop_succ_cons, List.drop_zero]
                        go_wp2_with fail
                        go_meet
                        case rel => exact ⟨_, _, _, er, rfl, rfl, rfl, HF.out, hbz⟩
                      · intro KK hKK
                        go_simp
                        have b4 := sbelow_new y3 (.cells #[.int .i64 0, .slice none 0 0] 27)
                        have hb4 := hb3.trans (b4.mono hb3.size)
                        have hX := heap_alloc_new y3 (.cells #[.int .i64 0, .slice none 0 0] 27)
                        have hXb : w11.heap.size ≤ y3.heap.size := hb3.size
                        replace hA1 := blk hA1 b4
                        replace hA2 := blk hA2 b4
                        replace hCc := hCc.step b4
                        refine hKK _ _ ⟨fun _ => mkS _ hb4, ?_⟩
                        clear hKK
                        try simp only [Act.put]
                        generalize y3.alloc (.cells #[.int .i64 0, .slice none 0 0] 27) = y4 at *
                        refine wpT_one (i := 10) (by kernel_rfl) rfl ?_
                        intro KK hKK
                        go_simp
                        refine (HD4.out y4 hb4 _ hCc).mono ?_
                        rintro e y5 ⟨ra, rk, er, rfl, hownD, herD, b5⟩
                        have hDi := IntsAt.own hownD rfl
                        have hDn : ∀ ad, ra = some ad → 0 < k4.length → ad.block ≠ y3.heap.size := fun ad e h => by
                          have h1 := (hownD.lt ad.block (by rw [e]; rfl)).1
                          have h2 := blt hX
                          omega
                        clear hownD
                        have hb5 := hb4.trans (b5.mono hb4.size)
                        replace hA1 := blk hA1 b5
                        replace hA2 := blk hA2 b5
                        replace hCc := hCc.step b5
                        replace hX := blk hX b5
                        refine hKK _ _ ⟨fun _ => mkS _ hb5, ?_⟩
                        clear hKK
                        try simp only []
                        refine wpT_take (i := 11) (v := .tuple #[.agg #[.int .i64 om, .slice ra k4.length rk], .int .u64 cc, er]) rfl (by kernel_rfl) (by kernel_rfl) (by kernel_rfl) (by kernel_rfl) (by kernel_rfl) (by kernel_rfl) (by kernel_rfl) (by kernel_rfl) (fun _ _ _ h => h) (Or.inl ⟨by rfl, ?_⟩) (mkS _ hb5) ?_
                        · rintro w' ⟨s0, s1, s2⟩
                          go_simp
                        try simp only [Act.put]
                        refine wpT_take (i := 12) (v := .agg #[.int .i64 om, .slice ra k4.length rk]) rfl (by kernel_rfl) (by kernel_rfl) (by kernel_rfl) (by kernel_rfl) (by kernel_rfl) (by kernel_rfl) (by kernel_rfl) (by kernel_rfl) (fun _ _ _ h => h) (Or.inl ⟨by rfl, ?_⟩) (mkS _ hb5) ?_
                        · rintro w' ⟨s0, s1, s2⟩
                          go_simp
                        try simp only [Act.put]
                        refine wpT_take (i := 13) (v := .int .u64 cc) rfl (by kernel_rfl) (by kernel_rfl) (by kernel_rfl) (by kernel_rfl) (by kernel_rfl) (by kernel_rfl) (by kernel_rfl) (by kernel_rfl) (fun _ _ _ h => h) (Or.inl ⟨by rfl, ?_⟩) (mkS _ hb5) ?_
                        · rintro w' ⟨s0, s1, s2⟩
                          go_simp
                        try simp only [Act.put]
                        refine wpT_take (i := 14) (v := er) rfl (by kernel_rfl) (by kernel_rfl) (by kernel_rfl) (by kernel_rfl) (by kernel_rfl) (by kernel_rfl) (by kernel_rfl) (by kernel_rfl) (fun _ _ _ h => h) (Or.inl ⟨by rfl, ?_⟩) (mkS _ hb5) ?_
                        · rintro w' ⟨s0, s1, s2⟩
                          go_simp
                        try simp only [Act.put]
                        have hsz : y3.heap.size < y5.heap.size := blt hX
                        obtain ⟨x0, x1⟩ := cells2 hX
                        have xf0 : y5.frozen? ⟨y3.heap.size, 0, none⟩ = false := by unfold World.frozen?; rw [hX]; simp
                        have xf1 : y5.frozen? ⟨y3.heap.size, 1, none⟩ = false := by unfold World.frozen?; rw [hX]; simp
                        have hbz : Below w11.heap.size w11 ((y5.setCell ⟨y3.heap.size, 0, none⟩ (.int .i64 om)).setCell ⟨y3.heap.size, 1, none⟩ (.slice ra k4.length rk)) := (hb5.setCell (p := ⟨y3.heap.size, 0, none⟩) hXb _).setCell (p := ⟨y3.heap.size, 1, none⟩) hXb _
                        have hx2 := (cells2 (heap_setCell_same _ _ 0 _ _ (.int .i64 om) hX)).2
                        have HF := Lib.hid (CfS.mk (X := ⟨(om, k4), cc, 0, 0⟩) (heap_setCell_same _ _ 1 _ _ (.slice ra k4.length rk) (heap_setCell_same _ _ 0 _ _ (.int .i64 om) hX)) ((hDi.setNe hDn 0 _).setNe hDn 1 _) ((herD.beside x1 0 _).beside hx2 1 _))
                        clear hx2 hDi hDn herD
                        refine wpT_one (i := 16) (by kernel_rfl) rfl ?_
                        intro KK hKK
                        go_simp
                        refine hKK _ _ ⟨fun _ => mkS _ hbz, ?_⟩
                        clear hKK x0 x1 xf0 xf1 hX hsz
                        try simp only [Act.put]
                        generalize (y5.setCell ⟨y3.heap.size, 0, none⟩ (.int .i64 om)).setCell ⟨y3.heap.size, 1, none⟩ (.slice ra k4.length rk) = yz at *
                        refine wpT_one (i := 17) (by kernel_rfl) rfl ?_
                        intro KK hKK
                        go_simp
                        refine hKK _ _ ⟨fun _ => mkS _ hbz, ?_⟩
                        clear hKK
                        try simp only [Act.put]
                        refine wpT_tail 18 1 rfl rfl (by kernel_rfl) (by kernel_rfl) ?_
                        simp only [List.drop_succ_cons, List.drop_zero]
                        go_wp2_with fail
                        go_meet
                        case rel => exact ⟨_, _, _, er, rfl, rfl, rfl, HF.out, hbz⟩
                    · intro KK hKK
                      go_simp
                      have b3 := sbelow_new y2 (.cells #[.int .i64 0, .slice none 0 0] 27)
                      have hb3 := hb2.trans (b3.mono hb2.size)
                      have hX := heap_alloc_new y2 (.cells #[.int .i64 0, .slice none 0 0] 27)
                      have hXb : w11.heap.size ≤ y2.heap.size := hb2.size
                      replace hA1 := blk hA1 b3
                      replace hA2 := blk hA2 b3
                      refine hKK _ _ ⟨fun _ => mkS _ hb3, ?_⟩
                      clear hKK
                      try simp only [Act.put]
                      generalize y2.alloc (.cells #[.int .i64 0, .slice none 0 0] 27) = y3 at *
                      refine wpT_one (i := 7) (by kernel_rfl) rfl ?_
                      intro KK hKK
                      go_simp
                      refine (concatI_any (y1.heap.size) _ _ [tm] rest y3 (blt hA2) (cells2 hA2).1 (cells2 hA2).2 (ints_blk hA1) ((H11.out.step hb3).lg.r) (by simp) (by have := HRl.out; omega)).mono ?_
                      rintro e y4 ⟨gc, rfl, hownc, b4⟩
                      obtain ⟨gac, gcc, rfl⟩ := row_slice hownc
                      have hCc := IntsAt.own hownc (by rw [List.length_append])
                      clear hownc
                      have hb4 := hb3.trans (b4.mono hb3.size)
                      replace hA1 := blk hA1 b4
                      replace hA2 := blk hA2 b4
                      replace hX := blk hX b4
                      refine hKK _ _ ⟨fun _ => mkS _ hb4, ?_⟩
                      clear hKK
                      try simp only [Act.put]
                      refine wpT_take (i := 8) (v := .agg #[.int .i64 0, .slice gac ([tm].length + rest.length) gcc]) rfl (by kernel_rfl) (by kernel_rfl) (by kernel_rfl) (by kernel_rfl) (by kernel_rfl) (by kernel_rfl) (by kernel_rfl) (by kernel_rfl) (fun _ _ _ h => h) (Or.inl ⟨by rfl, ?_⟩) (mkS _ hb4) ?_
                      · rintro w' ⟨s0, s1, s2⟩
                        go_simp
                      try simp only [Act.put]
                      refine wpT_one (i := 10) (by kernel_rfl) rfl ?_
                      intro KK hKK
                      go_simp
                      refine (HD4.out y4 hb4 _ hCc).mono ?_
                      rintro e y5 ⟨ra, rk, er, rfl, hownD, herD, b5⟩
                      have hDi := IntsAt.own hownD rfl
                      have hDn : ∀ ad, ra = some ad → 0 < k4.length → ad.block ≠ y2.heap.size := fun ad e h => by
                        have h1 := (hownD.lt ad.block (by rw [e]; rfl)).1
                        have h2 := blt hX
                        omega
                      clear hownD
                      have hb5 := hb4.trans (b5.mono hb4.size)
                      replace hA1 := blk hA1 b5
                      replace hA2 := blk hA2 b5
                      replace hX := blk hX b5
                      replace hCc := hCc.step b5
                      refine hKK _ _ ⟨fun _ => mkS _ hb5, ?_⟩
                      clear hKK
                      try simp only []
                      refine wpT_take (i := 11) (v := .tuple #[.agg #[.int .i64 om, .slice ra k4.length rk], .int .u64 cc, er]) rfl (by kernel_rfl) (by kernel_rfl) (by kernel_rfl) (by kernel_rfl) (by kernel_rfl) (by kernel_rfl) (by kernel_rfl) (by kernel_rfl) (fun _ _ _ h => h) (Or.inl ⟨by rfl, ?_⟩) (mkS _ hb5) ?_
                      · rintro w' ⟨s0, s1, s2⟩
                        go_simp
                      try simp only [Act.put]
                      refine wpT_take (i := 12) (v := .agg #[.int .i64 om, .slice ra k4.length rk]) rfl (by kernel_rfl) (by kernel_rfl) (by kernel_rfl) (by kernel_rfl) (by kernel_rfl) (by kernel_rfl) (by kernel_rfl) (by kernel_rfl) (fun _ _ _ h => h) (Or.inl ⟨by rfl, ?_⟩) (mkS _ hb5) ?_
                      · rintro w' ⟨s0, s1, s2⟩
                        go_simp
                      try simp only [Act.put]
                      refine wpT_take (i := 13) (v := .int .u64 cc) rfl (by kernel_rfl) (by kernel_rfl) (by kernel_rfl) (by kernel_rfl) (by kernel_rfl) (by kernel_rfl) (by kernel_rfl) (by kernel_rfl) (fun _ _ _ h => h) (Or.inl ⟨by rfl, ?_⟩) (mkS _ hb5) ?_
                      · rintro w' ⟨s0, s1, s2⟩
                        go_simp
                      try simp only [Act.put]
                      refine wpT_take (i := 14) (v := er) rfl (by kernel_rfl) (by kernel_rfl) (by kernel_rfl) (by kernel_rfl) (by kernel_rfl) (by kernel_rfl) (by kernel_rfl) (by kernel_rfl) (fun _ _ _ h => h) (Or.inl ⟨by rfl, ?_⟩) (mkS _ hb5) ?_
                      · rintro w' ⟨s0, s1, s2⟩
                        go_simp
                      try simp only [Act.put]
                      have hsz : y2.heap.size < y5.heap.size := blt hX
                      obtain ⟨x0, x1⟩ := cells2 hX
                      have xf0 : y5.frozen? ⟨y2.heap.size, 0, none⟩ = false := by unfold World.frozen?; rw [hX]; simp
                      have xf1 : y5.frozen? ⟨y2.heap.size, 1, none⟩ = false := by unfold World.frozen?; rw [hX]; simp
                      have hbz : Below w11.heap.size w11 ((y5.setCell ⟨y2.heap.size, 0, none⟩ (.int .i64 om)).setCell ⟨y2.heap.size, 1, none⟩ (.slice ra k4.length rk)) := (hb5.setCell (p := ⟨y2.heap.size, 0, none⟩) hXb _).setCell (p := ⟨y2.heap.size, 1, none⟩) hXb _
                      have hx2 := (cells2 (heap_setCell_same _ _ 0 _ _ (.int .i64 om) hX)).2
                      have HF := Lib.hid (CfS.mk (X := ⟨(om, k4), cc, 0, 0⟩) (heap_setCell_same _ _ 1 _ _ (.slice ra k4.length rk) (heap_setCell_same _ _ 0 _ _ (.int .i64 om) hX)) ((hDi.setNe hDn 0 _).setNe hDn 1 _) ((herD.beside x1 0 _).beside hx2 1 _))
                      clear hx2 hDi hDn herD
                      refine wpT_one (i := 16) (by kernel_rfl) rfl ?_
                      intro KK hKK
                      go_simp
                      refine hKK _ _ ⟨fun _ => mkS _ hbz, ?_⟩
                      clear hKK x0 x1 xf0 xf1 hX hsz
                      try simp only [Act.put]
                      generalize (y5.setCell ⟨y2.heap.size, 0, none⟩ (.int .i64 om)).setCell ⟨y2.heap.size, 1, none⟩ (.slice ra k4.length rk) = yz at *
                      refine wpT_one (i := 17) (by kernel_rfl) rfl ?_
                      intro KK hKK
                      go_simp
                      refine hKK _ _ ⟨fun _ => mkS _ hbz, ?_⟩
                      clear hKK
                      try simp only [Act.put]
                      refine wpT_tail 18 1 rfl rfl (by kernel_rfl) (by kernel_rfl) ?_
                      simp only [List.drop_succ_cons, List.drop_zero]
                      go_wp2_with fail
                      go_meet
                      case rel => exact ⟨_, _, _, er, rfl, rfl, rfl, HF.out, hbz⟩
                  · intro KK hKK
                    go_simp
                    have b2 := sbelow_new y1 (.cells #[.int .i64 0, .slice none 0 0] 27)
                    have hb2 := hb1.trans (b2.mono hb1.size)
                    have hX := heap_alloc_new y1 (.cells #[.int .i64 0, .slice none 0 0] 27)
                    have hXb : w11.heap.size ≤ y1.heap.size := hb1.size
                    replace hA1 := blk hA1 b2
                    refine hKK _ _ ⟨fun _ => mkS _ hb2, ?_⟩
                    clear hKK
                    try simp only [Act.put]
                    generalize y1.alloc (.cells #[.int .i64 0, .slice none 0 0] 27) = y2 at *
                    refine wpT_one (i := 6) (by kernel_rfl) rfl ?_
                    intro KK hKK
                    go_simp
                    have b3 := sbelow_new y2 (.cells #[.slice (some ⟨w11.heap.size, 0, none⟩) 1 1, .slice ra0 rest.length rc0] 25)
                    have hb3 := hb2.trans (b3.mono hb2.size)
                    have hA2 := heap_alloc_new y2 (.cells #[.slice (some ⟨w11.heap.size, 0, none⟩) 1 1, .slice ra0 rest.length rc0] 25)
                    replace hA1 := blk hA1 b3
                    replace hX := blk hX b3
                    refine hKK _ _ ⟨fun _ => mkS _ hb3, ?_⟩
                    clear hKK
                    try simp only [Act.put]
                    generalize y2.alloc (.cells #[.slice (some ⟨w11.heap.size, 0, none⟩) 1 1, .slice ra0 rest.length rc0] 25) = y3 at *
                    refine wpT_one (i := 7) (by kernel_rfl) rfl ?_
                    intro KK hKK
                    go_simp
                    refine (concatI_any (y2.heap.size) _ _ [tm] rest y3 (blt hA2) (cells2 hA2).1 (cells2 hA2).2 (ints_blk hA1) ((H11.out.step hb3).lg.r) (by simp) (by have := HRl.out; omega)).mono ?_
                    rintro e y4 ⟨gc, rfl, hownc, b4⟩
                    obtain ⟨gac, gcc, rfl⟩ := row_slice hownc
                    have hCc := IntsAt.own hownc (by rw [List.length_append])
                    clear hownc
                    have hb4 := hb3.trans (b4.mono hb3.size)
                    replace hA1 := blk hA1 b4
                    replace hX := blk hX b4
                    replace hA2 := blk hA2 b4
                    refine hKK _ _ ⟨fun _ => mkS _ hb4, ?_⟩
                    clear hKK
                    try simp only [Act.put]
                    refine wpT_take (i := 8) (v := .agg #[.int .i64 0, .slice gac ([tm].length + rest.length) gcc]) rfl (by kernel_rfl) (by kernel_rfl) (by kernel_rfl) (by kernel_rfl) (by kernel_rfl) (by kernel_rfl) (by kernel_rfl) (by kernel_rfl) (fun _ _ _ h => h) (Or.inl ⟨by rfl, ?_⟩) (mkS _ hb4) ?_
                    · rintro w' ⟨s0, s1, s2⟩
                      go_simp
                    try simp only [Act.put]
                    refine wpT_one (i := 10) (by kernel_rfl) rfl ?_
                    intro KK hKK
                    go_simp
                    refine (HD4.out y4 hb4 _ hCc).mono ?_
                    rintro e y5 ⟨ra, rk, er, rfl, hownD, herD, b5⟩
                    have hDi := IntsAt.own hownD rfl
                    have hDn : ∀ ad, ra = some ad → 0 < k4.length → ad.block ≠ y1.heap.size := fun ad e h => by
                      have h1 := (hownD.lt ad.block (by rw [e]; rfl)).1
                      have h2 := blt hX
                      omega
                    clear hownD
                    have hb5 := hb4.trans (b5.mono hb4.size)
                    replace hA1 := blk hA1 b5
                    replace hX := blk hX b5
                    replace hA2 := blk hA2 b5
                    replace hCc := hCc.step b5
                    refine hKK _ _ ⟨fun _ => mkS _ hb5, ?_⟩
                    clear hKK
                    try simp only []
                    refine wpT_take (i := 11) (v := .tuple #[.agg #[.int .i64 om, .slice ra k4.length rk], .int .u64 cc, er]) rfl (by kernel_rfl) (by kernel_rfl) (by kernel_rfl) (by kernel_rfl) (by kernel_rfl) (by kernel_rfl) (by kernel_rfl) (by kernel_rfl) (fun _ _ _ h => h) (Or.inl ⟨by rfl, ?_⟩) (mkS _ hb5) ?_
                    · rintro w' ⟨s0, s1, s2⟩
                      go_simp
                    try simp only [Act.put]
                    refine wpT_take (i := 12) (v := .agg #[.int .i64 om, .slice ra k4.length rk]) rfl (by kernel_rfl) (by kernel_rfl) (by kernel_rfl) (by kernel_rfl) (by kernel_rfl) (by kernel_rfl) (by kernel_rfl) (by kernel_rfl) (fun _ _ _ h => h) (Or.inl ⟨by rfl, ?_⟩) (mkS _ hb5) ?_
                    · rintro w' ⟨s0, s1, s2⟩
                      go_simp
                    try simp only [Act.put]
                    refine wpT_take (i := 13) (v := .int .u64 cc) rfl (by kernel_rfl) (by kernel_rfl) (by kernel_rfl) (by kernel_rfl) (by kernel_rfl) (by kernel_rfl) (by kernel_rfl) (by kernel_rfl) (fun _ _ _ h => h) (Or.inl ⟨by rfl, ?_⟩) (mkS _ hb5) ?_
                    · rintro w' ⟨s0, s1, s2⟩
                      go_simp
                    try simp only [Act.put]
                    refine wpT_take (i := 14) (v := er) rfl (by kernel_rfl) (by kernel_rfl) (by kernel_rfl) (by kernel_rfl) (by kernel_rfl) (by kernel_rfl) (by kernel_rfl) (by kernel_rfl) (fun _ _ _ h => h) (Or.inl ⟨by rfl, ?_⟩) (mkS _ hb5) ?_
                    · rintro w' ⟨s0, s1, s2⟩
                      go_simp
                    try simp only [Act.put]
                    have hsz : y1.heap.size < y5.heap.size := blt hX
                    obtain ⟨x0, x1⟩ := cells2 hX
                    have xf0 : y5.frozen? ⟨y1.heap.size, 0, none⟩ = false := by unfold World.frozen?; rw [hX]; simp
                    have xf1 : y5.frozen? ⟨y1.heap.size, 1, none⟩ = false := by unfold World.frozen?; rw [hX]; simp
                    have hbz : Below w11.heap.size w11 ((y5.setCell ⟨y1.heap.size, 0, none⟩ (.int .i64 om)).setCell ⟨y1.heap.size, 1, none⟩ (.slice ra k4.length rk)) := (hb5.setCell (p := ⟨y1.heap.size, 0, none⟩) hXb _).setCell (p := ⟨y1.heap.size, 1, none⟩) hXb _
                    have hx2 := (cells2 (heap_setCell_same _ _ 0 _ _ (.int .i64 om) hX)).2
                    have HF := Lib.hid (CfS.mk (X := ⟨(om, k4), cc, 0, 0⟩) (heap_setCell_same _ _ 1 _ _ (.slice ra k4.length rk) (heap_setCell_same _ _ 0 _ _ (.int .i64 om) hX)) ((hDi.setNe hDn 0 _).setNe hDn 1 _) ((herD.beside x1 0 _).beside hx2 1 _))
                    clear hx2 hDi hDn herD
                    refine wpT_one (i := 16) (by kernel_rfl) rfl ?_
                    intro KK hKK
                    go_simp
                    refine hKK _ _ ⟨fun _ => mkS _ hbz, ?_⟩
                    clear hKK x0 x1 xf0 xf1 hX hsz
                    try simp only [Act.put]
                    generalize (y5.setCell ⟨y1.heap.size, 0, none⟩ (.int .i64 om)).setCell ⟨y1.heap.size, 1, none⟩ (.slice ra k4.length rk) = yz at *
                    refine wpT_one (i := 17) (by kernel_rfl) rfl ?_
                    intro KK hKK
                    go_simp
                    refine hKK _ _ ⟨fun _ => mkS _ hbz, ?_⟩
                    clear hKK
                    try simp only [Act.put]
                    refine wpT_tail 18 1 rfl rfl (by kernel_rfl) (by kernel_rfl) ?_
                    simp only [List.drop_succ_cons, List.drop_zero]
                    go_wp2_with fail
                    go_meet
                    case rel => exact ⟨_, _, _, er, rfl, rfl, rfl, HF.out, hbz⟩
                · intro KK hKK
                  go_simp
                  have hb1 : Below w11.heap.size w11 (w11.alloc (.cells #[.int .i64 0, .slice none 0 0] 27)).drew := (sbelow_new w11 (.cells #[.int .i64 0, .slice none 0 0] 27)).drew
                  have hX : (w11.alloc (.cells #[.int .i64 0, .slice none 0 0] 27)).drew.heap[w11.heap.size]? = some (.cells #[.int .i64 0, .slice none 0 0] 27 (0, 0)) := heap_alloc_new w11 (.cells #[.int .i64 0, .slice none 0 0] 27)
                  have hXb : w11.heap.size ≤ w11.heap.size := Nat.le_refl _
                  refine hKK _ _ ⟨fun _ => mkS _ hb1, ?_⟩
                  clear hKK
                  try simp only [Act.put]
                  generalize (w11.alloc (.cells #[.int .i64 0, .slice none 0 0] 27)).drew = y1 at *
                  refine wpT_one (i := 4) (by kernel_rfl) rfl ?_
                  intro KK hKK
                  go_simp
                  have b2 := sbelow_new y1 (.cells #[.int .i64 tm] 3)
                  have hb2 := hb1.trans (b2.mono hb1.size)
                  have hA1 := heap_alloc_new y1 (.cells #[.int .i64 tm] 3)
                  replace hX := blk hX b2
                  refine hKK _ _ ⟨fun _ => mkS _ hb2, ?_⟩
                  clear hKK
                  try simp only [Act.put]
                  generalize y1.alloc (.cells #[.int .i64 tm] 3) = y2 at *
                  refine wpT_one (i := 6) (by kernel_rfl) rfl ?_
                  intro KK hKK
                  go_simp
                  have b3 := sbelow_new y2 (.cells #[.slice (some ⟨y1.heap.size, 0, none⟩) 1 1, .slice ra0 rest.length rc0] 25)
                  have hb3 := hb2.trans (b3.mono hb2.size)
                  have hA2 := heap_alloc_new y2 (.cells #[.slice (some ⟨y1.heap.size, 0, none⟩) 1 1, .slice ra0 rest.length rc0] 25)
                  replace hX := blk hX b3
                  replace hA1 := blk hA1 b3
                  refine hKK _ _ ⟨fun _ => mkS _ hb3, ?_⟩
                  clear hKK
                  try simp only [Act.put]
                  generalize y2.alloc (.cells #[.slice (some ⟨y1.heap.size, 0, none⟩) 1 1, .slice ra0 rest.length rc0] 25) = y3 at *
                  refine wpT_one (i := 7) (by kernel_rfl) rfl ?_
                  intro KK hKK
                  go_simp
                  refine (concatI_any (y2.heap.size) _ _ [tm] rest y3 (blt hA2) (cells2 hA2).1 (cells2 hA2).2 (ints_blk hA1) ((H11.out.step hb3).lg.r) (by simp) (by have := HRl.out; omega)).mono ?_
                  rintro e y4 ⟨gc, rfl, hownc, b4⟩
                  obtain ⟨gac, gcc, rfl⟩ := row_slice hownc
                  have hCc := IntsAt.own hownc (by rw [List.length_append])
                  clear hownc
                  have hb4 := hb3.trans (b4.mono hb3.size)
                  replace hX := blk hX b4
                  replace hA1 := blk hA1 b4
                  replace hA2 := blk hA2 b4
                  refine hKK _ _ ⟨fun _ => mkS _ hb4, ?_⟩
                  clear hKK
                  try simp only [Act.put]
                  refine wpT_take (i := 8) (v := .agg #[.int .i64 0, .slice gac ([tm].length + rest.length) gcc]) rfl (by kernel_rfl) (by kernel_rfl) (by kernel_rfl) (by kernel_rfl) (by kernel_rfl) (by kernel_rfl) (by kernel_rfl) (by kernel_rfl) (fun _ _ _ h => h) (Or.inl ⟨by rfl, ?_⟩) (mkS _ hb4) ?_
                  · rintro w' ⟨s0, s1, s2⟩
                    go_simp
                  try simp only [Act.put]
                  refine wpT_one (i := 10) (by kernel_rfl) rfl ?_
                  intro KK hKK
                  go_simp
                  refine (HD4.out y4 hb4 _ hCc).mono ?_
                  rintro e y5 ⟨ra, rk, er, rfl, hownD, herD, b5⟩
                  have hDi := IntsAt.own hownD rfl
                  have hDn : ∀ ad, ra = some ad → 0 < k4.length → ad.block ≠ w11.heap.size := fun ad e h => by
                    have h1 := (hownD.lt ad.block (by rw [e]; rfl)).1
                    have h2 := blt hX
                    omega
                  clear hownD
                  have hb5 := hb4.trans (b5.mono hb4.size)
                  replace hX := blk hX b5
                  replace hA1 := blk hA1 b5
                  replace hA2 := blk hA2 b5
                  replace hCc := hCc.step b5
                  refine hKK _ _ ⟨fun _ => mkS _ hb5, ?_⟩
                  clear hKK
                  try simp only []
                  refine wpT_take (i := 11) (v := .tuple #[.agg #[.int .i64 om, .slice ra k4.length rk], .int .u64 cc, er]) rfl (by kernel_rfl) (by kernel_rfl) (by kernel_rfl) (by kernel_rfl) (by kernel_rfl) (by kernel_rfl) (by kernel_rfl) (by kernel_rfl) (fun _ _ _ h => h) (Or.inl ⟨by rfl, ?_⟩) (mkS _ hb5) ?_
                  · rintro w' ⟨s0, s1, s2⟩
                    go_simp
                  try simp only [Act.put]
                  refine wpT_take (i := 12) (v := .agg #[.int .i64 om, .slice ra k4.length rk]) rfl (by kernel_rfl) (by kernel_rfl) (by kernel_rfl) (by kernel_rfl) (by kernel_rfl) (by kernel_rfl) (by kernel_rfl) (by kernel_rfl) (fun _ _ _ h => h) (Or.inl ⟨by rfl, ?_⟩) (mkS _ hb5) ?_
                  · rintro w' ⟨s0, s1, s2⟩
                    go_simp
                  try simp only [Act.put]
                  refine wpT_take (i := 13) (v := .int .u64 cc) rfl (by kernel_rfl) (by kernel_rfl) (by kernel_rfl) (by kernel_rfl) (by kernel_rfl) (by kernel_rfl) (by kernel_rfl) (by kernel_rfl) (fun _ _ _ h => h) (Or.inl ⟨by rfl, ?_⟩) (mkS _ hb5) ?_
                  · rintro w' ⟨s0, s1, s2⟩
                    go_simp
                  try simp only [Act.put]
                  refine wpT_take (i := 14) (v := er) rfl (by kernel_rfl) (by kernel_rfl) (by kernel_rfl) (by kernel_rfl) (by kernel_rfl) (by kernel_rfl) (by kernel_rfl) (by kernel_rfl) (fun _ _ _ h => h) (Or.inl ⟨by rfl, ?_⟩) (mkS _ hb5) ?_
                  · rintro w' ⟨s0, s1, s2⟩
                    go_simp
                  try simp only [Act.put]
                  have hsz : w11.heap.size < y5.heap.size := blt hX
                  obtain ⟨x0, x1⟩ := cells2 hX
                  have xf0 : y5.frozen? ⟨w11.heap.size, 0, none⟩ = false := by unfold World.frozen?; rw [hX]; simp
                  have xf1 : y5.frozen? ⟨w11.heap.size, 1, none⟩ = false := by unfold World.frozen?; rw [hX]; simp
                  have hbz : Below w11.heap.size w11 ((y5.setCell ⟨w11.heap.size, 0, none⟩ (.int .i64 om)).setCell ⟨w11.heap.size, 1, none⟩ (.slice ra k4.length rk)) := (hb5.setCell (p := ⟨w11.heap.size, 0, none⟩) hXb _).setCell (p := ⟨w11.heap.size, 1, none⟩) hXb _
                  have hx2 := (cells2 (heap_setCell_same _ _ 0 _ _ (.int .i64 om) hX)).2
                  have HF := Lib.hid (CfS.mk (X := ⟨(om, k4), cc, 0, 0⟩) (heap_setCell_same _ _ 1 _ _ (.slice ra k4.length rk) (heap_setCell_same _ _ 0 _ _ (.int .i64 om) hX)) ((hDi.setNe hDn 0 _).setNe hDn 1 _) ((herD.beside x1 0 _).beside hx2 1 _))
                  clear hx2 hDi hDn herD
                  refine wpT_one (i := 16) (by kernel_rfl) rfl ?_
                  intro KK hKK
                  go_simp
                  refine hKK _ _ ⟨fun _ => mkS _ hbz, ?_⟩
                  clear hKK x0 x1 xf0 xf1 hX hsz
                  try simp only [Act.put]
                  generalize (y5.setCell ⟨w11.heap.size, 0, none⟩ (.int .i64 om)).setCell ⟨w11.heap.size, 1, none⟩ (.slice ra k4.length rk) = yz at *
                  refine wpT_one (i := 17) (by kernel_rfl) rfl ?_
                  intro KK hKK
                  go_simp
                  refine hKK _ _ ⟨fun _ => mkS _ hbz, ?_⟩
                  clear hKK
                  try simp only [Act.put]
                  refine wpT_tail 18 1 rfl rfl (by kernel_rfl) (by kernel_rfl) ?_
                  simp only [List.drop_succ_cons, List.drop_zero]
                  go_wp2_with fail
                  go_meet
                  case rel => exact ⟨_, _, _, er, rfl, rfl, rfl, HF.out, hbz⟩
              case rest =>
              obtain ⟨Cb, qw, qwk, ew, rfl, rfl, rfl, hcw, hbw⟩ := hcut
              obtain rfl := hcw.er.nil_of
              have H15 := Lib.hid (H11.out.step hbw)
              have HW15 := Lib.hid hcw
              clear hcw hbw H11 HD4 HU
              go_upto_region 27 with (fail)
              have HK : Hid (∀ W, Below wc.heap.size wc W → W.cell? ⟨Cb, 0, none⟩ = some (.int .i64 om) ∧ W.cell? ⟨Cb, 1, none⟩ = some (.slice qw k4.length qwk)) := Lib.hid (fun W hb =>
                ⟨(cells2 (HW15.out.step hb).box).1, (cells2 (HW15.out.step hb).box).2⟩)
              have HCt := Lib.hid (catI_any l rest (.slice la l.length lc) (.slice ra0 rest.length rc0) wc H15.out.lg.l.1 H15.out.lg.r (by have := HLl.out.1; omega) (by have := HRl.out; omega))
              have HSm := Lib.hid (fun W (a : Option Addr) (c : Nat) (hb : Below wc.heap.size wc W) (h : IntsAt W (.slice a (l.length + rest.length) c) (l ++ rest)) => (same21_any om om k4 (l ++ rest) (.slice qw k4.length qwk) _ W (HW15.out.step hb).ii h (by rw [← HK4.out, List.length_append]; have := HLl.out.1; have := HRl.out; omega)).mono fun e w' (h : e = .returned (.bool (sameC om om k4 (l ++ rest))) ∧ Below W.heap.size W w') => (⟨by rw [h.1, HK4.out, sameC_same], h.2⟩ : e = .returned (.bool true) ∧ Below W.heap.size W w'))
              have HCp := Lib.hid (fun W => cap_any cost W)
              rw [HCc.out] at HCp
              have hB := (Below.refl wc.heap.size wc).drew
              have kk := HK.out _ hB
              go_region_held3 (fun W => W.cell? ⟨Cb, 0, none⟩ = some (.int .i64 om) ∧ W.cell? ⟨Cb, 1, none⟩ = some (.slice qw k4.length qwk))
                (first | exact kk | exact HK.out _ hB | exact HK.out _ (hB.trans ((sbelow_new _ _).mono hB.size)))
                (first
                | (go_at_call 14; refine (HCp.out _).mono ?_; rintro e w15 ⟨rfl, rfl⟩)
                | (go_at_call 8; (with_reducible refine HCt.out.mono ?_); rintro e w16 ⟨ga, gc, rfl, hD, b16⟩; replace hB := b16)
                | (go_at_call 9; (with_reducible refine (HSm.out _ _ _ hB hD).mono ?_); rintro e w17 ⟨rfl, b17⟩; replace hB := hB.trans (b17.mono hB.size); clear b17))
              have HEND := Lib.hid (H15.out.lg.below.trans (hB.mono H15.out.lg.below.size))
              go_wp2
              go_ret
              exact ⟨by simp, HEND.out⟩
end Go.Proofs.YtjanbhodikhdeaaDoor
