/-
  Package tree by contracts, ninth part: arrays and objects.
-/
import Derived.Test.YtajmlkephefapaaGreatDoorTreeJ
namespace Go.Proofs.YtajmlkephefapaaGreatDoor
open Go.RowKit Go.Extern.Stop Go.Stop Go.Extern Go.WideMaps

/-- What an array's call answers. -/
def ArrayOut (w : World) (s : ByteArray) (d k : Nat) (e : Ending) (w' : World) : Prop :=
  (∃ (j : Nat) (vs : List Val) (ks : List ByteArray) (a : Option Addr) (c : Nat) (xs : List Value), RowRel s d 91 k (.ok j vs ks) ∧ e = .returned (.tuple #[.agg #[.string s, .int .i64 (j : Nat)], .slice a vs.length c, .nilIface]) ∧
    RowIn (fun q => w.heap.size ≤ q) w' (.slice a vs.length c) vs.length xs ∧ ValsC (fun q => w.heap.size ≤ q) w' xs vs ∧ Below w.heap.size w w') ∨
  (∃ (ec : Int) (ea fb j : Nat) (a : Option Addr) (l c : Nat), RowRel s d 91 k (.er ec ea) ∧ j ≤ s.size ∧ e = .returned (.tuple #[.agg #[.string s, .int .i64 j], .slice a l c, pf fb]) ∧ FaultAt w' fb ec ea ∧ Below w.heap.size w w')

set_option maxRecDepth 100000 in
set_option maxHeartbeats 4000000 in
theorem array_any (s : ByteArray) (d k : Nat) (hs : s.size ≤ 100000) (hk : byteI s k = 91) (hV : ValueSpec s d) (w : World) (hg : Handle w) :
    Calls Tryz.prog 59 #[.agg #[.string s, .int .i64 k], .int .i64 d] w (ArrayOut w s d k) := by
  obtain ⟨W, hW⟩ : ∃ W, W = w.heap.size := ⟨_, rfl⟩
  have h0 := hg.pos
  obtain ⟨wa, hwa⟩ : ∃ wa, wa = w.alloc (.cells #[.string s, .int .i64 k] 58) := ⟨_, rfl⟩
  obtain ⟨wb, hwb⟩ : ∃ wb, wb = wa.alloc (.cells #[.int .i64 d] 3) := ⟨_, rfl⟩
  obtain ⟨wc, hwc⟩ : ∃ wc, wc = wb.alloc (.cells #[.string ⟨#[]⟩, .int .i64 0] 58) := ⟨_, rfl⟩
  obtain ⟨wd, hwd⟩ : ∃ wd, wd = wc.alloc (.cells #[.slice none 0 0] 24) := ⟨_, rfl⟩
  have sa : wa.heap.size = W + 1 := by rw [hwa, hW]; simp
  have sb : wb.heap.size = W + 2 := by rw [hwb]; simp [sa]
  have sc : wc.heap.size = W + 3 := by rw [hwc]; simp [sb]
  have sd : wd.heap.size = W + 4 := by rw [hwd]; simp [sc]
  have ba : Below w.heap.size w wa := by rw [hwa]; exact sbelow_new _ _
  have bb : Below wa.heap.size wa wb := by rw [hwb]; exact sbelow_new _ _
  have bc : Below wb.heap.size wb wc := by rw [hwc]; exact sbelow_new _ _
  have bd : Below wc.heap.size wc wd := by rw [hwd]; exact sbelow_new _ _
  have bcd := bc.trans (bd.mono bc.size)
  have bbd := bb.trans (bcd.mono bb.size)
  have bad := ba.trans (bbd.mono ba.size)
  have own0 : ScanS wa W s k := by rw [hwa, hW]; exact ScanS.new w s k
  have num0 : NumAt wb (W + 1) d := by rw [hwb, ← sa]; exact heap_alloc_new wa _
  have res0 : ScanS wc (W + 2) ⟨#[]⟩ 0 := by rw [hwc, ← sb]; exact ScanS.new wb ⟨#[]⟩ 0
  have lst0 : wd.cell? ⟨W + 3, 0, none⟩ = some (.slice none 0 0) := by rw [hwd, ← sc]; simp
  have lsf0 : wd.frozen? ⟨W + 3, 0, none⟩ = false := by rw [hwd, ← sc]; simp
  have hst : ArrSt (fun q => wd.heap.size + 2 ≤ q) W (W + 3) (W + 1) d wd.heap.size [] [] wd :=
    ⟨⟨.slice none 0 0, [], ⟨lst0, lsf0, by omega, World.ownsRow_nil _ _ _ _, ValsC.nil, fun _ => rfl⟩, fun g e => by cases e⟩, num0.keeps (D := fun _ => False) (.of_below bcd) (fun e => e), ⟨by omega, by omega, by omega⟩, Nat.le_refl _⟩
  have HR := Lib.hid (row_arr s d W (W + 3) (W + 1) k hs hk hV wd (hg.below bad) (by omega) (by omega) hst)
  have HOWN := Lib.hid (own0.step bbd)
  have HRES := Lib.hid (res0.step bd)
  have HBAD := Lib.hid bad
  have HSD := Lib.hid sd
  have HWW := Lib.hid hW
  have co : wd.cell? ⟨W, 0, none⟩ = some (.string s) := HOWN.out.1.2.1
  have co1 : wd.cell? ⟨W, 1, none⟩ = some (.int .i64 k) := HOWN.out.1.2.2.1
  rw [hwd, hwc, hwb, hwa] at HR HOWN HRES HBAD HSD
  clear co co1 hst lst0 lsf0 res0 num0 own0 bad bbd bcd bd bc bb ba sd sc sb sa hwd hwc hwb hwa wa wb wc wd
  subst hW
  go_enter Tryz.func59, Tryz.ntmps59
  go_wp2_with fail
  refine HR.out.mono ?_
  generalize (((w.alloc (.cells #[.string s, .int .i64 k] 58)).alloc (.cells #[.int .i64 d] 3)).alloc (.cells #[.string ⟨#[]⟩, .int .i64 0] 58)).alloc (.cells #[.slice none 0 0] 24) = wd at *
  rintro e w1 (⟨j, vs, ks, hrel, rfl, hst, hkp⟩ | ⟨ec, ea, fb, j, hrel, hj, rfl, hf, he, hkp⟩)
  · have HREL := Lib.hid hrel
    have own1 := HOWN.out.keeps hkp (by omega)
    have res1 := HRES.out.keeps hkp (by omega)
    obtain ⟨⟨v, xs, hl, hv⟩, -⟩ := hst
    obtain ⟨a, c, rfl⟩ := hl.slice
    have hB1 : Below w.heap.size w w1 := HBAD.out.trans (hkp.below (by have := HSD.out; omega) (fun q e => by omega))
    have hkW := (keeps_at w1 w.heap.size 0 (.string s)).trans (keeps_at _ w.heap.size 1 (.int .i64 (j : Nat)))
    have hown1 := hl.row_ne own1.1.2.1 (fun k e => by cases e)
    have hsd := HSD.out
    have hl2 := hl.keeps hkW (by omega) (fun q e h => by rw [h] at e; exact hown1 e) (fun q _ _ _ _ hE h => by have hE : wd.heap.size + 2 ≤ q := hE; omega)
    have own2 := own1.set s j
    have res2 := res1.keeps hkW (by omega)
    have hB2 := (hB1.setCell (p := ⟨w.heap.size, 0, none⟩) (Nat.le_refl _) (.string s)).setCell (p := ⟨w.heap.size, 1, none⟩) (Nat.le_refl _) (.int .i64 (j : Nat))
    obtain ⟨-, c0, c1, cf⟩ := own1.1
    have HL2 := Lib.hid hl2
    have HO2 := Lib.hid own2
    have HR2 := Lib.hid res2
    have HB2 := Lib.hid hB2
    clear hrel hv hB1 hl own1 res1 hkp hl2 own2 res2 hB2 hkW hown1
    go_wp2_with fail
    generalize (w1.setCell ⟨w.heap.size, 0, none⟩ (.string s)).setCell ⟨w.heap.size, 1, none⟩ (.int .i64 (j : Nat)) = w2 at *
    clear c0 c1 cf
    have hR3 : ScanS w2.drew (w.heap.size + 1 + 1) ⟨#[]⟩ 0 := HR2.out
    have k0 : w2.drew.cell? ⟨w.heap.size, 0, none⟩ = some (.string s) := HO2.out.1.2.1
    have k1 : w2.drew.cell? ⟨w.heap.size, 1, none⟩ = some (.int .i64 (j : Nat)) := HO2.out.1.2.2.1
    have k2 : w2.drew.cell? ⟨w.heap.size + 1 + 1 + 1, 0, none⟩ = some (.slice a vs.length c) := HL2.out.cell
    obtain ⟨-, x0, x1, xf⟩ := hR3.1
    obtain ⟨-, y0, y1, yf⟩ := HR2.out.1
    have z0 : w2.cell? ⟨w.heap.size, 0, none⟩ = some (.string s) := k0
    have z1 : w2.cell? ⟨w.heap.size, 1, none⟩ = some (.int .i64 (j : Nat)) := k1
    have z2 := k2
    change w2.cell? _ = _ at z2
    have n1 : w.heap.size + 1 + 1 ≠ w.heap.size := by omega
    have n2 : w.heap.size + 1 + 1 ≠ w.heap.size + 1 + 1 + 1 := by omega
    go_region_held3 (fun w' => w'.cell? ⟨w.heap.size, 0, none⟩ = some (.string s) ∧ w'.cell? ⟨w.heap.size, 1, none⟩ = some (.int .i64 (j : Nat)) ∧ w'.cell? ⟨w.heap.size + 1 + 1 + 1, 0, none⟩ = some (.slice a vs.length c))
      (first | go_keep | exact ⟨k0, k1, k2⟩)
      (fail)
    go_wp2
    obtain ⟨q0, q1⟩ := hR3.1.put s j
    have e0 := q0
    rw [World.cell?_setCell_other _ _ _ _ (by intro e; injection e with e1 e2; cases e2)] at e0
    change (w2.setCell ⟨w.heap.size + 1 + 1, 0, none⟩ (.string s)).cell? _ = _ at e0
    have e1 : ((w2.setCell ⟨w.heap.size + 1 + 1, 0, none⟩ (.string s)).setCell ⟨w.heap.size + 1 + 1, 1, none⟩ (.int .i64 (j : Nat))).drew.cell? ⟨w.heap.size + 1 + 1, 1, none⟩ = some (.int .i64 (j : Nat)) := q1
    have hkR := (keeps_at w2.drew (w.heap.size + 1 + 1) 0 (.string s)).trans (keeps_at _ (w.heap.size + 1 + 1) 1 (.int .i64 (j : Nat)))
    have hrow : RowIn (fun q => wd.heap.size ≤ q ∨ w.heap.size ≤ q) w2.drew (.slice a vs.length c) vs.length xs := RowIn.of_own HL2.out.own (fun q e => by
      have := (HL2.out.own.lt q e).1
      exact .inr this) (fun e => HL2.out.nil (List.eq_nil_of_length_eq_zero e))
    have hne2 : Value.ownBlock (.slice a vs.length c) ≠ some (w.heap.size + 1 + 1) := HL2.out.row_ne HR2.out.1.2.1 (fun k e => by cases e)
    have hlF := (HL2.out.step (Below.drew (Below.refl _ _))).keeps hkR (by omega) (fun q e h => by rw [h] at e; exact hne2 e) (fun q _ _ _ _ hE h => by have hE : wd.heap.size + 2 ≤ q := hE; have := HSD.out; omega)
    have hrowF : RowIn (fun q => w.heap.size ≤ q) _ (.slice a vs.length c) vs.length xs := RowIn.of_own hlF.own (fun q e => (hlF.own.lt q e).1) (fun e => hlF.nil (List.eq_nil_of_length_eq_zero e))
    have hvF : ValsC (fun q => w.heap.size ≤ q) _ xs vs := hlF.vals.move (Nat.le_refl _) (fun q hq _ => ⟨hq.1, rfl⟩)
    have hBF := (HB2.out.drew.setCell (p := ⟨w.heap.size + 1 + 1, 0, none⟩) (by change _ ≤ w.heap.size + 1 + 1; omega) (.string s)).setCell (p := ⟨w.heap.size + 1 + 1, 1, none⟩) (by change _ ≤ w.heap.size + 1 + 1; omega) (.int .i64 (j : Nat))
    exact bodyPost_ret (v := .tuple #[.agg #[.string s, .int .i64 (j : Nat)], .slice a vs.length c, .nilIface]) (by simp [results, Tryz.results59, go_sem, e0, e1]) rfl (.inl ⟨j, vs, ks, a, c, xs, HREL.out, rfl, hrowF, hvF, hBF⟩)
  · have HREL := Lib.hid hrel
    obtain ⟨a, l, c, hc⟩ := he
    have own1 := HOWN.out.keeps hkp (by omega)
    have res1 := HRES.out.keeps hkp (by omega)
    have hB1 : Below w.heap.size w w1 := HBAD.out.trans (hkp.below (by have := HSD.out; omega) (fun q e => by omega))
    have hkW := (keeps_at w1 w.heap.size 0 (.string s)).trans (keeps_at _ w.heap.size 1 (.int .i64 (j : Nat)))
    have own2 := own1.set s j
    have res2 := res1.keeps hkW (by omega)
    have hf2 := hf.set own1.1 s j
    have hc2 : ((w1.setCell ⟨w.heap.size, 0, none⟩ (.string s)).setCell ⟨w.heap.size, 1, none⟩ (.int .i64 (j : Nat))).cell? ⟨w.heap.size + 1 + 1 + 1, 0, none⟩ = some (.slice a l c) := by
      rw [World.cell?_setCell_other _ _ _ _ (by intro e; injection e with e; omega), World.cell?_setCell_other _ _ _ _ (by intro e; injection e with e; omega)]
      exact hc
    have hB2 := (hB1.setCell (p := ⟨w.heap.size, 0, none⟩) (Nat.le_refl _) (.string s)).setCell (p := ⟨w.heap.size, 1, none⟩) (Nat.le_refl _) (.int .i64 (j : Nat))
    obtain ⟨-, c0, c1, cf⟩ := own1.1
    have HC2 := Lib.hid hc2
    have HO2 := Lib.hid own2
    have HR2 := Lib.hid res2
    have HB2 := Lib.hid hB2
    have HF2 := Lib.hid hf2
    clear hrel hB1 hc own1 res1 hkp hc2 own2 res2 hB2 hkW hf hf2
    unfold pf
    go_wp2_with fail
    generalize (w1.setCell ⟨w.heap.size, 0, none⟩ (.string s)).setCell ⟨w.heap.size, 1, none⟩ (.int .i64 (j : Nat)) = w2 at *
    clear c0 c1 cf
    have hR3 : ScanS w2.drew (w.heap.size + 1 + 1) ⟨#[]⟩ 0 := HR2.out
    have hF3 : FaultAt w2.drew fb ec ea := HF2.out
    have k0 : w2.drew.cell? ⟨w.heap.size, 0, none⟩ = some (.string s) := HO2.out.1.2.1
    have k1 : w2.drew.cell? ⟨w.heap.size, 1, none⟩ = some (.int .i64 (j : Nat)) := HO2.out.1.2.2.1
    have k2 : w2.drew.cell? ⟨w.heap.size + 1 + 1 + 1, 0, none⟩ = some (.slice a l c) := HC2.out
    obtain ⟨-, x0, x1, xf⟩ := hR3.1
    obtain ⟨-, y0, y1, yf⟩ := HR2.out.1
    have z0 : w2.cell? ⟨w.heap.size, 0, none⟩ = some (.string s) := k0
    have z1 : w2.cell? ⟨w.heap.size, 1, none⟩ = some (.int .i64 (j : Nat)) := k1
    have z2 := k2
    change w2.cell? _ = _ at z2
    have n1 : w.heap.size + 1 + 1 ≠ w.heap.size := by omega
    have n2 : w.heap.size + 1 + 1 ≠ w.heap.size + 1 + 1 + 1 := by omega
    go_region_held3 (fun w' => w'.cell? ⟨w.heap.size, 0, none⟩ = some (.string s) ∧ w'.cell? ⟨w.heap.size, 1, none⟩ = some (.int .i64 (j : Nat)) ∧ w'.cell? ⟨w.heap.size + 1 + 1 + 1, 0, none⟩ = some (.slice a l c))
      (first | go_keep | exact ⟨k0, k1, k2⟩)
      (fail)
    go_wp2
    obtain ⟨q0, q1⟩ := hR3.1.put s j
    have e0 := q0
    rw [World.cell?_setCell_other _ _ _ _ (by intro e; injection e with e1 e2; cases e2)] at e0
    change (w2.setCell ⟨w.heap.size + 1 + 1, 0, none⟩ (.string s)).cell? _ = _ at e0
    have e1 : ((w2.setCell ⟨w.heap.size + 1 + 1, 0, none⟩ (.string s)).setCell ⟨w.heap.size + 1 + 1, 1, none⟩ (.int .i64 (j : Nat))).drew.cell? ⟨w.heap.size + 1 + 1, 1, none⟩ = some (.int .i64 (j : Nat)) := q1
    have hBF := (HB2.out.drew.setCell (p := ⟨w.heap.size + 1 + 1, 0, none⟩) (by change _ ≤ w.heap.size + 1 + 1; omega) (.string s)).setCell (p := ⟨w.heap.size + 1 + 1, 1, none⟩) (by change _ ≤ w.heap.size + 1 + 1; omega) (.int .i64 (j : Nat))
    exact bodyPost_ret (v := .tuple #[.agg #[.string s, .int .i64 (j : Nat)], .slice a l c, pf fb]) (by simp [results, Tryz.results59, go_sem, e0, e1, pf]) rfl (.inr ⟨ec, ea, fb, j, a, l, c, HREL.out, hj, rfl, hF3.set hR3.1 s j, hBF⟩)
end Go.Proofs.YtajmlkephefapaaGreatDoor
