/-
  Package tree by contracts, tenth part: objects.
-/
import Derived.Test.YtajmlkephefapaaGreatDoorTreeK
namespace Go.Proofs.YtajmlkephefapaaGreatDoor
open Go.RowKit Go.Extern.Stop Go.Stop Go.Extern Go.WideMaps

/-- What an object's call answers. -/
def ObjectOut (w : World) (s : ByteArray) (d k : Nat) (e : Ending) (w' : World) : Prop :=
  (∃ (j : Nat) (vs : List Val) (ks : List ByteArray) (a : Option Addr) (c : Nat) (b : Option Addr) (c' : Nat) (xs : List Value), RowRel s d 123 k (.ok j vs ks) ∧ e = .returned (.tuple #[.agg #[.string s, .int .i64 (j : Nat)], .slice b ks.length c', .slice a vs.length c, .nilIface]) ∧
    RowIn (fun q => w.heap.size ≤ q) w' (.slice a vs.length c) vs.length xs ∧ RowIn (fun q => w.heap.size ≤ q) w' (.slice b ks.length c') ks.length (ks.map Value.string) ∧ ValsC (fun q => w.heap.size ≤ q) w' xs vs ∧ Below w.heap.size w w') ∨
  (∃ (ec : Int) (ea fb j : Nat) (a : Option Addr) (l c : Nat) (b : Option Addr) (l' c' : Nat), RowRel s d 123 k (.er ec ea) ∧ j ≤ s.size ∧ e = .returned (.tuple #[.agg #[.string s, .int .i64 j], .slice b l' c', .slice a l c, pf fb]) ∧ FaultAt w' fb ec ea ∧ Below w.heap.size w w')

theorem ScanS.other {w : World} {b : Nat} {s : ByteArray} {j : Int} (h : ScanS w b s j) (q : Nat) (i : Nat) (v : Value) (hq : b ≠ q) : ScanS (w.setCell ⟨q, i, none⟩ v) b s j := h.keeps (keeps_at w q i v) (by omega)
theorem RowIn.other {P : Nat → Prop} {w : World} {v : Value} {n : Nat} {xs : List Value} (h : RowIn P w v n xs) (q : Nat) (i : Nat) (u : Value) (hq : v.ownBlock ≠ some q) : RowIn P (w.setCell ⟨q, i, none⟩ u) v n xs := by
  rcases h with h | ⟨b, o, c, e, hP, hlt, hc⟩
  · exact .inl h
  · subst e
    have hne : b ≠ q := fun e => hq (by rw [e]; rfl)
    exact .inr ⟨b, o, c, rfl, hP, by rw [World.size_setCell]; exact hlt, fun j u' hu => (World.cell?_setCell_other _ _ _ _ (by intro e; injection e with e; exact hne (by omega))).trans (hc j u' hu)⟩

/-- The keys' own row is no place's block. -/
theorem KeysSt.ne_scan {B K : Nat} {ks : List ByteArray} {v : Value} {w : World} (h : KeysSt B K ks v w) {b : Nat} {s : ByteArray} {j : Int} (hs : ScanS w b s j) : v.ownBlock ≠ some b := by
  intro e
  rcases h.own.2 with ⟨rfl, -⟩ | ⟨g, cap, cur, rfl, -, hg, -⟩
  · cases e
  · have e' : g = b := by injection e
    subst e'
    obtain ⟨cur', fz, hc⟩ := hs.2
    rw [hg] at hc
    injection hc with hc
    injection hc with _ hc
    exact absurd hc (by decide)

set_option maxRecDepth 100000 in
set_option maxHeartbeats 4000000 in
theorem object_any (s : ByteArray) (d k : Nat) (hs : s.size ≤ 100000) (hk : byteI s k = 123) (hV : ValueSpec s d) (w : World) (hg : Handle w) :
    Calls Tryz.prog 60 #[.agg #[.string s, .int .i64 k], .int .i64 d] w (ObjectOut w s d k) := by
  obtain ⟨W, hW⟩ : ∃ W, W = w.heap.size := ⟨_, rfl⟩
  have h0 := hg.pos
  obtain ⟨wa, hwa⟩ : ∃ wa, wa = w.alloc (.cells #[.string s, .int .i64 k] 58) := ⟨_, rfl⟩
  obtain ⟨wb, hwb⟩ : ∃ wb, wb = wa.alloc (.cells #[.int .i64 d] 3) := ⟨_, rfl⟩
  obtain ⟨wc, hwc⟩ : ∃ wc, wc = wb.alloc (.cells #[.string ⟨#[]⟩, .int .i64 0] 58) := ⟨_, rfl⟩
  obtain ⟨wd, hwd⟩ : ∃ wd, wd = wc.alloc (.cells #[.slice none 0 0] 25) := ⟨_, rfl⟩
  obtain ⟨we, hwe⟩ : ∃ we, we = wd.alloc (.cells #[.slice none 0 0] 24) := ⟨_, rfl⟩
  obtain ⟨wf, hwf⟩ : ∃ wf, wf = we.alloc (.map #[] 0) := ⟨_, rfl⟩
  obtain ⟨wg, hwg⟩ : ∃ wg, wg = wf.alloc (.cells #[.map (some (W + 5))] 137) := ⟨_, rfl⟩
  have sa : wa.heap.size = W + 1 := by rw [hwa, hW]; simp
  have sb : wb.heap.size = W + 2 := by rw [hwb]; simp [sa]
  have sc : wc.heap.size = W + 3 := by rw [hwc]; simp [sb]
  have sd : wd.heap.size = W + 4 := by rw [hwd]; simp [sc]
  have se : we.heap.size = W + 5 := by rw [hwe]; simp [sd]
  have sf : wf.heap.size = W + 6 := by rw [hwf]; simp [se]
  have sg : wg.heap.size = W + 7 := by rw [hwg]; simp [sf]
  have bw : Below w.heap.size w wa := by rw [hwa]; exact sbelow_new _ _
  have ba : Below wa.heap.size wa wb := by rw [hwb]; exact sbelow_new _ _
  have bb : Below wb.heap.size wb wc := by rw [hwc]; exact sbelow_new _ _
  have bc : Below wc.heap.size wc wd := by rw [hwd]; exact sbelow_new _ _
  have bd : Below wd.heap.size wd we := by rw [hwe]; exact sbelow_new _ _
  have be : Below we.heap.size we wf := by rw [hwf]; exact sbelow_new _ _
  have bf : Below wf.heap.size wf wg := by rw [hwg]; exact sbelow_new _ _
  have b4 := be.trans (bf.mono be.size)
  have b3 := bd.trans (b4.mono bd.size)
  have b2 := bc.trans (b3.mono bc.size)
  have b1 := bb.trans (b2.mono bb.size)
  have b0 := ba.trans (b1.mono ba.size)
  have bad := bw.trans (b0.mono bw.size)
  have own0 : ScanS wa W s k := by rw [hwa, hW]; exact ScanS.new w s k
  have num0 : NumAt wb (W + 1) d := by rw [hwb, ← sa]; exact heap_alloc_new wa _
  have res0 : ScanS wc (W + 2) ⟨#[]⟩ 0 := by rw [hwc, ← sb]; exact ScanS.new wb ⟨#[]⟩ 0
  have key0 : wd.cell? ⟨W + 3, 0, none⟩ = some (.slice none 0 0) := by rw [hwd, ← sc]; simp
  have kef0 : wd.frozen? ⟨W + 3, 0, none⟩ = false := by rw [hwd, ← sc]; simp
  have lst0 : we.cell? ⟨W + 4, 0, none⟩ = some (.slice none 0 0) := by rw [hwe, ← sd]; simp
  have lsf0 : we.frozen? ⟨W + 4, 0, none⟩ = false := by rw [hwe, ← sd]; simp
  have set0 : KsAt wf (W + 5) 0 [] := by rw [hwf, ← se]; exact KsAt.new we
  have map1 : wg.cell? ⟨W + 6, 0, none⟩ = some (.map (some (W + 5))) := by rw [hwg, ← sf]; simp
  have hst : ObjSt (fun q => wg.heap.size + 2 ≤ q) W (W + 4) (W + 3) (W + 6) (W + 5) (W + 1) d wg.heap.size [] [] wg :=
    ⟨⟨.slice none 0 0, [], .slice none 0 0, ⟨(b4.cell (p := ⟨W + 4, 0, none⟩) (by show W + 4 < _; omega)).trans lst0, (b4.frozen (p := ⟨W + 4, 0, none⟩) (by show W + 4 < _; omega)).trans lsf0, by omega, World.ownsRow_nil _ _ _ _, ValsC.nil, fun _ => rfl⟩, (fun g e => by cases e),
      ⟨(b3.cell (p := ⟨W + 3, 0, none⟩) (by show W + 3 < _; omega)).trans key0, (b3.frozen (p := ⟨W + 3, 0, none⟩) (by show W + 3 < _; omega)).trans kef0, by omega, World.ownsRow_nil _ _ _ _, fun _ => rfl⟩, (fun g e => by cases e)⟩,
      set0.step bf, num0.keeps (D := fun _ => False) (.of_below b1) (fun e => e), map1, ⟨by omega, by omega, by omega, by omega, by omega⟩, ⟨by omega, by omega, by omega, by omega, by omega, by omega, by omega, by omega, by omega⟩, Nat.le_refl _⟩
  have HR := Lib.hid (row_obj s d W (W + 4) (W + 3) (W + 6) (W + 5) (W + 1) k hs hk hV wg (hg.below bad) ⟨by omega, by omega, by omega⟩ (by omega) hst)
  have HOWN := Lib.hid (own0.step b0)
  have HRES := Lib.hid (res0.step b2)
  have HBAD := Lib.hid bad
  have HSD := Lib.hid sg
  have co : wg.cell? ⟨W, 0, none⟩ = some (.string s) := HOWN.out.1.2.1
  have co1 : wg.cell? ⟨W, 1, none⟩ = some (.int .i64 k) := HOWN.out.1.2.2.1
  rw [hwg, hwf, hwe, hwd, hwc, hwb, hwa] at HR HOWN HRES HBAD HSD co co1
  clear map1 set0 lsf0 lst0 kef0 key0 res0 num0 own0 hst bad b0 b1 b2 b3 b4 bf be bd bc bb ba bw sg sf se sd sc sb sa hwg hwf hwe hwd hwc hwb hwa wa wb wc wd we wf wg
  subst hW
  have hmm := @run_makeMap Tryz.prog
  go_enter Tryz.func60, Tryz.ntmps60
  go_wp2_with fail
  refine HR.out.mono ?_
  generalize ((((((w.alloc (.cells #[.string s, .int .i64 k] 58)).alloc (.cells #[.int .i64 d] 3)).alloc (.cells #[.string ⟨#[]⟩, .int .i64 0] 58)).alloc (.cells #[.slice none 0 0] 25)).alloc (.cells #[.slice none 0 0] 24)).alloc (.map #[] 0)).alloc (.cells #[.map (some (w.heap.size + 5))] 137) = wd at *
  rintro e w1 (⟨j, vs, ks, hrel, rfl, hst, hkp⟩ | ⟨ec, ea, fb, j, hrel, hj, rfl, hf, he, hkp⟩)
  · have HREL := Lib.hid hrel
    have own1 := HOWN.out.keeps hkp (by show ¬ (_ ∨ _ ∨ _); omega)
    have res1 := HRES.out.keeps hkp (by show ¬ (_ ∨ _ ∨ _); omega)
    obtain ⟨⟨v, xs, kv, hl, hv, hks, hkv⟩, -⟩ := hst
    obtain ⟨a, c, rfl⟩ := hl.slice
    obtain ⟨b, c', rfl⟩ := hks.slice
    have hB1 : Below w.heap.size w w1 := HBAD.out.trans (hkp.below (by have := HSD.out; omega) (fun q e => by have e : _ ∨ _ ∨ _ := e; omega))
    have hkW := (keeps_at w1 w.heap.size 0 (.string s)).trans (keeps_at _ w.heap.size 1 (.int .i64 (j : Nat)))
    have hown1 := hl.row_ne own1.1.2.1 (fun k e => by cases e)
    have hown2 := hks.ne_scan own1
    have hsd := HSD.out
    have hl2 := hl.keeps hkW (by omega) (fun q e h => by rw [h] at e; exact hown1 e) (fun q _ _ _ _ hE h => by have hE : wd.heap.size + 2 ≤ q := hE.1; omega)
    have hks2 := hks.keeps hkW (by omega) (fun q e h => by rw [h] at e; exact hown2 e)
    have own2 := own1.set s j
    have res2 := res1.keeps hkW (by omega)
    have hB2 := (hB1.setCell (p := ⟨w.heap.size, 0, none⟩) (Nat.le_refl _) (.string s)).setCell (p := ⟨w.heap.size, 1, none⟩) (Nat.le_refl _) (.int .i64 (j : Nat))
    obtain ⟨-, c0, c1, cf⟩ := own1.1
    have HL2 := Lib.hid hl2
    have HK2 := Lib.hid hks2
    have HO2 := Lib.hid own2
    have HR2 := Lib.hid res2
    have HB2 := Lib.hid hB2
    clear hrel hv hkv hB1 hl hks own1 res1 hkp hl2 hks2 own2 res2 hB2 hkW hown1 hown2
    go_wp2_with fail
    generalize (w1.setCell ⟨w.heap.size, 0, none⟩ (.string s)).setCell ⟨w.heap.size, 1, none⟩ (.int .i64 (j : Nat)) = w2 at *
    clear c0 c1 cf
    have hR3 : ScanS w2.drew (w.heap.size + 1 + 1) ⟨#[]⟩ 0 := HR2.out
    have k0 : w2.drew.cell? ⟨w.heap.size, 0, none⟩ = some (.string s) := HO2.out.1.2.1
    have k1 : w2.drew.cell? ⟨w.heap.size, 1, none⟩ = some (.int .i64 (j : Nat)) := HO2.out.1.2.2.1
    have k2 : w2.drew.cell? ⟨w.heap.size + 1 + 1 + 1 + 1, 0, none⟩ = some (.slice a vs.length c) := HL2.out.cell
    have k3 : w2.drew.cell? ⟨w.heap.size + 1 + 1 + 1, 0, none⟩ = some (.slice b ks.length c') := HK2.out.cell
    obtain ⟨-, x0, x1, xf⟩ := hR3.1
    obtain ⟨-, y0, y1, yf⟩ := HR2.out.1
    have z0 : w2.cell? ⟨w.heap.size, 0, none⟩ = some (.string s) := k0
    have z1 : w2.cell? ⟨w.heap.size, 1, none⟩ = some (.int .i64 (j : Nat)) := k1
    have z2 := k2
    change w2.cell? _ = _ at z2
    have z3 := k3
    change w2.cell? _ = _ at z3
    have n1 : w.heap.size + 1 + 1 ≠ w.heap.size := by omega
    have n2 : w.heap.size + 1 + 1 ≠ w.heap.size + 1 + 1 + 1 + 1 := by omega
    have n3 : w.heap.size + 1 + 1 ≠ w.heap.size + 1 + 1 + 1 := by omega
    go_region_held3 (fun w' => w'.cell? ⟨w.heap.size, 0, none⟩ = some (.string s) ∧ w'.cell? ⟨w.heap.size, 1, none⟩ = some (.int .i64 (j : Nat)) ∧ w'.cell? ⟨w.heap.size + 1 + 1 + 1 + 1, 0, none⟩ = some (.slice a vs.length c) ∧ w'.cell? ⟨w.heap.size + 1 + 1 + 1, 0, none⟩ = some (.slice b ks.length c'))
      (first | go_keep | exact ⟨k0, k1, k2, k3⟩)
      (fail)
    go_wp2
    obtain ⟨q0, q1⟩ := hR3.1.put s j
    have e0 := q0
    rw [World.cell?_setCell_other _ _ _ _ (by intro e; injection e with e1 e2; cases e2)] at e0
    change (w2.setCell ⟨w.heap.size + 1 + 1, 0, none⟩ (.string s)).cell? _ = _ at e0
    have e1 : ((w2.setCell ⟨w.heap.size + 1 + 1, 0, none⟩ (.string s)).setCell ⟨w.heap.size + 1 + 1, 1, none⟩ (.int .i64 (j : Nat))).drew.cell? ⟨w.heap.size + 1 + 1, 1, none⟩ = some (.int .i64 (j : Nat)) := q1
    have hkR := (keeps_at w2.drew (w.heap.size + 1 + 1) 0 (.string s)).trans (keeps_at _ (w.heap.size + 1 + 1) 1 (.int .i64 (j : Nat)))
    have hne2 : Value.ownBlock (.slice a vs.length c) ≠ some (w.heap.size + 1 + 1) := HL2.out.row_ne HR2.out.1.2.1 (fun k e => by cases e)
    have hne3 : Value.ownBlock (.slice b ks.length c') ≠ some (w.heap.size + 1 + 1) := HK2.out.ne_scan HR2.out
    have hlF := (HL2.out.step (Below.drew (Below.refl _ _))).keeps hkR (by omega) (fun q e h => by rw [h] at e; exact hne2 e) (fun q _ _ _ _ hE h => by have hE : wd.heap.size + 2 ≤ q := hE.1; have := HSD.out; omega)
    have hkF := (HK2.out.step (Below.drew (Below.refl _ _))).keeps hkR (by omega) (fun q e h => by rw [h] at e; exact hne3 e)
    have hrowF : RowIn (fun q => w.heap.size ≤ q) _ (.slice a vs.length c) vs.length xs := RowIn.of_own hlF.own (fun q e => (hlF.own.lt q e).1) (fun e => hlF.nil (List.eq_nil_of_length_eq_zero e))
    have hkeyF : RowIn (fun q => w.heap.size ≤ q) _ (.slice b ks.length c') ks.length (ks.map Value.string) := RowIn.of_own hkF.own (fun q e => (hkF.own.lt q e).1) (fun e => hkF.nil (List.eq_nil_of_length_eq_zero e))
    have hvF : ValsC (fun q => w.heap.size ≤ q) _ xs vs := hlF.vals.move (Nat.le_refl _) (fun q hq _ => ⟨hq.1, rfl⟩)
    have hBF := (HB2.out.drew.setCell (p := ⟨w.heap.size + 1 + 1, 0, none⟩) (by change _ ≤ w.heap.size + 1 + 1; omega) (.string s)).setCell (p := ⟨w.heap.size + 1 + 1, 1, none⟩) (by change _ ≤ w.heap.size + 1 + 1; omega) (.int .i64 (j : Nat))
    exact bodyPost_ret (v := .tuple #[.agg #[.string s, .int .i64 (j : Nat)], .slice b ks.length c', .slice a vs.length c, .nilIface]) (by simp [results, Tryz.results60, go_sem, e0, e1]) rfl (.inl ⟨j, vs, ks, a, c, b, c', xs, HREL.out, rfl, hrowF, hkeyF, hvF, hBF⟩)
  · have HREL := Lib.hid hrel
    obtain ⟨b, l', c', a, l, c, hcK, hc⟩ := he
    have own1 := HOWN.out.keeps hkp (by show ¬ (_ ∨ _ ∨ _); omega)
    have res1 := HRES.out.keeps hkp (by show ¬ (_ ∨ _ ∨ _); omega)
    have hB1 : Below w.heap.size w w1 := HBAD.out.trans (hkp.below (by have := HSD.out; omega) (fun q e => by have e : _ ∨ _ ∨ _ := e; omega))
    have hkW := (keeps_at w1 w.heap.size 0 (.string s)).trans (keeps_at _ w.heap.size 1 (.int .i64 (j : Nat)))
    have own2 := own1.set s j
    have res2 := res1.keeps hkW (by omega)
    have hf2 := hf.set own1.1 s j
    have hc2 : ((w1.setCell ⟨w.heap.size, 0, none⟩ (.string s)).setCell ⟨w.heap.size, 1, none⟩ (.int .i64 (j : Nat))).cell? ⟨w.heap.size + 1 + 1 + 1 + 1, 0, none⟩ = some (.slice a l c) := by
      rw [World.cell?_setCell_other _ _ _ _ (by intro e; injection e with e; omega), World.cell?_setCell_other _ _ _ _ (by intro e; injection e with e; omega)]
      exact hc
    have hcK2 : ((w1.setCell ⟨w.heap.size, 0, none⟩ (.string s)).setCell ⟨w.heap.size, 1, none⟩ (.int .i64 (j : Nat))).cell? ⟨w.heap.size + 1 + 1 + 1, 0, none⟩ = some (.slice b l' c') := by
      rw [World.cell?_setCell_other _ _ _ _ (by intro e; injection e with e; omega), World.cell?_setCell_other _ _ _ _ (by intro e; injection e with e; omega)]
      exact hcK
    have hB2 := (hB1.setCell (p := ⟨w.heap.size, 0, none⟩) (Nat.le_refl _) (.string s)).setCell (p := ⟨w.heap.size, 1, none⟩) (Nat.le_refl _) (.int .i64 (j : Nat))
    obtain ⟨-, c0, c1, cf⟩ := own1.1
    have HC2 := Lib.hid hc2
    have HK2 := Lib.hid hcK2
    have HO2 := Lib.hid own2
    have HR2 := Lib.hid res2
    have HB2 := Lib.hid hB2
    have HF2 := Lib.hid hf2
    clear hrel hB1 hc hcK own1 res1 hkp hc2 hcK2 own2 res2 hB2 hkW hf hf2
    unfold pf
    go_wp2_with fail
    generalize (w1.setCell ⟨w.heap.size, 0, none⟩ (.string s)).setCell ⟨w.heap.size, 1, none⟩ (.int .i64 (j : Nat)) = w2 at *
    clear c0 c1 cf
    have hR3 : ScanS w2.drew (w.heap.size + 1 + 1) ⟨#[]⟩ 0 := HR2.out
    have hF3 : FaultAt w2.drew fb ec ea := HF2.out
    have k0 : w2.drew.cell? ⟨w.heap.size, 0, none⟩ = some (.string s) := HO2.out.1.2.1
    have k1 : w2.drew.cell? ⟨w.heap.size, 1, none⟩ = some (.int .i64 (j : Nat)) := HO2.out.1.2.2.1
    have k2 : w2.drew.cell? ⟨w.heap.size + 1 + 1 + 1 + 1, 0, none⟩ = some (.slice a l c) := HC2.out
    have k3 : w2.drew.cell? ⟨w.heap.size + 1 + 1 + 1, 0, none⟩ = some (.slice b l' c') := HK2.out
    obtain ⟨-, x0, x1, xf⟩ := hR3.1
    obtain ⟨-, y0, y1, yf⟩ := HR2.out.1
    have z0 : w2.cell? ⟨w.heap.size, 0, none⟩ = some (.string s) := k0
    have z1 : w2.cell? ⟨w.heap.size, 1, none⟩ = some (.int .i64 (j : Nat)) := k1
    have z2 := k2
    change w2.cell? _ = _ at z2
    have z3 := k3
    change w2.cell? _ = _ at z3
    have n1 : w.heap.size + 1 + 1 ≠ w.heap.size := by omega
    have n2 : w.heap.size + 1 + 1 ≠ w.heap.size + 1 + 1 + 1 + 1 := by omega
    have n3 : w.heap.size + 1 + 1 ≠ w.heap.size + 1 + 1 + 1 := by omega
    go_region_held3 (fun w' => w'.cell? ⟨w.heap.size, 0, none⟩ = some (.string s) ∧ w'.cell? ⟨w.heap.size, 1, none⟩ = some (.int .i64 (j : Nat)) ∧ w'.cell? ⟨w.heap.size + 1 + 1 + 1 + 1, 0, none⟩ = some (.slice a l c) ∧ w'.cell? ⟨w.heap.size + 1 + 1 + 1, 0, none⟩ = some (.slice b l' c'))
      (first | go_keep | exact ⟨k0, k1, k2, k3⟩)
      (fail)
    go_wp2
    obtain ⟨q0, q1⟩ := hR3.1.put s j
    have e0 := q0
    rw [World.cell?_setCell_other _ _ _ _ (by intro e; injection e with e1 e2; cases e2)] at e0
    change (w2.setCell ⟨w.heap.size + 1 + 1, 0, none⟩ (.string s)).cell? _ = _ at e0
    have e1 : ((w2.setCell ⟨w.heap.size + 1 + 1, 0, none⟩ (.string s)).setCell ⟨w.heap.size + 1 + 1, 1, none⟩ (.int .i64 (j : Nat))).drew.cell? ⟨w.heap.size + 1 + 1, 1, none⟩ = some (.int .i64 (j : Nat)) := q1
    have hBF := (HB2.out.drew.setCell (p := ⟨w.heap.size + 1 + 1, 0, none⟩) (by change _ ≤ w.heap.size + 1 + 1; omega) (.string s)).setCell (p := ⟨w.heap.size + 1 + 1, 1, none⟩) (by change _ ≤ w.heap.size + 1 + 1; omega) (.int .i64 (j : Nat))
    exact bodyPost_ret (v := .tuple #[.agg #[.string s, .int .i64 (j : Nat)], .slice b l' c', .slice a l c, pf fb]) (by simp [results, Tryz.results60, go_sem, e0, e1, pf]) rfl (.inr ⟨ec, ea, fb, j, a, l, c, b, l', c', HREL.out, hj, rfl, hF3.set hR3.1 s j, hBF⟩)
end Go.Proofs.YtajmlkephefapaaGreatDoor
