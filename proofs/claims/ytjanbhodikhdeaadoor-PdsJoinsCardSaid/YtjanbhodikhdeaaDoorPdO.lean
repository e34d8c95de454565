/-
  Package pds by contracts: a run.
-/
import Derived.Test.YtjanbhodikhdeaaDoorPdN
namespace Go.Proofs.YtjanbhodikhdeaaDoor
open Go.RowKit Go.Extern.Stop Go.Stop Go.Extern

/-- What a run answers. -/
def DoOut (X : Ans) (w : World) (e : Ending) (w' : World) : Prop := ∃ (a : Option Addr) (k : Nat) (er : Value), e = .returned (.tuple #[cfV X.c.1 (.slice a X.c.2.length k), .int .u64 X.n, er]) ∧
  w'.ownsRow w.heap.size 3 1 (.slice a X.c.2.length k) X.c.2.length (encI X.c.2) ∧ ErrIs w' er X.code X.at_ ∧ Below w.heap.size w w'
/-- On the way through a run. -/
structure DoS (w : World) (S L : Int) (v : Value) (Pb : Nat) (c : Cf) (vs : Value) (W : World) : Prop where
  sys : W.heap[w.heap.size]? = some (.cells #[.int .i64 S, .int .i64 L, v] 24 (0, 0))
  res : W.heap[w.heap.size + 2]? = some (.cells #[.int .i64 0, .slice none 0 0] 27 (0, 0))
  st : W.heap[Pb]? = some (.cells #[.int .i64 c.1, vs] 56 (0, 0))
  pb : w.heap.size + 3 ≤ Pb
  own : W.ownsRow (w.heap.size + 3) 3 1 vs c.2.length (encI c.2.reverse)
  below : Below w.heap.size w W
section
variable {w : World} {S L : Int} {v : Value} {Pb : Nat} {c : Cf} {vs : Value} {W W' : World}
theorem DoS.step (h : DoS w S L v Pb c vs W) (hb : Below W.heap.size W W') : DoS w S L v Pb c vs W' :=
  ⟨blk h.sys hb, blk h.res hb, blk h.st hb, h.pb, h.own.kept (grown_of_below hb) (by cases vs.ownBlock <;> simp), h.below.trans (hb.mono h.below.size)⟩
theorem DoS.list (h : DoS w S L v Pb c vs W) : ∃ a k, vs = .slice a c.2.length k := row_slice h.own
theorem DoS.ints (h : DoS w S L v Pb c vs W) : IntsAt W vs c.2.reverse := IntsAt.own h.own (by rw [List.length_reverse])
theorem DoS.far (h : DoS w S L v Pb c vs W) (hk : Keeps (fun q => q = Pb ∨ vs.ownBlock = some q) W W') {q : Nat} {o : Obj} (hq : q < w.heap.size + 3) (hh : W.heap[q]? = some o) : W'.heap[q]? = some o :=
  (hk.block q (blt hh) (fun e => by
    rcases e with e | e
    · have := h.pb; omega
    · have := (h.own.lt q e).1; omega)).trans hh
end
theorem ErrIs.beside {w : World} {v : Value} {c a : Int} {b : Nat} {x : Option Addr} {y z : Nat} (h : ErrIs w v c a) (hs : w.cell? ⟨b, 1, none⟩ = some (.slice x y z)) (j : Nat) (u : Value) : ErrIs (w.setCell ⟨b, j, none⟩ u) v c a := by
  rcases h with h | ⟨h0, fb, e, hlt, h1, h2⟩
  · exact .inl h
  · have hne : fb ≠ b := by
      rintro rfl
      rw [hs] at h2
      cases h2
    refine .inr ⟨h0, fb, e, by rw [World.size_setCell]; exact hlt, ?_, ?_⟩
    · rw [World.cell?_setCell_other _ _ _ _ (by intro e; injection e with e; exact hne e.symm)]; exact h1
    · rw [World.cell?_setCell_other _ _ _ _ (by intro e; injection e with e; exact hne e.symm)]; exact h2
/-- What is told at the end. -/
theorem DoS.out {w : World} {S L : Int} {v : Value} {Pb : Nat} {c : Cf} {vs : Value} {W W7 : World} (h : DoS w S L v Pb c vs W) (hb : Below W.heap.size W W7) {qa : Option Addr} {qc : Nat} (ho : W7.ownsRow (w.heap.size + 3) 3 1 (.slice qa c.2.length qc) c.2.length (encI c.2)) {n code at_ : Int} {er : Value} (he : ErrIs W7 er code at_) :
    DoOut ⟨c, n, code, at_⟩ w (.returned (.tuple #[cfV c.1 (.slice qa c.2.length qc), .int .u64 n, er])) ((W7.setCell ⟨w.heap.size + 2, 0, none⟩ (.int .i64 c.1)).setCell ⟨w.heap.size + 2, 1, none⟩ (.slice qa c.2.length qc)) := by
  have h7 := h.step hb
  have c1 := (cells2 h7.res).2
  have c2 := (cells2 (heap_setCell_same _ _ 0 _ _ (.int .i64 c.1) h7.res)).2
  refine ⟨qa, qc, er, rfl, ?_, (he.beside c1 0 _).beside c2 1 _, (h7.below.setCell (p := ⟨w.heap.size + 2, 0, none⟩) (by show w.heap.size ≤ w.heap.size + 2; omega) _).setCell (p := ⟨w.heap.size + 2, 1, none⟩) (by show w.heap.size ≤ w.heap.size + 2; omega) _⟩
  exact ownsRow_lower (ownsRow_surv ho ((Surv.setCell (T := 0) (q := ⟨w.heap.size + 2, 0, none⟩) (by show w.heap.size + 2 < w.heap.size + 3; omega) _).trans (Surv.setCell (q := ⟨w.heap.size + 2, 1, none⟩) (by show w.heap.size + 2 < w.heap.size + 3; omega) _)) (by decide)) (by omega)
theorem DoS.outCells {w : World} {S L : Int} {v : Value} {Pb : Nat} {c : Cf} {vs : Value} {W7 : World} (h : DoS w S L v Pb c vs W7) (u0 u1 : Value) :
    ((W7.setCell ⟨w.heap.size + 2, 0, none⟩ u0).setCell ⟨w.heap.size + 2, 1, none⟩ u1).cell? ⟨w.heap.size + 2, 0, none⟩ = some u0 ∧ ((W7.setCell ⟨w.heap.size + 2, 0, none⟩ u0).setCell ⟨w.heap.size + 2, 1, none⟩ u1).cell? ⟨w.heap.size + 2, 1, none⟩ = some u1 :=
  cells2 (heap_setCell_same _ _ 1 _ _ u1 (heap_setCell_same _ _ 0 _ _ u0 h.res))
theorem goC_drop {rs : List Ru} {l : List Int} {i : Nat} {x : Int} (h : l[i]? = some x) (c : Cf) (n : Int) : goC rs (l.drop i) (i : Int) c n = match ruAt rs x with
    | none => ⟨c, n, 11, (i : Int)⟩
    | some r => if fitsB r c then goC rs (l.drop (i + 1)) ((i : Int) + 1) (doC r c) (addI n r.cost) else ⟨c, n, 17, (i : Int)⟩ := by
  have e : l.drop i = x :: l.drop (i + 1) := by
    obtain ⟨hi, rfl⟩ := List.getElem?_eq_some_iff.1 h
    exact List.drop_eq_getElem_cons hi
  rw [e, goC_cons]
  cases ruAt rs x <;> rfl
theorem fits_some {r : Ru} {c : Cf} (h : fitsB r c = true) : ∃ t st, c.2 = t :: st := by
  unfold fitsB at h
  cases hc : c.2 with
  | nil => rw [hc] at h; cases h
  | cons t st => exact ⟨t, st, rfl⟩
set_option maxRecDepth 100000 in
set_option maxHeartbeats 8000000 in
theorem pdsDo_any (S L : Int) (v : Value) (rs : List Ru) (c0 : Cf) (v0 : Value) (l : List Int) (vl : Value) (w : World) (hv : RusAt w v rs) (hsh : Short rs 100) (hcs : ∀ (i : Nat) (r : Ru), rs[i]? = some r → 0 ≤ r.cost) (_hrl : rs.length ≤ 100000)
    (h0 : IntsAt w v0 c0.2) (hl : IntsAt w vl l) (hbd : c0.2.length + 100 * l.length ≤ 50000) :
    Calls Tryd.prog 7 #[sysV S L v, cfV c0.1 v0, vl] w (DoOut (goC rs l 0 c0 0) w) := by
  obtain ⟨va, vc, rfl⟩ := hv.form
  obtain ⟨xa, xc, rfl⟩ := h0.form
  obtain ⟨ya, yc, rfl⟩ := hl.form
  have HV := Lib.hid hv
  have HSh := Lib.hid hsh
  have HCs := Lib.hid hcs
  have HL := Lib.hid hl
  have HBd := Lib.hid hbd
  obtain ⟨X, HX⟩ : ∃ X, Hid (goC rs l 0 c0 0 = X) := ⟨_, Lib.hid rfl⟩
  rw [HX.out]
  obtain ⟨s0, st0⟩ := c0
  replace h0 : IntsAt w (.slice xa st0.length xc) st0 := h0
  replace hbd : st0.length + 100 * l.length ≤ 50000 := hbd
  show Calls Tryd.prog 7 #[.agg #[.int .i64 S, .int .i64 L, .slice va rs.length vc], .agg #[.int .i64 s0, .slice xa st0.length xc], .slice ya l.length yc] w (DoOut X w)
  obtain ⟨W4, hW4, hz4, g0, g1, g2, -, hb4⟩ := four_boxes w 24 27 27 0 #[.int .i64 S, .int .i64 L, .slice va rs.length vc] #[.int .i64 s0, .slice xa st0.length xc] #[.int .i64 0, .slice none 0 0] #[]
  clear hW4 hz4 g0 g1 g2 hb4 W4
  have b1 := sbelow_new w (.cells #[.int .i64 S, .int .i64 L, .slice va rs.length vc] 24)
  have z1 : (w.alloc (.cells #[.int .i64 S, .int .i64 L, .slice va rs.length vc] 24)).heap.size = w.heap.size + 1 := World.size_alloc _ _
  have k1 := heap_alloc_new w (.cells #[.int .i64 S, .int .i64 L, .slice va rs.length vc] 24)
  generalize hw1 : w.alloc (.cells #[.int .i64 S, .int .i64 L, .slice va rs.length vc] 24) = w1 at *
  obtain ⟨k2, k3, b2⟩ := two_boxes w1 27 27 #[.int .i64 s0, .slice xa st0.length xc] #[.int .i64 0, .slice none 0 0]
  have z2 : ((w1.alloc (.cells #[.int .i64 s0, .slice xa st0.length xc] 27)).alloc (.cells #[.int .i64 0, .slice none 0 0] 27)).heap.size = w.heap.size + 3 := by rw [World.size_alloc, World.size_alloc, z1]
  rw [z1] at k2 k3
  have k1' := blk k1 b2
  have B3 := b1.trans (b2.mono b1.size)
  have HST := Lib.hid (stand_any s0 st0 _ _ (h0.step B3) (by omega))
  obtain ⟨c0', c1'⟩ := cells2 k2
  clear hv hsh hcs hl h0
  go_enter Tryd.func7, Tryd.ntmps7
  go_upto_region 1 with (fail)
  clear hw1
  generalize (w1.alloc (.cells #[.int .i64 s0, .slice xa st0.length xc] 27)).alloc (.cells #[.int .i64 0, .slice none 0 0] 27) = w3 at *
  go_wp2_with (go_at_call 21; refine HST.out.mono ?_; rintro e w4 ⟨sa, sc, rfl, hown, b4⟩; have hn4 := heap_alloc_new w4 (.cells #[.int .i64 s0, .slice sa st0.length sc] 56); have bn4 := sbelow_new w4 (.cells #[.int .i64 s0, .slice sa st0.length sc] 56))
  have hb4 : Below w.heap.size w w4 := B3.trans (b4.mono B3.size)
  have hD0 : DoS w S L (.slice va rs.length vc) w4.heap.size (s0, st0) (.slice sa st0.length sc) (w4.alloc (.cells #[.int .i64 s0, .slice sa st0.length sc] 56)) :=
    ⟨blk (blk k1' b4) bn4, blk (blk k3 b4) bn4, hn4, by rw [← z2]; exact b4.size, (ownsRow_lower hown (by rw [z2]; omega)).kept (grown_of_below bn4) (by cases (Value.slice sa st0.length sc).ownBlock <;> simp), hb4.trans (bn4.mono hb4.size)⟩
  have HD0 := Lib.hid hD0
  clear hD0 hn4 bn4 hown b4 hb4 k1 k1' k2 k3 b1 b2 B3 c0' c1' z1 z2 HST
  generalize w4.alloc (.cells #[.int .i64 s0, .slice sa st0.length sc] 56) = w5 at *
  generalize w4.heap.size = Pb at *
  go_loopg [17, 10] l.length (fun g u nv wr => ∃ (i : Nat) (c : Cf) (n : Int) (vs : Value), i ≤ l.length ∧ g = l.length - i ∧ u = .int .i64 i ∧ nv = .int .u64 n ∧ goC rs (l.drop i) (i : Int) c n = X ∧ 0 ≤ n ∧ c.2.length ≤ st0.length + 100 * i ∧ DoS w S L (.slice va rs.length vc) Pb c vs wr)
  case atStart => exact ⟨0, _, 0, _, Nat.zero_le _, by omega, rfl, rfl, by rw [List.drop_zero]; exact HX.out, by omega, Nat.le_add_right _ _, HD0.out⟩
  case round =>
    obtain ⟨i, ⟨cs, stk⟩, n, vs, hi, hgi, rfl, rfl, hX, hn0, hcl, hS⟩ := hrel
    replace hcl : stk.length ≤ st0.length + 100 * i := hcl
    clear HD0
    obtain ⟨a5, k5, rfl⟩ := hS.list
    have HS := Lib.hid hS
    have HCf := Lib.hid (fun W (h : DoS w S L (.slice va rs.length vc) Pb (cs, stk) (.slice a5 (cs, stk).2.length k5) W) => config_any cs stk.reverse (.slice a5 stk.length k5) W h.ints (by rw [List.length_reverse]; have := HBd.out; omega))
    have hstk : stk.length ≤ 50000 := by have := HBd.out; omega
    have hres := hS.res
    obtain ⟨r0, r1⟩ := cells2 hres
    have rf0 : wr.frozen? ⟨w.heap.size + 2, 0, none⟩ = false := by unfold World.frozen?; rw [hres]; simp
    have rf1 : wr.frozen? ⟨w.heap.size + 2, 1, none⟩ = false := by unfold World.frozen?; rw [hres]; simp
    obtain ⟨t0, t1⟩ := cells2 hS.st
    obtain ⟨y0, y1, y2⟩ := cells3 hS.sys
    by_cases hlt : i < l.length
    · obtain ⟨x, hx⟩ : ∃ x, l[i]? = some x := ⟨_, List.getElem?_eq_getElem hlt⟩
      obtain ⟨lb, lo, rfl, hlc⟩ := HL.out.at hx hS.below
      have HXi := Lib.hid ((goC_drop hx (cs, stk) n).symm.trans hX)
      have HB1 := Lib.hid (fun W => isBelow_any (rs.length : Int) x W)
      clear hX hx hres hS
      cases hin : inB (rs.length : Int) x with
      | false =>
        have hno : ruAt rs x = none := by
          cases hr : ruAt rs x with
          | none => rfl
          | some r =>
            obtain ⟨k, rfl, hk, -⟩ := ruAt_some hr
            rw [show inB (rs.length : Int) (k : Int) = true by rw [inB_iff]; omega] at hin
            cases hin
        have hXe := HXi.out
        rw [hno] at hXe
        have HXe : Hid (X = ⟨(cs, stk), n, 11, (i : Int)⟩) := Lib.hid hXe.symm
        rw [hin] at HB1
        clear hin hno hXe HXi
        go_wp2_with (first
          | (go_at_call 22; refine (HB1.out _).mono ?_; rintro e w6 ⟨rfl, rfl⟩)
          | (go_at_call 23; refine (HCf.out _ HS.out).mono ?_; rintro e w6 ⟨qa, qc, rfl, hown6, b6⟩)
          | (go_at_call 24; refine (new_err 11 (i : Int) (by decide) _).mono ?_; rintro e w7 ⟨fb, rfl, hf, b7⟩; have b67 := b6.trans (b7.mono b6.size); have hr7 := blk HS.out.res b67; have r0 := (cells2 hr7).1; have r1 := (cells2 hr7).2; have rf0 : w7.frozen? ⟨w.heap.size + 2, 0, none⟩ = false := (by unfold World.frozen?; rw [hr7]; simp); have rf1 : w7.frozen? ⟨w.heap.size + 2, 1, none⟩ = false := (by unfold World.frozen?; rw [hr7]; simp); unfold pf))
        have h7 := HS.out.step b67
        have ho7 : w7.ownsRow (w.heap.size + 3) 3 1 (.slice qa stk.length qc) stk.length (encI stk) := by
          have h := hown6
          rw [List.length_reverse, List.reverse_reverse] at h
          exact (ownsRow_lower h (by have := HS.out.below.size; have := HS.out.pb; have := blt HS.out.st; omega)).kept (grown_of_below b7) (by cases (Value.slice qa stk.length qc).ownBlock <;> simp)
        have hend := HS.out.out b67 ho7 (n := n) hf
        obtain ⟨q0, q1⟩ := h7.outCells (.int .i64 cs) (.slice qa stk.length qc)
        have q0' : ((w7.setCell ⟨w.heap.size + 1 + 1, 0, none⟩ (.int .i64 cs)).setCell ⟨w.heap.size + 1 + 1, 1, none⟩ (.slice qa stk.length qc)).cell? ⟨w.heap.size + 1 + 1, 0, none⟩ = some (.int .i64 cs) := q0
        have q1' : ((w7.setCell ⟨w.heap.size + 1 + 1, 0, none⟩ (.int .i64 cs)).setCell ⟨w.heap.size + 1 + 1, 1, none⟩ (.slice qa stk.length qc)).cell? ⟨w.heap.size + 1 + 1, 1, none⟩ = some (.slice qa stk.length qc) := q1
        rw [HXe.out]
        refine bodyPost_ret (v := .tuple #[cfV cs (.slice qa stk.length qc), .int .u64 n, pf fb]) (by simp [results, Tryd.results7, go_sem, q0', q1', pf]) rfl hend
      | true =>
        obtain ⟨hx0, hx1⟩ := inB_iff.1 hin
        obtain ⟨k, rfl⟩ : ∃ k : Nat, x = (k : Int) := ⟨x.toNat, by omega⟩
        have hkl : k < rs.length := by omega
        obtain ⟨r, hr⟩ : ∃ r, rs[k]? = some r := ⟨_, List.getElem?_eq_getElem hkl⟩
        have hra : ruAt rs (k : Int) = some r := by unfold ruAt; rw [if_pos (by omega)]; exact hr
        obtain ⟨b, off, pa, pc, rfl, k0, k1, k2, k3, k4, hpw, hbw⟩ := HV.out.at0 hr HS.out.below
        have hpl := HSh.out k r hr
        have hc0 := HCs.out k r hr
        have hXe := HXi.out
        rw [hra] at hXe
        have HXe := Lib.hid hXe
        rw [hin] at HB1
        obtain ⟨fr, top, to, push, cost⟩ := r
        replace hpl : push.length ≤ 100 := hpl
        replace hc0 : 0 ≤ cost := hc0
        replace hpw : IntsAt w (.slice pa push.length pc) push := hpw
        replace k0 : wr.cell? ⟨b, off + k * 5, none⟩ = some (.int .i64 fr) := k0
        replace k1 : wr.cell? ⟨b, off + k * 5 + 1, none⟩ = some (.int .i64 top) := k1
        replace k2 : wr.cell? ⟨b, off + k * 5 + 2, none⟩ = some (.int .i64 to) := k2
        replace k3 : wr.cell? ⟨b, off + k * 5 + 3, none⟩ = some (.slice pa push.length pc) := k3
        replace k4 : wr.cell? ⟨b, off + k * 5 + 4, none⟩ = some (.int .u64 cost) := k4
        have HPw := Lib.hid hpw
        have HBr : Hid (Below w.heap.size w wr) := Lib.hid HS.out.below
        have hbr : b < wr.heap.size := Nat.lt_of_lt_of_le hbw HS.out.below.size
        have hkk : (k : Int) < (rs.length : Int) := by omega
        clear hin hx0 hx1 hra hXe HXi hpw hr
        have HF := Lib.hid (fun W (h : DoS w S L (.slice (some ⟨b, off, none⟩) rs.length vc) Pb (cs, stk) (.slice a5 stk.length k5) W) => fits_any cs stk.reverse (.slice a5 stk.length k5) ⟨fr, top, to, push, cost⟩ pa pc W h.ints (by rw [List.length_reverse]; omega))
        rw [List.reverse_reverse] at HF
        have HXq : Hid ((if fitsB ⟨fr, top, to, push, cost⟩ (cs, stk) = true then goC rs (l.drop (i + 1)) ((i : Int) + 1) (doC ⟨fr, top, to, push, cost⟩ (cs, stk)) (addI n cost) else ⟨(cs, stk), n, 17, (i : Int)⟩) = X) := HXe
        have HFs := Lib.hid (fun h : fitsB ⟨fr, top, to, push, cost⟩ (cs, stk) = true => fits_some h)
        clear HXe
        generalize fitsB ⟨fr, top, to, push, cost⟩ (cs, stk) = q at *
        have HK : Hid (∀ W, Below wr.heap.size wr W → W.cell? ⟨b, off + k * 5, none⟩ = some (.int .i64 fr) ∧ W.cell? ⟨b, off + k * 5 + 1, none⟩ = some (.int .i64 top) ∧ W.cell? ⟨b, off + k * 5 + 2, none⟩ = some (.int .i64 to) ∧ W.cell? ⟨b, off + k * 5 + 3, none⟩ = some (.slice pa push.length pc) ∧ W.cell? ⟨b, off + k * 5 + 4, none⟩ = some (.int .u64 cost)) := Lib.hid (fun W hb =>
          ⟨(hb.cell (p := ⟨b, off + k * 5, none⟩) hbr).trans k0, (hb.cell (p := ⟨b, off + k * 5 + 1, none⟩) hbr).trans k1, (hb.cell (p := ⟨b, off + k * 5 + 2, none⟩) hbr).trans k2, (hb.cell (p := ⟨b, off + k * 5 + 3, none⟩) hbr).trans k3, (hb.cell (p := ⟨b, off + k * 5 + 4, none⟩) hbr).trans k4⟩)
        go_upto_region 7 with (go_at_call 22; refine (HB1.out _).mono ?_; rintro e w6 ⟨rfl, rfl⟩)
        have hI := HS.out.step (Below.refl _ _).drew
        have hBd := (Below.refl w6.heap.size w6).drew
        have kk := And.intro (cells3 hI.sys).2.2 (And.intro (cells2 hI.st).1 (And.intro (cells2 hI.st).2 (HK.out _ hBd)))
        go_region_held3 (fun W => W.cell? ⟨w.heap.size, 2, none⟩ = some (.slice (some ⟨b, off, none⟩) rs.length vc) ∧ W.cell? ⟨Pb, 0, none⟩ = some (.int .i64 cs) ∧ W.cell? ⟨Pb, 1, none⟩ = some (.slice a5 stk.length k5) ∧ W.cell? ⟨b, off + k * 5, none⟩ = some (.int .i64 fr) ∧ W.cell? ⟨b, off + k * 5 + 1, none⟩ = some (.int .i64 top) ∧ W.cell? ⟨b, off + k * 5 + 2, none⟩ = some (.int .i64 to) ∧ W.cell? ⟨b, off + k * 5 + 3, none⟩ = some (.slice pa push.length pc) ∧ W.cell? ⟨b, off + k * 5 + 4, none⟩ = some (.int .u64 cost))
          (first | exact kk | exact And.intro (cells3 hI.sys).2.2 (And.intro (cells2 hI.st).1 (And.intro (cells2 hI.st).2 (HK.out _ hBd))))
          ((go_at_call 25; refine (HF.out _ hI).mono ?_; rintro e w7 ⟨rfl, b7⟩; replace hI := hI.step b7; replace hBd := hBd.trans (b7.mono hBd.size)))
        have HS8 := Lib.hid hI
        have HB8 := Lib.hid hBd
        clear hI hBd kk b7
        cases q with
        | false =>
          have HXe : Hid (X = ⟨(cs, stk), n, 17, (i : Int)⟩) := Lib.hid (by have h := HXq.out; rw [if_neg (by decide)] at h; exact h.symm)
          clear HXq k0 k1 k2 k3 k4 y0 y1 y2 t0 t1 r0 r1 rf0 rf1
          obtain ⟨t0, t1⟩ := cells2 HS8.out.st
          go_wp2_with (first
            | (go_at_call 23; refine (HCf.out _ HS8.out).mono ?_; rintro e w6 ⟨qa, qc, rfl, hown6, b6⟩)
            | (go_at_call 24; refine (new_err 17 (i : Int) (by decide) _).mono ?_; rintro e w7 ⟨fb, rfl, hf, b7⟩; have b67 := b6.trans (b7.mono b6.size); have hr7 := blk HS8.out.res b67; have r0 := (cells2 hr7).1; have r1 := (cells2 hr7).2; have rf0 : w7.frozen? ⟨w.heap.size + 2, 0, none⟩ = false := (by unfold World.frozen?; rw [hr7]; simp); have rf1 : w7.frozen? ⟨w.heap.size + 2, 1, none⟩ = false := (by unfold World.frozen?; rw [hr7]; simp); unfold pf))
          have h7 := HS8.out.step b67
          have ho7 : w7.ownsRow (w.heap.size + 3) 3 1 (.slice qa stk.length qc) stk.length (encI stk) := by
            have h := hown6
            rw [List.length_reverse, List.reverse_reverse] at h
            exact (ownsRow_lower h (by have := HS8.out.below.size; have := HS8.out.pb; have := blt HS8.out.st; omega)).kept (grown_of_below b7) (by cases (Value.slice qa stk.length qc).ownBlock <;> simp)
          have hend := HS8.out.out b67 ho7 (n := n) hf
          obtain ⟨q0, q1⟩ := h7.outCells (.int .i64 cs) (.slice qa stk.length qc)
          have q0' : ((w7.setCell ⟨w.heap.size + 1 + 1, 0, none⟩ (.int .i64 cs)).setCell ⟨w.heap.size + 1 + 1, 1, none⟩ (.slice qa stk.length qc)).cell? ⟨w.heap.size + 1 + 1, 0, none⟩ = some (.int .i64 cs) := q0
          have q1' : ((w7.setCell ⟨w.heap.size + 1 + 1, 0, none⟩ (.int .i64 cs)).setCell ⟨w.heap.size + 1 + 1, 1, none⟩ (.slice qa stk.length qc)).cell? ⟨w.heap.size + 1 + 1, 1, none⟩ = some (.slice qa stk.length qc) := q1
          rw [HXe.out]
          refine bodyPost_ret (v := .tuple #[cfV cs (.slice qa stk.length qc), .int .u64 n, pf fb]) (by simp [results, Tryd.results7, go_sem, q0', q1', pf]) rfl hend
        | true =>
          obtain ⟨t, st, rfl⟩ : ∃ t st, stk = t :: st := HFs.out rfl
          have HXe : Hid (goC rs (l.drop (i + 1)) ((i : Int) + 1) (doC ⟨fr, top, to, push, cost⟩ (cs, t :: st)) (addI n cost) = X) := Lib.hid (by have h := HXq.out; rw [if_pos rfl] at h; exact h)
          clear HXq HFs k0 k1 k2 k3 k4 y0 y1 y2 t0 t1 r0 r1 rf0 rf1
          rename World => wq
          obtain ⟨g, cap, eg, -, -⟩ := HS8.out.own.form (Nat.succ_pos _)
          injection eg with eg1 eg2 eg3
          subst eg1 eg3
          have hq0 := (cells3 HS8.out.sys).2.2
          obtain ⟨k0, k1, k2, k3, k4⟩ := HK.out wq HB8.out
          have HDO := Lib.hid (do21_any (w.heap.size + 3) wq (Nat.le_trans HS8.out.pb (Nat.le_of_lt (blt HS8.out.st))) Pb (blt HS8.out.st) cs g k5 t st HS8.out.st HS8.out.own (by simp only [List.length_cons] at hstk; omega) ⟨fr, top, to, push, cost⟩ pa pc (HPw.out.step HS8.out.below) (by show push.length ≤ 100000; omega) (fun ad e h => Nat.lt_of_lt_of_le (HPw.out.blk ad e h) (by omega)) HS8.out.pb)
          have HAd := Lib.hid (fun W => add_any n cost hn0 hc0 W)
          have HDB : Hid (∀ q, (q = Pb ∨ (Value.slice (some ⟨g, 0, none⟩) (st.length + 1) k5).ownBlock = some q) → w.heap.size + 3 ≤ q) := Lib.hid (by
            rintro q (e | e)
            · rw [e]; exact HS8.out.pb
            · exact (HS8.out.own.lt q e).1)
          have HBk : Hid (b < w.heap.size + 3 ∧ w.heap.size < w.heap.size + 3) := Lib.hid ⟨by omega, by omega⟩
          go_wp2_with (first
            | (go_at_call 26; refine HDO.out.mono ?_; rintro e w9 ⟨rfl, v9, hst9, hown9, hob9, hk9⟩; have hb9 : Below (w.heap.size + 3) wq w9 := hk9.below (Nat.le_trans HS8.out.pb (Nat.le_of_lt (blt HS8.out.st))) HDB.out; have hq0 : w9.cell? ⟨w.heap.size, 2, none⟩ = _ := (hb9.cell (p := ⟨w.heap.size, 2, none⟩) HBk.out.2).trans hq0; have k4 : w9.cell? ⟨b, off + k * 5 + 4, none⟩ = _ := (hb9.cell (p := ⟨b, off + k * 5 + 4, none⟩) HBk.out.1).trans k4)
            | (go_at_call 10; refine (HAd.out _).mono ?_; rintro e w10 ⟨rfl, rfl⟩))
          have hlen2 : (push ++ st).length = st.length + push.length := by rw [List.length_append]; omega
          have hown10 : w10.ownsRow (w.heap.size + 3) 3 1 v9 (push ++ st).length (encI (push ++ st).reverse) := by rw [hlen2]; exact hown9
          have hnn : 0 ≤ addI n cost := (addI_bd n cost hn0 hc0).1
          have hD10 : DoS w S L (.slice (some ⟨b, off, none⟩) rs.length vc) Pb (to, push ++ st) v9 w10 :=
            ⟨(hb9.block _ (by omega)).trans HS8.out.sys, (hb9.block _ (by omega)).trans HS8.out.res, hst9, HS8.out.pb, hown10, HS8.out.below.trans (hb9.mono (by omega))⟩
          have HF10 := Lib.hid (And.intro hD10 hnn)
          clear hD10 hnn hown10 hst9 hown9 hob9 hk9 hb9 hq0 k4 k0 k1 k2 k3
          go_roundg (l.length - (i + 1))
          case measure => omega
          case rel => exact ⟨i + 1, (to, push ++ st), addI n cost, v9, by omega, rfl, by go_num, rfl, HXe.out, HF10.out.2, by simp only [List.length_append, List.length_cons] at hcl ⊢; omega, HF10.out.1⟩
    · obtain rfl : i = l.length := by omega
      have HXe : Hid (X = ⟨(cs, stk), n, 0, 0⟩) := Lib.hid (by rw [← hX, List.drop_length]; rfl)
      clear hX hS
      go_wp2_with (go_at_call 23; refine (HCf.out _ HS.out).mono ?_; rintro e w6 ⟨qa, qc, rfl, hown6, b6⟩; have hr6 := blk hres b6; have r0 := (cells2 hr6).1; have r1 := (cells2 hr6).2; have rf0 : w6.frozen? ⟨w.heap.size + 2, 0, none⟩ = false := (by unfold World.frozen?; rw [hr6]; simp); have rf1 : w6.frozen? ⟨w.heap.size + 2, 1, none⟩ = false := (by unfold World.frozen?; rw [hr6]; simp))
      have h6 := HS.out.step b6
      have ho6 : w6.ownsRow (w.heap.size + 3) 3 1 (.slice qa stk.length qc) stk.length (encI stk) := by
        have h := hown6
        rw [List.length_reverse, List.reverse_reverse] at h
        exact ownsRow_lower h (by have := HS.out.below.size; have := HS.out.pb; have := blt HS.out.st; omega)
      have hend := HS.out.out b6 ho6 (n := n) (ErrIs.nilE w6 0)
      obtain ⟨q0, q1⟩ := h6.outCells (.int .i64 cs) (.slice qa stk.length qc)
      have q0' : ((w6.setCell ⟨w.heap.size + 1 + 1, 0, none⟩ (.int .i64 cs)).setCell ⟨w.heap.size + 1 + 1, 1, none⟩ (.slice qa stk.length qc)).cell? ⟨w.heap.size + 1 + 1, 0, none⟩ = some (.int .i64 cs) := q0
      have q1' : ((w6.setCell ⟨w.heap.size + 1 + 1, 0, none⟩ (.int .i64 cs)).setCell ⟨w.heap.size + 1 + 1, 1, none⟩ (.slice qa stk.length qc)).cell? ⟨w.heap.size + 1 + 1, 1, none⟩ = some (.slice qa stk.length qc) := q1
      rw [HXe.out]
      refine bodyPost_ret (v := .tuple #[cfV cs (.slice qa stk.length qc), .int .u64 n, .nilIface]) (by simp [results, Tryd.results7, go_sem, q0', q1']) rfl hend
end Go.Proofs.YtjanbhodikhdeaaDoor
