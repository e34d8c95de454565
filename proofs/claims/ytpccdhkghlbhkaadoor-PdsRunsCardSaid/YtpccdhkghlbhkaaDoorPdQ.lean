/-
  The document's own run of chapter 21, by contract.
-/
import Derived.Test.YtpccdhkghlbhkaaDoorPdO
namespace Go.Proofs.YtpccdhkghlbhkaaDoor
open Go.RowKit Go.Extern.Stop Go.Stop Go.Extern

/-- What the document's run answers. -/

def Came (B : Nat) (xa a : Option Addr) (n : Nat) : Prop := ∀ ad, a = some ad → 0 < n → B ≤ ad.block ∨ ∃ a0, xa = some a0 ∧ a0.block = ad.block
def RdOut (xa : Option Addr) (X : Ans) (w : World) (e : Ending) (w' : World) : Prop := ∃ (a : Option Addr) (k : Nat), e = .returned (.tuple #[cfV X.c.1 (.slice a X.c.2.length k), .int .u64 X.n, .int .i64 X.code, .int .i64 X.at_]) ∧ IntsAt w' (.slice a X.c.2.length k) X.c.2 ∧ Came w.heap.size xa a X.c.2.length ∧ Below w.heap.size w w'
/-- A row that lies in old memory, or beyond three blocks. -/
def Off3 (B : Nat) (a : Option Addr) (n : Nat) : Prop := ∀ ad, a = some ad → 0 < n → ad.block < B ∨ B + 3 ≤ ad.block
theorem IntsAt.setOff {w : World} {a : Option Addr} {n k : Nat} {l : List Int} (h : IntsAt w (.slice a n k) l) {B q : Nat} (ho : Off3 B a n) (hq : q = B + 1 ∨ q = B + 2) (j : Nat) (u : Value) : IntsAt (w.setCell ⟨q, j, none⟩ u) (.slice a n k) l := by
  rcases h with h | ⟨b, off, cap, e, hlt, hc⟩
  · exact .inl h
  · by_cases h0 : 0 < l.length
    · have e2 := e
      injection e2 with e3 e4 e5
      have hb := ho _ e3 (by omega)
      have hb' : b < B ∨ B + 3 ≤ b := hb
      refine .inr ⟨b, off, cap, e, by rw [World.size_setCell]; exact hlt, fun i c hi => ?_⟩
      rw [World.cell?_setCell_other _ _ _ _ (by intro e; injection e with e; omega)]
      exact hc i c hi
    · injection e with e3 e4 e5
      exact .inl ⟨a, k, by rw [e4, show l.length = 0 by omega], List.eq_nil_of_length_eq_zero (by omega)⟩
/-- On the way through the document's run. -/
structure RdS (w : World) (S L : Int) (xa : Option Addr) (v : Value) (c : Cf) (a : Option Addr) (k : Nat) (W : World) : Prop where
  sys : W.heap[w.heap.size]? = some (.cells #[.int .i64 S, .int .i64 L, v] 31 (0, 0))
  cb : W.heap[w.heap.size + 1]? = some (.cells #[.int .i64 c.1, .slice a c.2.length k] 46 (0, 0))
  res : W.heap[w.heap.size + 2]? = some (.cells #[.int .i64 0, .slice none 0 0] 46 (0, 0))
  iv : IntsC W (.slice a c.2.length k) c.2
  nb : Off3 w.heap.size a c.2.length
  cm : Came w.heap.size xa a c.2.length
  below : Below w.heap.size w W
section
variable {w : World} {S L : Int} {xa : Option Addr} {v : Value} {c : Cf} {a : Option Addr} {k : Nat} {W W' : World}
theorem RdS.step (h : RdS w S L xa v c a k W) (hb : Below W.heap.size W W') : RdS w S L xa v c a k W' :=
  ⟨blk h.sys hb, blk h.cb hb, blk h.res hb, h.iv.step hb, h.nb, h.cm, h.below.trans (hb.mono h.below.size)⟩
theorem RdS.out (h : RdS w S L xa v c a k W) {n code at_ : Int} :
    RdOut xa ⟨c, n, code, at_⟩ w (.returned (.tuple #[cfV c.1 (.slice a c.2.length k), .int .u64 n, .int .i64 code, .int .i64 at_])) ((W.setCell ⟨w.heap.size + 2, 0, none⟩ (.int .i64 c.1)).setCell ⟨w.heap.size + 2, 1, none⟩ (.slice a c.2.length k)) :=
  ⟨a, k, rfl, (h.iv.1.setOff h.nb (.inr rfl) 0 _).setOff h.nb (.inr rfl) 1 _, h.cm, (h.below.setCell (p := ⟨w.heap.size + 2, 0, none⟩) (by show w.heap.size ≤ w.heap.size + 2; omega) _).setCell (p := ⟨w.heap.size + 2, 1, none⟩) (by show w.heap.size ≤ w.heap.size + 2; omega) _⟩
theorem RdS.outCells (h : RdS w S L xa v c a k W) (u0 u1 : Value) :
    ((W.setCell ⟨w.heap.size + 2, 0, none⟩ u0).setCell ⟨w.heap.size + 2, 1, none⟩ u1).cell? ⟨w.heap.size + 2, 0, none⟩ = some u0 ∧ ((W.setCell ⟨w.heap.size + 2, 0, none⟩ u0).setCell ⟨w.heap.size + 2, 1, none⟩ u1).cell? ⟨w.heap.size + 2, 1, none⟩ = some u1 :=
  cells2 (heap_setCell_same _ _ 1 _ _ u1 (heap_setCell_same _ _ 0 _ _ u0 h.res))
end
set_option maxRecDepth 100000 in
set_option maxHeartbeats 8000000 in
theorem rdo21_any (S L : Int) (v : Value) (rs : List Ru) (c0 : Cf) (xa : Option Addr) (xc : Nat) (l : List Int) (vl : Value) (w : World) (hv : RusAt w v rs) (hsh : Short rs 100) (hcs : ∀ (i : Nat) (r : Ru), rs[i]? = some r → 0 ≤ r.cost) (_hrl : rs.length ≤ 100000)
    (h0 : IntsC w (.slice xa c0.2.length xc) c0.2) (hl : IntsAt w vl l) (hbd : c0.2.length + 100 * l.length ≤ 50000) :
    Calls Tryd.prog 18 #[sysV S L v, cfV c0.1 (.slice xa c0.2.length xc), vl] w (RdOut xa (goC rs l 0 c0 0) w) := by
  obtain ⟨va, vc, rfl⟩ := hv.form
  obtain ⟨ya, yc, rfl⟩ := hl.form
  have HV := Lib.hid hv
  have HSh := Lib.hid hsh
  have HCs := Lib.hid hcs
  have HL := Lib.hid hl
  have HBd := Lib.hid hbd
  obtain ⟨X, HX⟩ : ∃ X, Hid (goC rs l 0 c0 0 = X) := ⟨_, Lib.hid rfl⟩
  rw [HX.out]
  obtain ⟨s0, st0⟩ := c0
  replace h0 : IntsC w (.slice xa st0.length xc) st0 := h0
  replace hbd : st0.length + 100 * l.length ≤ 50000 := hbd
  show Calls Tryd.prog 18 #[.agg #[.int .i64 S, .int .i64 L, .slice va rs.length vc], .agg #[.int .i64 s0, .slice xa st0.length xc], .slice ya l.length yc] w (RdOut xa X w)
  have b1 := sbelow_new w (.cells #[.int .i64 S, .int .i64 L, .slice va rs.length vc] 31)
  have z1 : (w.alloc (.cells #[.int .i64 S, .int .i64 L, .slice va rs.length vc] 31)).heap.size = w.heap.size + 1 := World.size_alloc _ _
  have k1 := heap_alloc_new w (.cells #[.int .i64 S, .int .i64 L, .slice va rs.length vc] 31)
  generalize hw1 : w.alloc (.cells #[.int .i64 S, .int .i64 L, .slice va rs.length vc] 31) = w1 at *
  obtain ⟨k2, k3, b2⟩ := two_boxes w1 46 46 #[.int .i64 s0, .slice xa st0.length xc] #[.int .i64 0, .slice none 0 0]
  rw [z1] at k2 k3
  have k1' := blk k1 b2
  have B3 := b1.trans (b2.mono b1.size)
  have HD0 : Hid (RdS w S L xa (.slice va rs.length vc) (s0, st0) xa xc ((w1.alloc (.cells #[.int .i64 s0, .slice xa st0.length xc] 46)).alloc (.cells #[.int .i64 0, .slice none 0 0] 46))) := Lib.hid
    ⟨k1', k2, k3, h0.step B3, fun ad e h => .inl (h0.1.blk ad e h), fun ad e h => .inr ⟨ad, e, rfl⟩, B3⟩
  clear hv hsh hcs hl h0 k1 k2 k3 b1 b2 B3 k1'
  go_enter Tryd.func18, Tryd.ntmps18
  go_wp2_with fail
  generalize (w1.alloc (.cells #[.int .i64 s0, .slice xa st0.length xc] 46)).alloc (.cells #[.int .i64 0, .slice none 0 0] 46) = w3 at *
  clear z1
  go_loopg [15, 10] l.length (fun g u nv wr => ∃ (i : Nat) (c : Cf) (n : Int) (a : Option Addr) (k : Nat), i ≤ l.length ∧ g = l.length - i ∧ u = .int .i64 i ∧ nv = .int .u64 n ∧ goC rs (l.drop i) (i : Int) c n = X ∧ 0 ≤ n ∧ c.2.length ≤ st0.length + 100 * i ∧ RdS w S L xa (.slice va rs.length vc) c a k wr)
  case atStart => exact ⟨0, _, 0, _, _, Nat.zero_le _, by omega, rfl, rfl, by rw [List.drop_zero]; exact HX.out, by omega, Nat.le_add_right _ _, HD0.out⟩
  case round =>
    clear hw1
    obtain ⟨i, ⟨cs, stk⟩, n, a5, k5, hi, hgi, rfl, rfl, hX, hn0, hcl, hS⟩ := hrel
    replace hcl : stk.length ≤ st0.length + 100 * i := hcl
    clear HD0
    have HS := Lib.hid hS
    have hstk : stk.length ≤ 50000 := by have := HBd.out; omega
    have y2 := (cells3 hS.sys).2.2
    by_cases hlt : i < l.length
    · obtain ⟨x, hx⟩ : ∃ x, l[i]? = some x := ⟨_, List.getElem?_eq_getElem hlt⟩
      obtain ⟨lb, lo, rfl, hlc⟩ := HL.out.at hx hS.below
      have HXi := Lib.hid ((goC_drop hx (cs, stk) n).symm.trans hX)
      clear hX hx hS
      by_cases hin : 0 ≤ x ∧ x < (rs.length : Int)
      · obtain ⟨hx0, hx1⟩ := hin
        obtain ⟨k, rfl⟩ : ∃ k : Nat, x = (k : Int) := ⟨x.toNat, by omega⟩
        have hkl : k < rs.length := by omega
        obtain ⟨r, hr⟩ : ∃ r, rs[k]? = some r := ⟨_, List.getElem?_eq_getElem hkl⟩
        have hra : ruAt rs (k : Int) = some r := by unfold ruAt; rw [if_pos (by omega)]; exact hr
        obtain ⟨b, off, pa, pc, rfl, k0, k1, k2, k3, k4, hpw, hbw⟩ := HV.out.at0 hr HS.out.below
        have hpl := HSh.out k r hr
        have hc0 := HCs.out k r hr
        have hXe := HXi.out
        rw [hra] at hXe
        obtain ⟨fr, top, to, push, cost⟩ := r
        replace hpl : push.length ≤ 100 := hpl
        replace hc0 : 0 ≤ cost := hc0
        replace hpw : IntsAt w (.slice pa push.length pc) push := hpw
        replace k0 : wr.cell? ⟨b, off + k * 5, none⟩ = some (.int .i64 fr) := k0
        replace k1 : wr.cell? ⟨b, off + k * 5 + 1, none⟩ = some (.int .i64 top) := k1
        replace k2 : wr.cell? ⟨b, off + k * 5 + 2, none⟩ = some (.int .i64 to) := k2
        replace k3 : wr.cell? ⟨b, off + k * 5 + 3, none⟩ = some (.slice pa push.length pc) := k3
        replace k4 : wr.cell? ⟨b, off + k * 5 + 4, none⟩ = some (.int .u64 cost) := k4
        have HPw := Lib.hid hpw
        have hbr : b < wr.heap.size := Nat.lt_of_lt_of_le hbw HS.out.below.size
        have HXq : Hid ((if fitsB ⟨fr, top, to, push, cost⟩ (cs, stk) = true then goC rs (l.drop (i + 1)) ((i : Int) + 1) (doC ⟨fr, top, to, push, cost⟩ (cs, stk)) (addI n cost) else ⟨(cs, stk), n, 17, (i : Int)⟩) = X) := Lib.hid hXe
        have HFs := Lib.hid (fun h : fitsB ⟨fr, top, to, push, cost⟩ (cs, stk) = true => fits_some h)
        have HF := Lib.hid (fun W (h : RdS w S L xa (.slice (some ⟨b, off, none⟩) rs.length vc) (cs, stk) a5 k5 W) => can21_any cs stk (.slice a5 stk.length k5) ⟨fr, top, to, push, cost⟩ pa pc W h.iv.1 (by omega))
        generalize fitsB ⟨fr, top, to, push, cost⟩ (cs, stk) = q at *
        have HK : Hid (∀ W, Below wr.heap.size wr W → W.cell? ⟨b, off + k * 5, none⟩ = some (.int .i64 fr) ∧ W.cell? ⟨b, off + k * 5 + 1, none⟩ = some (.int .i64 top) ∧ W.cell? ⟨b, off + k * 5 + 2, none⟩ = some (.int .i64 to) ∧ W.cell? ⟨b, off + k * 5 + 3, none⟩ = some (.slice pa push.length pc) ∧ W.cell? ⟨b, off + k * 5 + 4, none⟩ = some (.int .u64 cost)) := Lib.hid (fun W hb =>
          ⟨(hb.cell (p := ⟨b, off + k * 5, none⟩) hbr).trans k0, (hb.cell (p := ⟨b, off + k * 5 + 1, none⟩) hbr).trans k1, (hb.cell (p := ⟨b, off + k * 5 + 2, none⟩) hbr).trans k2, (hb.cell (p := ⟨b, off + k * 5 + 3, none⟩) hbr).trans k3, (hb.cell (p := ⟨b, off + k * 5 + 4, none⟩) hbr).trans k4⟩)
        have hx2 : ¬ (k : Int) < 0 := by omega
        clear hra hXe HXi hpw hr
        go_upto_region 7 with (fail)
        have hI := HS.out.step (Below.refl _ _).drew
        have hBd := (Below.refl wr.heap.size wr).drew
        have kk := And.intro (cells3 hI.sys).2.2 (And.intro (cells2 hI.cb).1 (And.intro (cells2 hI.cb).2 (HK.out _ hBd)))
        go_region_held3 (fun W => W.cell? ⟨w.heap.size, 2, none⟩ = some (.slice (some ⟨b, off, none⟩) rs.length vc) ∧ W.cell? ⟨w.heap.size + 1, 0, none⟩ = some (.int .i64 cs) ∧ W.cell? ⟨w.heap.size + 1, 1, none⟩ = some (.slice a5 stk.length k5) ∧ W.cell? ⟨b, off + k * 5, none⟩ = some (.int .i64 fr) ∧ W.cell? ⟨b, off + k * 5 + 1, none⟩ = some (.int .i64 top) ∧ W.cell? ⟨b, off + k * 5 + 2, none⟩ = some (.int .i64 to) ∧ W.cell? ⟨b, off + k * 5 + 3, none⟩ = some (.slice pa push.length pc) ∧ W.cell? ⟨b, off + k * 5 + 4, none⟩ = some (.int .u64 cost))
          (first | exact kk | exact And.intro (cells3 hI.sys).2.2 (And.intro (cells2 hI.cb).1 (And.intro (cells2 hI.cb).2 (HK.out _ hBd))))
          ((go_at_call 14; refine (HF.out _ hI).mono ?_; rintro e w7 ⟨rfl, b7⟩; replace hI := hI.step b7; replace hBd := hBd.trans (b7.mono hBd.size)))
        have HS8 := Lib.hid hI
        have HB8 := Lib.hid hBd
        clear hI hBd kk b7 k0 k1 k2 k3 k4 y2
        rename World => wq
        cases q with
        | false =>
          have HXe : Hid (X = ⟨(cs, stk), n, 17, (i : Int)⟩) := Lib.hid (by have h := HXq.out; rw [if_neg (by decide)] at h; exact h.symm)
          clear HXq
          obtain ⟨q0, q1⟩ := HS8.out.outCells (.int .i64 cs) (.slice a5 stk.length k5)
          have hend := HS8.out.out (n := n) (code := 17) (at_ := (i : Int))
          have hres := HS8.out.res
          obtain ⟨r0, r1⟩ := cells2 hres
          have rf0 : World.frozen? _ ⟨w.heap.size + 2, 0, none⟩ = false := (by unfold World.frozen?; rw [hres]; simp)
          have rf1 : World.frozen? _ ⟨w.heap.size + 2, 1, none⟩ = false := (by unfold World.frozen?; rw [hres]; simp)
          obtain ⟨d0, d1⟩ := cells2 HS8.out.cb
          have HE := Lib.hid hend
          clear hend hres
          go_wp2_with fail
          rw [HXe.out]
          refine bodyPost_ret (v := .tuple #[cfV cs (.slice a5 stk.length k5), .int .u64 n, .int .i64 17, .int .i64 (i : Int)]) (by simp [results, Tryd.results18, go_sem, q0, q1]) rfl HE.out
        | true =>
          obtain ⟨t, st, rfl⟩ : ∃ t st, stk = t :: st := HFs.out rfl
          have HXe : Hid (goC rs (l.drop (i + 1)) ((i : Int) + 1) (doC ⟨fr, top, to, push, cost⟩ (cs, t :: st)) (addI n cost) = X) := Lib.hid (by have h := HXq.out; rw [if_pos rfl] at h; exact h)
          clear HXq HFs
          go_upto_region 9 with (fail)
          have hbd := (Below.refl wq.heap.size wq).drew
          have HDN := Lib.hid (done21_any cs t st (.slice a5 (st.length + 1) k5) ⟨fr, top, to, push, cost⟩ pa pc wq.drew (HS8.out.step hbd).iv (by simp only [List.length_cons] at hstk; omega) (HPw.out.step (HS8.out.step hbd).below) (by show push.length ≤ 100000; omega))
          refine region_T (fun W : World => W.cell? ⟨w.heap.size, 2, none⟩ = some (.slice (some ⟨b, off, none⟩) rs.length vc) ∧ W.cell? ⟨w.heap.size + 1, 0, none⟩ = some (.int .i64 cs) ∧ W.cell? ⟨w.heap.size + 1, 1, none⟩ = some (.slice a5 (st.length + 1) k5) ∧ W.cell? ⟨b, off + k * 5, none⟩ = some (.int .i64 fr) ∧ W.cell? ⟨b, off + k * 5 + 1, none⟩ = some (.int .i64 top) ∧ W.cell? ⟨b, off + k * 5 + 2, none⟩ = some (.int .i64 to) ∧ W.cell? ⟨b, off + k * 5 + 3, none⟩ = some (.slice pa push.length pc) ∧ W.cell? ⟨b, off + k * 5 + 4, none⟩ = some (.int .u64 cost)) 7 (by kernel_rfl) ?_
          have mkS : ∀ W, Below wq.heap.size wq W → W.cell? ⟨w.heap.size, 2, none⟩ = some (.slice (some ⟨b, off, none⟩) rs.length vc) ∧ W.cell? ⟨w.heap.size + 1, 0, none⟩ = some (.int .i64 cs) ∧ W.cell? ⟨w.heap.size + 1, 1, none⟩ = some (.slice a5 (st.length + 1) k5) ∧ W.cell? ⟨b, off + k * 5, none⟩ = some (.int .i64 fr) ∧ W.cell? ⟨b, off + k * 5 + 1, none⟩ = some (.int .i64 top) ∧ W.cell? ⟨b, off + k * 5 + 2, none⟩ = some (.int .i64 to) ∧ W.cell? ⟨b, off + k * 5 + 3, none⟩ = some (.slice pa push.length pc) ∧ W.cell? ⟨b, off + k * 5 + 4, none⟩ = some (.int .u64 cost) :=
            fun W hb => ⟨(cells3 (HS8.out.step hb).sys).2.2, (cells2 (HS8.out.step hb).cb).1, (cells2 (HS8.out.step hb).cb).2, HK.out W (HB8.out.trans (hb.mono HB8.out.size))⟩
          refine wpT_take (i := 0) (v := .pointer (some ⟨w.heap.size, 2, none⟩)) rfl (by kernel_rfl) (by kernel_rfl) (by kernel_rfl) (by kernel_rfl) (by kernel_rfl) (by kernel_rfl) (by kernel_rfl) (by kernel_rfl) (fun _ _ _ h => h) (Or.inl ⟨by rfl, ?_⟩) (mkS _ hbd) ?_
          · rintro w' ⟨s0, s1, s2, s3, s4, s5, s6, s7⟩
            go_simp
          try simp only [Act.put]
          refine wpT_take (i := 1) (v := .slice (some ⟨b, off, none⟩) rs.length vc) rfl (by kernel_rfl) (by kernel_rfl) (by kernel_rfl) (by kernel_rfl) (by kernel_rfl) (by kernel_rfl) (by kernel_rfl) (by kernel_rfl) (fun _ _ _ h => h) (Or.inl ⟨by rfl, ?_⟩) (mkS _ hbd) ?_
          · rintro w' ⟨s0, s1, s2, s3, s4, s5, s6, s7⟩
            go_simp
          try simp only [Act.put]
          refine wpT_take (i := 2) (v := .int .i64 (Nat.cast k)) rfl (by kernel_rfl) (by kernel_rfl) (by kernel_rfl) (by kernel_rfl) (by kernel_rfl) (by kernel_rfl) (by kernel_rfl) (by kernel_rfl) (fun _ _ _ h => h) (Or.inl ⟨by rfl, ?_⟩) (mkS _ hbd) ?_
          · rintro w' ⟨s0, s1, s2, s3, s4, s5, s6, s7⟩
            go_simp
          try simp only [Act.put]
          refine wpT_take (i := 3) (v := .pointer (some ⟨b, off + k * 5, none⟩)) rfl (by kernel_rfl) (by kernel_rfl) (by kernel_rfl) (by kernel_rfl) (by kernel_rfl) (by kernel_rfl) (by kernel_rfl) (by kernel_rfl) (fun _ _ _ h => h) (Or.inl ⟨by rfl, ?_⟩) (mkS _ hbd) ?_
          · rintro w' ⟨s0, s1, s2, s3, s4, s5, s6, s7⟩
            go_simp
          try simp only [Act.put]
          refine wpT_take (i := 4) (v := .agg #[.int .i64 fr, .int .i64 top, .int .i64 to, .slice pa push.length pc, .int .u64 cost]) rfl (by kernel_rfl) (by kernel_rfl) (by kernel_rfl) (by kernel_rfl) (by kernel_rfl) (by kernel_rfl) (by kernel_rfl) (by kernel_rfl) (fun _ _ _ h => h) (Or.inl ⟨by rfl, ?_⟩) (mkS _ hbd) ?_
          · rintro w' ⟨s0, s1, s2, s3, s4, s5, s6, s7⟩
            go_simp
          try simp only [Act.put]
          refine wpT_take (i := 5) (v := .agg #[.int .i64 cs, .slice a5 (st.length + 1) k5]) rfl (by kernel_rfl) (by kernel_rfl) (by kernel_rfl) (by kernel_rfl) (by kernel_rfl) (by kernel_rfl) (by kernel_rfl) (by kernel_rfl) (fun _ _ _ h => h) (Or.inl ⟨by rfl, ?_⟩) (mkS _ hbd) ?_
          · rintro w' ⟨s0, s1, s2, s3, s4, s5, s6, s7⟩
            go_simp
          try simp only [Act.put]
          refine wpT_one (i := 6) (by kernel_rfl) rfl ?_
          intro KK hKK
          go_simp
          refine HDN.out.mono ?_
          rintro e w8 ⟨qa, qc, rfl, hown8, b8⟩
          have hb8 := hbd.trans b8
          refine hKK _ _ ⟨fun _ => mkS _ hb8, ?_⟩
          clear hKK
          try simp only [Act.put]
          refine wpT_tail 7 1 rfl rfl (by kernel_rfl) (by kernel_rfl) ?_
          simp only [List.drop_succ_cons, List.drop_zero]
          have hS9 := HS8.out.step hb8
          obtain ⟨c0, c1⟩ := cells2 hS9.cb
          have cf0 : w8.frozen? ⟨w.heap.size + 1, 0, none⟩ = false := by unfold World.frozen?; rw [hS9.cb]; simp
          have cf1 : w8.frozen? ⟨w.heap.size + 1, 1, none⟩ = false := by unfold World.frozen?; rw [hS9.cb]; simp
          have hlen2 : (push ++ st).length = push.length + st.length := List.length_append
          have ho9 : Off3 w.heap.size qa (push.length + st.length) := fun ad e h => by
            subst e
            have h1 := (hown8.lt ad.block rfl).1
            have h2 := blt HS8.out.res
            have h3 : wq.drew.heap.size = wq.heap.size := rfl
            rw [h3] at h1
            omega
          have hc9 : Came w.heap.size xa qa (push.length + st.length) := fun ad e h => by
            rcases ho9 ad e h with h1 | h1
            · subst e
              have h1' := (hown8.lt ad.block rfl).1
              have h2 := blt HS8.out.res
              have h3 : wq.drew.heap.size = wq.heap.size := rfl
              rw [h3] at h1'
              exact .inl (by omega)
            · exact .inl (by omega)
          have hi8 : IntsC w8 (.slice qa (push.length + st.length) qc) (push ++ st) := IntsC.own hown8 (by rw [hlen2])
          have hi9 : IntsC ((w8.setCell ⟨w.heap.size + 1, 0, none⟩ (.int .i64 to)).setCell ⟨w.heap.size + 1, 1, none⟩ (.slice qa (push.length + st.length) qc)) (.slice qa (push.length + st.length) qc) (push ++ st) :=
            ⟨(hi8.1.setOff ho9 (.inl rfl) 0 _).setOff ho9 (.inl rfl) 1 _, hi8.2⟩
          have h9 : RdS w S L xa (.slice (some ⟨b, off, none⟩) rs.length vc) (to, push ++ st) qa qc ((w8.setCell ⟨w.heap.size + 1, 0, none⟩ (.int .i64 to)).setCell ⟨w.heap.size + 1, 1, none⟩ (.slice qa (push.length + st.length) qc)) := by
            refine ⟨(heap_setCell_other _ _ _ _ (by show w.heap.size ≠ w.heap.size + 1; omega)).trans ((heap_setCell_other _ _ _ _ (by show w.heap.size ≠ w.heap.size + 1; omega)).trans hS9.sys), ?_, (heap_setCell_other _ _ _ _ (by show w.heap.size + 2 ≠ w.heap.size + 1; omega)).trans ((heap_setCell_other _ _ _ _ (by show w.heap.size + 2 ≠ w.heap.size + 1; omega)).trans hS9.res), by rw [hlen2]; exact hi9, by rw [hlen2]; exact ho9, by rw [hlen2]; exact hc9, (hS9.below.setCell (p := ⟨w.heap.size + 1, 0, none⟩) (Nat.le_succ _) _).setCell (p := ⟨w.heap.size + 1, 1, none⟩) (Nat.le_succ _) _⟩
            rw [hlen2]
            exact heap_setCell_same _ _ 1 _ _ _ (heap_setCell_same _ _ 0 _ _ (.int .i64 to) hS9.cb)
          have k4 : ((w8.setCell ⟨w.heap.size + 1, 0, none⟩ (.int .i64 to)).setCell ⟨w.heap.size + 1, 1, none⟩ (.slice qa (push.length + st.length) qc)).cell? ⟨b, off + k * 5 + 4, none⟩ = some (.int .u64 cost) := by
            rw [World.cell?_setCell_other _ _ _ _ (by intro e; injection e with e; omega), World.cell?_setCell_other _ _ _ _ (by intro e; injection e with e; omega)]
            exact (HK.out _ (HB8.out.trans (hb8.mono HB8.out.size))).2.2.2.2
          have HAd := Lib.hid (fun W => radd_any n cost hn0 hc0 W)
          have hnn : 0 ≤ addI n cost := (addI_bd n cost hn0 hc0).1
          have HF9 := Lib.hid (And.intro h9 hnn)
          have y2 := (cells3 h9.sys).2.2
          clear hS9 hi8 hi9 ho9 hc9 h9 hnn hown8 b8 hb8 hbd mkS HDN
          go_upto_region 10 with (fail)
          generalize (w8.setCell ⟨w.heap.size + 1, 0, none⟩ (.int .i64 to)).setCell ⟨w.heap.size + 1, 1, none⟩ (.slice qa (push.length + st.length) qc) = w9 at *
          clear c0 c1 cf0 cf1
          go_wp2_with (go_at_call 40; refine (HAd.out _).mono ?_; rintro e w10 ⟨rfl, rfl⟩)
          go_roundg (l.length - (i + 1))
          case measure => omega
          case rel => exact ⟨i + 1, (to, push ++ st), addI n cost, qa, qc, by omega, rfl, by go_num, rfl, HXe.out, HF9.out.2, by simp only [List.length_append, List.length_cons] at hcl ⊢; omega, HF9.out.1⟩
      · have hno : ruAt rs x = none := by
          cases hr : ruAt rs x with
          | none => rfl
          | some r =>
            obtain ⟨k, rfl, hk, -⟩ := ruAt_some hr
            exact absurd ⟨by omega, by omega⟩ hin
        have hXe := HXi.out
        rw [hno] at hXe
        have HXe : Hid (X = ⟨(cs, stk), n, 11, (i : Int)⟩) := Lib.hid hXe.symm
        clear hno hXe HXi
        by_cases hx0 : x < 0
        · clear hin
          obtain ⟨q0, q1⟩ := HS.out.outCells (.int .i64 cs) (.slice a5 stk.length k5)
          have hend := HS.out.out (n := n) (code := 11) (at_ := (i : Int))
          have hres := HS.out.res
          obtain ⟨r0, r1⟩ := cells2 hres
          have rf0 : World.frozen? _ ⟨w.heap.size + 2, 0, none⟩ = false := (by unfold World.frozen?; rw [hres]; simp)
          have rf1 : World.frozen? _ ⟨w.heap.size + 2, 1, none⟩ = false := (by unfold World.frozen?; rw [hres]; simp)
          obtain ⟨d0, d1⟩ := cells2 HS.out.cb
          have HE := Lib.hid hend
          clear hend hres
          go_wp2_with fail
          rw [HXe.out]
          refine bodyPost_ret (v := .tuple #[cfV cs (.slice a5 stk.length k5), .int .u64 n, .int .i64 11, .int .i64 (i : Int)]) (by simp [results, Tryd.results18, go_sem, q0, q1]) rfl HE.out
        · have hx1 : (rs.length : Int) ≤ x := by omega
          clear hin
          obtain ⟨q0, q1⟩ := HS.out.outCells (.int .i64 cs) (.slice a5 stk.length k5)
          have hend := HS.out.out (n := n) (code := 11) (at_ := (i : Int))
          have hres := HS.out.res
          obtain ⟨r0, r1⟩ := cells2 hres
          have rf0 : World.frozen? _ ⟨w.heap.size + 2, 0, none⟩ = false := (by unfold World.frozen?; rw [hres]; simp)
          have rf1 : World.frozen? _ ⟨w.heap.size + 2, 1, none⟩ = false := (by unfold World.frozen?; rw [hres]; simp)
          obtain ⟨d0, d1⟩ := cells2 HS.out.cb
          have HE := Lib.hid hend
          clear hend hres
          go_wp2_with fail
          rw [HXe.out]
          refine bodyPost_ret (v := .tuple #[cfV cs (.slice a5 stk.length k5), .int .u64 n, .int .i64 11, .int .i64 (i : Int)]) (by simp [results, Tryd.results18, go_sem, q0, q1]) rfl HE.out
    · obtain rfl : i = l.length := by omega
      have HXe : Hid (X = ⟨(cs, stk), n, 0, 0⟩) := Lib.hid (by rw [← hX, List.drop_length]; rfl)
      clear hX hS
      obtain ⟨q0, q1⟩ := HS.out.outCells (.int .i64 cs) (.slice a5 stk.length k5)
      have hend := HS.out.out (n := n) (code := 0) (at_ := 0)
      have hres := HS.out.res
      obtain ⟨r0, r1⟩ := cells2 hres
      have rf0 : wr.frozen? ⟨w.heap.size + 2, 0, none⟩ = false := (by unfold World.frozen?; rw [hres]; simp)
      have rf1 : wr.frozen? ⟨w.heap.size + 2, 1, none⟩ = false := (by unfold World.frozen?; rw [hres]; simp)
      obtain ⟨d0, d1⟩ := cells2 HS.out.cb
      have HE := Lib.hid hend
      clear hend hres
      go_wp2_with fail
      rw [HXe.out]
      refine bodyPost_ret (v := .tuple #[cfV cs (.slice a5 stk.length k5), .int .u64 n, .int .i64 0, .int .i64 0]) (by simp [results, Tryd.results18, go_sem, q0, q1]) rfl HE.out
end Go.Proofs.YtpccdhkghlbhkaaDoor
