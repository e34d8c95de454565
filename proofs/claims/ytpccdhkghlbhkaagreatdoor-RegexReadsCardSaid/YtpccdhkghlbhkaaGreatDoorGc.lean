/-
  Package regex's reader by contracts: rows and alternatives.
  Package regex's reader by contracts: alternatives, one behind the other.
  Package regex's reader by contracts: a row, alternatives, however deep.
-/
import Derived.Test.YtpccdhkghlbhkaaGreatDoorGb
namespace Go.Proofs.YtpccdhkghlbhkaaGreatDoor
open Go.RowKit Go.Extern.Stop Go.Stop Go.Extern Go.WideMaps

theorem infoXExpr : (Tryz.prog.info? 26).map (fun i => (i.zero, i.size, i.bytes)) = some (some (.agg #[.int .i64 0, .bool false, .slice none 0 0, .slice none 0 0]), 4, 64) := by kernel_rfl
/-- A box that holds the reader's address. -/
def BoxAt (w : World) (bx rb : Nat) : Prop := bx < w.heap.size ∧ w.cell? ⟨bx, 0, none⟩ = some (.pointer (some ⟨rb, 0, none⟩))
theorem BoxAt.keeps {D : Nat → Prop} {w w' : World} {bx rb : Nat} (h : BoxAt w bx rb) (hk : Keeps D w w') (hD : ¬ D bx) : BoxAt w' bx rb :=
  ⟨Nat.lt_of_lt_of_le h.1 hk.size, (World.cell?_of_block (a := ⟨bx, 0, none⟩) (hk.block bx h.1 hD)).trans h.2⟩
theorem BoxAt.step {w w' : World} {bx rb : Nat} (h : BoxAt w bx rb) (hb : Below w.heap.size w w') : BoxAt w' bx rb := h.keeps (D := fun _ => False) (.of_below hb) (fun e => e)
/-- What 'is there more' answers. -/
def MoreOut (more : Nat → Option Nat) (w : World) (rb : Nat) (s : ByteArray) (k n d : Nat) (e : Ending) (w' : World) : Prop :=
  (∃ k', more k = some k' ∧ e = .returned (.bool true) ∧ Rd w' rb s k' n d ∧ Keeps (· = rb) w w') ∨ (more k = none ∧ e = .returned (.bool false) ∧ Rd w' rb s k n d ∧ Keeps (· = rb) w w')
set_option maxRecDepth 100000 in
set_option maxHeartbeats 2000000 in
theorem rowMore_any (s : ByteArray) (k n d rb bx : Nat) (hs : s.size ≤ 100000) (hk : k ≤ s.size) (w : World) (hr : Rd w rb s k n d) (hbx : BoxAt w bx rb) :
    Calls Tryz.prog 62 #[.pointer (some ⟨bx, 0, none⟩)] w (MoreOut (rwM s) w rb s k n d) := by
  have HS : Hid (∀ W, Calls Tryz.prog 20 #[.agg #[.string s, .int .i64 k]] W fun e w' => e = .returned (.agg #[.string s, .int .i64 (skp s k)]) ∧ Below W.heap.size W w') := Lib.hid (fun W => skip_any s k hs hk W)
  have HB := Lib.hid (fun W => begins_any s (skp s k) hs (skp_le hk).2 W)
  have HR := Lib.hid hr
  have hb0 := hbx.2
  obtain ⟨c0, c1, -, -⟩ := hr.cells
  have HMR : Hid (rwM s k = if begB s (skp s k) then some k else none) := Lib.hid rfl
  generalize begB s (skp s k) = bb at *
  clear hr hbx
  go_enter Tryz.func62, Tryz.ntmps62
  go_wp2_with fail
  refine (HS.out _).mono ?_
  rintro e w1 ⟨rfl, b1⟩
  clear c0 c1 hb0
  go_wp2_with fail
  refine (HB.out _).mono ?_
  rintro e w2 ⟨rfl, b2⟩
  have HR2 := Lib.hid ((HR.out.step b1).step b2)
  have HK2 : Hid (Keeps (· = rb) w w2) := Lib.hid (Keeps.of_below (b1.trans (b2.mono b1.size)))
  clear b1 b2
  cases bb with
  | true =>
    go_wp2_with fail
    go_ret
    exact .inl ⟨k, HMR.out, rfl, HR2.out, HK2.out⟩
  | false =>
    go_wp2_with fail
    go_ret
    exact .inr ⟨HMR.out, rfl, HR2.out, HK2.out⟩
set_option maxRecDepth 100000 in
set_option maxHeartbeats 2000000 in
theorem altMore_any (s : ByteArray) (k n d rb bx : Nat) (hs : s.size ≤ 100000) (hk : k ≤ s.size) (w : World) (hr : Rd w rb s k n d) (hbx : BoxAt w bx rb) :
    Calls Tryz.prog 43 #[.pointer (some ⟨bx, 0, none⟩)] w (MoreOut (alM s) w rb s k n d) := by
  have HT := Lib.hid (took_any s k n d rb 124 (by decide) hs hk w hr)
  rw [show ((124 : UInt8).toNat : Int) = 124 from rfl] at HT
  have hb0 := hbx.2
  have HMR : Hid (alM s k = if byteI s (skp s k) = 124 then some (skp s k + 1) else none) := Lib.hid rfl
  unfold tkK at HT
  clear hr hbx
  by_cases h : byteI s (skp s k) = 124
  · rw [if_pos h] at HMR
    rw [if_pos h, decide_eq_true h] at HT
    clear h
    go_enter Tryz.func43, Tryz.ntmps43
    go_wp2_with fail
    refine HT.out.mono ?_
    rintro e w1 ⟨rfl, hr1, hk1⟩
    have HR1 := Lib.hid hr1
    have HK1 := Lib.hid hk1
    clear hr1 hk1 hb0
    go_wp2_with fail
    go_ret
    exact .inl ⟨skp s k + 1, HMR.out, rfl, HR1.out, HK1.out⟩
  · rw [if_neg h] at HMR
    rw [if_neg h, decide_eq_false h] at HT
    clear h
    go_enter Tryz.func43, Tryz.ntmps43
    go_wp2_with fail
    refine HT.out.mono ?_
    rintro e w1 ⟨rfl, hr1, hk1⟩
    have HR1 := Lib.hid hr1
    have HK1 := Lib.hid hk1
    clear hr1 hk1 hb0
    go_wp2_with fail
    go_ret
    exact .inr ⟨HMR.out, rfl, HR1.out, HK1.out⟩

/-- On the way through a row: the kids so far, in a row of the call's own. -/
structure JnSt (w0 : World) (rb bx : Nat) (s : ByteArray) (k n d : Nat) (l : List Rx) (v : Value) (xs : List Value) (w : World) : Prop where
  rd : Rd w rb s k n d
  res : QuadAt 26 w w0.heap.size (.int .i64 0) (.bool false) (.slice none 0 0) (.slice none 0 0)
  box : BoxAt w bx rb
  own : w.ownsRow (w0.heap.size + 1) 26 4 v l.length xs
  vals : ExsC (fun q => w0.heap.size < q ∧ v.ownBlock ≠ some q) w xs l
  keep : Keeps (· = rb) w0 w
  ord : rb < w0.heap.size ∧ bx < w0.heap.size ∧ bx ≠ rb
section
variable {w0 w w' : World} {rb bx : Nat} {s : ByteArray} {k n d k' n' : Nat} {l : List Rx} {v : Value} {xs : List Value}
theorem JnSt.go (h : JnSt w0 rb bx s k n d l v xs w) (hr : Rd w' rb s k' n' d) (hk : Keeps (· = rb) w w') : JnSt w0 rb bx s k' n' d l v xs w' :=
  ⟨hr, h.res.keeps hk (by have := h.ord; omega), h.box.keeps hk (by have := h.ord; omega), ownX_keeps h.own hk (fun q e => by have := (h.own.lt q e).1; have := h.ord; omega), h.vals.move hk.size (fun q hq hlt => ⟨hq, hk.block q hlt (by have := h.ord; omega)⟩), h.keep.trans hk, h.ord⟩
theorem JnSt.step (h : JnSt w0 rb bx s k n d l v xs w) (hb : Below w.heap.size w w') : JnSt w0 rb bx s k n d l v xs w' := h.go (h.rd.step hb) (.of_below hb)
theorem JnSt.list (h : JnSt w0 rb bx s k n d l v xs w) : ∃ a c, v = .slice a l.length c := by
  rcases h.own.2 with ⟨rfl, h0⟩ | ⟨g, cap, cur, rfl, -⟩
  · exact ⟨none, 0, by rw [h0]⟩
  · exact ⟨_, cap, rfl⟩
/-- One kid more. -/
theorem JnSt.push {w1 : World} {g cap m : Nat} {cs : List Value} {x : Rx} (hm : m = l.length) (h : JnSt w0 rb bx s k n d l v xs w) (hx : ExC (fun q => w0.heap.size < q ∧ v.ownBlock ≠ some q ∧ q < w.heap.size) w cs x)
    (hown : w1.ownsRow (w0.heap.size + 1) 26 4 (.slice (some ⟨g, 0, none⟩) (m + 1) cap) (m + 1) (xs ++ cs)) (hgrow : w.grownBy w1 v.ownBlock) (hat : v.ownBlock = some g ∨ g = w.heap.size) :
    JnSt w0 rb bx s k n d (l ++ [x]) (.slice (some ⟨g, 0, none⟩) (m + 1) cap) (xs ++ cs) w1 := by
  subst hm
  have ho := h.ord
  have hne : ∀ q, q ≤ w0.heap.size → v.ownBlock ≠ some q := fun q hq e => by have := (h.own.lt q e).1; omega
  have hmv : ∀ q, (w0.heap.size < q ∧ v.ownBlock ≠ some q) → q < w.heap.size → (w0.heap.size < q ∧ (Value.slice (some ⟨g, 0, none⟩) (l.length + 1) cap).ownBlock ≠ some q) ∧ w1.heap[q]? = w.heap[q]? := by
    rintro q ⟨h1, h2⟩ hlt
    refine ⟨⟨h1, fun e => ?_⟩, hgrow.block q hlt (fun e => h2 e.symm)⟩
    have e' : g = q := by injection e
    subst e'
    rcases hat with e | e
    · exact h2 e
    · omega
  have hk : Keeps (fun q => v.ownBlock = some q) w w1 := Keeps.of_grown hgrow (fun q e => e)
  have hk2 : Keeps (fun q => q = rb ∨ w0.heap.size ≤ q) w0 w1 := (h.keep.mono (fun q e => .inl e)).trans (hk.mono (fun q e => .inr (by have := (h.own.lt q e).1; omega)))
  refine ⟨QuadAt.grown h.rd hgrow (hne _ (by omega)), h.res.grown hgrow (hne _ (Nat.le_refl _)), h.box.keeps hk (hne _ (by omega)), ?_, ?_, ⟨hk2.os, hk2.tape, hk2.output, hk2.size, fun q hq hn => hk2.block q hq (fun e => e.elim hn (fun e => by omega))⟩, ho⟩
  · rw [List.length_append, List.length_singleton]
    exact hown
  · exact ExsC.snoc (hx.move hgrow.size fun q hq hlt => hmv q ⟨hq.1, hq.2.1⟩ hlt) (h.vals.move hgrow.size hmv)
end
/-- Its relation. -/
def JnRel (w : World) (rb bx : Nat) (s : ByteArray) (d : Nat) (kind : Int) (nx : Nat → Nat → RO Rx) (more : Nat → Option Nat) (tot : RO Rx) (g : Nat) (kv : Value) (gv : Value) (wr : World) : Prop :=
  (∃ (f k n : Nat) (l : List Rx) (xs : List Value), gv = .bool true ∧ g = f + 1 ∧ 100 < n + f ∧ n ≤ 100 ∧ k ≤ s.size ∧ l.length ≤ n ∧ jnL kind nx more f k n l = tot ∧ JnSt w rb bx s k n d l kv xs wr) ∨
  (∃ (k n : Nat) (l : List Rx) (xs : List Value), gv = .bool false ∧ g = 0 ∧ l.length ≤ n ∧ n ≤ 100 ∧ tot = .ok k n (.mk kind false [] l) ∧ JnSt w rb bx s k n d l kv xs wr)
set_option maxRecDepth 100000 in
set_option maxHeartbeats 8000000 in
theorem joined_row (s : ByteArray) (nx : Nat → Nat → RO Rx) (k0 n0 d rb bx : Nat) (hs : s.size ≤ 100000) (hk : k0 ≤ s.size) (hn : n0 ≤ 100) (hgood : GoodR s nx) (hnz : NzR s nx)
    (hspec : ∀ (k n rb : Nat) (w : World), k ≤ s.size → n ≤ 100 → Rd w rb s k n d → Calls Tryz.prog 61 #[.pointer (some ⟨rb, 0, none⟩)] w (XrOut w rb s d (nx k n))) (w : World) (hr : Rd w rb s k0 n0 d) (hbx : BoxAt w bx rb) (hbr : bx ≠ rb) :
    Calls Tryz.prog 41 #[.pointer (some ⟨rb, 0, none⟩), .int .i64 2, .func (.func 61) #[.pointer (some ⟨rb, 0, none⟩)] #[], .func (.func 62) #[] #[.pointer (some ⟨bx, 0, none⟩)]] w (XrOut w rb s d (jnR s 2 nx (rwM s) k0 n0)) := by
  obtain ⟨i0, hi, hz0, hz1, hz2⟩ := info_parts infoXExpr
  have hq1 := quad_new w 26 (.int .i64 0) (.bool false) (.slice none 0 0) (.slice none 0 0)
  have hb1 := sbelow_new w (.cells #[.int .i64 0, .bool false, .slice none 0 0, .slice none 0 0] 26)
  have hr1 := hr.step hb1
  have hx1 := hbx.step hb1
  have hz1' : (w.alloc (.cells #[.int .i64 0, .bool false, .slice none 0 0, .slice none 0 0] 26)).heap.size = w.heap.size + 1 := World.size_alloc _ _
  have HRB : Hid (rb < w.heap.size ∧ bx < w.heap.size ∧ bx ≠ rb) := Lib.hid ⟨hr.lt, hbx.1, hbr⟩
  generalize hw1 : w.alloc (.cells #[.int .i64 0, .bool false, .slice none 0 0, .slice none 0 0] 26) = w1 at *
  have HNX := Lib.hid (hspec k0 n0 rb w1 hk hn hr1)
  have HSP := Lib.hid (fun k n W (h1 : k ≤ s.size) (h2 : n ≤ 100) (h : Rd W rb s k n d) => hspec k n rb W h1 h2 h)
  have HMO := Lib.hid (fun k n W (h1 : k ≤ s.size) (h : Rd W rb s k n d) (h2 : BoxAt W bx rb) => rowMore_any s k n d rb bx hs h1 W h h2)
  have HNZ := Lib.hid (fun k n c a h1 (h : nx k n = .er c a) => hnz k n c a h1 h)
  have HGD := Lib.hid (fun k n k' n' x (h1 : k ≤ s.size) (h : nx k n = .ok k' n' x) => hgood k n k' n' x h1 h)
  have HGM := Lib.hid (rwM_good (s := s))
  have HKL := Lib.hid hk
  have HQ1 := Lib.hid hq1
  have HB1 := Lib.hid hb1
  have HZ1 := Lib.hid hz1'
  have HX1 := Lib.hid hx1
  clear hq1 hb1 hr1 hr hz1' hbx hx1 hspec hnz hgood hbr
  go_enter Tryz.func41, Tryz.ntmps41
  go_wp2_with fail
  refine HNX.out.mono ?_
  intro e w2 hout
  clear hw1
  cases ho : nx k0 n0 with
  | er cc aa =>
    rw [ho] at hout
    have HE : Hid (jnR s 2 nx (rwM s) k0 n0 = .er cc aa) := Lib.hid (by unfold jnR; rw [ho])
    obtain ⟨fb, xk, xt, xa1, xl1, xc1, xa2, xl2, xc2, rfl, hf, hkp⟩ := hout
    have bn := sbelow_new w2 (.cells #[.int .i64 xk, .bool xt, .slice xa1 xl1 xc1, .slice xa2 xl2 xc2] 26)
    have HR := Lib.hid ((HQ1.out.keeps hkp (by have := HRB.out; omega)).step bn)
    have HK : Hid (Keeps (· = rb) w _) := Lib.hid (((Keeps.of_below HB1.out).trans hkp).next bn)
    have HF := Lib.hid (hf.keep bn)
    have HC0 := Lib.hid (HNZ.out _ _ _ _ HKL.out ho)
    clear ho hf hkp bn
    have r0 := HR.out.cells.1
    have r1 := HR.out.cells.2.1
    have r2 := HR.out.cells.2.2.1
    have r3 := HR.out.cells.2.2.2
    have rf0 := HR.out.fz 0
    have rf1 := HR.out.fz 1
    have rf2 := HR.out.fz 2
    have rf3 := HR.out.fz 3
    unfold pf
    go_wp2_with fail
    have ho := out_er (s := s) (d := d) (k1 := xk) (t1 := xt) (a1 := xa1) (l1 := xl1) (c1 := xc1) (a2 := xa2) (l2 := xl2) (c2 := xc2) HR.out HK.out HF.out HC0.out
    obtain ⟨q0, q1, q2, q3⟩ := (HR.out.set4 (.int .i64 xk) (.bool xt) (.slice xa1 xl1 xc1) (.slice xa2 xl2 xc2)).cells
    unfold set4 at q0 q1 q2 q3 ho
    refine bodyPost_ret (v := .tuple #[.agg #[.int .i64 xk, .bool xt, .slice xa1 xl1 xc1, .slice xa2 xl2 xc2], pf fb]) (by simp [results, Tryz.results41, go_sem, q0, q1, q2, q3, pf]) rfl ?_
    rw [HE.out]
    exact ho
  | ok k1 n1 x1 =>
    rw [ho] at hout
    have hgd := HGD.out _ _ _ _ _ HKL.out ho
    have HE0 : Hid (jnR s 2 nx (rwM s) k0 n0 = (match rwM s k1 with | none => .ok k1 n1 x1 | some k2 => if 100 < n1 + 1 then .er 6 (skp s k2) else jnL 2 nx (rwM s) 101 k2 (n1 + 1) [x1])) := Lib.hid (by unfold jnR; rw [ho]; dsimp only; cases rwM s k1 <;> rfl)
    obtain ⟨xk, xt, xa1, xl1, xc1, xa2, xl2, xc2, rfl, hv, hrd, hkp⟩ := hout
    have bn := sbelow_new w2 (.cells #[.int .i64 xk, .bool xt, .slice xa1 xl1 xc1, .slice xa2 xl2 xc2] 26)
    have hz2 : w.heap.size + 1 ≤ w2.heap.size := by have := hkp.size; have := HZ1.out; omega
    have HP : Hid (PtSt w rb s k1 n1 d w2.heap.size x1 xk xt xa1 xl1 xc1 xa2 xl2 xc2 (w2.alloc (.cells #[.int .i64 xk, .bool xt, .slice xa1 xl1 xc1, .slice xa2 xl2 xc2] 26))) := Lib.hid
      ⟨⟨hrd.step bn, (HQ1.out.keeps hkp (by have := HRB.out; omega)).step bn, quad_new w2 _ _ _ _ _, ((Keeps.of_below HB1.out).trans hkp).next bn, ⟨HRB.out.1, by omega⟩⟩,
        hv.move (P' := fun q => w.heap.size < q ∧ q ≠ w2.heap.size) bn.size (fun q hq hlt => ⟨⟨by have := HZ1.out; omega, by omega⟩, bn.block q hlt⟩)⟩
    have HBX := Lib.hid ((HX1.out.keeps hkp (by have := HRB.out; omega)).step bn)
    have HGD1 := Lib.hid hgd
    clear ho hv hrd hkp bn hz2 hgd
    go_wp2_with fail
    generalize w2.alloc (.cells #[.int .i64 xk, .bool xt, .slice xa1 xl1 xc1, .slice xa2 xl2 xc2] 26) = w3 at *
    generalize w2.heap.size = xb at *
    refine (HMO.out k1 n1 _ HGD1.out.2.2 HP.out.st.rd HBX.out).mono ?_
    rintro e w4 (⟨k2, hm, rfl, hr4, hk4⟩ | ⟨hm, rfl, hr4, hk4⟩)
    · have HP4 := Lib.hid (HP.out.go hr4 hk4)
      have HBX4 := Lib.hid (HBX.out.keeps hk4 (by have := HRB.out; omega))
      have HE1 : Hid (jnR s 2 nx (rwM s) k0 n0 = if 100 < n1 + 1 then .er 6 (skp s k2) else jnL 2 nx (rwM s) 101 k2 (n1 + 1) [x1]) := Lib.hid (by rw [HE0.out, hm])
      have hk2 := HGM.out k1 k2 HGD1.out.2.2 hm
      have HK2 := Lib.hid hk2
      have HSK : Hid (∀ W, Calls Tryz.prog 20 #[.agg #[.string s, .int .i64 k2]] W fun e w' => e = .returned (.agg #[.string s, .int .i64 (skp s k2)]) ∧ Below W.heap.size W w') := Lib.hid (fun W => skip_any s k2 hs hk2 W)
      obtain ⟨c0, c1, -, -⟩ := hr4.cells
      clear hm hr4 hk4 HP HBX hk2
      go_wp2_with fail
      refine (HSK.out _).mono ?_
      rintro e w5 ⟨rfl, b5⟩
      have HP5 := Lib.hid (HP4.out.step b5)
      have HBX5 := Lib.hid (HBX4.out.step b5)
      clear b5 c0 c1
      go_wp2_with fail
      refine (at_any s _ _).mono ?_
      rintro e w6 ⟨rfl, b6⟩
      have HP6 := Lib.hid (HP5.out.step b6)
      have HBX6 := Lib.hid (HBX5.out.step b6)
      clear b6
      go_wp2_with fail
      by_cases hn1 : n1 + 1 ≤ 100
      · refine (count_yes s k2 n1 d rb (skp s k2) hn1 _ HP6.out.st.rd).mono ?_
        rintro e w7 ⟨rfl, hr7, hk7⟩
        have HP7 := Lib.hid (HP6.out.go hr7 hk7)
        have HBX7 := Lib.hid (HBX6.out.keeps hk7 (by have := HRB.out; omega))
        have HE2 := Lib.hid (HE1.out.trans (if_neg (by omega)))
        have HN1 := Lib.hid hn1
        obtain ⟨x0, x1', x2, x3⟩ := HP7.out.st.x.cells
        have bn := sbelow_new w7 (.cells #[.int .i64 xk, .bool xt, .slice xa1 xl1 xc1, .slice xa2 xl2 xc2] 26)
        have HJ : Hid (JnSt w rb bx s k2 (n1 + 1) d [x1] (.slice (some ⟨w7.heap.size, 0, none⟩) 1 1) [.int .i64 xk, .bool xt, .slice xa1 xl1 xc1, .slice xa2 xl2 xc2] (w7.alloc (.cells #[.int .i64 xk, .bool xt, .slice xa1 xl1 xc1, .slice xa2 xl2 xc2] 26))) := Lib.hid (by
          have hp := HP7.out.step bn
          have hxl := HP7.out.st.res.lt
          refine ⟨hp.st.rd, hp.st.res, HBX7.out.step bn, ?_, ?_, hp.st.keep, HRB.out⟩
          · exact World.ownsRow_lit w7 #[.int .i64 xk, .bool xt, .slice xa1 xl1 xc1, .slice xa2 xl2 xc2] 1 (by omega) (by unfold maxLen; omega) rfl
          · unfold ExsC
            exact ⟨_, [], by simp, (HP7.out.val.move (P' := fun q => w.heap.size < q ∧ (Value.slice (some ⟨w7.heap.size, 0, none⟩) 1 1).ownBlock ≠ some q) bn.size (fun q hq hlt => ⟨⟨hq.1, fun e => by injection e with e; have e' : w7.heap.size = q := e; omega⟩, bn.block q hlt⟩)), by unfold ExsC; rfl⟩)
        clear hr7 hk7 bn hn1
        go_wp2_with fail
        generalize w7.alloc (.cells #[.int .i64 xk, .bool xt, .slice xa1 xl1 xc1, .slice xa2 xl2 xc2] 26) = w8 at *
        generalize w7.heap.size = kb at *
        clear x0 x1' x2 x3
        go_loopg [13, 14] 102 (fun g kv gv wr => JnRel w rb bx s d 2 nx (rwM s) (jnL 2 nx (rwM s) 101 k2 (n1 + 1) [x1]) g kv gv wr)
        case atStart => exact .inl ⟨101, k2, n1 + 1, [x1], _, rfl, rfl, by omega, HN1.out, HK2.out, by simp, rfl, HJ.out⟩
        case round =>
          clear HJ
          rcases hrel with ⟨f, k, n, l, xs, rfl, hg, hf, hnn, hkl, hll, htot, hst⟩ | ⟨k, n, l, xs, rfl, hg, hll, hnn, htot, hst⟩
          · obtain ⟨f, rfl⟩ : ∃ f', f = f' + 1 := ⟨f - 1, by omega⟩
            have HTT := Lib.hid htot
            have HG := Lib.hid hg
            have HF := Lib.hid hf
            have HJ1 := Lib.hid hst
            have HLL := Lib.hid hll
            have HCALL := Lib.hid (HSP.out k n wr hkl hnn hst.rd)
            clear htot hg hf hst hll
            go_wp2_with fail
            refine HCALL.out.mono ?_
            intro e w9 hout
            cases ho : nx k n with
            | er cc aa =>
              rw [ho] at hout
              obtain ⟨fb, yk, yt, ya1, yl1, yc1, ya2, yl2, yc2, rfl, hf9, hk9⟩ := hout
              have HE3 : Hid (jnL 2 nx (rwM s) (f + 1) k n l = .er cc aa) := Lib.hid (by rw [jnL, ho])
              have bn := sbelow_new w9 (.cells #[.int .i64 yk, .bool yt, .slice ya1 yl1 yc1, .slice ya2 yl2 yc2] 26)
              have HR := Lib.hid ((HJ1.out.res.keeps hk9 (by have := HRB.out; omega)).step bn)
              have HK := Lib.hid ((HJ1.out.keep.trans hk9).next bn)
              have HFF := Lib.hid (hf9.keep bn)
              have HC0 := Lib.hid (HNZ.out _ _ _ _ hkl ho)
              clear ho hf9 hk9 bn
              have r0 := HR.out.cells.1
              have r1 := HR.out.cells.2.1
              have r2 := HR.out.cells.2.2.1
              have r3 := HR.out.cells.2.2.2
              have rf0 := HR.out.fz 0
              have rf1 := HR.out.fz 1
              have rf2 := HR.out.fz 2
              have rf3 := HR.out.fz 3
              unfold pf
              go_wp2_with fail
              have ho := out_er (s := s) (d := d) (k1 := 0) (t1 := false) (a1 := none) (l1 := 0) (c1 := 0) (a2 := none) (l2 := 0) (c2 := 0) HR.out HK.out HFF.out HC0.out
              obtain ⟨q0, q1, q2, q3⟩ := (HR.out.set4 (.int .i64 0) (.bool false) (.slice none 0 0) (.slice none 0 0)).cells
              unfold set4 at q0 q1 q2 q3 ho
              refine bodyPost_ret (v := .tuple #[.agg #[.int .i64 0, .bool false, .slice none 0 0, .slice none 0 0], pf fb]) (by simp [results, Tryz.results41, go_sem, q0, q1, q2, q3, pf]) rfl ?_
              rw [HE2.out, ← HTT.out, HE3.out]
              exact ho
            | ok k9 n9 x9 =>
              rw [ho] at hout
              have HGD9 := Lib.hid (HGD.out _ _ _ _ _ hkl ho)
              obtain ⟨yk, yt, ya1, yl1, yc1, ya2, yl2, yc2, rfl, hv9, hr9, hk9⟩ := hout
              have HE3 : Hid (jnL 2 nx (rwM s) (f + 1) k n l = (match rwM s k9 with | some k2 => jnL 2 nx (rwM s) f k2 n9 (l ++ [x9]) | none => .ok k9 n9 (.mk 2 false [] (l ++ [x9])))) := Lib.hid (by rw [jnL, ho]; dsimp only; cases rwM s k9 <;> rfl)
              have hj9 := HJ1.out.go hr9 hk9
              have bn := sbelow_new w9 (.cells #[.int .i64 yk, .bool yt, .slice ya1 yl1 yc1, .slice ya2 yl2 yc2] 26)
              have bm := sbelow_new (w9.alloc (.cells #[.int .i64 yk, .bool yt, .slice ya1 yl1 yc1, .slice ya2 yl2 yc2] 26)) (.cells #[.int .i64 yk, .bool yt, .slice ya1 yl1 yc1, .slice ya2 yl2 yc2] 26)
              have hj10 := (hj9.step bn).step bm
              have hN10 := heap_alloc_new (w9.alloc (.cells #[.int .i64 yk, .bool yt, .slice ya1 yl1 yc1, .slice ya2 yl2 yc2] 26)) (.cells #[.int .i64 yk, .bool yt, .slice ya1 yl1 yc1, .slice ya2 yl2 yc2] 26)
              have HVL := Lib.hid HJ1.out.own.lt
              have hwr : w.heap.size < wr.heap.size := HJ1.out.res.lt
              have hw9 : wr.heap.size ≤ w9.heap.size := hk9.size
              have hv10 : ExC (fun q => w.heap.size < q ∧ u13.ownBlock ≠ some q ∧ q < ((w9.alloc (.cells #[.int .i64 yk, .bool yt, .slice ya1 yl1 yc1, .slice ya2 yl2 yc2] 26)).alloc (.cells #[.int .i64 yk, .bool yt, .slice ya1 yl1 yc1, .slice ya2 yl2 yc2] 26)).heap.size) ((w9.alloc (.cells #[.int .i64 yk, .bool yt, .slice ya1 yl1 yc1, .slice ya2 yl2 yc2] 26)).alloc (.cells #[.int .i64 yk, .bool yt, .slice ya1 yl1 yc1, .slice ya2 yl2 yc2] 26)) [.int .i64 yk, .bool yt, .slice ya1 yl1 yc1, .slice ya2 yl2 yc2] x9 :=
                ((hv9.step bn).step bm).move (Nat.le_refl _) (fun q hq hlt => ⟨⟨by omega, fun e => by have := (HVL.out q e).2; omega, hlt⟩, rfl⟩)
              have hz10 : w.heap.size + 1 ≤ ((w9.alloc (.cells #[.int .i64 yk, .bool yt, .slice ya1 yl1 yc1, .slice ya2 yl2 yc2] 26)).alloc (.cells #[.int .i64 yk, .bool yt, .slice ya1 yl1 yc1, .slice ya2 yl2 yc2] 26)).heap.size := by rw [World.size_alloc, World.size_alloc]; omega
              have hown10 := hj10.own
              have HJ10 := Lib.hid hj10
              have HV10 := Lib.hid hv10
              have hl2 : l.length ≤ 100 := by have := HLL.out; omega
              obtain ⟨va, vc, rfl⟩ := HJ1.out.list
              have hne9 : (Value.slice va l.length vc).ownBlock ≠ some w9.heap.size := fun e => by have := (HVL.out _ e).2; omega
              clear ho hv9 hr9 hk9 hj9 bn bm hj10 hv10 hwr hw9
              go_wp2_with (at_builtin; refine wpList_append_lies _ rfl _ _ 24 rfl (w.heap.size + 1) 26 i0 (.agg #[.int .i64 0, .bool false, .slice none 0 0, .slice none 0 0]) 4 64 Tryz.underlying24 hi hz0 hz1 hz2 rfl (by decide) _ _ _ rfl hown10 ⟨w9.heap.size + 1, 0, none⟩ 1 1 [.int .i64 yk, .bool yt, .slice ya1 yl1 yc1, .slice ya2 yl2 yc2] rfl rfl (World.news_of_block (by simpa using hN10)) ?ones (by decide) ?len ?bytes hz10 _ rfl ?main)
              case ones => intro y hy; simp only [List.mem_cons, List.not_mem_nil, or_false] at hy; rcases hy with rfl | rfl | rfl | rfl <;> rfl
              case len => unfold maxLen; omega
              case bytes => omega
              intro g cap w11 hown11 hgrow11 hat11 hlt11
              have hj11 := HJ10.out.push rfl HV10.out hown11 hgrow11 (by rw [World.size_alloc, World.size_alloc]; exact hat11)
              have HJ11 := Lib.hid hj11
              clear hown11 hgrow11 hat11 hlt11 hj11 hown10 hN10 hz10 HV10
              go_wp2_with fail
              refine (HMO.out k9 n9 _ HGD9.out.2.2 HJ11.out.rd HJ11.out.box).mono ?_
              rintro e w12 (⟨k10, hm, rfl, hr12, hk12⟩ | ⟨hm, rfl, hr12, hk12⟩)
              · have HJ12 := Lib.hid (HJ11.out.go hr12 hk12)
                have HE4 := Lib.hid (HE3.out.trans (by rw [hm]))
                have HK10 := Lib.hid (HGM.out k9 k10 HGD9.out.2.2 hm)
                clear hm hr12 hk12
                go_wp2_with fail
                go_roundg (f + 1)
                case measure => have := HG.out; omega
                case rel =>
                  have h1 := HGD9.out
                  have h2 := HF.out
                  have h3 := HLL.out
                  exact .inl ⟨f, k10, n9, l ++ [x9], _, rfl, rfl, by omega, h1.2.1, HK10.out, by simp; omega, HE4.out.symm.trans HTT.out, HJ12.out⟩
              · have HJ12 := Lib.hid (HJ11.out.go hr12 hk12)
                have HE4 := Lib.hid (HE3.out.trans (by rw [hm]))
                clear hm hr12 hk12
                go_wp2_with fail
                go_roundg 0
                case measure => have := HG.out; omega
                case rel =>
                  have h1 := HGD9.out
                  have h3 := HLL.out
                  exact .inr ⟨k9, n9, l ++ [x9], _, rfl, rfl, by simp; omega, h1.2.1, HTT.out.symm.trans HE4.out, HJ12.out⟩
          · have HTT := Lib.hid htot
            have HJ1 := Lib.hid hst
            obtain ⟨va, vc, rfl⟩ := hst.list
            have HR := Lib.hid hst.res
            clear htot hg hst
            have r0 := HR.out.cells.1
            have r1 := HR.out.cells.2.1
            have r2 := HR.out.cells.2.2.1
            have r3 := HR.out.cells.2.2.2
            have rf0 := HR.out.fz 0
            have rf1 := HR.out.fz 1
            have rf2 := HR.out.fz 2
            have rf3 := HR.out.fz 3
            go_wp2_with fail
            have hvv : ExC (fun q => w.heap.size < q) wr [.int .i64 2, .bool false, .slice none 0 0, .slice va l.length vc] (.mk 2 false [] l) := by
              unfold ExC
              exact ⟨_, _, xs, rfl, CapV.nil, RowX.nil _ _, RowX.of_own HJ1.out.own (fun q e => by have := (HJ1.out.own.lt q e).1; show w.heap.size < q; omega), HJ1.out.vals.move (Nat.le_refl _) (fun q hq _ => ⟨hq.1, rfl⟩)⟩
            have ho := out_ok HRB.out.1 HJ1.out.keep HJ1.out.rd hvv
            obtain ⟨q0, q1, q2, q3⟩ := (HR.out.set4 (.int .i64 2) (.bool false) (.slice none 0 0) (.slice va l.length vc)).cells
            unfold set4 at q0 q1 q2 q3 ho
            refine bodyPost_ret (v := .tuple #[.agg #[.int .i64 2, .bool false, .slice none 0 0, .slice va l.length vc], .nilIface]) (by simp [results, Tryz.results41, go_sem, q0, q1, q2, q3]) rfl ?_
            rw [HE2.out, HTT.out]
            exact ho
      · refine (count_no s k2 n1 d rb (skp s k2) (by omega) (by have := HGD1.out; omega) _ HP6.out.st.rd).mono ?_
        rintro e w7 ⟨fb, rfl, hf7, hk7⟩
        have HR := Lib.hid (HP6.out.st.res.keeps hk7 (by have := HRB.out; omega))
        have HK := Lib.hid (HP6.out.st.keep.trans hk7)
        have HF := Lib.hid hf7
        have HE2 := Lib.hid (HE1.out.trans (if_pos (by omega)))
        clear hf7 hk7 hn1
        have r0 := HR.out.cells.1
        have r1 := HR.out.cells.2.1
        have r2 := HR.out.cells.2.2.1
        have r3 := HR.out.cells.2.2.2
        have rf0 := HR.out.fz 0
        have rf1 := HR.out.fz 1
        have rf2 := HR.out.fz 2
        have rf3 := HR.out.fz 3
        unfold pf
        go_wp2_with fail
        have ho := out_er (s := s) (d := d) (k1 := 0) (t1 := false) (a1 := none) (l1 := 0) (c1 := 0) (a2 := none) (l2 := 0) (c2 := 0) HR.out HK.out HF.out (by decide)
        obtain ⟨q0, q1, q2, q3⟩ := (HR.out.set4 (.int .i64 0) (.bool false) (.slice none 0 0) (.slice none 0 0)).cells
        unfold set4 at q0 q1 q2 q3 ho
        refine bodyPost_ret (v := .tuple #[.agg #[.int .i64 0, .bool false, .slice none 0 0, .slice none 0 0], pf fb]) (by simp [results, Tryz.results41, go_sem, q0, q1, q2, q3, pf]) rfl ?_
        rw [HE2.out]
        exact ho
    · have HP4 := Lib.hid (HP.out.go hr4 hk4)
      have HE1 : Hid (jnR s 2 nx (rwM s) k0 n0 = .ok k1 n1 x1) := Lib.hid (by rw [HE0.out, hm])
      have HR := Lib.hid HP4.out.st.res
      obtain ⟨x0, x1', x2, x3⟩ := HP4.out.st.x.cells
      clear hm hr4 hk4 HP
      have r0 := HR.out.cells.1
      have r1 := HR.out.cells.2.1
      have r2 := HR.out.cells.2.2.1
      have r3 := HR.out.cells.2.2.2
      have rf0 := HR.out.fz 0
      have rf1 := HR.out.fz 1
      have rf2 := HR.out.fz 2
      have rf3 := HR.out.fz 3
      go_wp2_with fail
      have ho := out_ok HRB.out.1 HP4.out.st.keep HP4.out.st.rd (HP4.out.val.move (P' := fun q => w.heap.size < q) (Nat.le_refl _) (fun q hq _ => ⟨hq.1, rfl⟩))
      obtain ⟨q0, q1, q2, q3⟩ := (HR.out.set4 (.int .i64 xk) (.bool xt) (.slice xa1 xl1 xc1) (.slice xa2 xl2 xc2)).cells
      unfold set4 at q0 q1 q2 q3 ho
      refine bodyPost_ret (v := .tuple #[.agg #[.int .i64 xk, .bool xt, .slice xa1 xl1 xc1, .slice xa2 xl2 xc2], .nilIface]) (by simp [results, Tryz.results41, go_sem, q0, q1, q2, q3]) rfl ?_
      rw [HE1.out]
      exact ho
end Go.Proofs.YtpccdhkghlbhkaaGreatDoor

namespace Go.Proofs.YtpccdhkghlbhkaaGreatDoor
open Go.RowKit Go.Extern.Stop Go.Stop Go.Extern Go.WideMaps

set_option maxRecDepth 100000 in
set_option maxHeartbeats 8000000 in
theorem joined_alt (s : ByteArray) (nx : Nat → Nat → RO Rx) (k0 n0 d rb bx : Nat) (hs : s.size ≤ 100000) (hk : k0 ≤ s.size) (hn : n0 ≤ 100) (hgood : GoodR s nx) (hnz : NzR s nx)
    (hspec : ∀ (k n rb : Nat) (w : World), k ≤ s.size → n ≤ 100 → Rd w rb s k n d → Calls Tryz.prog 42 #[.pointer (some ⟨rb, 0, none⟩)] w (XrOut w rb s d (nx k n))) (w : World) (hr : Rd w rb s k0 n0 d) (hbx : BoxAt w bx rb) (hbr : bx ≠ rb) :
    Calls Tryz.prog 41 #[.pointer (some ⟨rb, 0, none⟩), .int .i64 3, .func (.func 42) #[.pointer (some ⟨rb, 0, none⟩)] #[], .func (.func 43) #[] #[.pointer (some ⟨bx, 0, none⟩)]] w (XrOut w rb s d (jnR s 3 nx (alM s) k0 n0)) := by
  obtain ⟨i0, hi, hz0, hz1, hz2⟩ := info_parts infoXExpr
  have hq1 := quad_new w 26 (.int .i64 0) (.bool false) (.slice none 0 0) (.slice none 0 0)
  have hb1 := sbelow_new w (.cells #[.int .i64 0, .bool false, .slice none 0 0, .slice none 0 0] 26)
  have hr1 := hr.step hb1
  have hx1 := hbx.step hb1
  have hz1' : (w.alloc (.cells #[.int .i64 0, .bool false, .slice none 0 0, .slice none 0 0] 26)).heap.size = w.heap.size + 1 := World.size_alloc _ _
  have HRB : Hid (rb < w.heap.size ∧ bx < w.heap.size ∧ bx ≠ rb) := Lib.hid ⟨hr.lt, hbx.1, hbr⟩
  generalize hw1 : w.alloc (.cells #[.int .i64 0, .bool false, .slice none 0 0, .slice none 0 0] 26) = w1 at *
  have HNX := Lib.hid (hspec k0 n0 rb w1 hk hn hr1)
  have HSP := Lib.hid (fun k n W (h1 : k ≤ s.size) (h2 : n ≤ 100) (h : Rd W rb s k n d) => hspec k n rb W h1 h2 h)
  have HMO := Lib.hid (fun k n W (h1 : k ≤ s.size) (h : Rd W rb s k n d) (h2 : BoxAt W bx rb) => altMore_any s k n d rb bx hs h1 W h h2)
  have HNZ := Lib.hid (fun k n c a h1 (h : nx k n = .er c a) => hnz k n c a h1 h)
  have HGD := Lib.hid (fun k n k' n' x (h1 : k ≤ s.size) (h : nx k n = .ok k' n' x) => hgood k n k' n' x h1 h)
  have HGM := Lib.hid (alM_good (s := s))
  have HKL := Lib.hid hk
  have HQ1 := Lib.hid hq1
  have HB1 := Lib.hid hb1
  have HZ1 := Lib.hid hz1'
  have HX1 := Lib.hid hx1
  clear hq1 hb1 hr1 hr hz1' hbx hx1 hspec hnz hgood hbr
  go_enter Tryz.func41, Tryz.ntmps41
  go_wp2_with fail
  refine HNX.out.mono ?_
  intro e w2 hout
  clear hw1
  cases ho : nx k0 n0 with
  | er cc aa =>
    rw [ho] at hout
    have HE : Hid (jnR s 3 nx (alM s) k0 n0 = .er cc aa) := Lib.hid (by unfold jnR; rw [ho])
    obtain ⟨fb, xk, xt, xa1, xl1, xc1, xa2, xl2, xc2, rfl, hf, hkp⟩ := hout
    have bn := sbelow_new w2 (.cells #[.int .i64 xk, .bool xt, .slice xa1 xl1 xc1, .slice xa2 xl2 xc2] 26)
    have HR := Lib.hid ((HQ1.out.keeps hkp (by have := HRB.out; omega)).step bn)
    have HK : Hid (Keeps (· = rb) w _) := Lib.hid (((Keeps.of_below HB1.out).trans hkp).next bn)
    have HF := Lib.hid (hf.keep bn)
    have HC0 := Lib.hid (HNZ.out _ _ _ _ HKL.out ho)
    clear ho hf hkp bn
    have r0 := HR.out.cells.1
    have r1 := HR.out.cells.2.1
    have r2 := HR.out.cells.2.2.1
    have r3 := HR.out.cells.2.2.2
    have rf0 := HR.out.fz 0
    have rf1 := HR.out.fz 1
    have rf2 := HR.out.fz 2
    have rf3 := HR.out.fz 3
    unfold pf
    go_wp2_with fail
    have ho := out_er (s := s) (d := d) (k1 := xk) (t1 := xt) (a1 := xa1) (l1 := xl1) (c1 := xc1) (a2 := xa2) (l2 := xl2) (c2 := xc2) HR.out HK.out HF.out HC0.out
    obtain ⟨q0, q1, q2, q3⟩ := (HR.out.set4 (.int .i64 xk) (.bool xt) (.slice xa1 xl1 xc1) (.slice xa2 xl2 xc2)).cells
    unfold set4 at q0 q1 q2 q3 ho
    refine bodyPost_ret (v := .tuple #[.agg #[.int .i64 xk, .bool xt, .slice xa1 xl1 xc1, .slice xa2 xl2 xc2], pf fb]) (by simp [results, Tryz.results41, go_sem, q0, q1, q2, q3, pf]) rfl ?_
    rw [HE.out]
    exact ho
  | ok k1 n1 x1 =>
    rw [ho] at hout
    have hgd := HGD.out _ _ _ _ _ HKL.out ho
    have HE0 : Hid (jnR s 3 nx (alM s) k0 n0 = (match alM s k1 with | none => .ok k1 n1 x1 | some k2 => if 100 < n1 + 1 then .er 6 (skp s k2) else jnL 3 nx (alM s) 101 k2 (n1 + 1) [x1])) := Lib.hid (by unfold jnR; rw [ho]; dsimp only; cases alM s k1 <;> rfl)
    obtain ⟨xk, xt, xa1, xl1, xc1, xa2, xl2, xc2, rfl, hv, hrd, hkp⟩ := hout
    have bn := sbelow_new w2 (.cells #[.int .i64 xk, .bool xt, .slice xa1 xl1 xc1, .slice xa2 xl2 xc2] 26)
    have hz2 : w.heap.size + 1 ≤ w2.heap.size := by have := hkp.size; have := HZ1.out; omega
    have HP : Hid (PtSt w rb s k1 n1 d w2.heap.size x1 xk xt xa1 xl1 xc1 xa2 xl2 xc2 (w2.alloc (.cells #[.int .i64 xk, .bool xt, .slice xa1 xl1 xc1, .slice xa2 xl2 xc2] 26))) := Lib.hid
      ⟨⟨hrd.step bn, (HQ1.out.keeps hkp (by have := HRB.out; omega)).step bn, quad_new w2 _ _ _ _ _, ((Keeps.of_below HB1.out).trans hkp).next bn, ⟨HRB.out.1, by omega⟩⟩,
        hv.move (P' := fun q => w.heap.size < q ∧ q ≠ w2.heap.size) bn.size (fun q hq hlt => ⟨⟨by have := HZ1.out; omega, by omega⟩, bn.block q hlt⟩)⟩
    have HBX := Lib.hid ((HX1.out.keeps hkp (by have := HRB.out; omega)).step bn)
    have HGD1 := Lib.hid hgd
    clear ho hv hrd hkp bn hz2 hgd
    go_wp2_with fail
    generalize w2.alloc (.cells #[.int .i64 xk, .bool xt, .slice xa1 xl1 xc1, .slice xa2 xl2 xc2] 26) = w3 at *
    generalize w2.heap.size = xb at *
    refine (HMO.out k1 n1 _ HGD1.out.2.2 HP.out.st.rd HBX.out).mono ?_
    rintro e w4 (⟨k2, hm, rfl, hr4, hk4⟩ | ⟨hm, rfl, hr4, hk4⟩)
    · have HP4 := Lib.hid (HP.out.go hr4 hk4)
      have HBX4 := Lib.hid (HBX.out.keeps hk4 (by have := HRB.out; omega))
      have HE1 : Hid (jnR s 3 nx (alM s) k0 n0 = if 100 < n1 + 1 then .er 6 (skp s k2) else jnL 3 nx (alM s) 101 k2 (n1 + 1) [x1]) := Lib.hid (by rw [HE0.out, hm])
      have hk2 := HGM.out k1 k2 HGD1.out.2.2 hm
      have HK2 := Lib.hid hk2
      have HSK : Hid (∀ W, Calls Tryz.prog 20 #[.agg #[.string s, .int .i64 k2]] W fun e w' => e = .returned (.agg #[.string s, .int .i64 (skp s k2)]) ∧ Below W.heap.size W w') := Lib.hid (fun W => skip_any s k2 hs hk2 W)
      obtain ⟨c0, c1, -, -⟩ := hr4.cells
      clear hm hr4 hk4 HP HBX hk2
      go_wp2_with fail
      refine (HSK.out _).mono ?_
      rintro e w5 ⟨rfl, b5⟩
      have HP5 := Lib.hid (HP4.out.step b5)
      have HBX5 := Lib.hid (HBX4.out.step b5)
      clear b5 c0 c1
      go_wp2_with fail
      refine (at_any s _ _).mono ?_
      rintro e w6 ⟨rfl, b6⟩
      have HP6 := Lib.hid (HP5.out.step b6)
      have HBX6 := Lib.hid (HBX5.out.step b6)
      clear b6
      go_wp2_with fail
      by_cases hn1 : n1 + 1 ≤ 100
      · refine (count_yes s k2 n1 d rb (skp s k2) hn1 _ HP6.out.st.rd).mono ?_
        rintro e w7 ⟨rfl, hr7, hk7⟩
        have HP7 := Lib.hid (HP6.out.go hr7 hk7)
        have HBX7 := Lib.hid (HBX6.out.keeps hk7 (by have := HRB.out; omega))
        have HE2 := Lib.hid (HE1.out.trans (if_neg (by omega)))
        have HN1 := Lib.hid hn1
        obtain ⟨x0, x1', x2, x3⟩ := HP7.out.st.x.cells
        have bn := sbelow_new w7 (.cells #[.int .i64 xk, .bool xt, .slice xa1 xl1 xc1, .slice xa2 xl2 xc2] 26)
        have HJ : Hid (JnSt w rb bx s k2 (n1 + 1) d [x1] (.slice (some ⟨w7.heap.size, 0, none⟩) 1 1) [.int .i64 xk, .bool xt, .slice xa1 xl1 xc1, .slice xa2 xl2 xc2] (w7.alloc (.cells #[.int .i64 xk, .bool xt, .slice xa1 xl1 xc1, .slice xa2 xl2 xc2] 26))) := Lib.hid (by
          have hp := HP7.out.step bn
          have hxl := HP7.out.st.res.lt
          refine ⟨hp.st.rd, hp.st.res, HBX7.out.step bn, ?_, ?_, hp.st.keep, HRB.out⟩
          · exact World.ownsRow_lit w7 #[.int .i64 xk, .bool xt, .slice xa1 xl1 xc1, .slice xa2 xl2 xc2] 1 (by omega) (by unfold maxLen; omega) rfl
          · unfold ExsC
            exact ⟨_, [], by simp, (HP7.out.val.move (P' := fun q => w.heap.size < q ∧ (Value.slice (some ⟨w7.heap.size, 0, none⟩) 1 1).ownBlock ≠ some q) bn.size (fun q hq hlt => ⟨⟨hq.1, fun e => by injection e with e; have e' : w7.heap.size = q := e; omega⟩, bn.block q hlt⟩)), by unfold ExsC; rfl⟩)
        clear hr7 hk7 bn hn1
        go_wp2_with fail
        generalize w7.alloc (.cells #[.int .i64 xk, .bool xt, .slice xa1 xl1 xc1, .slice xa2 xl2 xc2] 26) = w8 at *
        generalize w7.heap.size = kb at *
        clear x0 x1' x2 x3
        go_loopg [13, 14] 102 (fun g kv gv wr => JnRel w rb bx s d 3 nx (alM s) (jnL 3 nx (alM s) 101 k2 (n1 + 1) [x1]) g kv gv wr)
        case atStart => exact .inl ⟨101, k2, n1 + 1, [x1], _, rfl, rfl, by omega, HN1.out, HK2.out, by simp, rfl, HJ.out⟩
        case round =>
          clear HJ
          rcases hrel with ⟨f, k, n, l, xs, rfl, hg, hf, hnn, hkl, hll, htot, hst⟩ | ⟨k, n, l, xs, rfl, hg, hll, hnn, htot, hst⟩
          · obtain ⟨f, rfl⟩ : ∃ f', f = f' + 1 := ⟨f - 1, by omega⟩
            have HTT := Lib.hid htot
            have HG := Lib.hid hg
            have HF := Lib.hid hf
            have HJ1 := Lib.hid hst
            have HLL := Lib.hid hll
            have HCALL := Lib.hid (HSP.out k n wr hkl hnn hst.rd)
            clear htot hg hf hst hll
            go_wp2_with fail
            refine HCALL.out.mono ?_
            intro e w9 hout
            cases ho : nx k n with
            | er cc aa =>
              rw [ho] at hout
              obtain ⟨fb, yk, yt, ya1, yl1, yc1, ya2, yl2, yc2, rfl, hf9, hk9⟩ := hout
              have HE3 : Hid (jnL 3 nx (alM s) (f + 1) k n l = .er cc aa) := Lib.hid (by rw [jnL, ho])
              have bn := sbelow_new w9 (.cells #[.int .i64 yk, .bool yt, .slice ya1 yl1 yc1, .slice ya2 yl2 yc2] 26)
              have HR := Lib.hid ((HJ1.out.res.keeps hk9 (by have := HRB.out; omega)).step bn)
              have HK := Lib.hid ((HJ1.out.keep.trans hk9).next bn)
              have HFF := Lib.hid (hf9.keep bn)
              have HC0 := Lib.hid (HNZ.out _ _ _ _ hkl ho)
              clear ho hf9 hk9 bn
              have r0 := HR.out.cells.1
              have r1 := HR.out.cells.2.1
              have r2 := HR.out.cells.2.2.1
              have r3 := HR.out.cells.2.2.2
              have rf0 := HR.out.fz 0
              have rf1 := HR.out.fz 1
              have rf2 := HR.out.fz 2
              have rf3 := HR.out.fz 3
              unfold pf
              go_wp2_with fail
              have ho := out_er (s := s) (d := d) (k1 := 0) (t1 := false) (a1 := none) (l1 := 0) (c1 := 0) (a2 := none) (l2 := 0) (c2 := 0) HR.out HK.out HFF.out HC0.out
              obtain ⟨q0, q1, q2, q3⟩ := (HR.out.set4 (.int .i64 0) (.bool false) (.slice none 0 0) (.slice none 0 0)).cells
              unfold set4 at q0 q1 q2 q3 ho
              refine bodyPost_ret (v := .tuple #[.agg #[.int .i64 0, .bool false, .slice none 0 0, .slice none 0 0], pf fb]) (by simp [results, Tryz.results41, go_sem, q0, q1, q2, q3, pf]) rfl ?_
              rw [HE2.out, ← HTT.out, HE3.out]
              exact ho
            | ok k9 n9 x9 =>
              rw [ho] at hout
              have HGD9 := Lib.hid (HGD.out _ _ _ _ _ hkl ho)
              obtain ⟨yk, yt, ya1, yl1, yc1, ya2, yl2, yc2, rfl, hv9, hr9, hk9⟩ := hout
              have HE3 : Hid (jnL 3 nx (alM s) (f + 1) k n l = (match alM s k9 with | some k2 => jnL 3 nx (alM s) f k2 n9 (l ++ [x9]) | none => .ok k9 n9 (.mk 3 false [] (l ++ [x9])))) := Lib.hid (by rw [jnL, ho]; dsimp only; cases alM s k9 <;> rfl)
              have hj9 := HJ1.out.go hr9 hk9
              have bn := sbelow_new w9 (.cells #[.int .i64 yk, .bool yt, .slice ya1 yl1 yc1, .slice ya2 yl2 yc2] 26)
              have bm := sbelow_new (w9.alloc (.cells #[.int .i64 yk, .bool yt, .slice ya1 yl1 yc1, .slice ya2 yl2 yc2] 26)) (.cells #[.int .i64 yk, .bool yt, .slice ya1 yl1 yc1, .slice ya2 yl2 yc2] 26)
              have hj10 := (hj9.step bn).step bm
              have hN10 := heap_alloc_new (w9.alloc (.cells #[.int .i64 yk, .bool yt, .slice ya1 yl1 yc1, .slice ya2 yl2 yc2] 26)) (.cells #[.int .i64 yk, .bool yt, .slice ya1 yl1 yc1, .slice ya2 yl2 yc2] 26)
              have HVL := Lib.hid HJ1.out.own.lt
              have hwr : w.heap.size < wr.heap.size := HJ1.out.res.lt
              have hw9 : wr.heap.size ≤ w9.heap.size := hk9.size
              have hv10 : ExC (fun q => w.heap.size < q ∧ u13.ownBlock ≠ some q ∧ q < ((w9.alloc (.cells #[.int .i64 yk, .bool yt, .slice ya1 yl1 yc1, .slice ya2 yl2 yc2] 26)).alloc (.cells #[.int .i64 yk, .bool yt, .slice ya1 yl1 yc1, .slice ya2 yl2 yc2] 26)).heap.size) ((w9.alloc (.cells #[.int .i64 yk, .bool yt, .slice ya1 yl1 yc1, .slice ya2 yl2 yc2] 26)).alloc (.cells #[.int .i64 yk, .bool yt, .slice ya1 yl1 yc1, .slice ya2 yl2 yc2] 26)) [.int .i64 yk, .bool yt, .slice ya1 yl1 yc1, .slice ya2 yl2 yc2] x9 :=
                ((hv9.step bn).step bm).move (Nat.le_refl _) (fun q hq hlt => ⟨⟨by omega, fun e => by have := (HVL.out q e).2; omega, hlt⟩, rfl⟩)
              have hz10 : w.heap.size + 1 ≤ ((w9.alloc (.cells #[.int .i64 yk, .bool yt, .slice ya1 yl1 yc1, .slice ya2 yl2 yc2] 26)).alloc (.cells #[.int .i64 yk, .bool yt, .slice ya1 yl1 yc1, .slice ya2 yl2 yc2] 26)).heap.size := by rw [World.size_alloc, World.size_alloc]; omega
              have hown10 := hj10.own
              have HJ10 := Lib.hid hj10
              have HV10 := Lib.hid hv10
              have hl2 : l.length ≤ 100 := by have := HLL.out; omega
              obtain ⟨va, vc, rfl⟩ := HJ1.out.list
              have hne9 : (Value.slice va l.length vc).ownBlock ≠ some w9.heap.size := fun e => by have := (HVL.out _ e).2; omega
              clear ho hv9 hr9 hk9 hj9 bn bm hj10 hv10 hwr hw9
              go_wp2_with (at_builtin; refine wpList_append_lies _ rfl _ _ 24 rfl (w.heap.size + 1) 26 i0 (.agg #[.int .i64 0, .bool false, .slice none 0 0, .slice none 0 0]) 4 64 Tryz.underlying24 hi hz0 hz1 hz2 rfl (by decide) _ _ _ rfl hown10 ⟨w9.heap.size + 1, 0, none⟩ 1 1 [.int .i64 yk, .bool yt, .slice ya1 yl1 yc1, .slice ya2 yl2 yc2] rfl rfl (World.news_of_block (by simpa using hN10)) ?ones (by decide) ?len ?bytes hz10 _ rfl ?main)
              case ones => intro y hy; simp only [List.mem_cons, List.not_mem_nil, or_false] at hy; rcases hy with rfl | rfl | rfl | rfl <;> rfl
              case len => unfold maxLen; omega
              case bytes => omega
              intro g cap w11 hown11 hgrow11 hat11 hlt11
              have hj11 := HJ10.out.push rfl HV10.out hown11 hgrow11 (by rw [World.size_alloc, World.size_alloc]; exact hat11)
              have HJ11 := Lib.hid hj11
              clear hown11 hgrow11 hat11 hlt11 hj11 hown10 hN10 hz10 HV10
              go_wp2_with fail
              refine (HMO.out k9 n9 _ HGD9.out.2.2 HJ11.out.rd HJ11.out.box).mono ?_
              rintro e w12 (⟨k10, hm, rfl, hr12, hk12⟩ | ⟨hm, rfl, hr12, hk12⟩)
              · have HJ12 := Lib.hid (HJ11.out.go hr12 hk12)
                have HE4 := Lib.hid (HE3.out.trans (by rw [hm]))
                have HK10 := Lib.hid (HGM.out k9 k10 HGD9.out.2.2 hm)
                clear hm hr12 hk12
                go_wp2_with fail
                go_roundg (f + 1)
                case measure => have := HG.out; omega
                case rel =>
                  have h1 := HGD9.out
                  have h2 := HF.out
                  have h3 := HLL.out
                  exact .inl ⟨f, k10, n9, l ++ [x9], _, rfl, rfl, by omega, h1.2.1, HK10.out, by simp; omega, HE4.out.symm.trans HTT.out, HJ12.out⟩
              · have HJ12 := Lib.hid (HJ11.out.go hr12 hk12)
                have HE4 := Lib.hid (HE3.out.trans (by rw [hm]))
                clear hm hr12 hk12
                go_wp2_with fail
                go_roundg 0
                case measure => have := HG.out; omega
                case rel =>
                  have h1 := HGD9.out
                  have h3 := HLL.out
                  exact .inr ⟨k9, n9, l ++ [x9], _, rfl, rfl, by simp; omega, h1.2.1, HTT.out.symm.trans HE4.out, HJ12.out⟩
          · have HTT := Lib.hid htot
            have HJ1 := Lib.hid hst
            obtain ⟨va, vc, rfl⟩ := hst.list
            have HR := Lib.hid hst.res
            clear htot hg hst
            have r0 := HR.out.cells.1
            have r1 := HR.out.cells.2.1
            have r2 := HR.out.cells.2.2.1
            have r3 := HR.out.cells.2.2.2
            have rf0 := HR.out.fz 0
            have rf1 := HR.out.fz 1
            have rf2 := HR.out.fz 2
            have rf3 := HR.out.fz 3
            go_wp2_with fail
            have hvv : ExC (fun q => w.heap.size < q) wr [.int .i64 3, .bool false, .slice none 0 0, .slice va l.length vc] (.mk 3 false [] l) := by
              unfold ExC
              exact ⟨_, _, xs, rfl, CapV.nil, RowX.nil _ _, RowX.of_own HJ1.out.own (fun q e => by have := (HJ1.out.own.lt q e).1; show w.heap.size < q; omega), HJ1.out.vals.move (Nat.le_refl _) (fun q hq _ => ⟨hq.1, rfl⟩)⟩
            have ho := out_ok HRB.out.1 HJ1.out.keep HJ1.out.rd hvv
            obtain ⟨q0, q1, q2, q3⟩ := (HR.out.set4 (.int .i64 3) (.bool false) (.slice none 0 0) (.slice va l.length vc)).cells
            unfold set4 at q0 q1 q2 q3 ho
            refine bodyPost_ret (v := .tuple #[.agg #[.int .i64 3, .bool false, .slice none 0 0, .slice va l.length vc], .nilIface]) (by simp [results, Tryz.results41, go_sem, q0, q1, q2, q3]) rfl ?_
            rw [HE2.out, HTT.out]
            exact ho
      · refine (count_no s k2 n1 d rb (skp s k2) (by omega) (by have := HGD1.out; omega) _ HP6.out.st.rd).mono ?_
        rintro e w7 ⟨fb, rfl, hf7, hk7⟩
        have HR := Lib.hid (HP6.out.st.res.keeps hk7 (by have := HRB.out; omega))
        have HK := Lib.hid (HP6.out.st.keep.trans hk7)
        have HF := Lib.hid hf7
        have HE2 := Lib.hid (HE1.out.trans (if_pos (by omega)))
        clear hf7 hk7 hn1
        have r0 := HR.out.cells.1
        have r1 := HR.out.cells.2.1
        have r2 := HR.out.cells.2.2.1
        have r3 := HR.out.cells.2.2.2
        have rf0 := HR.out.fz 0
        have rf1 := HR.out.fz 1
        have rf2 := HR.out.fz 2
        have rf3 := HR.out.fz 3
        unfold pf
        go_wp2_with fail
        have ho := out_er (s := s) (d := d) (k1 := 0) (t1 := false) (a1 := none) (l1 := 0) (c1 := 0) (a2 := none) (l2 := 0) (c2 := 0) HR.out HK.out HF.out (by decide)
        obtain ⟨q0, q1, q2, q3⟩ := (HR.out.set4 (.int .i64 0) (.bool false) (.slice none 0 0) (.slice none 0 0)).cells
        unfold set4 at q0 q1 q2 q3 ho
        refine bodyPost_ret (v := .tuple #[.agg #[.int .i64 0, .bool false, .slice none 0 0, .slice none 0 0], pf fb]) (by simp [results, Tryz.results41, go_sem, q0, q1, q2, q3, pf]) rfl ?_
        rw [HE2.out]
        exact ho
    · have HP4 := Lib.hid (HP.out.go hr4 hk4)
      have HE1 : Hid (jnR s 3 nx (alM s) k0 n0 = .ok k1 n1 x1) := Lib.hid (by rw [HE0.out, hm])
      have HR := Lib.hid HP4.out.st.res
      obtain ⟨x0, x1', x2, x3⟩ := HP4.out.st.x.cells
      clear hm hr4 hk4 HP
      have r0 := HR.out.cells.1
      have r1 := HR.out.cells.2.1
      have r2 := HR.out.cells.2.2.1
      have r3 := HR.out.cells.2.2.2
      have rf0 := HR.out.fz 0
      have rf1 := HR.out.fz 1
      have rf2 := HR.out.fz 2
      have rf3 := HR.out.fz 3
      go_wp2_with fail
      have ho := out_ok HRB.out.1 HP4.out.st.keep HP4.out.st.rd (HP4.out.val.move (P' := fun q => w.heap.size < q) (Nat.le_refl _) (fun q hq _ => ⟨hq.1, rfl⟩))
      obtain ⟨q0, q1, q2, q3⟩ := (HR.out.set4 (.int .i64 xk) (.bool xt) (.slice xa1 xl1 xc1) (.slice xa2 xl2 xc2)).cells
      unfold set4 at q0 q1 q2 q3 ho
      refine bodyPost_ret (v := .tuple #[.agg #[.int .i64 xk, .bool xt, .slice xa1 xl1 xc1, .slice xa2 xl2 xc2], .nilIface]) (by simp [results, Tryz.results41, go_sem, q0, q1, q2, q3]) rfl ?_
      rw [HE1.out]
      exact ho
end Go.Proofs.YtpccdhkghlbhkaaGreatDoor

namespace Go.Proofs.YtpccdhkghlbhkaaGreatDoor
open Go.RowKit Go.Extern.Stop Go.Stop Go.Extern Go.WideMaps

theorem sgR_nz {s : ByteArray} : ∀ (f k n : Nat) (x : Rx) (c : Int) (a : Nat), 100 < n + f → n ≤ 100 → sgR s f k n x = .er c a → c ≠ 0
  | 0, k, n, x, c, a, h0, h1, _ => by omega
  | f + 1, k, n, x, c, a, h0, h1, h => by
    rw [sgR] at h
    split at h
    · cases h
    · split at h
      · injection h with h2 h3; rw [← h2]; decide
      · exact sgR_nz f _ _ _ c a (by omega) (by omega) h
theorem ptR_nz {s : ByteArray} {sub : Option (Nat → Nat → RO Rx)} {d : Nat} (hsub : SubSpec s sub d) : NzR s (ptR s sub) := by
  intro k n c a hk h
  unfold ptR at h
  split at h
  · rename_i c1 a1 e1
    injection h with h1 h2
    rw [← h1]; exact bsR_nz hsub e1
  · rename_i k1 n1 x1 e1
    have h1 := bsR_good (subGood hsub) k n k1 n1 x1 hk e1
    exact sgR_nz 101 k1 n1 x1 c a (by omega) h1.2.1 h
theorem jnL_nz {s : ByteArray} {kind : Int} {nx : Nat → Nat → RO Rx} {more : Nat → Option Nat} (hn : GoodR s nx) (hm : GoodM s more) (hz : NzR s nx) : ∀ (f k n : Nat) (l : List Rx) (c : Int) (a : Nat), k ≤ s.size → 100 < n + f → n ≤ 100 → jnL kind nx more f k n l = .er c a → c ≠ 0
  | 0, k, n, l, c, a, _, h0, h1, _ => by omega
  | f + 1, k, n, l, c, a, hk, h0, h1, h => by
    rw [jnL] at h
    split at h
    · rename_i c1 a1 e1
      injection h with h2 h3
      rw [← h2]; exact hz _ _ _ _ hk e1
    · rename_i k1 n1 x1 e1
      have h2 := hn k n k1 n1 x1 hk e1
      split at h
      · rename_i k2 e2
        exact jnL_nz hn hm hz f k2 n1 _ c a (hm k1 k2 h2.2.2 e2) (by omega) h2.2.1 h
      · cases h
theorem jnR_nz {s : ByteArray} {kind : Int} {nx : Nat → Nat → RO Rx} {more : Nat → Option Nat} (hn : GoodR s nx) (hm : GoodM s more) (hz : NzR s nx) : NzR s (jnR s kind nx more) := by
  intro k n c a hk h
  unfold jnR at h
  split at h
  · rename_i c1 a1 e1
    injection h with h2 h3
    rw [← h2]; exact hz _ _ _ _ hk e1
  · rename_i k1 n1 x1 e1
    have h2 := hn k n k1 n1 x1 hk e1
    split at h
    · cases h
    · rename_i k2 e2
      split at h
      · injection h with h3 h4; rw [← h3]; decide
      · exact jnL_nz hn hm hz 101 k2 (n1 + 1) _ c a (hm k1 k2 h2.2.2 e2) (by omega) (by omega) h
theorem XrOut.lift {w w0 w' : World} {rb : Nat} {s : ByteArray} {d : Nat} {o : RO Rx} {e : Ending} (hb : Below w.heap.size w w0) (h : XrOut w0 rb s d o e w') : XrOut w rb s d o e w' := by
  cases o with
  | er c a =>
    obtain ⟨fb, k, t, a1, l1, c1, a2, l2, c2, h1, h2, h3⟩ := h
    exact ⟨fb, k, t, a1, l1, c1, a2, l2, c2, h1, h2, (Keeps.of_below hb).trans h3⟩
  | ok k' n' x =>
    obtain ⟨k, t, a1, l1, c1, a2, l2, c2, h1, h2, h3, h4⟩ := h
    exact ⟨k, t, a1, l1, c1, a2, l2, c2, h1, h2.move (Nat.le_refl _) (fun q hq _ => ⟨Nat.le_trans hb.size hq, rfl⟩), h3, (Keeps.of_below hb).trans h4⟩
set_option maxRecDepth 100000 in
set_option maxHeartbeats 4000000 in
theorem Xrow_any (s : ByteArray) (sub : Option (Nat → Nat → RO Rx)) (k n d rb : Nat) (hs : s.size ≤ 100000) (hk : k ≤ s.size) (hn : n ≤ 100) (hsub : SubSpec s sub d) (w : World) (hr : Rd w rb s k n d) :
    Calls Tryz.prog 42 #[.pointer (some ⟨rb, 0, none⟩)] w (XrOut w rb s d ((rwR s sub) k n)) := by
  have hb0 := sbelow_new w (.cells #[.pointer (some ⟨rb, 0, none⟩)] 84)
  have hrb := hr.lt
  have hz0 : (w.alloc (.cells #[.pointer (some ⟨rb, 0, none⟩)] 84)).heap.size = w.heap.size + 1 := World.size_alloc _ _
  have hbx0 : BoxAt (w.alloc (.cells #[.pointer (some ⟨rb, 0, none⟩)] 84)) w.heap.size rb := ⟨by omega, by rw [Lib.cell_of_heap (heap_alloc_new w _)]; rfl⟩
  have hr0 := hr.step hb0
  have HB0 := Lib.hid hb0
  generalize hw0 : w.alloc (.cells #[.pointer (some ⟨rb, 0, none⟩)] 84) = w0 at *
  have hq1 := quad_new w0 26 (.int .i64 0) (.bool false) (.slice none 0 0) (.slice none 0 0)
  have hb1 := sbelow_new w0 (.cells #[.int .i64 0, .bool false, .slice none 0 0, .slice none 0 0] 26)
  have hz1 : (w0.alloc (.cells #[.int .i64 0, .bool false, .slice none 0 0, .slice none 0 0] 26)).heap.size = w0.heap.size + 1 := World.size_alloc _ _
  have HJ := Lib.hid (joined_row s (ptR s sub) k n d rb w.heap.size hs hk hn (ptR_good (subGood hsub)) (ptR_nz hsub) (fun k n rb w h1 h2 h3 => part_any s sub k n d rb hs h1 h2 hsub w h3) _ (hr0.step hb1) (hbx0.step hb1) (by omega))
  have HORD : Hid (rb < w0.heap.size) := Lib.hid hr0.lt
  have HQ1 := Lib.hid hq1
  have HB1 := Lib.hid hb1
  have HZ1 := Lib.hid hz1
  have hbc := (hbx0.step hb1).2
  have HNZ : Hid (NzR s (rwR s sub)) := Lib.hid (jnR_nz (ptR_good (subGood hsub)) rwM_good (ptR_nz hsub))
  clear hq1 hb1 hz1 hb0 hr0 hbx0 hr hz0
  go_enter Tryz.func42, Tryz.ntmps42
  go_wp2_with fail
  refine HJ.out.mono ?_
  intro e w2 hout
  clear hw0 hbc
  cases ho : (rwR s sub) k n with
  | er cc aa =>
    have hout2 : XrOut (w0.alloc (.cells #[.int .i64 0, .bool false, .slice none 0 0, .slice none 0 0] 26)) rb s d (.er cc aa) e w2 := by rw [← ho]; exact hout
    obtain ⟨fb, xk, xt, xa1, xl1, xc1, xa2, xl2, xc2, rfl, hf, hkp⟩ := hout2
    have HR := Lib.hid (HQ1.out.keeps hkp (by have := HORD.out; omega))
    have HK := Lib.hid ((Keeps.of_below HB1.out).trans hkp)
    have HF := Lib.hid hf
    have HC0 := Lib.hid (HNZ.out _ _ _ _ hk ho)
    have HO := Lib.hid ho
    clear ho hf hkp hout
    have r0 := HR.out.cells.1
    have r1 := HR.out.cells.2.1
    have r2 := HR.out.cells.2.2.1
    have r3 := HR.out.cells.2.2.2
    have rf0 := HR.out.fz 0
    have rf1 := HR.out.fz 1
    have rf2 := HR.out.fz 2
    have rf3 := HR.out.fz 3
    unfold pf
    go_wp2_with fail
    have ho := (out_er (s := s) (d := d) (k1 := xk) (t1 := xt) (a1 := xa1) (l1 := xl1) (c1 := xc1) (a2 := xa2) (l2 := xl2) (c2 := xc2) HR.out HK.out HF.out HC0.out).lift HB0.out
    obtain ⟨q0, q1, q2, q3⟩ := (HR.out.set4 (.int .i64 xk) (.bool xt) (.slice xa1 xl1 xc1) (.slice xa2 xl2 xc2)).cells
    unfold set4 at q0 q1 q2 q3 ho
    refine bodyPost_ret (v := .tuple #[.agg #[.int .i64 xk, .bool xt, .slice xa1 xl1 xc1, .slice xa2 xl2 xc2], pf fb]) (by simp [results, Tryz.results42, go_sem, q0, q1, q2, q3, pf]) rfl ?_
    rw [HO.out]
    exact ho
  | ok k2 n2 x2 =>
    have hout2 : XrOut (w0.alloc (.cells #[.int .i64 0, .bool false, .slice none 0 0, .slice none 0 0] 26)) rb s d (.ok k2 n2 x2) e w2 := by rw [← ho]; exact hout
    obtain ⟨xk, xt, xa1, xl1, xc1, xa2, xl2, xc2, rfl, hv, hrd, hkp⟩ := hout2
    have HR := Lib.hid (HQ1.out.keeps hkp (by have := HORD.out; omega))
    have HK := Lib.hid ((Keeps.of_below HB1.out).trans hkp)
    have HV := Lib.hid (hv.move (P' := fun q => w0.heap.size < q) (Nat.le_refl _) (fun q hq _ => ⟨by have := HZ1.out; omega, rfl⟩))
    have HD := Lib.hid hrd
    have HO := Lib.hid ho
    clear ho hv hkp hout hrd
    have r0 := HR.out.cells.1
    have r1 := HR.out.cells.2.1
    have r2 := HR.out.cells.2.2.1
    have r3 := HR.out.cells.2.2.2
    have rf0 := HR.out.fz 0
    have rf1 := HR.out.fz 1
    have rf2 := HR.out.fz 2
    have rf3 := HR.out.fz 3
    go_wp2_with fail
    have ho := (out_ok HORD.out HK.out HD.out HV.out).lift HB0.out
    obtain ⟨q0, q1, q2, q3⟩ := (HR.out.set4 (.int .i64 xk) (.bool xt) (.slice xa1 xl1 xc1) (.slice xa2 xl2 xc2)).cells
    unfold set4 at q0 q1 q2 q3 ho
    refine bodyPost_ret (v := .tuple #[.agg #[.int .i64 xk, .bool xt, .slice xa1 xl1 xc1, .slice xa2 xl2 xc2], .nilIface]) (by simp [results, Tryz.results42, go_sem, q0, q1, q2, q3]) rfl ?_
    rw [HO.out]
    exact ho
set_option maxRecDepth 100000 in
set_option maxHeartbeats 4000000 in
theorem Xalternatives_any (s : ByteArray) (sub : Option (Nat → Nat → RO Rx)) (k n d rb : Nat) (hs : s.size ≤ 100000) (hk : k ≤ s.size) (hn : n ≤ 100) (hsub : SubSpec s sub d) (w : World) (hr : Rd w rb s k n d) :
    Calls Tryz.prog 31 #[.pointer (some ⟨rb, 0, none⟩)] w (XrOut w rb s d ((jnR s 3 (rwR s sub) (alM s)) k n)) := by
  have hb0 := sbelow_new w (.cells #[.pointer (some ⟨rb, 0, none⟩)] 84)
  have hrb := hr.lt
  have hz0 : (w.alloc (.cells #[.pointer (some ⟨rb, 0, none⟩)] 84)).heap.size = w.heap.size + 1 := World.size_alloc _ _
  have hbx0 : BoxAt (w.alloc (.cells #[.pointer (some ⟨rb, 0, none⟩)] 84)) w.heap.size rb := ⟨by omega, by rw [Lib.cell_of_heap (heap_alloc_new w _)]; rfl⟩
  have hr0 := hr.step hb0
  have HB0 := Lib.hid hb0
  generalize hw0 : w.alloc (.cells #[.pointer (some ⟨rb, 0, none⟩)] 84) = w0 at *
  have hq1 := quad_new w0 26 (.int .i64 0) (.bool false) (.slice none 0 0) (.slice none 0 0)
  have hb1 := sbelow_new w0 (.cells #[.int .i64 0, .bool false, .slice none 0 0, .slice none 0 0] 26)
  have hz1 : (w0.alloc (.cells #[.int .i64 0, .bool false, .slice none 0 0, .slice none 0 0] 26)).heap.size = w0.heap.size + 1 := World.size_alloc _ _
  have HJ := Lib.hid (joined_alt s (rwR s sub) k n d rb w.heap.size hs hk hn (rwR_good (subGood hsub)) (jnR_nz (ptR_good (subGood hsub)) rwM_good (ptR_nz hsub)) (fun k n rb w h1 h2 h3 => Xrow_any s sub k n d rb hs h1 h2 hsub w h3) _ (hr0.step hb1) (hbx0.step hb1) (by omega))
  have HORD : Hid (rb < w0.heap.size) := Lib.hid hr0.lt
  have HQ1 := Lib.hid hq1
  have HB1 := Lib.hid hb1
  have HZ1 := Lib.hid hz1
  have hbc := (hbx0.step hb1).2
  have HNZ : Hid (NzR s (jnR s 3 (rwR s sub) (alM s))) := Lib.hid (jnR_nz (rwR_good (subGood hsub)) alM_good (jnR_nz (ptR_good (subGood hsub)) rwM_good (ptR_nz hsub)))
  clear hq1 hb1 hz1 hb0 hr0 hbx0 hr hz0
  go_enter Tryz.func31, Tryz.ntmps31
  go_wp2_with fail
  refine HJ.out.mono ?_
  intro e w2 hout
  clear hw0 hbc
  cases ho : (jnR s 3 (rwR s sub) (alM s)) k n with
  | er cc aa =>
    have hout2 : XrOut (w0.alloc (.cells #[.int .i64 0, .bool false, .slice none 0 0, .slice none 0 0] 26)) rb s d (.er cc aa) e w2 := by rw [← ho]; exact hout
    obtain ⟨fb, xk, xt, xa1, xl1, xc1, xa2, xl2, xc2, rfl, hf, hkp⟩ := hout2
    have HR := Lib.hid (HQ1.out.keeps hkp (by have := HORD.out; omega))
    have HK := Lib.hid ((Keeps.of_below HB1.out).trans hkp)
    have HF := Lib.hid hf
    have HC0 := Lib.hid (HNZ.out _ _ _ _ hk ho)
    have HO := Lib.hid ho
    clear ho hf hkp hout
    have r0 := HR.out.cells.1
    have r1 := HR.out.cells.2.1
    have r2 := HR.out.cells.2.2.1
    have r3 := HR.out.cells.2.2.2
    have rf0 := HR.out.fz 0
    have rf1 := HR.out.fz 1
    have rf2 := HR.out.fz 2
    have rf3 := HR.out.fz 3
    unfold pf
    go_wp2_with fail
    have ho := (out_er (s := s) (d := d) (k1 := xk) (t1 := xt) (a1 := xa1) (l1 := xl1) (c1 := xc1) (a2 := xa2) (l2 := xl2) (c2 := xc2) HR.out HK.out HF.out HC0.out).lift HB0.out
    obtain ⟨q0, q1, q2, q3⟩ := (HR.out.set4 (.int .i64 xk) (.bool xt) (.slice xa1 xl1 xc1) (.slice xa2 xl2 xc2)).cells
    unfold set4 at q0 q1 q2 q3 ho
    refine bodyPost_ret (v := .tuple #[.agg #[.int .i64 xk, .bool xt, .slice xa1 xl1 xc1, .slice xa2 xl2 xc2], pf fb]) (by simp [results, Tryz.results31, go_sem, q0, q1, q2, q3, pf]) rfl ?_
    rw [HO.out]
    exact ho
  | ok k2 n2 x2 =>
    have hout2 : XrOut (w0.alloc (.cells #[.int .i64 0, .bool false, .slice none 0 0, .slice none 0 0] 26)) rb s d (.ok k2 n2 x2) e w2 := by rw [← ho]; exact hout
    obtain ⟨xk, xt, xa1, xl1, xc1, xa2, xl2, xc2, rfl, hv, hrd, hkp⟩ := hout2
    have HR := Lib.hid (HQ1.out.keeps hkp (by have := HORD.out; omega))
    have HK := Lib.hid ((Keeps.of_below HB1.out).trans hkp)
    have HV := Lib.hid (hv.move (P' := fun q => w0.heap.size < q) (Nat.le_refl _) (fun q hq _ => ⟨by have := HZ1.out; omega, rfl⟩))
    have HD := Lib.hid hrd
    have HO := Lib.hid ho
    clear ho hv hkp hout hrd
    have r0 := HR.out.cells.1
    have r1 := HR.out.cells.2.1
    have r2 := HR.out.cells.2.2.1
    have r3 := HR.out.cells.2.2.2
    have rf0 := HR.out.fz 0
    have rf1 := HR.out.fz 1
    have rf2 := HR.out.fz 2
    have rf3 := HR.out.fz 3
    go_wp2_with fail
    have ho := (out_ok HORD.out HK.out HD.out HV.out).lift HB0.out
    obtain ⟨q0, q1, q2, q3⟩ := (HR.out.set4 (.int .i64 xk) (.bool xt) (.slice xa1 xl1 xc1) (.slice xa2 xl2 xc2)).cells
    unfold set4 at q0 q1 q2 q3 ho
    refine bodyPost_ret (v := .tuple #[.agg #[.int .i64 xk, .bool xt, .slice xa1 xl1 xc1, .slice xa2 xl2 xc2], .nilIface]) (by simp [results, Tryz.results31, go_sem, q0, q1, q2, q3]) rfl ?_
    rw [HO.out]
    exact ho

/-- Alternatives, however many brackets more may be opened. -/
theorem alt_spec (s : ByteArray) (hs : s.size ≤ 100000) : ∀ (e d : Nat), d + e = 64 → SubSpec s (subR s e) d ∧ AltSpec s (alR s e) d ∧ NzR s (alR s e)
  | 0, d, h => by
    have h0 : SubSpec s (subR s 0) d := by show d = 64; omega
    refine ⟨h0, fun k n rb w hk hn hr => ?_, ?_⟩
    · rw [alR_eq]; exact Xalternatives_any s _ k n d rb hs hk hn h0 w hr
    · rw [alR_eq]; exact jnR_nz (rwR_good (subGood h0)) alM_good (jnR_nz (ptR_good (subGood h0)) rwM_good (ptR_nz h0))
  | e + 1, d, h => by
    have ih := alt_spec s hs e (d + 1) (by omega)
    have h0 : SubSpec s (subR s (e + 1)) d := ⟨by omega, ih.2.1, alR_good e, ih.2.2⟩
    refine ⟨h0, fun k n rb w hk hn hr => ?_, ?_⟩
    · rw [alR_eq]; exact Xalternatives_any s _ k n d rb hs hk hn h0 w hr
    · rw [alR_eq]; exact jnR_nz (rwR_good (subGood h0)) alM_good (jnR_nz (ptR_good (subGood h0)) rwM_good (ptR_nz h0))
end Go.Proofs.YtpccdhkghlbhkaaGreatDoor
