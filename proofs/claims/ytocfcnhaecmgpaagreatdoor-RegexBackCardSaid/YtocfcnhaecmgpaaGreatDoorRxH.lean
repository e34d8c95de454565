/-
  Package regex's reader by contracts: brackets, given what stands between them.
-/
import Derived.Test.YtocfcnhaecmgpaaGreatDoorRxG
namespace Go.Proofs.YtocfcnhaecmgpaaGreatDoor
open Go.RowKit Go.Extern.Stop Go.Stop Go.Extern Go.WideMaps

theorem rcount_any (s : ByteArray) (k n d rb a : Nat) (hn : n ≤ 100) (w : World) (hr : Rd w rb s k n d) :
    Calls Tryz.prog 106 #[.pointer (some ⟨rb, 0, none⟩), .int .i64 a] w fun e w' => (n + 1 ≤ 100 ∧ e = .returned .nilIface ∧ Rd w' rb s k (n + 1) d ∧ Keeps (· = rb) w w') ∨ (100 < n + 1 ∧ ErrK w rb 6 a e w') := by
  by_cases h : n + 1 ≤ 100
  · refine (count_yes s k n d rb a h w hr).mono ?_
    rintro e w' ⟨h1, h2, h3⟩
    exact .inl ⟨h, h1, h2, h3⟩
  · refine (count_no s k n d rb a (by omega) (by omega) w hr).mono ?_
    intro e w' h2
    exact .inr ⟨by omega, h2⟩
/-- What brackets hold, from behind the first on; a: its place. -/
def brR (s : ByteArray) (sub : Option (Nat → Nat → RO Rx)) (k n a : Nat) : RO Rx :=
  match sub with
  | none => .er 8 a
  | some f =>
    if byteI s (skp s k) = 41 then cnt (skp s k + 1) n (.mk 2 false [] []) a
    else match f k n with
      | .er c a => .er c a
      | .ok k' n' x => if byteI s (skp s k') = 41 then .ok (skp s k' + 1) n' x else .er (missC s (skp s k')) (skp s k')
/-- What alternatives answer, within so many brackets. -/
def AltSpec (s : ByteArray) (f : Nat → Nat → RO Rx) (d : Nat) : Prop := ∀ (k n rb : Nat) (w : World), k ≤ s.size → n ≤ 100 → Rd w rb s k n d → Calls Tryz.prog 50 #[.pointer (some ⟨rb, 0, none⟩)] w (XrOut w rb s d (f k n))
/-- No error's number is 0, at places of the text. -/
def NzR (s : ByteArray) (f : Nat → Nat → RO Rx) : Prop := ∀ k n c a, k ≤ s.size → f k n = .er c a → c ≠ 0
def SubSpec (s : ByteArray) (sub : Option (Nat → Nat → RO Rx)) (d : Nat) : Prop :=
  match sub with
  | none => d = 64
  | some f => d < 64 ∧ AltSpec s f (d + 1) ∧ GoodR s f ∧ NzR s f

/-- Within a call: the reader, the result's cells, an expression's, and what has not changed. -/
structure BsSt (w0 : World) (rb : Nat) (s : ByteArray) (k n d xb : Nat) (x0 x1 x2 x3 : Value) (w : World) : Prop where
  rd : Rd w rb s k n d
  res : QuadAt 25 w w0.heap.size (.int .i64 0) (.bool false) (.slice none 0 0) (.slice none 0 0)
  x : QuadAt 25 w xb x0 x1 x2 x3
  keep : Keeps (· = rb) w0 w
  ord : rb < w0.heap.size ∧ w0.heap.size < xb
section
variable {w0 : World} {rb : Nat} {s : ByteArray} {k n d k' n' d' : Nat} {xb : Nat} {x0 x1 x2 x3 : Value} {w w' : World}
theorem BsSt.go (h : BsSt w0 rb s k n d xb x0 x1 x2 x3 w) (hr : Rd w' rb s k' n' d') (hk : Keeps (· = rb) w w') : BsSt w0 rb s k' n' d' xb x0 x1 x2 x3 w' :=
  ⟨hr, h.res.keeps hk (by have := h.ord; omega), h.x.keeps hk (by have := h.ord; omega), h.keep.trans hk, h.ord⟩
theorem BsSt.step (h : BsSt w0 rb s k n d xb x0 x1 x2 x3 w) (hb : Below w.heap.size w w') : BsSt w0 rb s k n d xb x0 x1 x2 x3 w' := h.go (h.rd.step hb) (.of_below hb)
end
/-- What ends a call that answers an expression. -/
theorem out_ok {w0 w' : World} {rb : Nat} {s : ByteArray} {k n d : Nat} {k1 : Int} {t1 : Bool} {a1 : Option Addr} {l1 c1 : Nat} {a2 : Option Addr} {l2 c2 : Nat} {x : Rx} (hRB : rb < w0.heap.size)
    (hK : Keeps (· = rb) w0 w') (hrd : Rd w' rb s k n d) (hV : ExC (fun q => w0.heap.size < q) w' [.int .i64 k1, .bool t1, .slice a1 l1 c1, .slice a2 l2 c2] x) :
    XrOut w0 rb s d (.ok k n x) (.returned (.tuple #[.agg #[.int .i64 k1, .bool t1, .slice a1 l1 c1, .slice a2 l2 c2], .nilIface])) (set4 w' w0.heap.size 0 (.int .i64 k1) (.bool t1) (.slice a1 l1 c1) (.slice a2 l2 c2)) := by
  have hk4 := keeps_set4 w' w0.heap.size 0 (.int .i64 k1) (.bool t1) (.slice a1 l1 c1) (.slice a2 l2 c2)
  exact ⟨_, _, _, _, _, _, _, _, rfl, hV.move hk4.size (fun q hq hlt => ⟨Nat.le_of_lt hq, hk4.block q hlt (by omega)⟩), QuadAt.keeps hrd hk4 (by omega), res_keeps hK _ _ _ _⟩
theorem out_er {w0 w' : World} {rb : Nat} {s : ByteArray} {d : Nat} {k1 : Int} {t1 : Bool} {a1 : Option Addr} {l1 c1 : Nat} {a2 : Option Addr} {l2 c2 : Nat} {fb : Nat} {c : Int} {a : Nat}
    (hR : QuadAt 25 w' w0.heap.size (.int .i64 0) (.bool false) (.slice none 0 0) (.slice none 0 0)) (hK : Keeps (· = rb) w0 w') (hF : FaultAt w' fb c a) (h0 : c ≠ 0) :
    XrOut w0 rb s d (.er c a) (.returned (.tuple #[.agg #[.int .i64 k1, .bool t1, .slice a1 l1 c1, .slice a2 l2 c2], pf fb])) (set4 w' w0.heap.size 0 (.int .i64 k1) (.bool t1) (.slice a1 l1 c1) (.slice a2 l2 c2)) :=
  ⟨fb, _, _, _, _, _, _, _, _, rfl, hF.setq h0 hR _ _ _ _, res_keeps hK _ _ _ _⟩


set_option maxRecDepth 100000 in
set_option maxHeartbeats 8000000 in
theorem brackets_any (s : ByteArray) (sub : Option (Nat → Nat → RO Rx)) (k n d rb a : Nat) (hs : s.size ≤ 100000) (hk : k ≤ s.size) (hn : n ≤ 100) (hsub : SubSpec s sub d) (w : World) (hr : Rd w rb s k n d) :
    Calls Tryz.prog 139 #[.pointer (some ⟨rb, 0, none⟩), .int .i64 a] w (XrOut w rb s d (brR s sub k n a)) := by
  have hq1 := quad_new w 25 (.int .i64 0) (.bool false) (.slice none 0 0) (.slice none 0 0)
  have hb1 := sbelow_new w (.cells #[.int .i64 0, .bool false, .slice none 0 0, .slice none 0 0] 25)
  have hr1 := hr.step hb1
  have hz1 : (w.alloc (.cells #[.int .i64 0, .bool false, .slice none 0 0, .slice none 0 0] 25)).heap.size = w.heap.size + 1 := World.size_alloc _ _
  have HRB := Lib.hid hr.lt
  generalize hw1 : w.alloc (.cells #[.int .i64 0, .bool false, .slice none 0 0, .slice none 0 0] 25) = w1 at *
  have HQ1 := Lib.hid hq1
  have HB1 := Lib.hid hb1
  have HZ1 := Lib.hid hz1
  have HR1 := Lib.hid hr1
  obtain ⟨-, -, -, c3⟩ := hr1.cells
  clear hq1 hb1 hr1 hr
  cases sub with
  | none =>
    obtain rfl : d = 64 := hsub
    go_enter Tryz.func139, Tryz.ntmps139
    go_wp2_with fail
    refine (new_err 8 a (by decide) _).mono ?_
    rintro e w2 ⟨fb, rfl, hf2, b2⟩
    have HR := Lib.hid (HQ1.out.step b2)
    have HK : Hid (Keeps (· = rb) w w2) := Lib.hid ((Keeps.of_below HB1.out).next b2)
    have HF := Lib.hid hf2
    clear hf2 b2 c3
    have r0 := HR.out.cells.1
    have r1 := HR.out.cells.2.1
    have r2 := HR.out.cells.2.2.1
    have r3 := HR.out.cells.2.2.2
    have rf0 := HR.out.fz 0
    have rf1 := HR.out.fz 1
    have rf2 := HR.out.fz 2
    have rf3 := HR.out.fz 3
    unfold pf
    go_wp2_with fail
    have ho := out_er (s := s) (d := 64) (k1 := 0) (t1 := false) (a1 := none) (l1 := 0) (c1 := 0) (a2 := none) (l2 := 0) (c2 := 0) HR.out HK.out HF.out (by decide)
    obtain ⟨q0, q1, q2, q3⟩ := (HR.out.set4 (.int .i64 0) (.bool false) (.slice none 0 0) (.slice none 0 0)).cells
    unfold set4 at q0 q1 q2 q3 ho
    exact bodyPost_ret (v := .tuple #[.agg #[.int .i64 0, .bool false, .slice none 0 0, .slice none 0 0], pf fb]) (by simp [results, Tryz.results139, go_sem, q0, q1, q2, q3, pf]) rfl ho
  | some f =>
    obtain ⟨hd, halt, hgood, hnz⟩ := hsub
    have HALT := Lib.hid halt
    have HGOOD := Lib.hid hgood
    have HNZ := Lib.hid hnz
    have hd64 : ((d : Int) == 64) = false := beq_eq_false_iff_ne.2 (by omega)
    have HT := Lib.hid (took_any s k n d rb 41 (by decide) hs hk w1 HR1.out)
    rw [show ((41 : UInt8).toNat : Int) = 41 from rfl] at HT
    have HKL := Lib.hid hk
    clear halt hgood hnz
    go_enter Tryz.func139, Tryz.ntmps139
    go_wp2_with fail
    refine HT.out.mono ?_
    rintro e w2 ⟨rfl, hr2, hk2⟩
    have HR2 := Lib.hid (HQ1.out.keeps hk2 (by have := HRB.out; omega))
    have HK2 : Hid (Keeps (· = rb) w w2) := Lib.hid ((Keeps.of_below HB1.out).trans hk2)
    have HD2 := Lib.hid hr2
    clear c3 hr2 hk2
    by_cases h41 : byteI s (skp s k) = 41
    · rw [decide_eq_true h41]
      have HD3 : Hid (Rd w2 rb s (skp s k + 1) n d) := Lib.hid (by have := HD2.out; unfold tkK at this; rwa [if_pos h41] at this)
      have HE : Hid (brR s (some f) k n a = cnt (skp s k + 1) n (.mk 2 false [] []) a) := Lib.hid (by simp only [brR]; rw [if_pos h41])
      have HCN := Lib.hid (fun W (h : Rd W rb s (skp s k + 1) n d) => rcount_any s (skp s k + 1) n d rb a hn W h)
      clear h41 HD2
      go_wp2_with fail
      refine (HCN.out _ HD3.out).mono ?_
      rintro e w3 (⟨hn1, rfl, hr3, hk3⟩ | ⟨hn1, fb, rfl, hf3, hk3⟩)
      · have HR := Lib.hid (HR2.out.keeps hk3 (by have := HRB.out; omega))
        have HK := Lib.hid (HK2.out.trans hk3)
        have HD := Lib.hid hr3
        have HN1 := Lib.hid hn1
        clear hr3 hk3 hn1
        have r0 := HR.out.cells.1
        have r1 := HR.out.cells.2.1
        have r2 := HR.out.cells.2.2.1
        have r3 := HR.out.cells.2.2.2
        have rf0 := HR.out.fz 0
        have rf1 := HR.out.fz 1
        have rf2 := HR.out.fz 2
        have rf3 := HR.out.fz 3
        go_wp2_with fail
        have ho := out_ok (x := .mk 2 false [] []) (k1 := 2) (t1 := false) (a1 := none) (l1 := 0) (c1 := 0) (a2 := none) (l2 := 0) (c2 := 0) HRB.out HK.out HD.out (by unfold ExC; exact ⟨_, _, [], rfl, CapV.nil, RowX.nil _ _, RowX.nil _ _, ExsC.nil⟩)
        obtain ⟨q0, q1, q2, q3⟩ := (HR.out.set4 (.int .i64 2) (.bool false) (.slice none 0 0) (.slice none 0 0)).cells
        unfold set4 at q0 q1 q2 q3 ho
        refine bodyPost_ret (v := .tuple #[.agg #[.int .i64 2, .bool false, .slice none 0 0, .slice none 0 0], .nilIface]) (by simp [results, Tryz.results139, go_sem, q0, q1, q2, q3]) rfl ?_
        rw [HE.out, cnt, if_neg (by have := HN1.out; omega)]
        exact ho
      · have HR := Lib.hid (HR2.out.keeps hk3 (by have := HRB.out; omega))
        have HK := Lib.hid (HK2.out.trans hk3)
        have HF := Lib.hid hf3
        have HN1 := Lib.hid hn1
        clear hf3 hk3 hn1
        have r0 := HR.out.cells.1
        have r1 := HR.out.cells.2.1
        have r2 := HR.out.cells.2.2.1
        have r3 := HR.out.cells.2.2.2
        have rf0 := HR.out.fz 0
        have rf1 := HR.out.fz 1
        have rf2 := HR.out.fz 2
        have rf3 := HR.out.fz 3
        unfold pf
        go_wp2_with fail
        have ho := out_er (s := s) (d := d) (k1 := 2) (t1 := false) (a1 := none) (l1 := 0) (c1 := 0) (a2 := none) (l2 := 0) (c2 := 0) HR.out HK.out HF.out (by decide)
        obtain ⟨q0, q1, q2, q3⟩ := (HR.out.set4 (.int .i64 2) (.bool false) (.slice none 0 0) (.slice none 0 0)).cells
        unfold set4 at q0 q1 q2 q3 ho
        refine bodyPost_ret (v := .tuple #[.agg #[.int .i64 2, .bool false, .slice none 0 0, .slice none 0 0], pf fb]) (by simp [results, Tryz.results139, go_sem, q0, q1, q2, q3, pf]) rfl ?_
        rw [HE.out, cnt, if_pos HN1.out]
        exact ho
    · rw [decide_eq_false h41]
      have HD3 : Hid (Rd w2 rb s k n d) := Lib.hid (by have := HD2.out; unfold tkK at this; rwa [if_neg h41] at this)
      have HE : Hid (∀ o, f k n = o → brR s (some f) k n a = (match o with | .er c a => .er c a | .ok k' n' x => if byteI s (skp s k') = 41 then .ok (skp s k' + 1) n' x else .er (missC s (skp s k')) (skp s k'))) := Lib.hid (by rintro o rfl; simp only [brR]; rw [if_neg h41])
      obtain ⟨-, -, -, c3⟩ := HD3.out.cells
      have f3 := HD3.out.fz 3
      have HD4 : Hid (Rd (w2.setCell ⟨rb, 3, none⟩ (.int .i64 ((d : Int) + 1))) rb s k n (d + 1)) := Lib.hid (QuadAt.put3 HD3.out _)
      have hkp := keeps_put1 w2 rb 3 (.int .i64 ((d : Int) + 1))
      have HR4 := Lib.hid (HR2.out.keeps hkp (by have := HRB.out; omega))
      have HK4 := Lib.hid (HK2.out.trans hkp)
      clear h41 HD2 hkp
      go_wp2_with fail
      generalize w2.setCell ⟨rb, 3, none⟩ (.int .i64 ((d : Int) + 1)) = w4 at *
      clear c3 f3
      have HCALL := Lib.hid (HALT.out k n rb w4 HKL.out hn HD4.out)
      cases ho : f k n with
      | er cc aa =>
        rw [ho] at HCALL
        have HE2 : Hid (brR s (some f) k n a = .er cc aa) := Lib.hid (HE.out _ ho)
        have HC0 := Lib.hid (HNZ.out k n cc aa HKL.out ho)
        clear ho
        refine HCALL.out.mono ?_
        rintro e w5 ⟨fb, xk, xt, xa1, xl1, xc1, xa2, xl2, xc2, rfl, hf5, hk5⟩
        have b6 := sbelow_new w5 (.cells #[.int .i64 xk, .bool xt, .slice xa1 xl1 xc1, .slice xa2 xl2 xc2] 25)
        have HR := Lib.hid ((HR4.out.keeps hk5 (by have := HRB.out; omega)).step b6)
        have HK := Lib.hid ((HK4.out.trans hk5).next b6)
        have HF := Lib.hid (hf5.keep b6)
        clear hf5 hk5 b6
        have r0 := HR.out.cells.1
        have r1 := HR.out.cells.2.1
        have r2 := HR.out.cells.2.2.1
        have r3 := HR.out.cells.2.2.2
        have rf0 := HR.out.fz 0
        have rf1 := HR.out.fz 1
        have rf2 := HR.out.fz 2
        have rf3 := HR.out.fz 3
        unfold pf
        go_wp2_with fail
        have ho := out_er (s := s) (d := d) (k1 := 0) (t1 := false) (a1 := none) (l1 := 0) (c1 := 0) (a2 := none) (l2 := 0) (c2 := 0) HR.out HK.out HF.out HC0.out
        obtain ⟨q0, q1, q2, q3⟩ := (HR.out.set4 (.int .i64 0) (.bool false) (.slice none 0 0) (.slice none 0 0)).cells
        unfold set4 at q0 q1 q2 q3 ho
        refine bodyPost_ret (v := .tuple #[.agg #[.int .i64 0, .bool false, .slice none 0 0, .slice none 0 0], pf fb]) (by simp [results, Tryz.results139, go_sem, q0, q1, q2, q3, pf]) rfl ?_
        rw [HE2.out]
        exact ho
      | ok k5 n5 x5 =>
        rw [ho] at HCALL
        have HE2 := Lib.hid (HE.out _ ho)
        have HG5 := Lib.hid (HGOOD.out k n k5 n5 x5 HKL.out ho)
        clear ho
        refine HCALL.out.mono ?_
        rintro e w5 ⟨xk, xt, xa1, xl1, xc1, xa2, xl2, xc2, rfl, hv5, hr5, hk5⟩
        have b6 := sbelow_new w5 (.cells #[.int .i64 xk, .bool xt, .slice xa1 xl1 xc1, .slice xa2 xl2 xc2] 25)
        have HX6 := Lib.hid (quad_new w5 25 (.int .i64 xk) (.bool xt) (.slice xa1 xl1 xc1) (.slice xa2 xl2 xc2))
        have HR6 := Lib.hid ((HR4.out.keeps hk5 (by have := HRB.out; omega)).step b6)
        have HK6 := Lib.hid ((HK4.out.trans hk5).next b6)
        have HD6 := Lib.hid (hr5.step b6)
        have hz4 : w.heap.size < w4.heap.size := HR4.out.lt
        have hz5 : w4.heap.size ≤ w5.heap.size := hk5.size
        have HV6 : Hid (ExC (fun q => w.heap.size < q) (w5.alloc (.cells #[.int .i64 xk, .bool xt, .slice xa1 xl1 xc1, .slice xa2 xl2 xc2] 25)) [.int .i64 xk, .bool xt, .slice xa1 xl1 xc1, .slice xa2 xl2 xc2] x5) := Lib.hid ((hv5.step b6).move (Nat.le_refl _) (fun q hq _ => ⟨by omega, rfl⟩))
        have HZ5 : Hid (w.heap.size < w5.heap.size) := Lib.hid (by omega)
        clear hv5 hr5 hk5 b6 hz4 hz5
        obtain ⟨-, -, -, c3⟩ := HD6.out.cells
        have f3 := HD6.out.fz 3
        generalize hw6 : w5.alloc (.cells #[.int .i64 xk, .bool xt, .slice xa1 xl1 xc1, .slice xa2 xl2 xc2] 25) = w6 at *
        have HD7 : Hid (Rd (w6.setCell ⟨rb, 3, none⟩ (.int .i64 d)) rb s k5 n5 d) := Lib.hid (QuadAt.put3 HD6.out _)
        have hkp := keeps_put1 w6 rb 3 (.int .i64 d)
        have HR7 := Lib.hid (HR6.out.keeps hkp (by have := HRB.out; omega))
        have HX7 := Lib.hid (HX6.out.keeps hkp (by have := HRB.out; have := HZ5.out; omega))
        have HK7 := Lib.hid (HK6.out.trans hkp)
        have HV7 := Lib.hid (HV6.out.move (P' := fun q => w.heap.size < q) hkp.size (fun q hq hlt => ⟨hq, hkp.block q hlt (by have := HRB.out; omega)⟩))
        clear hkp
        go_wp2_with fail
        generalize w6.setCell ⟨rb, 3, none⟩ (.int .i64 d) = w7 at *
        generalize w5.heap.size = xb at *
        have hX : QuadAt 25 w7.drew xb (.int .i64 xk) (.bool xt) (.slice xa1 xl1 xc1) (.slice xa2 xl2 xc2) := HX7.out
        have hR : QuadAt 25 w7.drew w.heap.size (.int .i64 0) (.bool false) (.slice none 0 0) (.slice none 0 0) := HR7.out
        have hRD : Rd w7.drew rb s k5 n5 d := HD7.out
        have hKP : Keeps (· = rb) w w7.drew := HK7.out.drew
        have hVV : ExC (fun q => w.heap.size < q) w7.drew [.int .i64 xk, .bool xt, .slice xa1 xl1 xc1, .slice xa2 xl2 xc2] x5 := HV7.out.move (Nat.le_refl _) (fun q hq _ => ⟨hq, rfl⟩)
        have hxr : xb ≠ rb := by have := HZ5.out; have := HRB.out; omega
        have hrr : w.heap.size ≠ rb := by have := HRB.out; omega
        have hxw : xb ≠ w.heap.size := by have := HZ5.out; omega
        have hxw' := hxw.symm
        clear c3 f3 hw6
        by_cases h93 : byteI s (skp s k5) = 41
        · have HTA := Lib.hid (fun W (h : Rd W rb s k5 n5 d) => rtake_yes s k5 n5 d rb 41 (by decide) h93 hs HG5.out.2.2 W h)
          have HE3 : Hid (brR s (some f) k n a = .ok (skp s k5 + 1) n5 x5) := Lib.hid (HE2.out.trans (if_pos h93))
          obtain ⟨x0, x1, x2, x3⟩ := hX.cells
          clear h93
          go_region_held3 (fun W => W.cell? ⟨xb, 0, none⟩ = some (.int .i64 xk) ∧ W.cell? ⟨xb, 1, none⟩ = some (.bool xt) ∧ W.cell? ⟨xb, 2, none⟩ = some (.slice xa1 xl1 xc1) ∧ W.cell? ⟨xb, 3, none⟩ = some (.slice xa2 xl2 xc2))
            (first | go_keep | exact hX.cells)
            (first
            | (go_at_call 147; refine (HTA.out _ hRD).mono ?_; rintro e w' ⟨rfl, hrd, hkp⟩; replace hX := hX.keeps hkp hxr; replace hR := hR.keeps hkp hrr; replace hKP := hKP.trans hkp; replace hVV := hVV.move (P' := fun q => w.heap.size < q) hkp.size (fun q hq hlt => ⟨hq, hkp.block q hlt (by have := HRB.out; omega)⟩); have r0 := hR.cells.1; have r1 := hR.cells.2.1; have r2 := hR.cells.2.2.1; have r3 := hR.cells.2.2.2; have rf0 := hR.fz 0; have rf1 := hR.fz 1; have rf2 := hR.fz 2; have rf3 := hR.fz 3))
          go_wp2
          have ho := out_ok HRB.out hKP hrd hVV
          obtain ⟨q0, q1, q2, q3⟩ := (hR.set4 (.int .i64 xk) (.bool xt) (.slice xa1 xl1 xc1) (.slice xa2 xl2 xc2)).cells
          unfold set4 at q0 q1 q2 q3 ho
          refine bodyPost_ret (v := .tuple #[.agg #[.int .i64 xk, .bool xt, .slice xa1 xl1 xc1, .slice xa2 xl2 xc2], .nilIface]) (by simp [results, Tryz.results139, go_sem, q0, q1, q2, q3]) rfl ?_
          rw [HE3.out]
          exact ho
        · have HTA := Lib.hid (fun W (h : Rd W rb s k5 n5 d) => rtake_no s k5 n5 d rb 41 h93 hs HG5.out.2.2 W h)
          have HE3 : Hid (brR s (some f) k n a = .er (missC s (skp s k5)) (skp s k5)) := Lib.hid (HE2.out.trans (if_neg h93))
          obtain ⟨x0, x1, x2, x3⟩ := hX.cells
          clear h93
          go_region_held3 (fun W => W.cell? ⟨xb, 0, none⟩ = some (.int .i64 xk) ∧ W.cell? ⟨xb, 1, none⟩ = some (.bool xt) ∧ W.cell? ⟨xb, 2, none⟩ = some (.slice xa1 xl1 xc1) ∧ W.cell? ⟨xb, 3, none⟩ = some (.slice xa2 xl2 xc2))
            (first | go_keep | exact hX.cells)
            (first
            | (go_at_call 147; refine (HTA.out _ hRD).mono ?_; rintro e w' ⟨fb, rfl, hff, hkp⟩; replace hX := hX.keeps hkp hxr; replace hR := hR.keeps hkp hrr; replace hKP := hKP.trans hkp; have r0 := hR.cells.1; have r1 := hR.cells.2.1; have r2 := hR.cells.2.2.1; have r3 := hR.cells.2.2.2; have rf0 := hR.fz 0; have rf1 := hR.fz 1; have rf2 := hR.fz 2; have rf3 := hR.fz 3))
          unfold pf
          go_wp2
          have ho := out_er (s := s) (d := d) (k1 := xk) (t1 := xt) (a1 := xa1) (l1 := xl1) (c1 := xc1) (a2 := xa2) (l2 := xl2) (c2 := xc2) hR hKP hff (missC_ne s _)
          obtain ⟨q0, q1, q2, q3⟩ := (hR.set4 (.int .i64 xk) (.bool xt) (.slice xa1 xl1 xc1) (.slice xa2 xl2 xc2)).cells
          unfold set4 at q0 q1 q2 q3 ho
          refine bodyPost_ret (v := .tuple #[.agg #[.int .i64 xk, .bool xt, .slice xa1 xl1 xc1, .slice xa2 xl2 xc2], pf fb]) (by simp [results, Tryz.results139, go_sem, q0, q1, q2, q3, pf]) rfl ?_
          rw [HE3.out]
          exact ho
end Go.Proofs.YtocfcnhaecmgpaaGreatDoor
