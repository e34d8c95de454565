/-
  The document's own reader of expressions by contracts: a part and the signs behind it, as a walk.
  The document's own reader of expressions by contracts: rows and alternatives, what holds on the way.
  The document's own reader of expressions by contracts: a row.
-/
import Derived.Test.YtpccdhkghlbhkaaGreatDoorGi
import Derived.Test.YtpccdhkghlbhkaaGreatDoorGf
namespace Go.Proofs.YtpccdhkghlbhkaaGreatDoor
open Go.RowKit Go.Extern.Stop Go.Stop Go.Extern

set_option maxRecDepth 100000 in
set_option maxHeartbeats 8000000 in
theorem qsigned_any (s : ByteArray) (sub : Option (Nat → Nat → RO Rx)) (deep k0 n0 b : Nat) (hs : s.size ≤ 100000) (hk : k0 ≤ s.size) (hn : n0 ≤ 100) (hsub : QSub s sub deep) (w : World) (h : Qn w b s (skp s k0) n0 0) :
    Calls Tryz.prog 64 #[.pointer (some ⟨b, 0, none⟩), .int .i64 deep] w (QxOut w b s (ptR s sub k0 n0)) := by
  have hq1 := quad_new w 33 (.int .i64 0) (.bool false) (.slice none 0 0) (.slice none 0 0)
  have hb1 := sbelow_new w (.cells #[.int .i64 0, .bool false, .slice none 0 0, .slice none 0 0] 33)
  have hr1 := h.step hb1
  have hz1 : (w.alloc (.cells #[.int .i64 0, .bool false, .slice none 0 0, .slice none 0 0] 33)).heap.size = w.heap.size + 1 := World.size_alloc _ _
  have HRB := Lib.hid h.lt
  obtain ⟨tot, HTOT⟩ : ∃ tot, Hid (ptR s sub k0 n0 = tot) := ⟨_, Lib.hid rfl⟩
  rw [HTOT.out]
  generalize hw1 : w.alloc (.cells #[.int .i64 0, .bool false, .slice none 0 0, .slice none 0 0] 33) = w1 at *
  have HBS := Lib.hid (qpart_any s sub deep k0 n0 b hs hk hn hsub w1 hr1)
  have HQ1 := Lib.hid hq1
  have HB1 := Lib.hid hb1
  have HZ1 := Lib.hid hz1
  have HSY := Lib.hid (fun (p n : Nat) (hp : p ≤ s.size) W (h : Qn W b s p n 0) => qskip_yes s p n b hs hp W h)
  have HSG := Lib.hid (fun (p n : Nat) (hp : p ≤ s.size) W (h : Qn W b s p n 0) => qsgn s p n b hp W h)
  have HCO := Lib.hid (fun (p n : Nat) (hn : n ≤ 100) W (h : Qn W b s p n 0) => qcount_out s p n b p hn W h)
  have HSZ := Lib.hid hs
  clear hq1 hb1 hr1 h hz1 hsub hs hk hn
  go_enter Tryz.func64, Tryz.ntmps64
  go_wp2_with fail
  refine HBS.out.mono ?_
  intro e w2 hout
  clear hw1
  have HPT : Hid ((match bsR s sub k0 n0 with | .er c a => RO.er c a | .ok k' n' x => sgR s 101 k' n' x) = tot) := Lib.hid (by rw [← HTOT.out]; unfold ptR; rfl)
  generalize bsR s sub k0 n0 = R at *
  clear HTOT HBS
  obtain ⟨xk, xt, xa1, xl1, xc1, xa2, xl2, xc2, rfl, HREL⟩ : ∃ (xk : Int) (xt : Bool) (xa1 : Option Addr) (xl1 xc1 : Nat) (xa2 : Option Addr) (xl2 xc2 : Nat), e = .returned (.agg #[.int .i64 xk, .bool xt, .slice xa1 xl1 xc1, .slice xa2 xl2 xc2]) ∧
      Hid (w.heap.size < w2.heap.size ∧ ∃ g, g ≤ 102 ∧ QgRel w b s w2.heap.size tot g (w2.alloc (.cells #[.int .i64 xk, .bool xt, .slice xa1 xl1 xc1, .slice xa2 xl2 xc2] 33))) := by
    rcases R with ⟨c, p⟩ | ⟨k', n', x⟩
    · obtain ⟨n', xk, xt, xa1, xl1, xc1, xa2, xl2, xc2, rfl, hr, hc, hp, hkp⟩ := hout
      refine ⟨xk, xt, xa1, xl1, xc1, xa2, xl2, xc2, rfl, Lib.hid ⟨?_, 0, by omega, .inr ⟨c, p, n', xk, xt, xa1, xl1, xc1, xa2, xl2, xc2, rfl, HPT.out.symm, hc, hp, ?_⟩⟩⟩
      · have := hkp.size; have := HZ1.out; omega
      · have bn := sbelow_new w2 (.cells #[.int .i64 xk, .bool xt, .slice xa1 xl1 xc1, .slice xa2 xl2 xc2] 33)
        exact ⟨hr.step bn, (HQ1.out.keeps hkp (by have := HRB.out; omega)).step bn, quad_new w2 _ _ _ _ _, ((Keeps.of_below HB1.out).trans hkp).next bn, ⟨HRB.out, by have := hkp.size; have := HZ1.out; omega⟩⟩
    · obtain ⟨xk, xt, xa1, xl1, xc1, xa2, xl2, xc2, rfl, hv, hr, hkl, hnl, hkp⟩ := hout
      refine ⟨xk, xt, xa1, xl1, xc1, xa2, xl2, xc2, rfl, Lib.hid ⟨?_, 102, Nat.le_refl _, .inl ⟨101, k', n', x, xk, xt, xa1, xl1, xc1, xa2, xl2, xc2, rfl, by omega, hnl, hkl, HPT.out, ?_⟩⟩⟩
      · have := hkp.size; have := HZ1.out; omega
      · have bn := sbelow_new w2 (.cells #[.int .i64 xk, .bool xt, .slice xa1 xl1 xc1, .slice xa2 xl2 xc2] 33)
        have hz2 : w.heap.size + 1 ≤ w2.heap.size := by have := hkp.size; have := HZ1.out; omega
        exact ⟨⟨hr.step bn, (HQ1.out.keeps hkp (by have := HRB.out; omega)).step bn, quad_new w2 _ _ _ _ _, ((Keeps.of_below HB1.out).trans hkp).next bn, ⟨HRB.out, by omega⟩⟩,
          hv.move (P' := fun q => w.heap.size < q ∧ q ≠ w2.heap.size) bn.size (fun q hq hlt => ⟨⟨by have := HZ1.out; omega, by omega⟩, bn.block q hlt⟩)⟩
  clear hout HPT HQ1 HB1 HZ1
  have HORD : Hid (b < w.heap.size ∧ w.heap.size < w2.heap.size) := Lib.hid ⟨HRB.out, HREL.out.1⟩
  obtain ⟨g, hg, hrel⟩ := HREL.out.2
  have HR0 := Lib.hid hrel
  clear hrel HREL
  go_wp2_with fail
  generalize w2.alloc (.cells #[.int .i64 xk, .bool xt, .slice xa1 xl1 xc1, .slice xa2 xl2 xc2] 33) = w3 at *
  generalize w2.heap.size = xb at *
  clear hg
  go_loopg [6, 7] g (fun g v6 v7 wr => QgRel w b s xb tot g wr)
  case atStart => exact HR0.out
  case round =>
    clear HR0
    rcases hrel with ⟨f, k, n, x, xk, xt, xa1, xl1, xc1, xa2, xl2, xc2, hg, hf, hnn, hkl, htot, hst⟩ | ⟨c, p, n, xk, xt, xa1, xl1, xc1, xa2, xl2, xc2, hg, htot, hc, hp, hst⟩
    · obtain ⟨f, rfl⟩ : ∃ f', f = f' + 1 := ⟨f - 1, by omega⟩
      have HTT := Lib.hid htot
      have HG := Lib.hid hg
      have HF := Lib.hid hf
      have HN := Lib.hid hnn
      have HK := Lib.hid hkl
      have HP1 := Lib.hid hst
      have HJ := Lib.hid (skp_le hkl)
      obtain ⟨c0, c1, c2, c3⟩ := hst.st.rd.cells
      clear htot hg hf hst hnn hkl
      go_wp2_with fail
      refine (HSY.out _ _ HK.out _ HP1.out.st.rd).mono ?_
      rintro e w4 ⟨rfl, hr4, hk4⟩
      have HP4 := Lib.hid (HP1.out.go hr4 hk4)
      clear hr4 hk4 HP1 c0 c1 c2 c3
      go_wp2_with fail
      refine (HSG.out _ _ HJ.out.2 _ HP4.out.st.rd).mono ?_
      rintro e w5 ⟨rfl, b5⟩
      have HP5 := Lib.hid (HP4.out.step b5)
      clear b5 HP4
      rcases sgW_cases (byteI s (skp s k)) with ⟨hsg, hsz⟩ | ⟨i, hi, hne, hsg, hsz⟩
      · have HS1 : Hid (RO.ok k n x = tot) := Lib.hid (by rw [← HTT.out, sgR, hsg])
        rw [hsz]
        clear hsg hsz HTT
        obtain ⟨c0, c1, c2, c3⟩ := HP5.out.st.rd.cells
        have f1 := HP5.out.st.rd.fz 1
        have h6 : QgSt w b s k n xb x xk xt xa1 xl1 xc1 xa2 xl2 xc2 (w5.setCell ⟨b, 1, none⟩ (.int .i64 (k : Int))) := HP5.out.go (HP5.out.st.rd.at1 k) (keepsQ w5 b 1 _)
        have H6 := Lib.hid h6
        clear h6 HP5
        go_upto_region 8 with (fail)
        generalize w5.setCell ⟨b, 1, none⟩ (.int .i64 (k : Int)) = w6 at *
        clear c0 c1 c2 c3 f1
        obtain ⟨x0, x1, x2, x3⟩ := H6.out.st.x.cells
        have r0 := H6.out.st.res.cells.1
        have r1 := H6.out.st.res.cells.2.1
        have r2 := H6.out.st.res.cells.2.2.1
        have r3 := H6.out.st.res.cells.2.2.2
        have rf0 := H6.out.st.res.fz 0
        have rf1 := H6.out.st.res.fz 1
        have rf2 := H6.out.st.res.fz 2
        have rf3 := H6.out.st.res.fz 3
        obtain ⟨q0, q1, q2, q3⟩ := (H6.out.st.res.set4 (.int .i64 xk) (.bool xt) (.slice xa1 xl1 xc1) (.slice xa2 xl2 xc2)).cells
        have hout := qp_ok H6.out.st (H6.out.val.weak (fun q hq => hq.1)) HK.out HN.out
        unfold set4 at q0 q1 q2 q3 hout
        go_wp2_with fail
        refine bodyPost_ret (v := .agg #[.int .i64 xk, .bool xt, .slice xa1 xl1 xc1, .slice xa2 xl2 xc2]) (by simp [results, Tryz.results64, go_sem, q0, q1, q2, q3]) rfl ?_
        rw [← HS1.out]
        exact hout
      · have HS1 : Hid ((if 100 < n + 1 then RO.er 6 (skp s k) else sgR s f (skp s k + 1) (n + 1) (.mk (4 + i : Nat) false [] [x])) = tot) := Lib.hid (by rw [← HTT.out, sgR, hsg])
        rw [hsz]
        have hlt := byteI_in (show byteI s (skp s k) = byteI s (skp s k) from rfl) hne
        have HLT := Lib.hid hlt
        have hjb : ((skp s k : Nat) : Int) ≤ 100000 := by have := HSZ.out; omega
        have hi0 : ¬ ((i : Int) < 0) := by omega
        have hi2 : (i : Int) ≤ 2 := by omega
        clear hsg hsz HTT hlt hi hne
        generalize skp s k = j at *
        obtain ⟨c0, c1, c2, c3⟩ := HP5.out.st.rd.cells
        go_wp2_with fail
        refine (HCO.out _ _ HN.out _ HP5.out.st.rd).mono ?_
        rintro e w6 ⟨rfl, hr6, hk6⟩
        by_cases hb : 100 < n + 1
        · rw [if_pos hb, if_pos hb] at hr6
          have HS2 : Hid (RO.er 6 j = tot) := Lib.hid (by rw [← HS1.out, if_pos hb])
          have H6 := Lib.hid (HP5.out.st.go hr6 hk6)
          clear hr6 hk6 HP5 HS1 hb c0 c1 c2 c3
          obtain ⟨c0, c1, c2, c3⟩ := H6.out.rd.cells
          obtain ⟨x0, x1, x2, x3⟩ := H6.out.x.cells
          have bn := sbelow_new w6 (.cells #[.int .i64 xk, .bool xt, .slice xa1 xl1 xc1, .slice xa2 xl2 xc2] 33)
          have HX5 := Lib.hid (H6.out.x.step bn)
          obtain ⟨y0, y1, y2, y3⟩ := HX5.out.cells
          have yf0 := HX5.out.fz 0
          have yf1 := HX5.out.fz 1
          have yf2 := HX5.out.fz 2
          have yf3 := HX5.out.fz 3
          clear bn
          have h7 := H6.out.wrap (4 + (i : Int))
          have H7 := Lib.hid h7
          clear h7
          unfold set4 at H7
          go_wp2_with fail
          go_roundg 0
          case measure => have := HG.out; omega
          case rel => exact .inr ⟨6, j, n + 1, _, _, _, _, _, _, _, _, rfl, HS2.out.symm, by decide, HJ.out.2, H7.out⟩
        · rw [if_neg hb, if_neg hb] at hr6
          have HS2 : Hid (sgR s f (j + 1) (n + 1) (.mk (4 + i : Nat) false [] [x]) = tot) := Lib.hid (by rw [← HS1.out, if_neg hb])
          have H6 := Lib.hid (HP5.out.go hr6 hk6)
          have HNN : Hid (n + 1 ≤ 100) := Lib.hid (by omega)
          clear hr6 hk6 HP5 HS1 hb c0 c1 c2 c3
          obtain ⟨c0, c1, c2, c3⟩ := H6.out.st.rd.cells
          have f1 := H6.out.st.rd.fz 1
          have h7 : QgSt w b s (j + 1) (n + 1) xb x xk xt xa1 xl1 xc1 xa2 xl2 xc2 (w6.setCell ⟨b, 1, none⟩ (.int .i64 ((j : Int) + 1))) := H6.out.go (H6.out.st.rd.at1 (j + 1)) (keepsQ w6 b 1 _)
          have H7 := Lib.hid h7
          clear h7 H6
          go_upto_region 12 with (fail)
          generalize w6.setCell ⟨b, 1, none⟩ (.int .i64 ((j : Int) + 1)) = w7 at *
          clear c0 c1 c2 c3 f1
          obtain ⟨x0, x1, x2, x3⟩ := H7.out.st.x.cells
          have bn := sbelow_new w7 (.cells #[.int .i64 xk, .bool xt, .slice xa1 xl1 xc1, .slice xa2 xl2 xc2] 33)
          have HX5 := Lib.hid (H7.out.st.x.step bn)
          obtain ⟨y0, y1, y2, y3⟩ := HX5.out.cells
          have yf0 := HX5.out.fz 0
          have yf1 := HX5.out.fz 1
          have yf2 := HX5.out.fz 2
          have yf3 := HX5.out.fz 3
          clear bn
          have h8 := H7.out.wrap (4 + (i : Int))
          have H8 := Lib.hid h8
          clear h8
          unfold set4 at H8
          go_wp2_with fail
          go_roundg (f + 1)
          case measure => have := HG.out; omega
          case rel => exact .inl ⟨f, j + 1, n + 1, _, _, _, _, _, _, _, _, _, rfl, by have := HF.out; omega, HNN.out, by have := HLT.out; omega, HS2.out, H8.out⟩
    · have HTT := Lib.hid htot
      have HC := Lib.hid hc
      have HP := Lib.hid hp
      have H1 := Lib.hid hst
      have hcz : (c == 0) = false := beq_eq_false_iff_ne.2 hc
      have c3 := hst.rd.cells.2.2.2
      obtain ⟨x0, x1, x2, x3⟩ := H1.out.x.cells
      have r0 := H1.out.res.cells.1
      have r1 := H1.out.res.cells.2.1
      have r2 := H1.out.res.cells.2.2.1
      have r3 := H1.out.res.cells.2.2.2
      have rf0 := H1.out.res.fz 0
      have rf1 := H1.out.res.fz 1
      have rf2 := H1.out.res.fz 2
      have rf3 := H1.out.res.fz 3
      obtain ⟨q0, q1, q2, q3⟩ := (H1.out.res.set4 (.int .i64 xk) (.bool xt) (.slice xa1 xl1 xc1) (.slice xa2 xl2 xc2)).cells
      have hout := qp_er (k := xk) (t := xt) (a1 := xa1) (l1 := xl1) (e1 := xc1) (a2 := xa2) (l2 := xl2) (e2 := xc2) H1.out HC.out HP.out
      unfold set4 at q0 q1 q2 q3 hout
      clear htot hc hp hst hg
      go_wp2_with fail
      refine bodyPost_ret (v := .agg #[.int .i64 xk, .bool xt, .slice xa1 xl1 xc1, .slice xa2 xl2 xc2]) (by simp [results, Tryz.results64, go_sem, q0, q1, q2, q3]) rfl ?_
      rw [HTT.out]
      exact hout
end Go.Proofs.YtpccdhkghlbhkaaGreatDoor

namespace Go.Proofs.YtpccdhkghlbhkaaGreatDoor
open Go.RowKit Go.Extern.Stop Go.Stop Go.Extern

/-- What is read from a place on, where some have been read. -/
def jnT (s : ByteArray) (kind : Int) (nx : Nat → Nat → RO Rx) (more : Nat → Option Nat) (f k n : Nat) (l : List Rx) : RO Rx :=
  match more k with
  | none => match l with
    | [x] => .ok k n x
    | _ => .ok k n (.mk kind false [] l)
  | some k2 => if l.length = 1 then (if 100 < n + 1 then .er 6 (skp s k2) else jnL kind nx more f k2 (n + 1) l) else jnL kind nx more f k2 n l
theorem jnR_jnT (s : ByteArray) (kind : Int) (nx : Nat → Nat → RO Rx) (more : Nat → Option Nat) (k n : Nat) :
    jnR s kind nx more k n = (match nx k n with | .er c a => RO.er c a | .ok k1 n1 x => jnT s kind nx more 101 k1 n1 [x]) := by
  unfold jnR
  cases nx k n with
  | er c a => rfl
  | ok k1 n1 x =>
    unfold jnT
    dsimp only
    cases more k1 with
    | none => rfl
    | some k2 => rfl
theorem jnL_er {kind : Int} {nx : Nat → Nat → RO Rx} {more : Nat → Option Nat} {f k n : Nat} {l : List Rx} {c : Int} {p : Nat} (h : nx k n = .er c p) : jnL kind nx more (f + 1) k n l = .er c p := by rw [jnL, h]
theorem jnL_jnT {s : ByteArray} {kind : Int} {nx : Nat → Nat → RO Rx} {more : Nat → Option Nat} {f k n k1 n1 : Nat} {l : List Rx} {x : Rx} (hl : 1 ≤ l.length) (h : nx k n = .ok k1 n1 x) : jnL kind nx more (f + 1) k n l = jnT s kind nx more f k1 n1 (l ++ [x]) := by
  rw [jnL, h]
  unfold jnT
  dsimp only
  have hne : ¬ (l ++ [x]).length = 1 := by rw [List.length_append, List.length_singleton]; omega
  cases more k1 with
  | some k2 => exact (if_neg hne).symm
  | none =>
    dsimp only
    split
    · rename_i y hy
      rw [hy] at hne
      exact absurd rfl hne
    · rfl
theorem jnT_one {s : ByteArray} {kind : Int} {nx : Nat → Nat → RO Rx} {more : Nat → Option Nat} {f k n : Nat} {x : Rx} (h : more k = none) : jnT s kind nx more f k n [x] = .ok k n x := by unfold jnT; rw [h]
theorem jnT_end {s : ByteArray} {kind : Int} {nx : Nat → Nat → RO Rx} {more : Nat → Option Nat} {f k n : Nat} {l : List Rx} (hl : ¬ l.length = 1) (h : more k = none) : jnT s kind nx more f k n l = .ok k n (.mk kind false [] l) := by
  unfold jnT
  rw [h]
  dsimp only
  split
  · exact absurd rfl hl
  · rfl
theorem jnT_over {s : ByteArray} {kind : Int} {nx : Nat → Nat → RO Rx} {more : Nat → Option Nat} {f k n k2 : Nat} {l : List Rx} (hl : l.length = 1) (hn : 100 < n + 1) (h : more k = some k2) : jnT s kind nx more f k n l = .er 6 (skp s k2) := by
  unfold jnT
  rw [h]
  dsimp only
  rw [if_pos hl, if_pos hn]
theorem jnT_first {s : ByteArray} {kind : Int} {nx : Nat → Nat → RO Rx} {more : Nat → Option Nat} {f k n k2 : Nat} {l : List Rx} (hl : l.length = 1) (hn : ¬ 100 < n + 1) (h : more k = some k2) : jnT s kind nx more f k n l = jnL kind nx more f k2 (n + 1) l := by
  unfold jnT
  rw [h]
  dsimp only
  rw [if_pos hl, if_neg hn]
theorem jnT_more {s : ByteArray} {kind : Int} {nx : Nat → Nat → RO Rx} {more : Nat → Option Nat} {f k n k2 : Nat} {l : List Rx} (hl : ¬ l.length = 1) (h : more k = some k2) : jnT s kind nx more f k n l = jnL kind nx more f k2 n l := by
  unfold jnT
  rw [h]
  dsimp only
  rw [if_neg hl]

/-- The cells of one that is read first. -/
def QHd (xs : List Value) : Prop := ∃ (k : Int) (t : Bool) (a1 : Option Addr) (l1 c1 : Nat) (a2 : Option Addr) (l2 c2 : Nat) (rest : List Value), xs = .int .i64 k :: .bool t :: .slice a1 l1 c1 :: .slice a2 l2 c2 :: rest
theorem QHd.app {xs ys : List Value} (h : QHd xs) : QHd (xs ++ ys) := by
  obtain ⟨k, t, a1, l1, c1, a2, l2, c2, rest, rfl⟩ := h
  exact ⟨k, t, a1, l1, c1, a2, l2, c2, rest ++ ys, rfl⟩
/-- On the way through a row: the reader, the result's block, the row of the call's own. -/
structure QjSt (w0 : World) (b : Nat) (s : ByteArray) (k n : Nat) (c : Int) (m : Nat) (v : Value) (xs : List Value) (w : World) : Prop where
  rd : Qn w b s k n c
  res : QuadAt 33 w w0.heap.size (.int .i64 0) (.bool false) (.slice none 0 0) (.slice none 0 0)
  own : w.ownsRow (w0.heap.size + 1) 33 4 v m xs
  hd : QHd xs
  pos : 1 ≤ m
  keep : Keeps (· = b) w0 w
  ord : b < w0.heap.size
section
variable {w0 w w' : World} {b : Nat} {s : ByteArray} {k n k' n' m : Nat} {c c' : Int} {v : Value} {xs : List Value} {l : List Rx}
theorem QjSt.go (h : QjSt w0 b s k n c m v xs w) (hr : Qn w' b s k' n' c') (hk : Keeps (· = b) w w') : QjSt w0 b s k' n' c' m v xs w' :=
  ⟨hr, h.res.keeps hk (by have := h.ord; omega), ownX_keeps h.own hk (fun q e => by have := (h.own.lt q e).1; have := h.ord; omega), h.hd, h.pos, h.keep.trans hk, h.ord⟩
theorem QjSt.step (h : QjSt w0 b s k n c m v xs w) (hb : Below w.heap.size w w') : QjSt w0 b s k n c m v xs w' := h.go (h.rd.step hb) (.of_below hb)
/-- One more. -/
theorem QjSt.push {w1 : World} {g cap : Nat} {cs : List Value} (h : QjSt w0 b s k n c m v xs w)
    (hown : w1.ownsRow (w0.heap.size + 1) 33 4 (.slice (some ⟨g, 0, none⟩) (m + 1) cap) (m + 1) (xs ++ cs)) (hgrow : w.grownBy w1 v.ownBlock) :
    QjSt w0 b s k n c (m + 1) (.slice (some ⟨g, 0, none⟩) (m + 1) cap) (xs ++ cs) w1 := by
  have ho := h.ord
  have hne : ∀ q, q ≤ w0.heap.size → v.ownBlock ≠ some q := fun q hq e => by have := (h.own.lt q e).1; omega
  have hk : Keeps (fun q => v.ownBlock = some q) w w1 := Keeps.of_grown hgrow (fun q e => e)
  have hk2 : Keeps (fun q => q = b ∨ w0.heap.size ≤ q) w0 w1 := (h.keep.mono (fun q e => .inl e)).trans (hk.mono (fun q e => .inr (by have := (h.own.lt q e).1; omega)))
  exact ⟨QuadAt.grown h.rd hgrow (hne _ (by omega)), h.res.grown hgrow (hne _ (Nat.le_refl _)), hown, h.hd.app, by omega, ⟨hk2.os, hk2.tape, hk2.output, hk2.size, fun q hq hn => hk2.block q hq (fun e => e.elim hn (fun e => by omega))⟩, ho⟩
/-- And what is read is there. -/
structure QkSt (w0 : World) (b : Nat) (s : ByteArray) (k n : Nat) (l : List Rx) (v : Value) (xs : List Value) (w : World) : Prop where
  st : QjSt w0 b s k n 0 l.length v xs w
  vals : ExsC (fun q => w0.heap.size < q ∧ v.ownBlock ≠ some q) w xs l
theorem QkSt.go (h : QkSt w0 b s k n l v xs w) (hr : Qn w' b s k' n' 0) (hk : Keeps (· = b) w w') : QkSt w0 b s k' n' l v xs w' :=
  ⟨h.st.go hr hk, h.vals.move hk.size (fun q hq hlt => ⟨hq, hk.block q hlt (by have := h.st.ord; omega)⟩)⟩
theorem QkSt.step (h : QkSt w0 b s k n l v xs w) (hb : Below w.heap.size w w') : QkSt w0 b s k n l v xs w' := h.go (h.st.rd.step hb) (.of_below hb)
theorem QkSt.push {w1 : World} {g cap : Nat} {cs : List Value} {x : Rx} (h : QkSt w0 b s k n l v xs w) (hx : ExC (fun q => w0.heap.size < q ∧ v.ownBlock ≠ some q ∧ q < w.heap.size) w cs x)
    (hown : w1.ownsRow (w0.heap.size + 1) 33 4 (.slice (some ⟨g, 0, none⟩) (l.length + 1) cap) (l.length + 1) (xs ++ cs)) (hgrow : w.grownBy w1 v.ownBlock) (hat : v.ownBlock = some g ∨ g = w.heap.size) :
    QkSt w0 b s k n (l ++ [x]) (.slice (some ⟨g, 0, none⟩) (l.length + 1) cap) (xs ++ cs) w1 := by
  have hmv : ∀ q, (w0.heap.size < q ∧ v.ownBlock ≠ some q) → q < w.heap.size → (w0.heap.size < q ∧ (Value.slice (some ⟨g, 0, none⟩) (l.length + 1) cap).ownBlock ≠ some q) ∧ w1.heap[q]? = w.heap[q]? := by
    rintro q ⟨h1, h2⟩ hlt
    refine ⟨⟨h1, fun e => ?_⟩, hgrow.block q hlt (fun e => h2 e.symm)⟩
    have e' : g = q := by injection e
    subst e'
    rcases hat with e | e
    · exact h2 e
    · omega
  refine ⟨?_, ExsC.snoc (hx.move hgrow.size fun q hq hlt => hmv q ⟨hq.1, hq.2.1⟩ hlt) (h.vals.move hgrow.size hmv)⟩
  rw [List.length_append, List.length_singleton]
  exact h.st.push hown hgrow
end
/-- An error is told. -/
theorem qj_er {w w' : World} {b p n m : Nat} {s : ByteArray} {c k : Int} {t : Bool} {a1 : Option Addr} {l1 e1 : Nat} {a2 : Option Addr} {l2 e2 : Nat} {v : Value} {xs : List Value} (h : QjSt w b s p n c m v xs w') (hc : c ≠ 0) (hp : p ≤ s.size) :
    QxOut w b s (.er c p) (.returned (.agg #[.int .i64 k, .bool t, .slice a1 l1 e1, .slice a2 l2 e2])) (set4 w' w.heap.size 0 (.int .i64 k) (.bool t) (.slice a1 l1 e1) (.slice a2 l2 e2)) :=
  ⟨_, _, _, _, _, _, _, _, _, rfl, h.rd.keeps (keeps_set4 w' w.heap.size 0 (.int .i64 k) (.bool t) (.slice a1 l1 e1) (.slice a2 l2 e2)) (fun e => by have := h.ord; omega), hc, hp, set4_keeps h.keep (Nat.le_refl _) _ _ _ _⟩
/-- A value is told. -/
theorem qj_ok {w w' : World} {b p n m : Nat} {s : ByteArray} {k : Int} {t : Bool} {a1 : Option Addr} {l1 e1 : Nat} {a2 : Option Addr} {l2 e2 : Nat} {v : Value} {xs : List Value} {x : Rx} (h : QjSt w b s p n 0 m v xs w') (hx : ExC (fun q => w.heap.size < q) w' [.int .i64 k, .bool t, .slice a1 l1 e1, .slice a2 l2 e2] x) (hp : p ≤ s.size) (hn : n ≤ 100) :
    QxOut w b s (.ok p n x) (.returned (.agg #[.int .i64 k, .bool t, .slice a1 l1 e1, .slice a2 l2 e2])) (set4 w' w.heap.size 0 (.int .i64 k) (.bool t) (.slice a1 l1 e1) (.slice a2 l2 e2)) := by
  have hk4 := keeps_set4 w' w.heap.size 0 (.int .i64 k) (.bool t) (.slice a1 l1 e1) (.slice a2 l2 e2)
  exact ⟨_, _, _, _, _, _, _, _, rfl, (hx.keepsD hk4 (fun q hq e => by omega)).weak (fun q hq => Nat.le_of_lt hq), h.rd.keeps hk4 (fun e => by have := h.ord; omega), hp, hn, set4_keeps h.keep (Nat.le_refl _) _ _ _ _⟩
/-- What holds at the head of the loop. -/
def QjRel (w : World) (b : Nat) (s : ByteArray) (kind : Int) (nx : Nat → Nat → RO Rx) (more : Nat → Option Nat) (tot : RO Rx) (g : Nat) (v : Value) (wr : World) : Prop :=
  (∃ (f k n : Nat) (l : List Rx) (xs : List Value), g = f + 1 ∧ 100 < n + f ∧ n ≤ 100 ∧ k ≤ s.size ∧ l.length ≤ n ∧ jnT s kind nx more f k n l = tot ∧ QkSt w b s k n l v xs wr) ∨
  (∃ (c : Int) (p n m : Nat) (xs : List Value), g = 0 ∧ tot = .er c p ∧ c ≠ 0 ∧ p ≤ s.size ∧ m ≤ 200 ∧ QjSt w b s p n c m v xs wr)
end Go.Proofs.YtpccdhkghlbhkaaGreatDoor

namespace Go.Proofs.YtpccdhkghlbhkaaGreatDoor
open Go.RowKit Go.Extern.Stop Go.Stop Go.Extern

theorem qbegins_yes (s : ByteArray) (a n b : Nat) (hs : s.size ≤ 100000) (ha : a ≤ s.size) (w : World) (h : Qn w b s a n 0) :
    Calls Tryz.prog 65 #[.pointer (some ⟨b, 0, none⟩)] w fun e w' => e = .returned (.bool (begB s (skp s a))) ∧ Below w.heap.size w w' := qbegins_any s a n b 0 hs ha w h
theorem qbegins_no (s : ByteArray) (a n b : Nat) (c : Int) (hc : c ≠ 0) (hs : s.size ≤ 100000) (ha : a ≤ s.size) (w : World) (h : Qn w b s a n c) :
    Calls Tryz.prog 65 #[.pointer (some ⟨b, 0, none⟩)] w fun e w' => e = .returned (.bool false) ∧ Below w.heap.size w w' := by
  refine (qbegins_any s a n b c hs ha w h).mono ?_
  rintro e w' ⟨rfl, hb⟩
  exact ⟨by rw [decide_eq_false hc]; rfl, hb⟩
set_option maxRecDepth 100000 in
set_option maxHeartbeats 16000000 in
theorem qrow_any (s : ByteArray) (sub : Option (Nat → Nat → RO Rx)) (deep k0 n0 b : Nat) (hs : s.size ≤ 100000) (hk : k0 ≤ s.size) (hn : n0 ≤ 100) (hsub : QSub s sub deep) (hgs : ∀ f, sub = some f → GoodR s f) (w : World) (h : Qn w b s k0 n0 0) :
    Calls Tryz.prog 45 #[.pointer (some ⟨b, 0, none⟩), .int .i64 deep] w (QxOut w b s (rwR s sub k0 n0)) := by
  obtain ⟨i0, hi, hz0, hz1, hz2⟩ := info_parts infoRExpr
  have hq1 := quad_new w 33 (.int .i64 0) (.bool false) (.slice none 0 0) (.slice none 0 0)
  have hb1 := sbelow_new w (.cells #[.int .i64 0, .bool false, .slice none 0 0, .slice none 0 0] 33)
  have hr1 := h.step hb1
  have hz1' : (w.alloc (.cells #[.int .i64 0, .bool false, .slice none 0 0, .slice none 0 0] 33)).heap.size = w.heap.size + 1 := World.size_alloc _ _
  have HRB := Lib.hid h.lt
  obtain ⟨tot, HTOT⟩ : ∃ tot, Hid (rwR s sub k0 n0 = tot) := ⟨_, Lib.hid rfl⟩
  rw [HTOT.out]
  generalize hw1 : w.alloc (.cells #[.int .i64 0, .bool false, .slice none 0 0, .slice none 0 0] 33) = w1 at *
  have HSK := Lib.hid (qskip_yes s k0 n0 b hs hk w1 hr1)
  have HSIG := Lib.hid (fun (p n : Nat) (hp : p ≤ s.size) (hn : n ≤ 100) W (h : Qn W b s (skp s p) n 0) => qsigned_any s sub deep p n b hs hp hn hsub W h)
  have HSY := Lib.hid (fun (p n : Nat) (hp : p ≤ s.size) W (h : Qn W b s p n 0) => qskip_yes s p n b hs hp W h)
  have HBY := Lib.hid (fun (p n : Nat) (hp : p ≤ s.size) W (h : Qn W b s p n 0) => qbegins_yes s p n b hs hp W h)
  have HBN := Lib.hid (fun (p n : Nat) (c : Int) (hc : c ≠ 0) (hp : p ≤ s.size) W (h : Qn W b s p n c) => qbegins_no s p n b c hc hs hp W h)
  have HCO := Lib.hid (fun (p n : Nat) (hn : n ≤ 100) W (h : Qn W b s p n 0) => qcount_out s p n b p hn W h)
  have HGD := Lib.hid (ptR_good hgs)
  have HQ1 := Lib.hid hq1
  have HB1 := Lib.hid hb1
  have HZ1 := Lib.hid hz1'
  have HK0 := Lib.hid hk
  have HN0 := Lib.hid hn
  clear hq1 hb1 hr1 h hz1' hsub hs hk hn hgs
  go_enter Tryz.func45, Tryz.ntmps45
  go_wp2_with fail
  refine HSK.out.mono ?_
  rintro e w2 ⟨rfl, hr2, hk2⟩
  have HK2 := Lib.hid hk2
  have HR2 := Lib.hid hr2
  clear hw1 HSK hr2 hk2
  go_wp2_with fail
  refine (HSIG.out k0 n0 HK0.out HN0.out _ HR2.out).mono ?_
  intro e w3 hout
  have HPT : Hid ((match ptR s sub k0 n0 with | .er c a => RO.er c a | .ok k1 n1 x => jnT s 2 (ptR s sub) (rwM s) 101 k1 n1 [x]) = tot) := Lib.hid (by rw [← HTOT.out]; unfold rwR; rw [jnR_jnT]; try (generalize ptR s sub k0 n0 = R; cases R <;> rfl))
  have HGR : Hid (∀ k' n' x, ptR s sub k0 n0 = .ok k' n' x → n0 < n') := Lib.hid (fun k' n' x e => (HGD.out k0 n0 k' n' x HK0.out e).1)
  generalize ptR s sub k0 n0 = R at *
  clear HTOT
  obtain ⟨xk, xt, xa1, xl1, xc1, xa2, xl2, xc2, rfl, HREL⟩ : ∃ (xk : Int) (xt : Bool) (xa1 : Option Addr) (xl1 xc1 : Nat) (xa2 : Option Addr) (xl2 xc2 : Nat), e = .returned (.agg #[.int .i64 xk, .bool xt, .slice xa1 xl1 xc1, .slice xa2 xl2 xc2]) ∧
      Hid (∃ g, QjRel w b s 2 (ptR s sub) (rwM s) tot g (.slice (some ⟨w3.heap.size, 0, none⟩) 1 1) (w3.alloc (.cells #[.int .i64 xk, .bool xt, .slice xa1 xl1 xc1, .slice xa2 xl2 xc2] 33))) := by
    have mk : ∀ (p n' : Nat) (c : Int) (xk : Int) (xt : Bool) (xa1 : Option Addr) (xl1 xc1 : Nat) (xa2 : Option Addr) (xl2 xc2 : Nat), Qn w3 b s p n' c → Keeps (· = b) w2 w3 → QjSt w b s p n' c 1 (.slice (some ⟨w3.heap.size, 0, none⟩) 1 1) [.int .i64 xk, .bool xt, .slice xa1 xl1 xc1, .slice xa2 xl2 xc2] (w3.alloc (.cells #[.int .i64 xk, .bool xt, .slice xa1 xl1 xc1, .slice xa2 xl2 xc2] 33)) := by
      intro p n' c xk xt xa1 xl1 xc1 xa2 xl2 xc2 hr hkp
      have bn := sbelow_new w3 (.cells #[.int .i64 xk, .bool xt, .slice xa1 xl1 xc1, .slice xa2 xl2 xc2] 33)
      have hkk := HK2.out.trans hkp
      have hsz := hkk.size
      have hsz1 := HZ1.out
      have hrb := HRB.out
      exact ⟨hr.step bn, (HQ1.out.keeps hkk (by omega)).step bn, World.ownsRow_lit w3 #[.int .i64 xk, .bool xt, .slice xa1 xl1 xc1, .slice xa2 xl2 xc2] 1 (by omega) (by unfold maxLen; omega) rfl, ⟨_, _, _, _, _, _, _, _, [], rfl⟩, Nat.le_refl _, ((Keeps.of_below HB1.out).trans hkk).next bn, hrb⟩
    rcases R with ⟨c, p⟩ | ⟨k', n', x⟩
    · obtain ⟨n', xk, xt, xa1, xl1, xc1, xa2, xl2, xc2, rfl, hr, hc, hp, hkp⟩ := hout
      exact ⟨xk, xt, xa1, xl1, xc1, xa2, xl2, xc2, rfl, Lib.hid ⟨0, .inr ⟨c, p, n', 1, _, rfl, HPT.out.symm, hc, hp, by omega, mk p n' c _ _ _ _ _ _ _ _ hr hkp⟩⟩⟩
    · obtain ⟨xk, xt, xa1, xl1, xc1, xa2, xl2, xc2, rfl, hv, hr, hkl, hnl, hkp⟩ := hout
      refine ⟨xk, xt, xa1, xl1, xc1, xa2, xl2, xc2, rfl, Lib.hid ⟨102, .inl ⟨101, k', n', [x], _, rfl, by omega, hnl, hkl, by have := HGR.out _ _ _ rfl; simp; omega, HPT.out, mk k' n' 0 _ _ _ _ _ _ _ _ hr hkp, ?_⟩⟩⟩
      have bn := sbelow_new w3 (.cells #[.int .i64 xk, .bool xt, .slice xa1 xl1 xc1, .slice xa2 xl2 xc2] 33)
      have hsz := HK2.out.size
      have hsz2 := hkp.size
      have hsz1 := HZ1.out
      unfold ExsC
      exact ⟨_, [], by simp, hv.move (P' := fun q => w.heap.size < q ∧ (Value.slice (some ⟨w3.heap.size, 0, none⟩) 1 1).ownBlock ≠ some q) bn.size (fun q hq hlt => ⟨⟨by omega, fun e => by injection e with e; have e' : w3.heap.size = q := e; omega⟩, bn.block q hlt⟩), by unfold ExsC; rfl⟩
  clear hout HPT HGR HQ1 HB1 HZ1 HK2 HR2
  obtain ⟨g, hrel⟩ := HREL.out
  have HR0 := Lib.hid hrel
  clear hrel HREL
  go_wp2_with fail
  generalize w3.alloc (.cells #[.int .i64 xk, .bool xt, .slice xa1 xl1 xc1, .slice xa2 xl2 xc2] 33) = w4 at *
  generalize w3.heap.size = lb at *
  go_loopg [5] g (fun g v wr => QjRel w b s 2 (ptR s sub) (rwM s) tot g v wr)
  case atStart => exact HR0.out
  case round =>
    clear HR0
    rcases hrel with ⟨f, k, n, l, xs, hg, hf, hnn, hkl, hll, htot, hst⟩ | ⟨c, p, n, m, xs, hg, htot, hc, hp, hm, hst⟩
    · obtain ⟨f, rfl⟩ : ∃ f', f = f' + 1 := ⟨f - 1, by omega⟩
      obtain ⟨gb, cap, hv, -, -⟩ := hst.st.own.form hst.st.pos
      have HTT := Lib.hid htot
      have HG := Lib.hid hg
      have HF := Lib.hid hf
      have HN := Lib.hid hnn
      have HK := Lib.hid hkl
      have HLL := Lib.hid hll
      have HL1 := Lib.hid hst.st.pos
      have HLB : Hid (l.length ≤ 100) := Lib.hid (by omega)
      obtain ⟨bb, hbb⟩ : ∃ bb, begB s (skp s k) = bb := ⟨_, rfl⟩
      have HM : Hid (rwM s k = if bb then some k else none) := Lib.hid (by unfold rwM; rw [hbb])
      have HBG := Lib.hid (HBY.out k n hkl)
      rw [hbb] at HBG
      clear htot hg hf hnn hkl hll hbb
      by_cases hl : l.length = 1
      · have hv' : u5 = .slice (some ⟨gb, 0, none⟩) 1 cap := by rw [hv, hl]
        subst hv'
        have H1 := Lib.hid hst
        have HLE := Lib.hid hl
        clear hv hst hl
        go_wp2_with fail
        refine (HBG.out _ H1.out.st.rd).mono ?_
        rintro e w5 ⟨rfl, b5⟩
        have H5 := Lib.hid (H1.out.step b5)
        clear b5 H1 HBG
        cases bb with
        | true =>
          have HM1 : Hid (rwM s k = some k) := HM
          go_wp2_with fail
          refine (HSY.out _ _ HK.out _ H5.out.st.rd).mono ?_
          rintro e w6 ⟨rfl, hr6, hk6⟩
          have H6 := Lib.hid (H5.out.go hr6 hk6)
          clear hr6 hk6 H5 HM
          obtain ⟨c0, c1, c2, c3⟩ := H6.out.st.rd.cells
          go_wp2_with fail
          refine (HCO.out _ _ HN.out _ H6.out.st.rd).mono ?_
          rintro e w7 ⟨rfl, hr7, hk7⟩
          clear c0 c1 c2 c3
          by_cases hb : 100 < n + 1
          · rw [if_pos hb, if_pos hb] at hr7
            have HE := Lib.hid (HTT.out.symm.trans (jnT_over HLE.out hb HM1.out))
            have H7 := Lib.hid (H6.out.st.go hr7 hk7)
            have HJ := Lib.hid (skp_le HK.out).2
            clear hr7 hk7 H6 hb
            have c3 := H7.out.rd.cells.2.2.2
            go_wp2_with fail
            go_roundg 0
            case measure => have := HG.out; omega
            case rel => exact .inr ⟨6, skp s k, n + 1, _, xs, rfl, HE.out, by decide, HJ.out, by have := HLB.out; omega, H7.out⟩
          · rw [if_neg hb, if_neg hb] at hr7
            have HTL := Lib.hid ((jnT_first HLE.out hb HM1.out).symm.trans HTT.out)
            have H7 := Lib.hid (H6.out.go hr7 hk7)
            have HN7 : Hid (n + 1 ≤ 100) := Lib.hid (by omega)
            have HLN : Hid (l.length ≤ n + 1) := Lib.hid (by have := HLL.out; omega)
            clear hr7 hk7 H6 hb
            have c3 := H7.out.st.rd.cells.2.2.2
            go_wp2_with fail
            refine (HSIG.out k (n + 1) HK.out HN7.out _ H7.out.st.rd).mono ?_
            intro e w8 hout
            obtain ⟨R, HR⟩ : ∃ R, Hid (ptR s sub k (n + 1) = R) := ⟨_, Lib.hid rfl⟩
            rw [HR.out] at hout
            have hwr : w.heap.size < w7.heap.size := H7.out.st.res.lt
            have HVL := Lib.hid H7.out.st.own.lt
            rcases R with ⟨c, p⟩ | ⟨k', n', y⟩
            · obtain ⟨n', yk, yt, ya1, yl1, yc1, ya2, yl2, yc2, rfl, hr8, hc8, hp8, hk8⟩ := hout
              have HE := Lib.hid (HTL.out.symm.trans (jnL_er HR.out))
              have bn := sbelow_new w8 (.cells #[.int .i64 yk, .bool yt, .slice ya1 yl1 yc1, .slice ya2 yl2 yc2] 33)
              have h9 := (H7.out.st.go hr8 hk8).step bn
              have hN9 := heap_alloc_new w8 (.cells #[.int .i64 yk, .bool yt, .slice ya1 yl1 yc1, .slice ya2 yl2 yc2] 33)
              have hown9 := h9.own
              have H9 := Lib.hid h9
              have HC8 := Lib.hid hc8
              have HP8 := Lib.hid hp8
              have hz9 : w.heap.size + 1 ≤ (w8.alloc (.cells #[.int .i64 yk, .bool yt, .slice ya1 yl1 yc1, .slice ya2 yl2 yc2] 33)).heap.size := by have := hk8.size; rw [World.size_alloc]; omega
              have hne9 : (Value.slice (some ⟨gb, 0, none⟩) 1 cap).ownBlock ≠ some w8.heap.size := fun e => by have := (HVL.out _ e).2; have := hk8.size; omega
              clear hr8 hc8 hp8 hk8 bn h9 H7 hwr c3
              go_wp2_with (at_builtin; refine wpList_append_lies _ rfl _ _ 31 rfl (w.heap.size + 1) 33 i0 (.agg #[.int .i64 0, .bool false, .slice none 0 0, .slice none 0 0]) 4 64 Tryz.underlying31 hi hz0 hz1 hz2 rfl (by decide) _ _ _ rfl hown9 ⟨w8.heap.size, 0, none⟩ 1 1 [.int .i64 yk, .bool yt, .slice ya1 yl1 yc1, .slice ya2 yl2 yc2] rfl rfl (World.news_of_block hN9) ?onesqa (by decide) ?lenqa ?bytesqa hz9 _ rfl ?mainqa)
              case onesqa => intro y hy; simp only [List.mem_cons, List.not_mem_nil, or_false] at hy; rcases hy with rfl | rfl | rfl | rfl <;> rfl
              case lenqa => have := HLB.out; unfold maxLen; omega
              case bytesqa => have := HLB.out; omega
              intro g cap w11 hown11 hgrow11 hat11 hlt11
              have H11 := Lib.hid (H9.out.push hown11 hgrow11)
              clear hown11 hgrow11 hat11 hlt11 hown9 hN9 hz9 H9
              go_wp2_with fail
              go_roundg 0
              case measure => have := HG.out; omega
              case rel => exact .inr ⟨c, p, n', _, _, rfl, HE.out, HC8.out, HP8.out, by have := HLB.out; omega, H11.out⟩
            · obtain ⟨yk, yt, ya1, yl1, yc1, ya2, yl2, yc2, rfl, hv8, hr8, hkl8, hnl8, hk8⟩ := hout
              have HE := Lib.hid ((jnL_jnT (s := s) HL1.out HR.out).symm.trans HTL.out)
              have HGR := Lib.hid (HGD.out _ _ _ _ _ HK.out HR.out)
              have bn := sbelow_new w8 (.cells #[.int .i64 yk, .bool yt, .slice ya1 yl1 yc1, .slice ya2 yl2 yc2] 33)
              have h9 := (H7.out.go hr8 hk8).step bn
              have hN9 := heap_alloc_new w8 (.cells #[.int .i64 yk, .bool yt, .slice ya1 yl1 yc1, .slice ya2 yl2 yc2] 33)
              have hw8 := hk8.size
              have hv9 : ExC (fun q => w.heap.size < q ∧ (Value.slice (some ⟨gb, 0, none⟩) 1 cap).ownBlock ≠ some q ∧ q < (w8.alloc (.cells #[.int .i64 yk, .bool yt, .slice ya1 yl1 yc1, .slice ya2 yl2 yc2] 33)).heap.size) (w8.alloc (.cells #[.int .i64 yk, .bool yt, .slice ya1 yl1 yc1, .slice ya2 yl2 yc2] 33)) [.int .i64 yk, .bool yt, .slice ya1 yl1 yc1, .slice ya2 yl2 yc2] y :=
                (hv8.step bn).move (Nat.le_refl _) (fun q hq hlt => ⟨⟨by omega, fun e => by have := (HVL.out q e).2; omega, hlt⟩, rfl⟩)
              have hown9 := h9.st.own
              have H9 := Lib.hid h9
              have HV9 := Lib.hid hv9
              have hz9 : w.heap.size + 1 ≤ (w8.alloc (.cells #[.int .i64 yk, .bool yt, .slice ya1 yl1 yc1, .slice ya2 yl2 yc2] 33)).heap.size := by rw [World.size_alloc]; omega
              have hne9 : (Value.slice (some ⟨gb, 0, none⟩) 1 cap).ownBlock ≠ some w8.heap.size := fun e => by have := (HVL.out _ e).2; omega
              clear hr8 hkl8 hnl8 hk8 hv8 bn h9 H7 hwr hv9 hw8 c3
              go_wp2_with (at_builtin; refine wpList_append_lies _ rfl _ _ 31 rfl (w.heap.size + 1) 33 i0 (.agg #[.int .i64 0, .bool false, .slice none 0 0, .slice none 0 0]) 4 64 Tryz.underlying31 hi hz0 hz1 hz2 rfl (by decide) _ _ _ rfl hown9 ⟨w8.heap.size, 0, none⟩ 1 1 [.int .i64 yk, .bool yt, .slice ya1 yl1 yc1, .slice ya2 yl2 yc2] rfl rfl (World.news_of_block hN9) ?onesqb (by decide) ?lenqb ?bytesqb hz9 _ rfl ?mainqb)
              case onesqb => intro y hy; simp only [List.mem_cons, List.not_mem_nil, or_false] at hy; rcases hy with rfl | rfl | rfl | rfl <;> rfl
              case lenqb => have := HLB.out; unfold maxLen; omega
              case bytesqb => have := HLB.out; omega
              intro g cap w11 hown11 hgrow11 hat11 hlt11
              have H11 := Lib.hid (H9.out.push HV9.out hown11 hgrow11 (by rw [World.size_alloc]; exact hat11))
              clear hown11 hgrow11 hat11 hlt11 hown9 hN9 hz9 H9 HV9
              go_wp2_with fail
              go_roundg (f + 1)
              case measure => have := HG.out; omega
              case rel =>
                have h1 := HGR.out
                have h2 := HF.out
                have h3 := HLN.out
                exact .inl ⟨f, k', n', _, _, rfl, by omega, h1.2.1, h1.2.2, by rw [List.length_append, List.length_singleton]; omega, HE.out, H11.out⟩
        | false =>
          have HM1 : Hid (rwM s k = none) := HM
          obtain ⟨x, rfl⟩ : ∃ x, l = [x] := List.length_eq_one_iff.1 HLE.out
          have HE := Lib.hid ((jnT_one HM1.out).symm.trans HTT.out)
          obtain ⟨cs, rest, hxs, hvx, hrest⟩ : ∃ cs rest, xs = cs ++ rest ∧ ExC (fun q => w.heap.size < q ∧ (Value.slice (some ⟨gb, 0, none⟩) 1 cap).ownBlock ≠ some q) w5 cs x ∧ ExsC (fun q => w.heap.size < q ∧ (Value.slice (some ⟨gb, 0, none⟩) 1 cap).ownBlock ≠ some q) w5 rest [] := by
            have := H5.out.vals
            unfold ExsC at this
            exact this
          obtain ⟨k1, t, a1, l1, e1, a2, l2, e2, rfl⟩ := hvx.form
          subst hxs
          have HV5 := Lib.hid (hvx.weak (fun q hq => hq.1))
          have y0 : w5.cell? ⟨gb, 0, none⟩ = some (.int .i64 k1) := H5.out.st.own.cells (g := gb) rfl 0 _ rfl
          have y1 : w5.cell? ⟨gb, 1, none⟩ = some (.bool t) := H5.out.st.own.cells (g := gb) rfl 1 _ rfl
          have y2 : w5.cell? ⟨gb, 2, none⟩ = some (.slice a1 l1 e1) := H5.out.st.own.cells (g := gb) rfl 2 _ rfl
          have y3 : w5.cell? ⟨gb, 3, none⟩ = some (.slice a2 l2 e2) := H5.out.st.own.cells (g := gb) rfl 3 _ rfl
          clear hvx hrest HM
          have r0 := H5.out.st.res.cells.1
          have r1 := H5.out.st.res.cells.2.1
          have r2 := H5.out.st.res.cells.2.2.1
          have r3 := H5.out.st.res.cells.2.2.2
          have rf0 := H5.out.st.res.fz 0
          have rf1 := H5.out.st.res.fz 1
          have rf2 := H5.out.st.res.fz 2
          have rf3 := H5.out.st.res.fz 3
          obtain ⟨q0, q1, q2, q3⟩ := (H5.out.st.res.set4 (.int .i64 k1) (.bool t) (.slice a1 l1 e1) (.slice a2 l2 e2)).cells
          have hout := qj_ok H5.out.st HV5.out HK.out HN.out
          unfold set4 at q0 q1 q2 q3 hout
          go_wp2_with fail
          refine bodyPost_ret (v := .agg #[.int .i64 k1, .bool t, .slice a1 l1 e1, .slice a2 l2 e2]) (by simp [results, Tryz.results45, go_sem, q0, q1, q2, q3]) rfl ?_
          rw [← HE.out]
          exact hout
      · subst hv
        have H1 := Lib.hid hst
        have HLE := Lib.hid hl
        have hl1 : ((l.length : Int) == 1) = false := beq_eq_false_iff_ne.2 (by omega)
        clear hst hl
        go_wp2_with fail
        refine (HBG.out _ H1.out.st.rd).mono ?_
        rintro e w5 ⟨rfl, b5⟩
        have H5 := Lib.hid (H1.out.step b5)
        clear b5 H1 HBG
        cases bb with
        | true =>
          have HM1 : Hid (rwM s k = some k) := HM
          go_wp2_with fail
          refine (HSY.out _ _ HK.out _ H5.out.st.rd).mono ?_
          rintro e w7 ⟨rfl, hr6, hk6⟩
          have H7 := Lib.hid (H5.out.go hr6 hk6)
          have HTL := Lib.hid ((jnT_more HLE.out HM1.out).symm.trans HTT.out)
          have HN7 := HN
          have HLN := HLL
          clear hr6 hk6 H5 HM
          have c3 := H7.out.st.rd.cells.2.2.2
          go_wp2_with fail
          refine (HSIG.out k n HK.out HN7.out _ H7.out.st.rd).mono ?_
          intro e w8 hout
          obtain ⟨R, HR⟩ : ∃ R, Hid (ptR s sub k n = R) := ⟨_, Lib.hid rfl⟩
          rw [HR.out] at hout
          have hwr : w.heap.size < w7.heap.size := H7.out.st.res.lt
          have HVL := Lib.hid H7.out.st.own.lt
          rcases R with ⟨c, p⟩ | ⟨k', n', y⟩
          · obtain ⟨n', yk, yt, ya1, yl1, yc1, ya2, yl2, yc2, rfl, hr8, hc8, hp8, hk8⟩ := hout
            have HE := Lib.hid (HTL.out.symm.trans (jnL_er HR.out))
            have bn := sbelow_new w8 (.cells #[.int .i64 yk, .bool yt, .slice ya1 yl1 yc1, .slice ya2 yl2 yc2] 33)
            have h9 := (H7.out.st.go hr8 hk8).step bn
            have hN9 := heap_alloc_new w8 (.cells #[.int .i64 yk, .bool yt, .slice ya1 yl1 yc1, .slice ya2 yl2 yc2] 33)
            have hown9 := h9.own
            have H9 := Lib.hid h9
            have HC8 := Lib.hid hc8
            have HP8 := Lib.hid hp8
            have hz9 : w.heap.size + 1 ≤ (w8.alloc (.cells #[.int .i64 yk, .bool yt, .slice ya1 yl1 yc1, .slice ya2 yl2 yc2] 33)).heap.size := by have := hk8.size; rw [World.size_alloc]; omega
            have hne9 : (Value.slice (some ⟨gb, 0, none⟩) l.length cap).ownBlock ≠ some w8.heap.size := fun e => by have := (HVL.out _ e).2; have := hk8.size; omega
            clear hr8 hc8 hp8 hk8 bn h9 H7 hwr c3
            go_wp2_with (at_builtin; refine wpList_append_lies _ rfl _ _ 31 rfl (w.heap.size + 1) 33 i0 (.agg #[.int .i64 0, .bool false, .slice none 0 0, .slice none 0 0]) 4 64 Tryz.underlying31 hi hz0 hz1 hz2 rfl (by decide) _ _ _ rfl hown9 ⟨w8.heap.size, 0, none⟩ 1 1 [.int .i64 yk, .bool yt, .slice ya1 yl1 yc1, .slice ya2 yl2 yc2] rfl rfl (World.news_of_block hN9) ?onesra (by decide) ?lenra ?bytesra hz9 _ rfl ?mainra)
            case onesra => intro y hy; simp only [List.mem_cons, List.not_mem_nil, or_false] at hy; rcases hy with rfl | rfl | rfl | rfl <;> rfl
            case lenra => have := HLB.out; unfold maxLen; omega
            case bytesra => have := HLB.out; omega
            intro g cap w11 hown11 hgrow11 hat11 hlt11
            have H11 := Lib.hid (H9.out.push hown11 hgrow11)
            clear hown11 hgrow11 hat11 hlt11 hown9 hN9 hz9 H9
            go_wp2_with fail
            go_roundg 0
            case measure => have := HG.out; omega
            case rel => exact .inr ⟨c, p, n', _, _, rfl, HE.out, HC8.out, HP8.out, by have := HLB.out; omega, H11.out⟩
          · obtain ⟨yk, yt, ya1, yl1, yc1, ya2, yl2, yc2, rfl, hv8, hr8, hkl8, hnl8, hk8⟩ := hout
            have HE := Lib.hid ((jnL_jnT (s := s) HL1.out HR.out).symm.trans HTL.out)
            have HGR := Lib.hid (HGD.out _ _ _ _ _ HK.out HR.out)
            have bn := sbelow_new w8 (.cells #[.int .i64 yk, .bool yt, .slice ya1 yl1 yc1, .slice ya2 yl2 yc2] 33)
            have h9 := (H7.out.go hr8 hk8).step bn
            have hN9 := heap_alloc_new w8 (.cells #[.int .i64 yk, .bool yt, .slice ya1 yl1 yc1, .slice ya2 yl2 yc2] 33)
            have hw8 := hk8.size
            have hv9 : ExC (fun q => w.heap.size < q ∧ (Value.slice (some ⟨gb, 0, none⟩) l.length cap).ownBlock ≠ some q ∧ q < (w8.alloc (.cells #[.int .i64 yk, .bool yt, .slice ya1 yl1 yc1, .slice ya2 yl2 yc2] 33)).heap.size) (w8.alloc (.cells #[.int .i64 yk, .bool yt, .slice ya1 yl1 yc1, .slice ya2 yl2 yc2] 33)) [.int .i64 yk, .bool yt, .slice ya1 yl1 yc1, .slice ya2 yl2 yc2] y :=
              (hv8.step bn).move (Nat.le_refl _) (fun q hq hlt => ⟨⟨by omega, fun e => by have := (HVL.out q e).2; omega, hlt⟩, rfl⟩)
            have hown9 := h9.st.own
            have H9 := Lib.hid h9
            have HV9 := Lib.hid hv9
            have hz9 : w.heap.size + 1 ≤ (w8.alloc (.cells #[.int .i64 yk, .bool yt, .slice ya1 yl1 yc1, .slice ya2 yl2 yc2] 33)).heap.size := by rw [World.size_alloc]; omega
            have hne9 : (Value.slice (some ⟨gb, 0, none⟩) l.length cap).ownBlock ≠ some w8.heap.size := fun e => by have := (HVL.out _ e).2; omega
            clear hr8 hkl8 hnl8 hk8 hv8 bn h9 H7 hwr hv9 hw8 c3
            go_wp2_with (at_builtin; refine wpList_append_lies _ rfl _ _ 31 rfl (w.heap.size + 1) 33 i0 (.agg #[.int .i64 0, .bool false, .slice none 0 0, .slice none 0 0]) 4 64 Tryz.underlying31 hi hz0 hz1 hz2 rfl (by decide) _ _ _ rfl hown9 ⟨w8.heap.size, 0, none⟩ 1 1 [.int .i64 yk, .bool yt, .slice ya1 yl1 yc1, .slice ya2 yl2 yc2] rfl rfl (World.news_of_block hN9) ?onesrb (by decide) ?lenrb ?bytesrb hz9 _ rfl ?mainrb)
            case onesrb => intro y hy; simp only [List.mem_cons, List.not_mem_nil, or_false] at hy; rcases hy with rfl | rfl | rfl | rfl <;> rfl
            case lenrb => have := HLB.out; unfold maxLen; omega
            case bytesrb => have := HLB.out; omega
            intro g cap w11 hown11 hgrow11 hat11 hlt11
            have H11 := Lib.hid (H9.out.push HV9.out hown11 hgrow11 (by rw [World.size_alloc]; exact hat11))
            clear hown11 hgrow11 hat11 hlt11 hown9 hN9 hz9 H9 HV9
            go_wp2_with fail
            go_roundg (f + 1)
            case measure => have := HG.out; omega
            case rel =>
              have h1 := HGR.out
              have h2 := HF.out
              have h3 := HLN.out
              exact .inl ⟨f, k', n', _, _, rfl, by omega, h1.2.1, h1.2.2, by rw [List.length_append, List.length_singleton]; omega, HE.out, H11.out⟩
        | false =>
          have HM1 : Hid (rwM s k = none) := HM
          have HE := Lib.hid ((jnT_end HLE.out HM1.out).symm.trans HTT.out)
          have hvv : ExC (fun q => w.heap.size < q) w5 [.int .i64 2, .bool false, .slice none 0 0, .slice (some ⟨gb, 0, none⟩) l.length cap] (.mk 2 false [] l) := by
            unfold ExC
            exact ⟨_, _, xs, rfl, CapV.nil, RowX.nil _ _, RowX.of_own H5.out.st.own (fun q e => by have := (H5.out.st.own.lt q e).1; show w.heap.size < q; omega), H5.out.vals.move (Nat.le_refl _) (fun q hq _ => ⟨hq.1, rfl⟩)⟩
          have HV5 := Lib.hid hvv
          clear hvv HM
          have r0 := H5.out.st.res.cells.1
          have r1 := H5.out.st.res.cells.2.1
          have r2 := H5.out.st.res.cells.2.2.1
          have r3 := H5.out.st.res.cells.2.2.2
          have rf0 := H5.out.st.res.fz 0
          have rf1 := H5.out.st.res.fz 1
          have rf2 := H5.out.st.res.fz 2
          have rf3 := H5.out.st.res.fz 3
          obtain ⟨q0, q1, q2, q3⟩ := (H5.out.st.res.set4 (.int .i64 2) (.bool false) (.slice none 0 0) (.slice (some ⟨gb, 0, none⟩) l.length cap)).cells
          have hout := qj_ok H5.out.st HV5.out HK.out HN.out
          unfold set4 at q0 q1 q2 q3 hout
          go_wp2_with fail
          refine bodyPost_ret (v := .agg #[.int .i64 2, .bool false, .slice none 0 0, .slice (some ⟨gb, 0, none⟩) l.length cap]) (by simp [results, Tryz.results45, go_sem, q0, q1, q2, q3]) rfl ?_
          rw [← HE.out]
          exact hout
    · obtain ⟨gb, cap, rfl, -, -⟩ := hst.own.form hst.pos
      have HTT := Lib.hid htot
      have HC := Lib.hid hc
      have HP := Lib.hid hp
      have H1 := Lib.hid hst
      have HBG := Lib.hid (HBN.out p n c hc hp)
      have hmb : (m : Int) ≤ 200 := by omega
      clear htot hg hst hc hp hm
      go_wp2_with fail
      refine (HBG.out _ H1.out.rd).mono ?_
      rintro e w5 ⟨rfl, b5⟩
      have H5 := Lib.hid (H1.out.step b5)
      clear b5 H1 HBG
      by_cases hm1 : m = 1
      · subst hm1
        obtain ⟨k1, t, a1, l1, e1, a2, l2, e2, rest, rfl⟩ := H5.out.hd
        have y0 : w5.cell? ⟨gb, 0, none⟩ = some (.int .i64 k1) := H5.out.own.cells (g := gb) rfl 0 _ rfl
        have y1 : w5.cell? ⟨gb, 1, none⟩ = some (.bool t) := H5.out.own.cells (g := gb) rfl 1 _ rfl
        have y2 : w5.cell? ⟨gb, 2, none⟩ = some (.slice a1 l1 e1) := H5.out.own.cells (g := gb) rfl 2 _ rfl
        have y3 : w5.cell? ⟨gb, 3, none⟩ = some (.slice a2 l2 e2) := H5.out.own.cells (g := gb) rfl 3 _ rfl
        have r0 := H5.out.res.cells.1
        have r1 := H5.out.res.cells.2.1
        have r2 := H5.out.res.cells.2.2.1
        have r3 := H5.out.res.cells.2.2.2
        have rf0 := H5.out.res.fz 0
        have rf1 := H5.out.res.fz 1
        have rf2 := H5.out.res.fz 2
        have rf3 := H5.out.res.fz 3
        obtain ⟨q0, q1, q2, q3⟩ := (H5.out.res.set4 (.int .i64 k1) (.bool t) (.slice a1 l1 e1) (.slice a2 l2 e2)).cells
        have hout := qj_er (k := k1) (t := t) (a1 := a1) (l1 := l1) (e1 := e1) (a2 := a2) (l2 := l2) (e2 := e2) H5.out HC.out HP.out
        unfold set4 at q0 q1 q2 q3 hout
        go_wp2_with fail
        refine bodyPost_ret (v := .agg #[.int .i64 k1, .bool t, .slice a1 l1 e1, .slice a2 l2 e2]) (by simp [results, Tryz.results45, go_sem, q0, q1, q2, q3]) rfl ?_
        rw [HTT.out]
        exact hout
      · have hl1 : ((m : Int) == 1) = false := beq_eq_false_iff_ne.2 (by omega)
        clear hm1
        have r0 := H5.out.res.cells.1
        have r1 := H5.out.res.cells.2.1
        have r2 := H5.out.res.cells.2.2.1
        have r3 := H5.out.res.cells.2.2.2
        have rf0 := H5.out.res.fz 0
        have rf1 := H5.out.res.fz 1
        have rf2 := H5.out.res.fz 2
        have rf3 := H5.out.res.fz 3
        obtain ⟨q0, q1, q2, q3⟩ := (H5.out.res.set4 (.int .i64 2) (.bool false) (.slice none 0 0) (.slice (some ⟨gb, 0, none⟩) m cap)).cells
        have hout := qj_er (k := 2) (t := false) (a1 := none) (l1 := 0) (e1 := 0) (a2 := some ⟨gb, 0, none⟩) (l2 := m) (e2 := cap) H5.out HC.out HP.out
        unfold set4 at q0 q1 q2 q3 hout
        go_wp2_with fail
        refine bodyPost_ret (v := .agg #[.int .i64 2, .bool false, .slice none 0 0, .slice (some ⟨gb, 0, none⟩) m cap]) (by simp [results, Tryz.results45, go_sem, q0, q1, q2, q3]) rfl ?_
        rw [HTT.out]
        exact hout
end Go.Proofs.YtpccdhkghlbhkaaGreatDoor
