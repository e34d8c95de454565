/-
  The document's own reader of values by contracts: what stands at a place, within so many; the last of it.
  The document's own reader of values by contracts: where no value begins; a value's call as a whole.
  The document's own reader of values by contracts: a whole text.
-/
import Derived.Test.YtajmlkephefapaaGreatDoorGrd
import Derived.Test.YtajmlkephefapaaGreatDoorRtG
import Derived.Test.YtajmlkephefapaaGreatDoorRtH
import Derived.Test.YtajmlkephefapaaGreatDoorTreeO
import Derived.Test.YtajmlkephefapaaGreatDoorReg
namespace Go.Proofs.YtajmlkephefapaaGreatDoor
open Go.RowKit Go.Extern.Stop Go.Stop Go.Extern Go.WideMaps

theorem V.leaf' {s : ByteArray} {d k : Nat} {o : Out} (h : V s d k o) (ho : ¬ opens (byteI s k)) : o = leafR s k := by
  cases h with
  | leaf => rfl
  | deep _ _ h1 => exact absurd h1 ho
  | none _ _ h1 => exact absurd h1 ho
  | some _ _ _ h1 => exact absurd h1 ho
theorem V.open' {s : ByteArray} {d k : Nat} {o : Out} (h : V s d k o) (ho : opens (byteI s k)) : (64 ≤ d ∧ o = .er 8 k) ∨ (d < 64 ∧ ∃ R, RowRel s (d + 1) (byteI s k) k R ∧ o = R.wrap (byteI s k) k) := by
  cases h with
  | leaf _ _ h1 => exact absurd ho h1
  | deep _ _ _ h1 => exact .inl ⟨h1, rfl⟩
  | none _ _ _ h1 h2 => exact .inr ⟨h1, _, .inl ⟨h2, rfl⟩, rfl⟩
  | some _ _ o' _ h1 h2 hI => exact .inr ⟨h1, _, .inr ⟨h2, hI⟩, rfl⟩
section
variable {w W W' : World} {b : Nat} {s : ByteArray} {p : Nat} {c : Int} {K z : Int} {vs : List Val} {ks : List ByteArray} {vL vK : Value} {xs : List Value}
theorem VlSt.mn (h : VlSt w b s p c (.int .i64 K) (.string ⟨#[]⟩) (.int .u64 0) (.slice none 0 0) (.slice none 0 0) (.int .i64 z) W) :
    MnSt (w.alloc (.cells #[.int .i64 0, .string ⟨#[]⟩, .int .u64 0, .slice none 0 0, .slice none 0 0, .int .i64 0] 34)) b (w.heap.size + 1) s p c K z [] [] (.slice none 0 0) (.slice none 0 0) [] W :=
  ⟨h.rd, h.box, World.ownsRow_nil _ _ _ _, ValsC.nil, World.ownsRow_nil _ _ _ _, by have := h.ord; rw [World.size_alloc]; omega, h.kp⟩
theorem MnSt.vl (h : MnSt (w.alloc (.cells #[.int .i64 0, .string ⟨#[]⟩, .int .u64 0, .slice none 0 0, .slice none 0 0, .int .i64 0] 34)) b (w.heap.size + 1) s p c K z vs ks vL vK xs W) (hb : b < w.heap.size) :
    VlSt w b s p c (.int .i64 K) (.string ⟨#[]⟩) (.int .u64 0) vL vK (.int .i64 z) W :=
  ⟨h.rd, (h.kp.block w.heap.size (by rw [World.size_alloc]; omega) (by omega)).trans (heap_alloc_new w _), h.box, hb, h.kp⟩
theorem MnSt.val {w0 : World} {q : Nat} (h : MnSt w0 b q s p c K z vs ks vL vK xs W) {r0 : Nat} (hq : r0 < q) (hk : Keeps (· = r0) W W') : ValC (fun r => r0 ≤ r) W' [.int .i64 K, .string ⟨#[]⟩, .int .u64 0, vL, vK, .int .i64 z] (.mk K ⟨#[]⟩ 0 vs ks z) := by
  have hmv : ∀ r, q + 1 ≤ r → r < W.heap.size → r0 ≤ r ∧ W'.heap[r]? = W.heap[r]? := fun r h1 h2 => ⟨by omega, hk.block r h2 (by omega)⟩
  unfold ValC
  exact ⟨_, _, xs, rfl, (RowIn.of_own' (P := fun r => q + 1 ≤ r) h.kown (fun r e => (h.kown.lt r e).1)).move hk.size hmv, (RowIn.of_own' (P := fun r => q + 1 ≤ r) h.own (fun r e => (h.own.lt r e).1)).move hk.size hmv, h.vals.move hk.size (fun r hr hlt => hmv r hr.1 hlt)⟩
end

set_option maxRecDepth 100000 in
set_option maxHeartbeats 8000000 in
theorem t5v_arr (s : ByteArray) (hs : s.size ≤ 100000) (b k d : Nat) (o : Out) (hk : k ≤ s.size) (hb : byteI s k = 91) (hd2 : d ≤ 64) (hV : V s d k o) (hsp : d < 64 → T5Spec s (d + 1)) (w : World) (h : Tn w b s k 0) :
    Calls Tryz.prog 33 #[.pointer (some ⟨b, 0, none⟩), .int .i64 d] w (T5vOut b s w o) := by
  have hbw := h.lt
  have H := Lib.hid (VlSt.new w b s k 0 k h)
  have HIS := Lib.hid (fun k c d hd hk W (h : Tn W b s k c) => t5is_any s k b c d hd hk W h)
  have hb1 := h.step (sbelow_new w (.cells #[.int .i64 0, .string ⟨#[]⟩, .int .u64 0, .slice none 0 0, .slice none 0 0, .int .i64 0] 34))
  obtain ⟨c0, c1, c2⟩ := hb1.cells
  clear hb1
  have hlt : k < s.size := byteI_pos (by rw [hb]; decide)
  have hlti : (k : Int) < (s.size : Int) := by omega
  have ha0 : (0 : Int) ≤ (k : Int) := by omega
  have HDG : Hid (∀ W, Calls Tryz.prog 64 #[.int .u8 (s[k].toNat : Int)] W fun e w' => e = .returned (.bool false) ∧ w' = W) := Lib.hid (fun W => by
    have := rdig5_any (s[k].toNat : Int) W
    rw [byteI_lt hlt] at hb
    rw [hb] at this ⊢
    exact this)
  have n110 : decide (byteI s k = 110) = false := by rw [hb]; rfl
  have n102 : decide (byteI s k = 102) = false := by rw [hb]; rfl
  have n116 : decide (byteI s k = 116) = false := by rw [hb]; rfl
  have n34 : decide (byteI s k = 34) = false := by rw [hb]; rfl
  have hop := V.open' hV (by rw [hb]; decide)
  rw [hb] at hop
  have HOP := Lib.hid hop
  have n91 : decide (byteI s k = 91) = true := by rw [hb]; rfl
  have HSP := Lib.hid hsp
  have HBW := Lib.hid hbw
  clear hb h hV hop hsp hbw
  go_enter Tryz.func33, Tryz.ntmps33
  go_upto_region 2 with (fail)
  generalize (w.alloc (.cells #[.int .i64 0, .string ⟨#[]⟩, .int .u64 0, .slice none 0 0, .slice none 0 0, .int .i64 0] 34)).alloc (.cells #[.int .i64 0, .string ⟨#[]⟩, .int .u64 0, .slice none 0 0, .slice none 0 0, .int .i64 k] 34) = w1 at *
  clear c0 c1 c2
  obtain ⟨c0, c1, c2⟩ := H.out.rd.cells
  go_wp2_with fail
  refine (HIS.out k 0 110 (by decide) hk _ H.out.rd).mono ?_
  rintro e w2 ⟨rfl, bx⟩
  have hn := H.out.step bx
  clear bx H c0 c1 c2
  have H := Lib.hid hn
  obtain ⟨c0, c1, c2⟩ := hn.rd.cells
  clear hn
  rw [n110]
  go_wp2_with fail
  refine (HIS.out k 0 102 (by decide) hk _ H.out.rd).mono ?_
  rintro e w3 ⟨rfl, bx⟩
  have hn := H.out.step bx
  clear bx H c0 c1 c2
  have H := Lib.hid hn
  obtain ⟨c0, c1, c2⟩ := hn.rd.cells
  clear hn
  rw [n102]
  go_wp2_with fail
  refine (HIS.out k 0 116 (by decide) hk _ H.out.rd).mono ?_
  rintro e w4 ⟨rfl, bx⟩
  have hn := H.out.step bx
  clear bx H c0 c1 c2
  have H := Lib.hid hn
  obtain ⟨c0, c1, c2⟩ := hn.rd.cells
  clear hn
  rw [n116]
  go_wp2_with fail
  have hD := H.out.step (Below.refl (w4).heap.size (w4)).drew
  obtain ⟨d0, d1, d2⟩ := hD.rd.cells
  have kk : (w4).drew.cell? ⟨b, 0, none⟩ = some (.string s) ∧ (w4).drew.cell? ⟨b, 1, none⟩ = some (.int .i64 k) ∧ (w4).drew.cell? ⟨b, 2, none⟩ = some (.int .i64 0) := ⟨d0, d1, d2⟩
  have HN := Lib.hid hD
  clear hD d0 d1 d2
  go_region_held3 (fun W => W.cell? ⟨b, 0, none⟩ = some (.string s) ∧ W.cell? ⟨b, 1, none⟩ = some (.int .i64 k) ∧ W.cell? ⟨b, 2, none⟩ = some (.int .i64 0))
    (exact kk)
    ((go_at_call 64; refine (HDG.out _).mono ?_; rintro e w5 ⟨rfl, rfl⟩))
  generalize (w4).drew = w5 at *
  clear kk c0 c1 c2 H
  have H := HN
  clear HN
  obtain ⟨c0, c1, c2⟩ := H.out.rd.cells
  go_wp2_with fail
  refine (HIS.out k 0 34 (by decide) hk _ H.out.rd).mono ?_
  rintro e w6 ⟨rfl, bx⟩
  have hn := H.out.step bx
  clear bx H c0 c1 c2
  have H := Lib.hid hn
  obtain ⟨c0, c1, c2⟩ := hn.rd.cells
  clear hn
  rw [n34]
  go_wp2_with fail
  refine (HIS.out k 0 91 (by decide) hk _ H.out.rd).mono ?_
  rintro e w7 ⟨rfl, bx⟩
  have hn := H.out.step bx
  clear bx H c0 c1 c2
  have H := Lib.hid hn
  obtain ⟨c0, c1, c2⟩ := hn.rd.cells
  clear hn
  rw [n91]
  have H2 := Lib.hid (H.out.put 0 (.int .i64 5) (H.out.box.put0 (.int .i64 5)))
  have yf := H.out.box.fz 0
  have y0 := H.out.box.cells.1
  go_upto_region 28 with (fail)
  generalize (w7).setCell ⟨w.heap.size + 1, 0, none⟩ (.int .i64 5) = w8 at *
  clear yf y0 H c0 c1 c2
  obtain ⟨c0, c1, c2⟩ := H2.out.rd.cells
  go_wp2_with fail
  rcases HOP.out with ⟨h64, ho⟩ | ⟨h64, R, hR, ho⟩
  · have HO := Lib.hid ho
    refine (t5many_deep s b (w.heap.size + 1) k d 93 h64 (by omega) _ H2.out.rd).mono ?_
    rintro e w9 ⟨rfl, hr9, hk9⟩
    have H9 := Lib.hid (H2.out.go hr9 hk9)
    clear hr9 hk9 H2
    obtain ⟨x0, x1, x2, x3, x4, x5⟩ := H9.out.box.cells
    obtain ⟨r0, r1, r2, r3, r4, r5⟩ := H9.out.res.cells
    have rf0 := H9.out.res.fz 0
    have rf1 := H9.out.res.fz 1
    have rf2 := H9.out.res.fz 2
    have rf3 := H9.out.res.fz 3
    have rf4 := H9.out.res.fz 4
    have rf5 := H9.out.res.fz 5
    obtain ⟨hF1, hF2, hF3, hF4⟩ := H9.out.fin
    obtain ⟨q0, q1, q2, q3, q4, q5⟩ := hF4.cells
    have HF1 := Lib.hid hF1
    have HF2 := Lib.hid hF2
    have HF3 := Lib.hid hF3
    clear hF1 hF2 hF3 hF4
    unfold set6 at q0 q1 q2 q3 q4 q5 HF1 HF2 HF3
    go_wp2_with fail
    refine bodyPost_ret (v := .agg #[.int .i64 5, .string ⟨#[]⟩, .int .u64 0, .slice none 0 0, .slice none 0 0, .int .i64 k]) (by simp [results, Tryz.results33, go_sem, q0, q1, q2, q3, q4, q5]) rfl ?_
    rw [HO.out]
    exact leaf_er (by decide) HF1.out HF2.out
  · have HO := Lib.hid ho
    refine (t5many_arr s hs d h64 (HSP.out h64) b (w.heap.size + 1) k k R hR hlt _ _ H2.out.mn).mono ?_
    intro e w9 hout
    clear H2 c0 c1 c2 HSP hR ho HOP
    cases R with
    | ok j vs ks =>
      obtain ⟨rfl, vL, vK, xs, hm⟩ := hout
      have hm : MnSt _ b _ s j 0 5 k vs [] vL vK xs w9 := hm
      obtain ⟨va, vc, vb, vd, rfl, rfl⟩ := hm.lists
      have e0 : ([] : List ByteArray).length = 0 := rfl
      rw [e0] at hm
      have HM := Lib.hid hm
      have H9 := Lib.hid (hm.vl HBW.out)
      clear hm
      obtain ⟨x0, x1, x2, x3, x4, x5⟩ := H9.out.box.cells
      obtain ⟨r0, r1, r2, r3, r4, r5⟩ := H9.out.res.cells
      have rf0 := H9.out.res.fz 0
      have rf1 := H9.out.res.fz 1
      have rf2 := H9.out.res.fz 2
      have rf3 := H9.out.res.fz 3
      have rf4 := H9.out.res.fz 4
      have rf5 := H9.out.res.fz 5
      obtain ⟨hF1, hF2, hF3, hF4⟩ := H9.out.fin
      obtain ⟨q0, q1, q2, q3, q4, q5⟩ := hF4.cells
      have HF1 := Lib.hid hF1
      have HF2 := Lib.hid hF2
      have HF3 := Lib.hid hF3
      clear hF1 hF2 hF3 hF4
      unfold set6 at q0 q1 q2 q3 q4 q5 HF1 HF2 HF3
      go_wp2_with fail
      refine bodyPost_ret (v := .agg #[.int .i64 5, .string ⟨#[]⟩, .int .u64 0, .slice va vs.length vc, .slice vb 0 vd, .int .i64 k]) (by simp [results, Tryz.results33, go_sem, q0, q1, q2, q3, q4, q5]) rfl ?_
      rw [HO.out]
      have hval : ValC (fun r => w.heap.size ≤ r) _ _ (.mk 5 ⟨#[]⟩ 0 vs [] k) := HM.out.val (Nat.lt_succ_self _) HF3.out
      exact ⟨_, _, _, _, _, _, _, _, _, _, rfl, hval, HF1.out, HF2.out⟩
    | er ec ea =>
      obtain ⟨rfl, hc, vs, ks, vL, vK, xs, hm⟩ := hout
      obtain ⟨va, vc, vb, vd, rfl, rfl⟩ := hm.lists
      have HC := Lib.hid hc
      have H9 := Lib.hid (hm.vl HBW.out)
      clear hm hc
      obtain ⟨x0, x1, x2, x3, x4, x5⟩ := H9.out.box.cells
      obtain ⟨r0, r1, r2, r3, r4, r5⟩ := H9.out.res.cells
      have rf0 := H9.out.res.fz 0
      have rf1 := H9.out.res.fz 1
      have rf2 := H9.out.res.fz 2
      have rf3 := H9.out.res.fz 3
      have rf4 := H9.out.res.fz 4
      have rf5 := H9.out.res.fz 5
      obtain ⟨hF1, hF2, hF3, hF4⟩ := H9.out.fin
      obtain ⟨q0, q1, q2, q3, q4, q5⟩ := hF4.cells
      have HF1 := Lib.hid hF1
      have HF2 := Lib.hid hF2
      have HF3 := Lib.hid hF3
      clear hF1 hF2 hF3 hF4
      unfold set6 at q0 q1 q2 q3 q4 q5 HF1 HF2 HF3
      go_wp2_with fail
      refine bodyPost_ret (v := .agg #[.int .i64 5, .string ⟨#[]⟩, .int .u64 0, .slice va vs.length vc, .slice vb ks.length vd, .int .i64 k]) (by simp [results, Tryz.results33, go_sem, q0, q1, q2, q3, q4, q5]) rfl ?_
      rw [HO.out]
      exact leaf_er HC.out HF1.out HF2.out
set_option maxRecDepth 100000 in
set_option maxHeartbeats 8000000 in
theorem t5v_obj (s : ByteArray) (hs : s.size ≤ 100000) (b k d : Nat) (o : Out) (hk : k ≤ s.size) (hb : byteI s k = 123) (hd2 : d ≤ 64) (hV : V s d k o) (hsp : d < 64 → T5Spec s (d + 1)) (w : World) (h : Tn w b s k 0) :
    Calls Tryz.prog 33 #[.pointer (some ⟨b, 0, none⟩), .int .i64 d] w (T5vOut b s w o) := by
  have hbw := h.lt
  have H := Lib.hid (VlSt.new w b s k 0 k h)
  have HIS := Lib.hid (fun k c d hd hk W (h : Tn W b s k c) => t5is_any s k b c d hd hk W h)
  have hb1 := h.step (sbelow_new w (.cells #[.int .i64 0, .string ⟨#[]⟩, .int .u64 0, .slice none 0 0, .slice none 0 0, .int .i64 0] 34))
  obtain ⟨c0, c1, c2⟩ := hb1.cells
  clear hb1
  have hlt : k < s.size := byteI_pos (by rw [hb]; decide)
  have hlti : (k : Int) < (s.size : Int) := by omega
  have ha0 : (0 : Int) ≤ (k : Int) := by omega
  have HDG : Hid (∀ W, Calls Tryz.prog 64 #[.int .u8 (s[k].toNat : Int)] W fun e w' => e = .returned (.bool false) ∧ w' = W) := Lib.hid (fun W => by
    have := rdig5_any (s[k].toNat : Int) W
    rw [byteI_lt hlt] at hb
    rw [hb] at this ⊢
    exact this)
  have n110 : decide (byteI s k = 110) = false := by rw [hb]; rfl
  have n102 : decide (byteI s k = 102) = false := by rw [hb]; rfl
  have n116 : decide (byteI s k = 116) = false := by rw [hb]; rfl
  have n34 : decide (byteI s k = 34) = false := by rw [hb]; rfl
  have hop := V.open' hV (by rw [hb]; decide)
  rw [hb] at hop
  have HOP := Lib.hid hop
  have n91 : decide (byteI s k = 91) = false := by rw [hb]; rfl
  have n123 : decide (byteI s k = 123) = true := by rw [hb]; rfl
  have HSP := Lib.hid hsp
  have HBW := Lib.hid hbw
  clear hb h hV hop hsp hbw
  go_enter Tryz.func33, Tryz.ntmps33
  go_upto_region 2 with (fail)
  generalize (w.alloc (.cells #[.int .i64 0, .string ⟨#[]⟩, .int .u64 0, .slice none 0 0, .slice none 0 0, .int .i64 0] 34)).alloc (.cells #[.int .i64 0, .string ⟨#[]⟩, .int .u64 0, .slice none 0 0, .slice none 0 0, .int .i64 k] 34) = w1 at *
  clear c0 c1 c2
  obtain ⟨c0, c1, c2⟩ := H.out.rd.cells
  go_wp2_with fail
  refine (HIS.out k 0 110 (by decide) hk _ H.out.rd).mono ?_
  rintro e w2 ⟨rfl, bx⟩
  have hn := H.out.step bx
  clear bx H c0 c1 c2
  have H := Lib.hid hn
  obtain ⟨c0, c1, c2⟩ := hn.rd.cells
  clear hn
  rw [n110]
  go_wp2_with fail
  refine (HIS.out k 0 102 (by decide) hk _ H.out.rd).mono ?_
  rintro e w3 ⟨rfl, bx⟩
  have hn := H.out.step bx
  clear bx H c0 c1 c2
  have H := Lib.hid hn
  obtain ⟨c0, c1, c2⟩ := hn.rd.cells
  clear hn
  rw [n102]
  go_wp2_with fail
  refine (HIS.out k 0 116 (by decide) hk _ H.out.rd).mono ?_
  rintro e w4 ⟨rfl, bx⟩
  have hn := H.out.step bx
  clear bx H c0 c1 c2
  have H := Lib.hid hn
  obtain ⟨c0, c1, c2⟩ := hn.rd.cells
  clear hn
  rw [n116]
  go_wp2_with fail
  have hD := H.out.step (Below.refl (w4).heap.size (w4)).drew
  obtain ⟨d0, d1, d2⟩ := hD.rd.cells
  have kk : (w4).drew.cell? ⟨b, 0, none⟩ = some (.string s) ∧ (w4).drew.cell? ⟨b, 1, none⟩ = some (.int .i64 k) ∧ (w4).drew.cell? ⟨b, 2, none⟩ = some (.int .i64 0) := ⟨d0, d1, d2⟩
  have HN := Lib.hid hD
  clear hD d0 d1 d2
  go_region_held3 (fun W => W.cell? ⟨b, 0, none⟩ = some (.string s) ∧ W.cell? ⟨b, 1, none⟩ = some (.int .i64 k) ∧ W.cell? ⟨b, 2, none⟩ = some (.int .i64 0))
    (exact kk)
    ((go_at_call 64; refine (HDG.out _).mono ?_; rintro e w5 ⟨rfl, rfl⟩))
  generalize (w4).drew = w5 at *
  clear kk c0 c1 c2 H
  have H := HN
  clear HN
  obtain ⟨c0, c1, c2⟩ := H.out.rd.cells
  go_wp2_with fail
  refine (HIS.out k 0 34 (by decide) hk _ H.out.rd).mono ?_
  rintro e w6 ⟨rfl, bx⟩
  have hn := H.out.step bx
  clear bx H c0 c1 c2
  have H := Lib.hid hn
  obtain ⟨c0, c1, c2⟩ := hn.rd.cells
  clear hn
  rw [n34]
  go_wp2_with fail
  refine (HIS.out k 0 91 (by decide) hk _ H.out.rd).mono ?_
  rintro e w61 ⟨rfl, bx⟩
  have hn := H.out.step bx
  clear bx H c0 c1 c2
  have H := Lib.hid hn
  obtain ⟨c0, c1, c2⟩ := hn.rd.cells
  clear hn
  rw [n91]
  go_wp2_with fail
  refine (HIS.out k 0 123 (by decide) hk _ H.out.rd).mono ?_
  rintro e w7 ⟨rfl, bx⟩
  have hn := H.out.step bx
  clear bx H c0 c1 c2
  have H := Lib.hid hn
  obtain ⟨c0, c1, c2⟩ := hn.rd.cells
  clear hn
  rw [n123]
  have H2 := Lib.hid (H.out.put 0 (.int .i64 6) (H.out.box.put0 (.int .i64 6)))
  have yf := H.out.box.fz 0
  have y0 := H.out.box.cells.1
  go_upto_region 32 with (fail)
  generalize (w7).setCell ⟨w.heap.size + 1, 0, none⟩ (.int .i64 6) = w8 at *
  clear yf y0 H c0 c1 c2
  obtain ⟨c0, c1, c2⟩ := H2.out.rd.cells
  go_wp2_with fail
  rcases HOP.out with ⟨h64, ho⟩ | ⟨h64, R, hR, ho⟩
  · have HO := Lib.hid ho
    refine (t5many_deep s b (w.heap.size + 1) k d 125 h64 (by omega) _ H2.out.rd).mono ?_
    rintro e w9 ⟨rfl, hr9, hk9⟩
    have H9 := Lib.hid (H2.out.go hr9 hk9)
    clear hr9 hk9 H2
    obtain ⟨x0, x1, x2, x3, x4, x5⟩ := H9.out.box.cells
    obtain ⟨r0, r1, r2, r3, r4, r5⟩ := H9.out.res.cells
    have rf0 := H9.out.res.fz 0
    have rf1 := H9.out.res.fz 1
    have rf2 := H9.out.res.fz 2
    have rf3 := H9.out.res.fz 3
    have rf4 := H9.out.res.fz 4
    have rf5 := H9.out.res.fz 5
    obtain ⟨hF1, hF2, hF3, hF4⟩ := H9.out.fin
    obtain ⟨q0, q1, q2, q3, q4, q5⟩ := hF4.cells
    have HF1 := Lib.hid hF1
    have HF2 := Lib.hid hF2
    have HF3 := Lib.hid hF3
    clear hF1 hF2 hF3 hF4
    unfold set6 at q0 q1 q2 q3 q4 q5 HF1 HF2 HF3
    go_wp2_with fail
    refine bodyPost_ret (v := .agg #[.int .i64 6, .string ⟨#[]⟩, .int .u64 0, .slice none 0 0, .slice none 0 0, .int .i64 k]) (by simp [results, Tryz.results33, go_sem, q0, q1, q2, q3, q4, q5]) rfl ?_
    rw [HO.out]
    exact leaf_er (by decide) HF1.out HF2.out
  · have HO := Lib.hid ho
    refine (t5many_obj s hs d h64 (HSP.out h64) b (w.heap.size + 1) k k R hR hlt _ _ H2.out.mn).mono ?_
    intro e w9 hout
    clear H2 c0 c1 c2 HSP hR ho HOP
    cases R with
    | ok j vs ks =>
      obtain ⟨rfl, vL, vK, xs, hm⟩ := hout
      have hm : MnSt _ b _ s j 0 6 k vs ks vL vK xs w9 := hm
      obtain ⟨va, vc, vb, vd, rfl, rfl⟩ := hm.lists
      have HM := Lib.hid hm
      have H9 := Lib.hid (hm.vl HBW.out)
      clear hm
      obtain ⟨x0, x1, x2, x3, x4, x5⟩ := H9.out.box.cells
      obtain ⟨r0, r1, r2, r3, r4, r5⟩ := H9.out.res.cells
      have rf0 := H9.out.res.fz 0
      have rf1 := H9.out.res.fz 1
      have rf2 := H9.out.res.fz 2
      have rf3 := H9.out.res.fz 3
      have rf4 := H9.out.res.fz 4
      have rf5 := H9.out.res.fz 5
      obtain ⟨hF1, hF2, hF3, hF4⟩ := H9.out.fin
      obtain ⟨q0, q1, q2, q3, q4, q5⟩ := hF4.cells
      have HF1 := Lib.hid hF1
      have HF2 := Lib.hid hF2
      have HF3 := Lib.hid hF3
      clear hF1 hF2 hF3 hF4
      unfold set6 at q0 q1 q2 q3 q4 q5 HF1 HF2 HF3
      go_wp2_with fail
      refine bodyPost_ret (v := .agg #[.int .i64 6, .string ⟨#[]⟩, .int .u64 0, .slice va vs.length vc, .slice vb ks.length vd, .int .i64 k]) (by simp [results, Tryz.results33, go_sem, q0, q1, q2, q3, q4, q5]) rfl ?_
      rw [HO.out]
      have hval : ValC (fun r => w.heap.size ≤ r) _ _ (.mk 6 ⟨#[]⟩ 0 vs ks k) := HM.out.val (Nat.lt_succ_self _) HF3.out
      exact ⟨_, _, _, _, _, _, _, _, _, _, rfl, hval, HF1.out, HF2.out⟩
    | er ec ea =>
      obtain ⟨rfl, hc, vs, ks, vL, vK, xs, hm⟩ := hout
      obtain ⟨va, vc, vb, vd, rfl, rfl⟩ := hm.lists
      have HC := Lib.hid hc
      have H9 := Lib.hid (hm.vl HBW.out)
      clear hm hc
      obtain ⟨x0, x1, x2, x3, x4, x5⟩ := H9.out.box.cells
      obtain ⟨r0, r1, r2, r3, r4, r5⟩ := H9.out.res.cells
      have rf0 := H9.out.res.fz 0
      have rf1 := H9.out.res.fz 1
      have rf2 := H9.out.res.fz 2
      have rf3 := H9.out.res.fz 3
      have rf4 := H9.out.res.fz 4
      have rf5 := H9.out.res.fz 5
      obtain ⟨hF1, hF2, hF3, hF4⟩ := H9.out.fin
      obtain ⟨q0, q1, q2, q3, q4, q5⟩ := hF4.cells
      have HF1 := Lib.hid hF1
      have HF2 := Lib.hid hF2
      have HF3 := Lib.hid hF3
      clear hF1 hF2 hF3 hF4
      unfold set6 at q0 q1 q2 q3 q4 q5 HF1 HF2 HF3
      go_wp2_with fail
      refine bodyPost_ret (v := .agg #[.int .i64 6, .string ⟨#[]⟩, .int .u64 0, .slice va vs.length vc, .slice vb ks.length vd, .int .i64 k]) (by simp [results, Tryz.results33, go_sem, q0, q1, q2, q3, q4, q5]) rfl ?_
      rw [HO.out]
      exact leaf_er HC.out HF1.out HF2.out
end Go.Proofs.YtajmlkephefapaaGreatDoor

namespace Go.Proofs.YtajmlkephefapaaGreatDoor
open Go.RowKit Go.Extern.Stop Go.Stop Go.Extern Go.WideMaps

set_option maxRecDepth 100000 in
set_option maxHeartbeats 8000000 in
theorem t5v_oth (s : ByteArray) (b k : Nat) (d : Int) (hk : k ≤ s.size) (h1 : byteI s k ≠ 110) (h2 : byteI s k ≠ 102) (h3 : byteI s k ≠ 116) (h4 : byteI s k ≠ 34) (h5 : byteI s k ≠ 91) (h6 : byteI s k ≠ 123) (h7 : isDig (byteI s k) = false) (w : World) (h : Tn w b s k 0) :
    Calls Tryz.prog 33 #[.pointer (some ⟨b, 0, none⟩), .int .i64 d] w (T5vOut b s w (.er (missC s k) k)) := by
  have H := Lib.hid (VlSt.new w b s k 0 k h)
  have HIS := Lib.hid (fun k c d hd hk W (h : Tn W b s k c) => t5is_any s k b c d hd hk W h)
  have hb1 := h.step (sbelow_new w (.cells #[.int .i64 0, .string ⟨#[]⟩, .int .u64 0, .slice none 0 0, .slice none 0 0, .int .i64 0] 34))
  obtain ⟨c0, c1, c2⟩ := hb1.cells
  clear hb1
  have HF := Lib.hid (fun W => rfails_any s k W)
  have HL := Lib.hid (fun W (h : Tn W b s k 0) => t5fail_yes s k b (missC s k) W h)
  have HM0 := Lib.hid (missC_ne s k)
  have n110 := decide_eq_false h1
  have n102 := decide_eq_false h2
  have n116 := decide_eq_false h3
  have n34 := decide_eq_false h4
  have n91 := decide_eq_false h5
  have n123 := decide_eq_false h6
  have HH7 := Lib.hid h7
  generalize missC s k = m at *
  clear h h1 h2 h3 h4 h5 h6 h7
  have ha0 : (0 : Int) ≤ (k : Int) := by omega
  by_cases hlt : k < s.size
  · have hlti : (k : Int) < (s.size : Int) := by omega
    have HDG : Hid (∀ W, Calls Tryz.prog 64 #[.int .u8 (s[k].toNat : Int)] W fun e w' => e = .returned (.bool false) ∧ w' = W) := Lib.hid (fun W => by
      have := rdig5_any (s[k].toNat : Int) W
      have hdn := HH7.out
      rw [byteI_lt hlt] at hdn
      rwa [show (decide ((48 : Int) ≤ (s[k].toNat : Int)) && decide ((s[k].toNat : Int) ≤ 57)) = false by
        rw [Bool.and_eq_false_iff]
        by_cases hx : (48 : Int) ≤ (s[k].toNat : Int)
        · right; exact decide_eq_false (fun hy => by rw [(isDig_iff _).2 ⟨hx, hy⟩] at hdn; cases hdn)
        · left; exact decide_eq_false hx] at this)
    go_enter Tryz.func33, Tryz.ntmps33
    go_upto_region 2 with (fail)
    generalize (w.alloc (.cells #[.int .i64 0, .string ⟨#[]⟩, .int .u64 0, .slice none 0 0, .slice none 0 0, .int .i64 0] 34)).alloc (.cells #[.int .i64 0, .string ⟨#[]⟩, .int .u64 0, .slice none 0 0, .slice none 0 0, .int .i64 k] 34) = w1 at *
    clear c0 c1 c2
    obtain ⟨c0, c1, c2⟩ := H.out.rd.cells
    go_wp2_with fail
    refine (HIS.out k 0 110 (by decide) hk _ H.out.rd).mono ?_
    rintro e w2 ⟨rfl, bx⟩
    have hn := H.out.step bx
    clear bx H c0 c1 c2
    have H := Lib.hid hn
    obtain ⟨c0, c1, c2⟩ := hn.rd.cells
    clear hn
    rw [n110]
    go_wp2_with fail
    refine (HIS.out k 0 102 (by decide) hk _ H.out.rd).mono ?_
    rintro e w3 ⟨rfl, bx⟩
    have hn := H.out.step bx
    clear bx H c0 c1 c2
    have H := Lib.hid hn
    obtain ⟨c0, c1, c2⟩ := hn.rd.cells
    clear hn
    rw [n102]
    go_wp2_with fail
    refine (HIS.out k 0 116 (by decide) hk _ H.out.rd).mono ?_
    rintro e w4 ⟨rfl, bx⟩
    have hn := H.out.step bx
    clear bx H c0 c1 c2
    have H := Lib.hid hn
    obtain ⟨c0, c1, c2⟩ := hn.rd.cells
    clear hn
    rw [n116]
    go_wp2_with fail
    have hD := H.out.step (Below.refl (w4).heap.size (w4)).drew
    obtain ⟨d0, d1, d2⟩ := hD.rd.cells
    have kk : (w4).drew.cell? ⟨b, 0, none⟩ = some (.string s) ∧ (w4).drew.cell? ⟨b, 1, none⟩ = some (.int .i64 k) ∧ (w4).drew.cell? ⟨b, 2, none⟩ = some (.int .i64 0) := ⟨d0, d1, d2⟩
    have HN := Lib.hid hD
    clear hD d0 d1 d2
    go_region_held3 (fun W => W.cell? ⟨b, 0, none⟩ = some (.string s) ∧ W.cell? ⟨b, 1, none⟩ = some (.int .i64 k) ∧ W.cell? ⟨b, 2, none⟩ = some (.int .i64 0))
      (exact kk)
      ((go_at_call 64; refine (HDG.out _).mono ?_; rintro e w5 ⟨rfl, rfl⟩))
    generalize (w4).drew = w5 at *
    clear kk c0 c1 c2 H
    have H := HN
    clear HN
    obtain ⟨c0, c1, c2⟩ := H.out.rd.cells
    go_wp2_with fail
    refine (HIS.out k 0 34 (by decide) hk _ H.out.rd).mono ?_
    rintro e w6 ⟨rfl, bx⟩
    have hn := H.out.step bx
    clear bx H c0 c1 c2
    have H := Lib.hid hn
    obtain ⟨c0, c1, c2⟩ := hn.rd.cells
    clear hn
    rw [n34]
    go_wp2_with fail
    refine (HIS.out k 0 91 (by decide) hk _ H.out.rd).mono ?_
    rintro e w7 ⟨rfl, bx⟩
    have hn := H.out.step bx
    clear bx H c0 c1 c2
    have H := Lib.hid hn
    obtain ⟨c0, c1, c2⟩ := hn.rd.cells
    clear hn
    rw [n91]
    go_wp2_with fail
    refine (HIS.out k 0 123 (by decide) hk _ H.out.rd).mono ?_
    rintro e w8 ⟨rfl, bx⟩
    have hn := H.out.step bx
    clear bx H c0 c1 c2
    have H := Lib.hid hn
    obtain ⟨c0, c1, c2⟩ := hn.rd.cells
    clear hn
    rw [n123]
    go_wp2_with fail
    have hI := H.out.step (Below.refl w8.heap.size w8).drew
    go_region_with (first
      | (go_at_call 68; refine (HF.out _).mono ?_; rintro e w9 ⟨rfl, rfl⟩)
      | (go_at_call 34; refine (HL.out _ hI.rd).mono ?_; rintro e w9 ⟨rfl, hr9, hk9⟩))
    all_goals
      have H9 := Lib.hid (hI.go hr9 hk9)
      clear hr9 hk9 hI c0 c1 c2 H
      obtain ⟨x0, x1, x2, x3, x4, x5⟩ := H9.out.box.cells
      obtain ⟨r0, r1, r2, r3, r4, r5⟩ := H9.out.res.cells
      have rf0 := H9.out.res.fz 0
      have rf1 := H9.out.res.fz 1
      have rf2 := H9.out.res.fz 2
      have rf3 := H9.out.res.fz 3
      have rf4 := H9.out.res.fz 4
      have rf5 := H9.out.res.fz 5
      obtain ⟨hF1, hF2, hF3, hF4⟩ := H9.out.fin
      obtain ⟨q0, q1, q2, q3, q4, q5⟩ := hF4.cells
      have HF1 := Lib.hid hF1
      have HF2 := Lib.hid hF2
      have HF3 := Lib.hid hF3
      clear hF1 hF2 hF3 hF4
      unfold set6 at q0 q1 q2 q3 q4 q5 HF1 HF2 HF3
      go_wp2_with fail
      refine bodyPost_ret (v := .agg #[.int .i64 0, .string ⟨#[]⟩, .int .u64 0, .slice none 0 0, .slice none 0 0, .int .i64 k]) (by simp [results, Tryz.results33, go_sem, q0, q1, q2, q3, q4, q5]) rfl ?_
      exact leaf_er HM0.out HF1.out HF2.out
  · have hl2 : ¬ (k : Int) < (s.size : Int) := by omega
    have hl1 : decide ((k : Int) < (s.size : Int)) = false := decide_eq_false hl2
    have hl3 : decide (k < s.size) = false := decide_eq_false hlt
    go_enter Tryz.func33, Tryz.ntmps33
    go_upto_region 2 with (fail)
    generalize (w.alloc (.cells #[.int .i64 0, .string ⟨#[]⟩, .int .u64 0, .slice none 0 0, .slice none 0 0, .int .i64 0] 34)).alloc (.cells #[.int .i64 0, .string ⟨#[]⟩, .int .u64 0, .slice none 0 0, .slice none 0 0, .int .i64 k] 34) = w1 at *
    clear c0 c1 c2
    obtain ⟨c0, c1, c2⟩ := H.out.rd.cells
    go_wp2_with fail
    refine (HIS.out k 0 110 (by decide) hk _ H.out.rd).mono ?_
    rintro e w2 ⟨rfl, bx⟩
    have hn := H.out.step bx
    clear bx H c0 c1 c2
    have H := Lib.hid hn
    obtain ⟨c0, c1, c2⟩ := hn.rd.cells
    clear hn
    rw [n110]
    go_wp2_with fail
    refine (HIS.out k 0 102 (by decide) hk _ H.out.rd).mono ?_
    rintro e w3 ⟨rfl, bx⟩
    have hn := H.out.step bx
    clear bx H c0 c1 c2
    have H := Lib.hid hn
    obtain ⟨c0, c1, c2⟩ := hn.rd.cells
    clear hn
    rw [n102]
    go_wp2_with fail
    refine (HIS.out k 0 116 (by decide) hk _ H.out.rd).mono ?_
    rintro e w4 ⟨rfl, bx⟩
    have hn := H.out.step bx
    clear bx H c0 c1 c2
    have H := Lib.hid hn
    obtain ⟨c0, c1, c2⟩ := hn.rd.cells
    clear hn
    rw [n116]
    go_wp2_with fail
    have hD := H.out.step (Below.refl (w4).heap.size (w4)).drew
    obtain ⟨d0, d1, d2⟩ := hD.rd.cells
    have kk : (w4).drew.cell? ⟨b, 0, none⟩ = some (.string s) ∧ (w4).drew.cell? ⟨b, 1, none⟩ = some (.int .i64 k) ∧ (w4).drew.cell? ⟨b, 2, none⟩ = some (.int .i64 0) := ⟨d0, d1, d2⟩
    have HN := Lib.hid hD
    clear hD d0 d1 d2
    refine wp_region_held_drew (S := fun W => W.cell? ⟨b, 0, none⟩ = some (.string s) ∧ W.cell? ⟨b, 1, none⟩ = some (.int .i64 k) ∧ W.cell? ⟨b, 2, none⟩ = some (.int .i64 0)) (by kernel_rfl) ?_ (fun hHeld => ?_)
    · exact kk
    refine wpAnyH_take (i := 0) (v := ?_) (by simp only [List.getElem?_toArray, List.getElem?_cons_zero]; rfl) (by kernel_rfl) (by kernel_rfl) (by kernel_rfl) (by exact fun _ _ _ h => h) (Or.inl ⟨by rfl, ?_⟩) (by assumption) ?_
    rotate_left
    · (intro w' hSw; (try dsimp only at hSw); go_simp; try with_reducible rfl)
    try simp only [Act.put, List.setIfInBounds_toArray, List.set_cons_zero, List.set_cons_succ]
    refine wpAnyH_take (i := 1) (v := ?_) (by simp only [List.getElem?_toArray, List.getElem?_cons_succ, List.getElem?_cons_zero]; rfl) (by kernel_rfl) (by kernel_rfl) (by kernel_rfl) (by exact fun _ _ _ h => h) (Or.inl ⟨by rfl, ?_⟩) (by assumption) ?_
    rotate_left
    · (intro w' hSw; (try dsimp only at hSw); go_simp; try with_reducible rfl)
    try simp only [Act.put, List.setIfInBounds_toArray, List.set_cons_zero, List.set_cons_succ]
    refine wpAnyH_take (i := 2) (v := ?_) (by simp only [List.getElem?_toArray, List.getElem?_cons_succ, List.getElem?_cons_zero]; rfl) (by kernel_rfl) (by kernel_rfl) (by kernel_rfl) (by exact fun _ _ _ h => h) (Or.inl ⟨by rfl, ?_⟩) (by assumption) ?_
    rotate_left
    · (intro w' hSw; (try dsimp only at hSw); go_simp; try with_reducible rfl)
    try simp only [Act.put, List.setIfInBounds_toArray, List.set_cons_zero, List.set_cons_succ]
    refine wpAnyH_take (i := 3) (v := ?_) (by simp only [List.getElem?_toArray, List.getElem?_cons_succ, List.getElem?_cons_zero]; rfl) (by kernel_rfl) (by kernel_rfl) (by kernel_rfl) (by exact fun _ _ _ h => h) (Or.inl ⟨by rfl, ?_⟩) (by assumption) ?_
    rotate_left
    · (intro w' hSw; (try dsimp only at hSw); go_simp; try with_reducible rfl)
    try simp only [Act.put, List.setIfInBounds_toArray, List.set_cons_zero, List.set_cons_succ]
    refine wpAnyH_take (i := 4) (v := ?_) (by simp only [List.getElem?_toArray, List.getElem?_cons_succ, List.getElem?_cons_zero]; rfl) (by kernel_rfl) (by kernel_rfl) (by kernel_rfl) (by exact fun _ _ _ h => h) (Or.inl ⟨by rfl, ?_⟩) (by assumption) ?_
    rotate_left
    · (intro w' hSw; (try dsimp only at hSw); go_simp; try with_reducible rfl)
    try simp only [Act.put, List.setIfInBounds_toArray, List.set_cons_zero, List.set_cons_succ]
    refine wpAnyH_take (i := 5) (v := ?_) (by simp only [List.getElem?_toArray, List.getElem?_cons_succ, List.getElem?_cons_zero]; rfl) (by kernel_rfl) (by kernel_rfl) (by kernel_rfl) (by exact fun _ _ _ h => h) (Or.inl ⟨by rfl, ?_⟩) (by assumption) ?_
    rotate_left
    · (intro w' hSw; (try dsimp only at hSw); go_simp; try with_reducible rfl)
    try simp only [Act.put, List.setIfInBounds_toArray, List.set_cons_zero, List.set_cons_succ]
    refine wpAnyH_take (i := 6) (v := ?_) (by simp only [List.getElem?_toArray, List.getElem?_cons_succ, List.getElem?_cons_zero]; rfl) (by kernel_rfl) (by kernel_rfl) (by kernel_rfl) (by exact fun _ _ _ h => h) (Or.inl ⟨by rfl, ?_⟩) (by assumption) ?_
    rotate_left
    · (intro w' hSw; (try dsimp only at hSw); go_simp; try with_reducible rfl)
    try simp only [Act.put, List.setIfInBounds_toArray, List.set_cons_zero, List.set_cons_succ]
    refine wpAnyH_take (i := 7) (v := ?_) (by simp only [List.getElem?_toArray, List.getElem?_cons_succ, List.getElem?_cons_zero]; rfl) (by kernel_rfl) (by kernel_rfl) (by kernel_rfl) (by exact fun _ _ _ h => h) (Or.inl ⟨by rfl, ?_⟩) (by assumption) ?_
    rotate_left
    · (intro w' hSw; (try dsimp only at hSw); go_simp; try with_reducible rfl)
    try simp only [Act.put, List.setIfInBounds_toArray, List.set_cons_zero, List.set_cons_succ]
    refine wpAnyH_take (i := 8) (v := ?_) (by simp only [List.getElem?_toArray, List.getElem?_cons_succ, List.getElem?_cons_zero]; rfl) (by kernel_rfl) (by kernel_rfl) (by kernel_rfl) (by exact fun _ _ _ h => h) (Or.inl ⟨by rfl, ?_⟩) (by assumption) ?_
    rotate_left
    · (intro w' hSw; (try dsimp only at hSw); go_simp; try with_reducible rfl)
    try simp only [Act.put, List.setIfInBounds_toArray, List.set_cons_zero, List.set_cons_succ]
    refine wpAnyH_take (i := 9) (v := ?_) (by simp only [List.getElem?_toArray, List.getElem?_cons_succ, List.getElem?_cons_zero]; rfl) (by kernel_rfl) (by kernel_rfl) (by kernel_rfl) (by exact fun _ _ _ h => h) (Or.inl ⟨by rfl, ?_⟩) (by assumption) ?_
    rotate_left
    · (intro w' hSw; (try dsimp only at hSw); go_simp; try with_reducible rfl)
    try simp only [Act.put, List.setIfInBounds_toArray, List.set_cons_zero, List.set_cons_succ]
    refine wpAnyH_take (i := 10) (v := ?_) (by simp only [List.getElem?_toArray, List.getElem?_cons_succ, List.getElem?_cons_zero]; rfl) (by kernel_rfl) (by kernel_rfl) (by kernel_rfl) (by exact fun _ _ _ h => h) (Or.inl ⟨by rfl, ?_⟩) (by assumption) ?_
    rotate_left
    · (intro w' hSw; (try dsimp only at hSw); go_simp; try with_reducible rfl)
    try simp only [Act.put, List.setIfInBounds_toArray, List.set_cons_zero, List.set_cons_succ]
    refine wpAnyH_take (i := 11) (v := undef) (by simp only [List.getElem?_toArray, List.getElem?_cons_succ, List.getElem?_cons_zero]; rfl) (by kernel_rfl) (by kernel_rfl) (by kernel_rfl) (by exact fun _ _ _ h => h) (Or.inr ⟨by rfl, rfl⟩) (by assumption) ?_
    try simp only [Act.put, List.setIfInBounds_toArray, List.set_cons_zero, List.set_cons_succ]
    refine wpAnyH_take (i := 12) (v := undef) (by simp only [List.getElem?_toArray, List.getElem?_cons_succ, List.getElem?_cons_zero]; rfl) (by kernel_rfl) (by kernel_rfl) (by kernel_rfl) (by exact fun _ _ _ h => h) (Or.inr ⟨by rfl, rfl⟩) (by assumption) ?_
    try simp only [Act.put, List.setIfInBounds_toArray, List.set_cons_zero, List.set_cons_succ]
    refine wpAnyH_take (i := 13) (v := undef) (by simp only [List.getElem?_toArray, List.getElem?_cons_succ, List.getElem?_cons_zero]; rfl) (by kernel_rfl) (by kernel_rfl) (by kernel_rfl) (by exact fun _ _ _ h => h) (Or.inr ⟨by rfl, rfl⟩) (by assumption) ?_
    try simp only [Act.put, List.setIfInBounds_toArray, List.set_cons_zero, List.set_cons_succ]
    refine wpAnyH_take (i := 14) (v := undef) (by simp only [List.getElem?_toArray, List.getElem?_cons_succ, List.getElem?_cons_zero]; rfl) (by kernel_rfl) (by kernel_rfl) (by kernel_rfl) (by exact fun _ _ _ h => h) (Or.inr ⟨by rfl, rfl⟩) (by assumption) ?_
    try simp only [Act.put, List.setIfInBounds_toArray, List.set_cons_zero, List.set_cons_succ]
    refine wpAnyH_take (i := 15) (v := undef) (by simp only [List.getElem?_toArray, List.getElem?_cons_succ, List.getElem?_cons_zero]; rfl) (by kernel_rfl) (by kernel_rfl) (by kernel_rfl) (by exact fun _ _ _ h => h) (Or.inr ⟨by rfl, rfl⟩) (by assumption) ?_
    try simp only [Act.put, List.setIfInBounds_toArray, List.set_cons_zero, List.set_cons_succ]
    refine wpAnyH_take (i := 16) (v := undef) (by simp only [List.getElem?_toArray, List.getElem?_cons_succ, List.getElem?_cons_zero]; rfl) (by kernel_rfl) (by kernel_rfl) (by kernel_rfl) (by exact fun _ _ _ h => h) (Or.inr ⟨by rfl, rfl⟩) (by assumption) ?_
    try simp only [Act.put, List.setIfInBounds_toArray, List.set_cons_zero, List.set_cons_succ]
    refine wpAnyH_take (i := 17) (v := undef) (by simp only [List.getElem?_toArray, List.getElem?_cons_succ, List.getElem?_cons_zero]; rfl) (by kernel_rfl) (by kernel_rfl) (by kernel_rfl) (by exact fun _ _ _ h => h) (Or.inr ⟨by rfl, rfl⟩) (by assumption) ?_
    try simp only [Act.put, List.setIfInBounds_toArray, List.set_cons_zero, List.set_cons_succ]
    refine wpAnyH_take (i := 18) (v := undef) (by simp only [List.getElem?_toArray, List.getElem?_cons_succ, List.getElem?_cons_zero]; rfl) (by kernel_rfl) (by kernel_rfl) (by kernel_rfl) (by exact fun _ _ _ h => h) (Or.inr ⟨by rfl, rfl⟩) (by assumption) ?_
    try simp only [Act.put, List.setIfInBounds_toArray, List.set_cons_zero, List.set_cons_succ]
    refine wpAnyH_take (i := 19) (v := undef) (by simp only [List.getElem?_toArray, List.getElem?_cons_succ, List.getElem?_cons_zero]; rfl) (by kernel_rfl) (by kernel_rfl) (by kernel_rfl) (by exact fun _ _ _ h => h) (Or.inr ⟨by rfl, rfl⟩) (by assumption) ?_
    try simp only [Act.put, List.setIfInBounds_toArray, List.set_cons_zero, List.set_cons_succ]
    refine wpAnyH_take (i := 20) (v := undef) (by simp only [List.getElem?_toArray, List.getElem?_cons_succ, List.getElem?_cons_zero]; rfl) (by kernel_rfl) (by kernel_rfl) (by kernel_rfl) (by exact fun _ _ _ h => h) (Or.inr ⟨by rfl, rfl⟩) (by assumption) ?_
    try simp only [Act.put, List.setIfInBounds_toArray, List.set_cons_zero, List.set_cons_succ]
    refine wpAnyH_take (i := 21) (v := ?_) (by simp only [List.getElem?_toArray, List.getElem?_cons_succ, List.getElem?_cons_zero]; rfl) (by kernel_rfl) (by kernel_rfl) (by kernel_rfl) (by exact fun _ _ _ h => h) (Or.inl ⟨by rfl, ?_⟩) (by assumption) ?_
    rotate_left
    · (intro w' hSw; (try dsimp only at hSw); go_simp; try with_reducible rfl)
    try simp only [Act.put, List.setIfInBounds_toArray, List.set_cons_zero, List.set_cons_succ]
    refine wpAnyH_done (by kernel_rfl) ?_ _
    generalize (w4).drew = w5 at *
    clear kk c0 c1 c2 H
    have H := HN
    clear HN
    obtain ⟨c0, c1, c2⟩ := H.out.rd.cells
    go_wp2_with fail
    refine (HIS.out k 0 34 (by decide) hk _ H.out.rd).mono ?_
    rintro e w6 ⟨rfl, bx⟩
    have hn := H.out.step bx
    clear bx H c0 c1 c2
    have H := Lib.hid hn
    obtain ⟨c0, c1, c2⟩ := hn.rd.cells
    clear hn
    rw [n34]
    go_wp2_with fail
    refine (HIS.out k 0 91 (by decide) hk _ H.out.rd).mono ?_
    rintro e w7 ⟨rfl, bx⟩
    have hn := H.out.step bx
    clear bx H c0 c1 c2
    have H := Lib.hid hn
    obtain ⟨c0, c1, c2⟩ := hn.rd.cells
    clear hn
    rw [n91]
    go_wp2_with fail
    refine (HIS.out k 0 123 (by decide) hk _ H.out.rd).mono ?_
    rintro e w8 ⟨rfl, bx⟩
    have hn := H.out.step bx
    clear bx H c0 c1 c2
    have H := Lib.hid hn
    obtain ⟨c0, c1, c2⟩ := hn.rd.cells
    clear hn
    rw [n123]
    go_wp2_with fail
    have hI := H.out.step (Below.refl w8.heap.size w8).drew
    go_region_with (first
      | (go_at_call 68; refine (HF.out _).mono ?_; rintro e w9 ⟨rfl, rfl⟩)
      | (go_at_call 34; refine (HL.out _ hI.rd).mono ?_; rintro e w9 ⟨rfl, hr9, hk9⟩))
    all_goals
      have H9 := Lib.hid (hI.go hr9 hk9)
      clear hr9 hk9 hI c0 c1 c2 H
      obtain ⟨x0, x1, x2, x3, x4, x5⟩ := H9.out.box.cells
      obtain ⟨r0, r1, r2, r3, r4, r5⟩ := H9.out.res.cells
      have rf0 := H9.out.res.fz 0
      have rf1 := H9.out.res.fz 1
      have rf2 := H9.out.res.fz 2
      have rf3 := H9.out.res.fz 3
      have rf4 := H9.out.res.fz 4
      have rf5 := H9.out.res.fz 5
      obtain ⟨hF1, hF2, hF3, hF4⟩ := H9.out.fin
      obtain ⟨q0, q1, q2, q3, q4, q5⟩ := hF4.cells
      have HF1 := Lib.hid hF1
      have HF2 := Lib.hid hF2
      have HF3 := Lib.hid hF3
      clear hF1 hF2 hF3 hF4
      unfold set6 at q0 q1 q2 q3 q4 q5 HF1 HF2 HF3
      go_wp2_with fail
      refine bodyPost_ret (v := .agg #[.int .i64 0, .string ⟨#[]⟩, .int .u64 0, .slice none 0 0, .slice none 0 0, .int .i64 k]) (by simp [results, Tryz.results33, go_sem, q0, q1, q2, q3, q4, q5]) rfl ?_
      exact leaf_er HM0.out HF1.out HF2.out
theorem t5step (s : ByteArray) (hs : s.size ≤ 100000) (d : Nat) (hd : d ≤ 64) (hsp : d < 64 → T5Spec s (d + 1)) : T5Spec s d := by
  intro k o hV hk w b h
  by_cases h1 : byteI s k = 91
  · exact t5v_arr s hs b k d o hk h1 hd hV hsp w h
  by_cases h2 : byteI s k = 123
  · exact t5v_obj s hs b k d o hk h2 hd hV hsp w h
  have hl := V.leaf' hV (fun e => e.elim h1 h2)
  unfold leafR at hl
  by_cases h3 : byteI s k = 110
  · rw [if_pos h3] at hl; exact t5v_null s hs b k d o hk h3 hl w h
  rw [if_neg h3] at hl
  by_cases h4 : byteI s k = 102
  · rw [if_pos h4] at hl; exact t5v_false s hs b k d o hk h4 hl w h
  rw [if_neg h4] at hl
  by_cases h5 : byteI s k = 116
  · rw [if_pos h5] at hl; exact t5v_true s hs b k d o hk h5 hl w h
  rw [if_neg h5] at hl
  by_cases h6 : byteI s k = 34
  · rw [if_pos h6] at hl; exact t5v_text s hs b k d o hk h6 hl w h
  rw [if_neg h6] at hl
  by_cases h7 : isDig (byteI s k) = true
  · exact t5v_num s hs b k d o hk h7 hl w h
  have h7' : isDig (byteI s k) = false := by simpa using h7
  rw [numC_no h7', if_neg (missC_ne s k)] at hl
  subst hl
  exact t5v_oth s b k d hk h3 h4 h5 h6 h1 h2 h7' w h
theorem t5spec (s : ByteArray) (hs : s.size ≤ 100000) : ∀ (n d : Nat), d ≤ 64 → 64 - d = n → T5Spec s d := by
  intro n
  induction n with
  | zero => intro d hd hn k o hV hk w b h; exact t5step s hs d hd (fun h => absurd h (by omega)) k o hV hk w b h
  | succ n ih => intro d hd hn k o hV hk w b h; exact t5step s hs d hd (fun h => ih (d + 1) (by omega) (by omega)) k o hV hk w b h
end Go.Proofs.YtajmlkephefapaaGreatDoor

namespace Go.Proofs.YtajmlkephefapaaGreatDoor
open Go.RowKit Go.Extern.Stop Go.Stop Go.Extern Go.WideMaps

/-- What a whole text's call answers. -/
def T5pOut (w : World) (s : ByteArray) (o : Out) (e : Ending) (w' : World) : Prop :=
  (∃ (x : Val) (k : Int) (t : ByteArray) (n : Int) (a : Option Addr) (l c : Nat) (a' : Option Addr) (l' c' : Nat) (z : Int), o = .ok s.size x ∧
    e = .returned (.tuple #[.agg #[.int .i64 k, .string t, .int .u64 n, .slice a l c, .slice a' l' c', .int .i64 z], .int .i64 0, .int .i64 0]) ∧
    ValC (fun q => w.heap.size ≤ q) w' [.int .i64 k, .string t, .int .u64 n, .slice a l c, .slice a' l' c', .int .i64 z] x ∧ Below w.heap.size w w') ∨
  (∃ (ec : Int) (ea : Nat), o = .er ec ea ∧ e = .returned (.tuple #[.agg #[.int .i64 0, .string ⟨#[]⟩, .int .u64 0, .slice none 0 0, .slice none 0 0, .int .i64 0], .int .i64 ec, .int .i64 ea]) ∧ Below w.heap.size w w')
structure PaSt (w : World) (s : ByteArray) (p : Nat) (c : Int) (W : World) : Prop where
  rd : Tn W (w.heap.size + 1) s p c
  res : SixR W w.heap.size (.int .i64 0) (.string ⟨#[]⟩) (.int .u64 0) (.slice none 0 0) (.slice none 0 0) (.int .i64 0)
  below : Below w.heap.size w W
theorem PaSt.go {w W W' : World} {s : ByteArray} {p p' : Nat} {c c' : Int} (h : PaSt w s p c W) (hr : Tn W' (w.heap.size + 1) s p' c') (hk : Keeps (· = w.heap.size + 1) W W') : PaSt w s p' c' W' :=
  ⟨hr, (hk.block _ h.res.lt (by omega)).trans h.res, h.below.trans (hk.below h.below.size (fun q e => by omega))⟩
theorem PaSt.step {w W W' : World} {s : ByteArray} {p : Nat} {c : Int} (h : PaSt w s p c W) (hb : Below W.heap.size W W') : PaSt w s p c W' := h.go (h.rd.step hb) (Keeps.of_below hb)
theorem PaSt.fin {w W : World} {s : ByteArray} {p : Nat} {c : Int} (h : PaSt w s p c W) (c0 c1 c2 c3 c4 c5 : Value) : SixR (set6 W w.heap.size 0 c0 c1 c2 c3 c4 c5) w.heap.size c0 c1 c2 c3 c4 c5 ∧ Keeps (· = w.heap.size) W (set6 W w.heap.size 0 c0 c1 c2 c3 c4 c5) ∧ Below w.heap.size w (set6 W w.heap.size 0 c0 c1 c2 c3 c4 c5) := by
  have k6 := keeps_set6 W w.heap.size 0 c0 c1 c2 c3 c4 c5
  exact ⟨h.res.set6 _ _ _ _ _ _, k6, h.below.trans (k6.below h.below.size (fun q e => by omega))⟩
theorem hx6_keep {W5 W6 : World} {W3 b : Nat} {cs : List Value} {x : Val} (h : ValC (fun q => W3 ≤ q) W5 cs x) (hk : Keeps (· = b) W5 W6) (hb : b < W3) : ValC (fun q => W3 ≤ q) W6 cs x := h.move hk.size fun r hr hlt => ⟨hr, hk.block r hlt (by omega)⟩
set_option maxRecDepth 100000 in
set_option maxHeartbeats 4000000 in
theorem t5parse_long (s : ByteArray) (hl : 65536 < s.size) (w : World) : Calls Tryz.prog 8 #[.string s] w (T5pOut w s (.er 5 65536)) := by
  have hb0 := sbelow_new w (.cells #[.int .i64 0, .string ⟨#[]⟩, .int .u64 0, .slice none 0 0, .slice none 0 0, .int .i64 0] 34)
  have h60 : SixR (w.alloc (.cells #[.int .i64 0, .string ⟨#[]⟩, .int .u64 0, .slice none 0 0, .slice none 0 0, .int .i64 0] 34)) w.heap.size (.int .i64 0) (.string ⟨#[]⟩) (.int .u64 0) (.slice none 0 0) (.slice none 0 0) (.int .i64 0) := heap_alloc_new w _
  have hli : (65536 : Int) < (s.size : Int) := by omega
  have hF4 := h60.set6 (.int .i64 0) (.string ⟨#[]⟩) (.int .u64 0) (.slice none 0 0) (.slice none 0 0) (.int .i64 0)
  have HB := Lib.hid (hb0.trans ((keeps_set6 (w.alloc (.cells #[.int .i64 0, .string ⟨#[]⟩, .int .u64 0, .slice none 0 0, .slice none 0 0, .int .i64 0] 34)) w.heap.size 0 (.int .i64 0) (.string ⟨#[]⟩) (.int .u64 0) (.slice none 0 0) (.slice none 0 0) (.int .i64 0)).below hb0.size (fun q e => by omega)))
  obtain ⟨r0, r1, r2, r3, r4, r5⟩ := h60.cells
  have rf0 := h60.fz 0
  have rf1 := h60.fz 1
  have rf2 := h60.fz 2
  have rf3 := h60.fz 3
  have rf4 := h60.fz 4
  have rf5 := h60.fz 5
  obtain ⟨q0, q1, q2, q3, q4, q5⟩ := hF4.cells
  unfold set6 at q0 q1 q2 q3 q4 q5 HB
  clear hb0 h60 hF4 hl
  go_enter Tryz.func8, Tryz.ntmps8
  go_upto_region 1 with (fail)
  generalize w.alloc (.cells #[.int .i64 0, .string ⟨#[]⟩, .int .u64 0, .slice none 0 0, .slice none 0 0, .int .i64 0] 34) = w1 at *
  go_wp2_with fail
  exact bodyPost_ret (v := .tuple #[.agg #[.int .i64 0, .string ⟨#[]⟩, .int .u64 0, .slice none 0 0, .slice none 0 0, .int .i64 0], .int .i64 5, .int .i64 65536]) (by simp [results, Tryz.results8, go_sem, q0, q1, q2, q3, q4, q5]) rfl (.inr ⟨5, 65536, rfl, rfl, HB.out⟩)
set_option maxRecDepth 100000 in
set_option maxHeartbeats 8000000 in
theorem t5parse_go (s : ByteArray) (hl : s.size ≤ 65536) (o : Out) (hW : Whole s o) (w : World) : Calls Tryz.prog 8 #[.string s] w (T5pOut w s o) := by
  rcases hW with ⟨h, -⟩ | ⟨-, o1, hV, hW⟩
  · omega
  have hs : s.size ≤ 100000 := by omega
  have hb1 := sbelow_new w (.cells #[.int .i64 0, .string ⟨#[]⟩, .int .u64 0, .slice none 0 0, .slice none 0 0, .int .i64 0] 34)
  have hb2 := sbelow_new (w.alloc (.cells #[.int .i64 0, .string ⟨#[]⟩, .int .u64 0, .slice none 0 0, .slice none 0 0, .int .i64 0] 34)) (.cells #[.string s, .int .i64 0, .int .i64 0] 67)
  have n1 : SixR (w.alloc (.cells #[.int .i64 0, .string ⟨#[]⟩, .int .u64 0, .slice none 0 0, .slice none 0 0, .int .i64 0] 34)) w.heap.size (.int .i64 0) (.string ⟨#[]⟩) (.int .u64 0) (.slice none 0 0) (.slice none 0 0) (.int .i64 0) := heap_alloc_new w _
  have n2 : Tn ((w.alloc (.cells #[.int .i64 0, .string ⟨#[]⟩, .int .u64 0, .slice none 0 0, .slice none 0 0, .int .i64 0] 34)).alloc (.cells #[.string s, .int .i64 0, .int .i64 0] 67)) (w.heap.size + 1) s 0 0 := by
    have := heap_alloc_new (w.alloc (.cells #[.int .i64 0, .string ⟨#[]⟩, .int .u64 0, .slice none 0 0, .slice none 0 0, .int .i64 0] 34)) (.cells #[.string s, .int .i64 0, .int .i64 0] 67)
    rwa [World.size_alloc] at this
  have H2 : Hid (PaSt w s 0 0 ((w.alloc (.cells #[.int .i64 0, .string ⟨#[]⟩, .int .u64 0, .slice none 0 0, .slice none 0 0, .int .i64 0] 34)).alloc (.cells #[.string s, .int .i64 0, .int .i64 0] 67))) := Lib.hid ⟨n2, n1.step hb2, hb1.trans (hb2.mono hb1.size)⟩
  have hli : ¬ (65536 : Int) < (s.size : Int) := by omega
  have HSK := Lib.hid (fun k c hk W b (h : Tn W b s k c) => t5skip_any s k b c hs hk W h)
  have HFL := Lib.hid (fun k c W b (h : Tn W b s k 0) => t5fail_yes s k b c W h)
  have hsk := sk_le s 0 (Nat.zero_le _)
  have HV := Lib.hid (fun W b (h : Tn W b s (sk s 0) 0) => t5spec s hs 64 0 (by omega) rfl (sk s 0) o1 hV hsk.2 W b h)
  have HFI := Lib.hid (W.fits hV hsk.2)
  have HWH := Lib.hid hW
  clear hb1 hb2 n1 n2 hV hW
  obtain ⟨k0, hk0⟩ : ∃ k0, sk s 0 = k0 := ⟨_, rfl⟩
  rw [hk0] at hsk HV HFI
  have HK0 := Lib.hid hk0
  clear hk0 hsk
  go_enter Tryz.func8, Tryz.ntmps8
  go_wp2_with fail
  generalize (w.alloc (.cells #[.int .i64 0, .string ⟨#[]⟩, .int .u64 0, .slice none 0 0, .slice none 0 0, .int .i64 0] 34)).alloc (.cells #[.string s, .int .i64 0, .int .i64 0] 67) = w2 at *
  refine (HSK.out 0 0 (Nat.zero_le _) _ _ H2.out.rd).mono ?_
  rintro e w3 ⟨rfl, hr3, hk3⟩
  rw [HK0.out] at hr3
  have H3 := Lib.hid (H2.out.go hr3 hk3)
  clear hr3 hk3 H2
  go_wp2_with fail
  refine (HV.out _ _ H3.out.rd).mono ?_
  intro e w4 hout
  have hz4 : w.heap.size + 1 < w3.heap.size := H3.out.rd.lt
  cases o1 with
  | er ec ea =>
    obtain ⟨k6, t6, n6, a6, l6, c6, a7, l7, c7, z6, rfl, hc, hr4, hk4⟩ := hout
    have HO : Hid (o = .er ec ea) := Lib.hid (by
      rcases HWH.out with ⟨c, a, e1, e2⟩ | ⟨j, v, e1, -⟩
      · injection e1 with e3 e4; rw [e2, e3, e4]
      · cases e1)
    have bn := sbelow_new w4 (.cells #[.int .i64 k6, .string t6, .int .u64 n6, .slice a6 l6 c6, .slice a7 l7 c7, .int .i64 z6] 34)
    have H5 := Lib.hid ((H3.out.go hr4 hk4).step bn)
    have hne : (ec != 0) = true := bne_iff_ne.2 hc
    have hne2 : (ec == 0) = false := beq_eq_false_iff_ne.2 hc
    obtain ⟨c0, c1, c2⟩ := H5.out.rd.cells
    clear bn hr4 hk4 hc H3 hz4
    go_upto_region 6 with (fail)
    generalize w4.alloc (.cells #[.int .i64 k6, .string t6, .int .u64 n6, .slice a6 l6 c6, .slice a7 l7 c7, .int .i64 z6] 34) = w5 at *
    clear c0 c1 c2
    obtain ⟨c0, c1, c2⟩ := H5.out.rd.cells
    have hD := H5.out.step (Below.refl (w5).heap.size (w5)).drew
    obtain ⟨hF4, hF3, hF2⟩ := H5.out.fin (.int .i64 0) (.string ⟨#[]⟩) (.int .u64 0) (.slice none 0 0) (.slice none 0 0) (.int .i64 0)
    obtain ⟨q0, q1, q2, q3, q4, q5⟩ := (hF4.step (Below.refl _ _).drew).cells
    obtain ⟨-, e1, e2⟩ := ((H5.out.rd.keeps hF3 (by omega)).step (Below.refl _ _).drew).cells
    have HS9 := Lib.hid (And.intro e1 e2)
    have HF2 := Lib.hid (hF2.trans ((Below.refl _ _).drew.mono hF2.size))
    clear hF2 hF3 hF4 e1 e2
    unfold set6 at q0 q1 q2 q3 q4 q5 HF2 HS9
    go_wp2_with fail
    have hS0 : (fun W' : World => W'.cell? ⟨w.heap.size + 1, 1, none⟩ = some (.int .i64 (ea : Nat)) ∧ W'.cell? ⟨w.heap.size + 1, 2, none⟩ = some (.int .i64 ec)) (w5).drew := ⟨hD.rd.cells.2.1, hD.rd.cells.2.2⟩
    obtain ⟨r0, r1, r2, r3, r4, r5⟩ := H5.out.res.cells
    have rf0 := H5.out.res.fz 0
    have rf1 := H5.out.res.fz 1
    have rf2 := H5.out.res.fz 2
    have rf3 := H5.out.res.fz 3
    have rf4 := H5.out.res.fz 4
    have rf5 := H5.out.res.fz 5
    clear hD c0 c1 c2
    refine region_T (fun W' : World => W'.cell? ⟨w.heap.size + 1, 1, none⟩ = some (.int .i64 (ea : Nat)) ∧ W'.cell? ⟨w.heap.size + 1, 2, none⟩ = some (.int .i64 ec)) 11 (by kernel_rfl) ?_
    refine wpT_take (i := 0) (v := .agg #[.int .i64 0, .string ⟨#[]⟩, .int .u64 0, .slice none 0 0, .slice none 0 0, .int .i64 0]) rfl (by kernel_rfl) (by kernel_rfl) (by kernel_rfl) (by kernel_rfl) (by kernel_rfl) (by kernel_rfl) (by kernel_rfl) (by kernel_rfl) (fun _ _ _ h => h) (Or.inl ⟨by rfl, ?_⟩) hS0 ?_
    · rintro w' ⟨s1, s2⟩
      go_simp
    try simp only [Act.put]
    refine wpT_take (i := 1) (v := .pointer (some ⟨w.heap.size + 1, 0, none⟩)) rfl (by kernel_rfl) (by kernel_rfl) (by kernel_rfl) (by kernel_rfl) (by kernel_rfl) (by kernel_rfl) (by kernel_rfl) (by kernel_rfl) (fun _ _ _ h => h) (Or.inl ⟨by rfl, ?_⟩) hS0 ?_
    · rintro w' ⟨s1, s2⟩
      go_simp
    try simp only [Act.put]
    refine wpT_take (i := 2) (v := .pointer (some ⟨w.heap.size + 1, 0, none⟩)) rfl (by kernel_rfl) (by kernel_rfl) (by kernel_rfl) (by kernel_rfl) (by kernel_rfl) (by kernel_rfl) (by kernel_rfl) (by kernel_rfl) (fun _ _ _ h => h) (Or.inl ⟨by rfl, ?_⟩) hS0 ?_
    · rintro w' ⟨s1, s2⟩
      go_simp
    try simp only [Act.put]
    refine wpT_take (i := 3) (v := .pointer (some ⟨w.heap.size + 1, 2, none⟩)) rfl (by kernel_rfl) (by kernel_rfl) (by kernel_rfl) (by kernel_rfl) (by kernel_rfl) (by kernel_rfl) (by kernel_rfl) (by kernel_rfl) (fun _ _ _ h => h) (Or.inl ⟨by rfl, ?_⟩) hS0 ?_
    · rintro w' ⟨s1, s2⟩
      go_simp
    try simp only [Act.put]
    refine wpT_take (i := 4) (v := .int .i64 ec) rfl (by kernel_rfl) (by kernel_rfl) (by kernel_rfl) (by kernel_rfl) (by kernel_rfl) (by kernel_rfl) (by kernel_rfl) (by kernel_rfl) (fun _ _ _ h => h) (Or.inl ⟨by rfl, ?_⟩) hS0 ?_
    · rintro w' ⟨s1, s2⟩
      go_simp
    try simp only [Act.put]
    refine wpT_take (i := 5) (v := .pointer (some ⟨w.heap.size + 1, 0, none⟩)) rfl (by kernel_rfl) (by kernel_rfl) (by kernel_rfl) (by kernel_rfl) (by kernel_rfl) (by kernel_rfl) (by kernel_rfl) (by kernel_rfl) (fun _ _ _ h => h) (Or.inl ⟨by rfl, ?_⟩) hS0 ?_
    · rintro w' ⟨s1, s2⟩
      go_simp
    try simp only [Act.put]
    refine wpT_take (i := 6) (v := .pointer (some ⟨w.heap.size + 1, 0, none⟩)) rfl (by kernel_rfl) (by kernel_rfl) (by kernel_rfl) (by kernel_rfl) (by kernel_rfl) (by kernel_rfl) (by kernel_rfl) (by kernel_rfl) (fun _ _ _ h => h) (Or.inl ⟨by rfl, ?_⟩) hS0 ?_
    · rintro w' ⟨s1, s2⟩
      go_simp
    try simp only [Act.put]
    refine wpT_take (i := 7) (v := .pointer (some ⟨w.heap.size + 1, 1, none⟩)) rfl (by kernel_rfl) (by kernel_rfl) (by kernel_rfl) (by kernel_rfl) (by kernel_rfl) (by kernel_rfl) (by kernel_rfl) (by kernel_rfl) (fun _ _ _ h => h) (Or.inl ⟨by rfl, ?_⟩) hS0 ?_
    · rintro w' ⟨s1, s2⟩
      go_simp
    try simp only [Act.put]
    refine wpT_take (i := 8) (v := .int .i64 (ea : Nat)) rfl (by kernel_rfl) (by kernel_rfl) (by kernel_rfl) (by kernel_rfl) (by kernel_rfl) (by kernel_rfl) (by kernel_rfl) (by kernel_rfl) (fun _ _ _ h => h) (Or.inl ⟨by rfl, ?_⟩) hS0 ?_
    · rintro w' ⟨s1, s2⟩
      go_simp
    try simp only [Act.put]
    refine wpT_one (i := 9) (by kernel_rfl) rfl ?_
    intro KK hKK
    go_simp
    refine hKK _ _ ⟨fun _ => HS9.out, ?_⟩
    clear hKK
    try simp only [Act.put]
    refine wpT_one (i := 10) (by kernel_rfl) rfl ?_
    intro KK hKK
    go_simp
    refine hKK _ _ ⟨fun _ => HS9.out, ?_⟩
    clear hKK hS0
    try simp only [Act.put]
    refine wpT_tail 11 1 rfl rfl (by kernel_rfl) (by kernel_rfl) ?_
    simp only [List.drop_succ_cons, List.drop_zero]
    go_wp2_with fail
    refine bodyPost_ret (v := .tuple #[.agg #[.int .i64 0, .string ⟨#[]⟩, .int .u64 0, .slice none 0 0, .slice none 0 0, .int .i64 0], .int .i64 ec, .int .i64 (ea : Nat)]) (by simp [results, Tryz.results8, go_sem, q0, q1, q2, q3, q4, q5]) rfl ?_
    rw [HO.out]
    exact .inr ⟨ec, ea, rfl, rfl, HF2.out⟩
  | ok j x =>
    obtain ⟨k6, t6, n6, a6, l6, c6, a7, l7, c7, z6, rfl, hx, hr4, hk4⟩ := hout
    have hj : j ≤ s.size := HFI.out.2
    have hjl := sk_le s j hj
    have HO : Hid (sk s j = s.size ∧ o = .ok s.size x ∨ sk s j ≠ s.size ∧ o = .er 4 (sk s j)) := Lib.hid (by
      rcases HWH.out with ⟨c, a, e1, -⟩ | ⟨j', v, e1, e2⟩
      · cases e1
      · injection e1 with e3 e4; subst e3 e4; exact e2)
    have bn := sbelow_new w4 (.cells #[.int .i64 k6, .string t6, .int .u64 n6, .slice a6 l6 c6, .slice a7 l7 c7, .int .i64 z6] 34)
    have H5 := Lib.hid ((H3.out.go hr4 hk4).step bn)
    have HB5 : Hid (SixR (w4.alloc (.cells #[.int .i64 k6, .string t6, .int .u64 n6, .slice a6 l6 c6, .slice a7 l7 c7, .int .i64 z6] 34)) w4.heap.size (.int .i64 k6) (.string t6) (.int .u64 n6) (.slice a6 l6 c6) (.slice a7 l7 c7) (.int .i64 z6)) := Lib.hid (heap_alloc_new w4 _)
    have HX5 := Lib.hid (hx.step bn)
    have hz5 : w.heap.size + 1 < w4.heap.size := Nat.lt_of_lt_of_le hz4 hk4.size
    obtain ⟨c0, c1, c2⟩ := H5.out.rd.cells
    clear bn hr4 hk4 hx H3
    go_upto_region 6 with (fail)
    generalize w4.alloc (.cells #[.int .i64 k6, .string t6, .int .u64 n6, .slice a6 l6 c6, .slice a7 l7 c7, .int .i64 z6] 34) = w5 at *
    generalize w4.heap.size = bx at *
    go_wp2_with fail
    refine (HSK.out j 0 hj _ _ H5.out.rd).mono ?_
    rintro e w6 ⟨rfl, hr6, hk6⟩
    have H6 := Lib.hid (H5.out.go hr6 hk6)
    have HB6 : Hid (SixR w6 bx (.int .i64 k6) (.string t6) (.int .u64 n6) (.slice a6 l6 c6) (.slice a7 l7 c7) (.int .i64 z6)) := Lib.hid ((hk6.block bx HB5.out.lt (by omega)).trans HB5.out)
    have HX6 := Lib.hid (hx6_keep HX5.out hk6 hz4)
    clear hr6 hk6 H5 HB5 HX5 c0 c1 c2
    generalize sk s j = jj at *
    obtain ⟨c0, c1, c2⟩ := H6.out.rd.cells
    by_cases hjs : jj = s.size
    · subst hjs
      have HO2 : Hid (o = .ok s.size x) := Lib.hid (by
        rcases HO.out with ⟨-, e⟩ | ⟨e, -⟩
        · exact e
        · exact absurd rfl e)
      obtain ⟨x0, x1, x2, x3, x4, x5⟩ := HB6.out.cells
      obtain ⟨r0, r1, r2, r3, r4, r5⟩ := H6.out.res.cells
      have rf0 := H6.out.res.fz 0
      have rf1 := H6.out.res.fz 1
      have rf2 := H6.out.res.fz 2
      have rf3 := H6.out.res.fz 3
      have rf4 := H6.out.res.fz 4
      have rf5 := H6.out.res.fz 5
      obtain ⟨hF4, hF3, hF2⟩ := H6.out.fin (.int .i64 k6) (.string t6) (.int .u64 n6) (.slice a6 l6 c6) (.slice a7 l7 c7) (.int .i64 z6)
      obtain ⟨q0, q1, q2, q3, q4, q5⟩ := hF4.cells
      have HF2 := Lib.hid hF2
      have HF3 := Lib.hid hF3
      clear hF2 hF3 hF4
      unfold set6 at q0 q1 q2 q3 q4 q5 HF2 HF3
      go_wp2_with fail
      refine bodyPost_ret (v := .tuple #[.agg #[.int .i64 k6, .string t6, .int .u64 n6, .slice a6 l6 c6, .slice a7 l7 c7, .int .i64 z6], .int .i64 0, .int .i64 0]) (by simp [results, Tryz.results8, go_sem, q0, q1, q2, q3, q4, q5]) rfl ?_
      rw [HO2.out]
      exact .inl ⟨x, _, _, _, _, _, _, _, _, _, _, rfl, rfl, HX6.out.move HF3.out.size (fun r hr hlt => ⟨by omega, HF3.out.block r hlt (by omega)⟩), HF2.out⟩
    · have hlt : (jj : Int) < (s.size : Int) := by omega
      have HO2 : Hid (o = .er 4 jj) := Lib.hid (by
        rcases HO.out with ⟨e, -⟩ | ⟨-, e⟩
        · exact absurd e hjs
        · exact e)
      clear hjs
      go_wp2_with fail
      refine (HFL.out jj 4 _ _ H6.out.rd).mono ?_
      rintro e w7 ⟨rfl, hr7, hk7⟩
      have H7 := Lib.hid (H6.out.go hr7 hk7)
      clear hr7 hk7 H6 HB6 HX6 c0 c1 c2
      obtain ⟨c0, c1, c2⟩ := H7.out.rd.cells
      have hD := H7.out.step (Below.refl (w7).heap.size (w7)).drew
      obtain ⟨hF4, hF3, hF2⟩ := H7.out.fin (.int .i64 0) (.string ⟨#[]⟩) (.int .u64 0) (.slice none 0 0) (.slice none 0 0) (.int .i64 0)
      obtain ⟨q0, q1, q2, q3, q4, q5⟩ := (hF4.step (Below.refl _ _).drew).cells
      obtain ⟨-, e1, e2⟩ := ((H7.out.rd.keeps hF3 (by omega)).step (Below.refl _ _).drew).cells
      have HS9 := Lib.hid (And.intro e1 e2)
      have HF2 := Lib.hid (hF2.trans ((Below.refl _ _).drew.mono hF2.size))
      clear hF2 hF3 hF4 e1 e2
      unfold set6 at q0 q1 q2 q3 q4 q5 HF2 HS9
      go_wp2_with fail
      have hS0 : (fun W' : World => W'.cell? ⟨w.heap.size + 1, 1, none⟩ = some (.int .i64 (jj : Nat)) ∧ W'.cell? ⟨w.heap.size + 1, 2, none⟩ = some (.int .i64 4)) (w7).drew := ⟨hD.rd.cells.2.1, hD.rd.cells.2.2⟩
      obtain ⟨r0, r1, r2, r3, r4, r5⟩ := H7.out.res.cells
      have rf0 := H7.out.res.fz 0
      have rf1 := H7.out.res.fz 1
      have rf2 := H7.out.res.fz 2
      have rf3 := H7.out.res.fz 3
      have rf4 := H7.out.res.fz 4
      have rf5 := H7.out.res.fz 5
      clear hD c0 c1 c2
      refine region_T (fun W' : World => W'.cell? ⟨w.heap.size + 1, 1, none⟩ = some (.int .i64 (jj : Nat)) ∧ W'.cell? ⟨w.heap.size + 1, 2, none⟩ = some (.int .i64 4)) 11 (by kernel_rfl) ?_
      refine wpT_take (i := 0) (v := .agg #[.int .i64 0, .string ⟨#[]⟩, .int .u64 0, .slice none 0 0, .slice none 0 0, .int .i64 0]) rfl (by kernel_rfl) (by kernel_rfl) (by kernel_rfl) (by kernel_rfl) (by kernel_rfl) (by kernel_rfl) (by kernel_rfl) (by kernel_rfl) (fun _ _ _ h => h) (Or.inl ⟨by rfl, ?_⟩) hS0 ?_
      · rintro w' ⟨s1, s2⟩
        go_simp
      try simp only [Act.put]
      refine wpT_take (i := 1) (v := .pointer (some ⟨w.heap.size + 1, 0, none⟩)) rfl (by kernel_rfl) (by kernel_rfl) (by kernel_rfl) (by kernel_rfl) (by kernel_rfl) (by kernel_rfl) (by kernel_rfl) (by kernel_rfl) (fun _ _ _ h => h) (Or.inl ⟨by rfl, ?_⟩) hS0 ?_
      · rintro w' ⟨s1, s2⟩
        go_simp
      try simp only [Act.put]
      refine wpT_take (i := 2) (v := .pointer (some ⟨w.heap.size + 1, 0, none⟩)) rfl (by kernel_rfl) (by kernel_rfl) (by kernel_rfl) (by kernel_rfl) (by kernel_rfl) (by kernel_rfl) (by kernel_rfl) (by kernel_rfl) (fun _ _ _ h => h) (Or.inl ⟨by rfl, ?_⟩) hS0 ?_
      · rintro w' ⟨s1, s2⟩
        go_simp
      try simp only [Act.put]
      refine wpT_take (i := 3) (v := .pointer (some ⟨w.heap.size + 1, 2, none⟩)) rfl (by kernel_rfl) (by kernel_rfl) (by kernel_rfl) (by kernel_rfl) (by kernel_rfl) (by kernel_rfl) (by kernel_rfl) (by kernel_rfl) (fun _ _ _ h => h) (Or.inl ⟨by rfl, ?_⟩) hS0 ?_
      · rintro w' ⟨s1, s2⟩
        go_simp
      try simp only [Act.put]
      refine wpT_take (i := 4) (v := .int .i64 4) rfl (by kernel_rfl) (by kernel_rfl) (by kernel_rfl) (by kernel_rfl) (by kernel_rfl) (by kernel_rfl) (by kernel_rfl) (by kernel_rfl) (fun _ _ _ h => h) (Or.inl ⟨by rfl, ?_⟩) hS0 ?_
      · rintro w' ⟨s1, s2⟩
        go_simp
      try simp only [Act.put]
      refine wpT_take (i := 5) (v := .pointer (some ⟨w.heap.size + 1, 0, none⟩)) rfl (by kernel_rfl) (by kernel_rfl) (by kernel_rfl) (by kernel_rfl) (by kernel_rfl) (by kernel_rfl) (by kernel_rfl) (by kernel_rfl) (fun _ _ _ h => h) (Or.inl ⟨by rfl, ?_⟩) hS0 ?_
      · rintro w' ⟨s1, s2⟩
        go_simp
      try simp only [Act.put]
      refine wpT_take (i := 6) (v := .pointer (some ⟨w.heap.size + 1, 0, none⟩)) rfl (by kernel_rfl) (by kernel_rfl) (by kernel_rfl) (by kernel_rfl) (by kernel_rfl) (by kernel_rfl) (by kernel_rfl) (by kernel_rfl) (fun _ _ _ h => h) (Or.inl ⟨by rfl, ?_⟩) hS0 ?_
      · rintro w' ⟨s1, s2⟩
        go_simp
      try simp only [Act.put]
      refine wpT_take (i := 7) (v := .pointer (some ⟨w.heap.size + 1, 1, none⟩)) rfl (by kernel_rfl) (by kernel_rfl) (by kernel_rfl) (by kernel_rfl) (by kernel_rfl) (by kernel_rfl) (by kernel_rfl) (by kernel_rfl) (fun _ _ _ h => h) (Or.inl ⟨by rfl, ?_⟩) hS0 ?_
      · rintro w' ⟨s1, s2⟩
        go_simp
      try simp only [Act.put]
      refine wpT_take (i := 8) (v := .int .i64 (jj : Nat)) rfl (by kernel_rfl) (by kernel_rfl) (by kernel_rfl) (by kernel_rfl) (by kernel_rfl) (by kernel_rfl) (by kernel_rfl) (by kernel_rfl) (fun _ _ _ h => h) (Or.inl ⟨by rfl, ?_⟩) hS0 ?_
      · rintro w' ⟨s1, s2⟩
        go_simp
      try simp only [Act.put]
      refine wpT_one (i := 9) (by kernel_rfl) rfl ?_
      intro KK hKK
      go_simp
      refine hKK _ _ ⟨fun _ => HS9.out, ?_⟩
      clear hKK
      try simp only [Act.put]
      refine wpT_one (i := 10) (by kernel_rfl) rfl ?_
      intro KK hKK
      go_simp
      refine hKK _ _ ⟨fun _ => HS9.out, ?_⟩
      clear hKK hS0
      try simp only [Act.put]
      refine wpT_tail 11 1 rfl rfl (by kernel_rfl) (by kernel_rfl) ?_
      simp only [List.drop_succ_cons, List.drop_zero]
      go_wp2_with fail
      refine bodyPost_ret (v := .tuple #[.agg #[.int .i64 0, .string ⟨#[]⟩, .int .u64 0, .slice none 0 0, .slice none 0 0, .int .i64 0], .int .i64 4, .int .i64 (jj : Nat)]) (by simp [results, Tryz.results8, go_sem, q0, q1, q2, q3, q4, q5]) rfl ?_
      rw [HO2.out]
      exact .inr ⟨4, jj, rfl, rfl, HF2.out⟩
theorem t5parse_any (s : ByteArray) (o : Out) (hW : Whole s o) (w : World) : Calls Tryz.prog 8 #[.string s] w (T5pOut w s o) := by
  rcases Nat.lt_or_ge 65536 s.size with h | h
  · rcases hW with ⟨-, rfl⟩ | ⟨h', -⟩
    · exact t5parse_long s h w
    · omega
  · exact t5parse_go s h o hW w
end Go.Proofs.YtajmlkephefapaaGreatDoor
