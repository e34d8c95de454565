/-
  Chapter 21's Long by contract.
-/
import Derived.Test.YtjanbhodikhdeaaDoorPdW
import Derived.Test.YtjanbhodikhdeaaDoorIntS
namespace Go.Proofs.YtjanbhodikhdeaaDoor
open Go.RowKit Go.Extern.Stop Go.Stop Go.Extern

theorem sub_at {w : World} {pa : Option Addr} {pc : Nat} {l : List Int} (h : IntsC w (.slice pa l.length pc) l) (i j : Nat) (hj : j ≤ l.length) :
    IntsAt w (.slice (pa.map fun x => x.add i) (j - i) (pc - i)) ((l.take j).drop i) := by
  rcases h.1 with ⟨a', k, e, h0⟩ | ⟨b, off, cap, e, hlt, hc⟩
  · subst h0
    have hj0 : j = 0 := by simpa using hj
    subst hj0
    exact .inl ⟨_, _, by rw [Nat.zero_sub], by simp⟩
  · injection e with e1 e2 e3
    subst e1 e3
    refine .inr ⟨b, off + i, pc - i, by simp [Addr.add]; omega, hlt, fun q c hq => ?_⟩
    rw [List.getElem?_drop, List.getElem?_take] at hq
    split at hq
    · have := hc (i + q) c hq
      rw [show off + i + q = off + (i + q) by omega]
      exact this
    · cases hq
theorem RuO.new {T : TypeId} {B : Nat} {W : World} {r : Ru} {u : Value} (hp : W.ownsRow B 3 1 u r.push.length (encI r.push)) (hB : B ≤ W.heap.size) :
    RuO T B (.slice (some ⟨W.heap.size, 0, none⟩) 1 1) [r] [u] (W.alloc (.cells #[.int .i64 r.fr, .int .i64 r.top, .int .i64 r.to, u, .int .u64 r.cost] T)) := by
  refine ⟨rfl, ⟨rfl, .inr ⟨W.heap.size, 1, _, rfl, hB, heap_alloc_new W _, Nat.le_refl _, by unfold maxLen; omega, rfl, rfl⟩⟩, ?_⟩
  intro k q y hq hy
  cases k with
  | zero =>
    obtain rfl : r = q := by simpa using hq
    obtain rfl : u = y := by simpa using hy
    exact hp.alloc _
  | succ k => simp at hq
/-- The last rule's cells, in a row of the call's own. -/
theorem RuO.last {T : TypeId} {B : Nat} {v : Value} {l : List Ru} {us : List Value} {W : World} (h : RuO T B v l us W) {k : Nat} {r : Ru} (hk : l[k]? = some r) :
    ∃ g cap, v = .slice (some ⟨g, 0, none⟩) l.length cap ∧ B ≤ g ∧ g < W.heap.size ∧ W.cell? ⟨g, k * 5 + 2, none⟩ = some (.int .i64 r.to) ∧ ∀ i, W.frozen? ⟨g, i, none⟩ = false := by
  have hkl := (List.getElem?_eq_some_iff.1 hk).1
  rcases h.own.2 with ⟨rfl, h0⟩ | ⟨g, cap, cur, rfl, hB, hg, hle, -, hsz, hx⟩
  · omega
  · obtain ⟨u, hu⟩ : ∃ u, us[k]? = some u := ⟨_, List.getElem?_eq_getElem (by rw [h.len]; exact hkl)⟩
    obtain ⟨-, -, k2, -, -⟩ := ruC_at hk hu
    rw [← hx, List.getElem?_take, if_pos (by omega)] at k2
    exact ⟨g, cap, rfl, hB, blt hg, by rw [Lib.cell_of_heap hg]; simpa using k2, fun i => by unfold World.frozen?; rw [hg]; simp⟩
theorem infoPRule : (Tryd.prog.info? 46).map (fun i => (i.zero, i.size, i.bytes)) = some (some (.agg #[.int .i64 0, .int .i64 0, .int .i64 0, .slice none 0 0, .int .u64 0]), 5, 56) := by kernel_rfl
theorem own_put5 {T : TypeId} (hT : T ≠ 3) {W : World} {B n X : Nat} {v : Value} {xs : List Value} {z0 z1 z2 z3 z4 : Value} (h : W.ownsRow B 3 1 v n xs) (hX : W.heap[X]? = some (.cells #[z0, z1, z2, z3, z4] T (0, 0))) (u0 u1 u2 u3 u4 : Value) :
    (((((W.setCell ⟨X, 0, none⟩ u0).setCell ⟨X, 1, none⟩ u1).setCell ⟨X, 2, none⟩ u2).setCell ⟨X, 3, none⟩ u3).setCell ⟨X, 4, none⟩ u4).ownsRow B 3 1 v n xs ∧
    (((((W.setCell ⟨X, 0, none⟩ u0).setCell ⟨X, 1, none⟩ u1).setCell ⟨X, 2, none⟩ u2).setCell ⟨X, 3, none⟩ u3).setCell ⟨X, 4, none⟩ u4).heap[X]? = some (.cells #[u0, u1, u2, u3, u4] T (0, 0)) := by
  have x1 := heap_setCell_same W X 0 _ _ u0 hX
  have o1 := h.kept (grown_set W X 0 u0) (.inr fun e => h.own_ne' hX hT e)
  have x2 := heap_setCell_same _ X 1 _ _ u1 x1
  have o2 := o1.kept (grown_set _ X 1 u1) (.inr fun e => o1.own_ne' x1 hT e)
  have x3 := heap_setCell_same _ X 2 _ _ u2 x2
  have o3 := o2.kept (grown_set _ X 2 u2) (.inr fun e => o2.own_ne' x2 hT e)
  have x4 := heap_setCell_same _ X 3 _ _ u3 x3
  have o4 := o3.kept (grown_set _ X 3 u3) (.inr fun e => o3.own_ne' x3 hT e)
  have x5 := heap_setCell_same _ X 4 _ _ u4 x4
  have o5 := o4.kept (grown_set _ X 4 u4) (.inr fun e => o4.own_ne' x4 hT e)
  exact ⟨o5, x5⟩
/-- What Long answers. -/
def LoP (l : List Ru) (w : World) (e : Ending) (w' : World) : Prop := ∃ vL us, e = .returned vL ∧ RuO 46 w.heap.size vL l us w' ∧ Below w.heap.size w w'
set_option maxRecDepth 100000 in
set_option maxHeartbeats 8000000 in
theorem pdsLong_any (fr top to : Int) (push : List Int) (v : Value) (cost fresh : Int) (w : World) (hv : IntsC w v push) (hl : push.length ≤ 10) (hf : 0 ≤ fresh ∧ fresh ≤ 100) (hc : 0 ≤ cost) (m : Nat) (hm : m = push.length - 2) :
    Calls Tryd.prog 12 #[.int .i64 fr, .int .i64 top, .int .i64 to, v, .int .u64 cost, .int .i64 fresh] w (LoP (lgL fr top to push cost fresh m m) w) := by
  obtain ⟨pa, pc, rfl⟩ := hv.1.form
  have hpc : push.length ≤ pc := hv.2 _ _ _ rfl
  have HV := Lib.hid hv
  have hmx : max (0 : Int) ((push.length : Int) - 2) = (m : Int) := by omega
  have hml : m ≤ push.length := by omega
  have HM := Lib.hid hm
  have HF := Lib.hid hf
  obtain ⟨L, HL⟩ : ∃ L, Hid (push.length = L) := ⟨_, Lib.hid rfl⟩
  rw [HL.out] at hpc hmx hml hl
  clear hv hf hm
  by_cases hp0 : pc = m
  · have hL0 : L = 0 := by have := HM.out; rw [HL.out] at this; omega
    have hm0 : m = 0 := by have := HM.out; rw [HL.out] at this; omega
    subst hm0 hp0
    obtain rfl : push = [] := List.eq_nil_of_length_eq_zero (by rw [HL.out]; exact hL0)
    clear HL hmx hml hpc hL0
    have HCl := Lib.hid (cloneI_any [] (.slice pa 0 0) w HV.out.1 (by decide))
    show Calls Tryd.prog 12 #[.int .i64 fr, .int .i64 top, .int .i64 to, .slice pa 0 0, .int .u64 cost, .int .i64 fresh] w _
    go_enter Tryd.func12, Tryd.ntmps12
    go_wp2_with fail
    refine HCl.out.mono ?_
    rintro e w2 ⟨u2, rfl, hown2, -, b2⟩
    obtain ⟨qa, qc, rfl⟩ := row_slice hown2
    replace hown2 : w2.ownsRow w.heap.size 3 1 (.slice qa 0 qc) 0 (encI []) := hown2
    go_wp2_with (go_at_call 14; refine (cap_any cost _).mono ?_; rintro e w3 ⟨rfl, rfl⟩)
    have HR3 := Lib.hid (RuO.new (T := 46) (r := ⟨fr, top, to, [], capI cost⟩) hown2 b2.size)
    have HB3 := Lib.hid (b2.trans ((sbelow_new w3 (.cells #[.int .i64 fr, .int .i64 top, .int .i64 to, .slice qa 0 qc, .int .u64 (capI cost)] 46)).mono b2.size))
    clear hown2 b2 HCl
    have HR4 : Hid (RuO 46 w.heap.size (.slice (some ⟨w3.heap.size, 0, none⟩) 1 1) (lgL fr top to [] cost fresh 0 0) [(.slice qa 0 qc)] (w3.alloc (.cells #[.int .i64 fr, .int .i64 top, .int .i64 to, .slice qa 0 qc, .int .u64 (capI cost)] 46))) := Lib.hid HR3.out
    clear HR3
    generalize w3.alloc (.cells #[.int .i64 fr, .int .i64 top, .int .i64 to, .slice qa 0 qc, .int .u64 (capI cost)] 46) = w4 at *
    go_loopg [13, 14, 5] 0 (fun g u pv fv wr => u = .int .i64 0 ∧ fv = .int .i64 fresh ∧ (∃ us, RuO 46 w.heap.size pv (lgL fr top to [] cost fresh 0 0) us wr) ∧ Below w.heap.size w wr)
    case atStart => exact ⟨rfl, rfl, ⟨_, HR4.out⟩, HB3.out⟩
    case round =>
      obtain ⟨rfl, rfl, ⟨us, hR⟩, hB⟩ := hrel
      go_wp2_with fail
      go_ret
      exact ⟨_, us, rfl, hR, hB⟩
  have HCl := Lib.hid (fun W (hb : Below w.heap.size w W) => cloneI_any (push.drop m) (.slice (pa.map fun x => x.add m) (L - m) (pc - m)) W (by have h := sub_at (HV.out.step hb) m push.length (Nat.le_refl _); rw [List.take_length, HL.out] at h; exact h) (by rw [List.length_drop, HL.out]; omega))
  show Calls Tryd.prog 12 #[.int .i64 fr, .int .i64 top, .int .i64 to, .slice pa push.length pc, .int .u64 cost, .int .i64 fresh] w _
  rw [HL.out]
  go_enter Tryd.func12, Tryd.ntmps12
  go_wp2_with fail
  refine (HCl.out _ (Below.refl _ _)).mono ?_
  rintro e w2 ⟨u2, rfl, hown2, -, b2⟩
  obtain ⟨qa, qc, rfl⟩ := row_slice hown2
  rw [show (push.drop m).length = L - m by rw [List.length_drop, HL.out]] at hown2 ⊢
  go_wp2_with (go_at_call 14; refine (cap_any cost _).mono ?_; rintro e w3 ⟨rfl, rfl⟩)
  have hown3 : w3.ownsRow w.heap.size 3 1 (.slice qa (L - m) qc) (push.drop m).length (encI (push.drop m)) := by
    rw [show (push.drop m).length = L - m by rw [List.length_drop, HL.out]]
    exact hown2
  have HR3 := Lib.hid (RuO.new (T := 46) (r := ⟨fr, top, to, push.drop m, capI cost⟩) hown3 b2.size)
  have HB3 := Lib.hid (b2.trans ((sbelow_new w3 (.cells #[.int .i64 fr, .int .i64 top, .int .i64 to, (.slice qa (L - m) qc), .int .u64 (capI cost)] 46)).mono b2.size))
  clear hown2 hown3 b2 HCl
  have HR4 : Hid (RuO 46 w.heap.size (.slice (some ⟨w3.heap.size, 0, none⟩) 1 1) (lgL fr top to push cost fresh m 0) [(.slice qa (L - m) qc)] (w3.alloc (.cells #[.int .i64 fr, .int .i64 top, .int .i64 to, (.slice qa (L - m) qc), .int .u64 (capI cost)] 46))) := Lib.hid (by
    have e : lgL fr top to push cost fresh m 0 = [⟨fr, top, to, push.drop m, capI cost⟩] := rfl
    rw [e]
    exact HR3.out)
  clear HR3
  generalize w3.alloc (.cells #[.int .i64 fr, .int .i64 top, .int .i64 to, (.slice qa (L - m) qc), .int .u64 (capI cost)] 46) = w4 at *
  generalize (Option.map (fun x => x.add m) pa) = pm
  go_loopg [13, 14, 5] m (fun g u pv fv wr => ∃ (k : Nat) (us : List Value), k ≤ m ∧ g = k ∧ u = .int .i64 k ∧ fv = .int .i64 (fresh + ((m - k : Nat) : Int)) ∧ RuO 46 w.heap.size pv (lgL fr top to push cost fresh m (m - k)) us wr ∧ Below w.heap.size w wr)
  case atStart => exact ⟨m, [(.slice qa (L - m) qc)], Nat.le_refl _, rfl, rfl, by simp, by rw [Nat.sub_self]; exact HR4.out, HB3.out⟩
  case round =>
    obtain ⟨k, us, hk, hgk, rfl, rfl, hR, hB⟩ := hrel
    have HR := Lib.hid hR
    have HB := Lib.hid hB
    clear hR hB HR4 HB3
    rcases k with _ | p
    · go_wp2_with fail
      go_ret
      exact ⟨_, us, rfl, by have h := HR.out; rw [Nat.sub_zero] at h; exact h, HB.out⟩
    · have hlk : (lgL fr top to push cost fresh m (m - (p + 1)))[m - (p + 1)]? = some (lgR fr top to push cost fresh m (m - (p + 1)) (m - (p + 1))) := lgL_at (Nat.le_refl _)
      obtain ⟨g, cap, rfl, hBg, hgs, hgc, hgf⟩ := HR.out.last hlk
      rw [lgL_len] at HR ⊢
      have hgf0 := hgf ((m - (p + 1)) * 5 + 2)
      obtain ⟨j, hj⟩ : ∃ j, m - (p + 1) = j := ⟨_, rfl⟩
      rw [hj] at hlk hgc hgf0 HR ⊢
      go_upto_region 6 with (fail)
      have HR5 := Lib.hid (HR.out.setTo (by decide) hlk (fresh + j))
      have HB5 := Lib.hid (HB.out.setCell (p := ⟨g, j * 5 + 2, none⟩) hBg (.int .i64 (fresh + j)))
      have HSc := Lib.hid (lgL_succ fr top to push cost fresh m j)
      obtain ⟨x, hx⟩ : ∃ x, push[p + 1]? = some x := ⟨_, List.getElem?_eq_getElem (by rw [HL.out]; have := HM.out; omega)⟩
      obtain ⟨b, off, rfl, hcell⟩ := HV.out.1.at hx HB5.out
      have hbl : b < w.heap.size := HV.out.1.blk _ rfl (by have := (List.getElem?_eq_some_iff.1 hx).1; omega)
      have hb5 : b < (wr.setCell ⟨g, j * 5 + 2, none⟩ (.int .i64 (fresh + j))).heap.size := Nat.lt_of_lt_of_le hbl HB5.out.size
      have HX := Lib.hid hx
      clear hgc hgf hgf0 hlk HR HB hgs hx
      generalize wr.setCell ⟨g, j * 5 + 2, none⟩ (.int .i64 (fresh + j)) = w5 at *
      have hL2 : p + 2 ≤ L := by have := HM.out; rw [HL.out] at this; omega
      have hL1 : p + 1 < L := by omega
      have hLi : ((p : Int) + 1) < (L : Int) := by omega
      have hn0 : ¬ ((p : Int) + 1) < 0 := by omega
      have hpcp : ¬ pc = p := by omega
      have hpc2 : p + 2 ≤ pc := by omega
      have hw1 : IntKind.i64.wrap ((p : Int)) = (p : Int) := by rw [IntKind.wrap_i64]; omega
      have hw2 : IntKind.i64.wrap ((p : Int) + 1 + 1) = (p : Int) + 2 := by rw [IntKind.wrap_i64]; omega
      have ht2 : ((p : Int) + 2).toNat = p + 2 := by omega
      have mkS : ∀ W, Below w5.heap.size w5 W → W.cell? ⟨b, off + (p + 1), none⟩ = some (.int .i64 x) := fun W hb => (hb.cell (p := ⟨b, off + (p + 1), none⟩) hb5).trans hcell
      have HCl2 := Lib.hid (fun W (hb : Below w5.heap.size w5 W) => cloneI_any ((push.take (p + 2)).drop p) (.slice (some ⟨b, off + p, none⟩) 2 (pc - p)) W (by
        have h := sub_at (HV.out.step (HB5.out.trans (hb.mono HB5.out.size))) p (p + 2) (by rw [HL.out]; omega)
        rw [show p + 2 - p = 2 by omega] at h
        have e : (Option.map (fun x => x.add p) (some (⟨b, off, none⟩ : Addr))) = some ⟨b, off + p, none⟩ := by simp [Addr.add]
        rw [e] at h
        exact h) (by rw [List.length_drop, List.length_take]; omega))
      have hB := (Below.refl w5.heap.size w5).drew
      refine region_T (fun W : World => W.cell? ⟨b, off + (p + 1), none⟩ = some (.int .i64 x)) 15 (by kernel_rfl) ?_
      refine wpT_take (i := 0) (v := .int .i64 (fresh + (j : Int))) rfl (by kernel_rfl) (by kernel_rfl) (by kernel_rfl) (by kernel_rfl) (by kernel_rfl) (by kernel_rfl) (by kernel_rfl) (by kernel_rfl) (fun _ _ _ h => h) (Or.inl ⟨by rfl, ?_⟩) (mkS _ hB) ?_
      · rintro w' s0
        go_simp
      try simp only [Act.put]
      refine wpT_take (i := 1) (v := .slice (some ⟨b, off, none⟩) L pc) rfl (by kernel_rfl) (by kernel_rfl) (by kernel_rfl) (by kernel_rfl) (by kernel_rfl) (by kernel_rfl) (by kernel_rfl) (by kernel_rfl) (fun _ _ _ h => h) (Or.inl ⟨by rfl, ?_⟩) (mkS _ hB) ?_
      · rintro w' s0
        go_simp
      try simp only [Act.put]
      refine wpT_take (i := 2) (v := .int .i64 (Nat.cast (p + 1))) rfl (by kernel_rfl) (by kernel_rfl) (by kernel_rfl) (by kernel_rfl) (by kernel_rfl) (by kernel_rfl) (by kernel_rfl) (by kernel_rfl) (fun _ _ _ h => h) (Or.inl ⟨by rfl, ?_⟩) (mkS _ hB) ?_
      · rintro w' s0
        go_simp
      try simp only [Act.put]
      refine wpT_take (i := 3) (v := .pointer (some ⟨b, off + (p + 1), none⟩)) rfl (by kernel_rfl) (by kernel_rfl) (by kernel_rfl) (by kernel_rfl) (by kernel_rfl) (by kernel_rfl) (by kernel_rfl) (by kernel_rfl) (fun _ _ _ h => h) (Or.inl ⟨by rfl, ?_⟩) (mkS _ hB) ?_
      · rintro w' s0
        go_simp
      try simp only [Act.put]
      refine wpT_take (i := 4) (v := .int .i64 x) rfl (by kernel_rfl) (by kernel_rfl) (by kernel_rfl) (by kernel_rfl) (by kernel_rfl) (by kernel_rfl) (by kernel_rfl) (by kernel_rfl) (fun _ _ _ h => h) (Or.inl ⟨by rfl, ?_⟩) (mkS _ hB) ?_
      · rintro w' s0
        go_simp
      try simp only [Act.put]
      refine wpT_take (i := 5) (v := .int .i64 to) rfl (by kernel_rfl) (by kernel_rfl) (by kernel_rfl) (by kernel_rfl) (by kernel_rfl) (by kernel_rfl) (by kernel_rfl) (by kernel_rfl) (fun _ _ _ h => h) (Or.inl ⟨by rfl, ?_⟩) (mkS _ hB) ?_
      · rintro w' s0
        go_simp
      try simp only [Act.put]
      refine wpT_take (i := 6) (v := .slice (some ⟨b, off, none⟩) L pc) rfl (by kernel_rfl) (by kernel_rfl) (by kernel_rfl) (by kernel_rfl) (by kernel_rfl) (by kernel_rfl) (by kernel_rfl) (by kernel_rfl) (fun _ _ _ h => h) (Or.inl ⟨by rfl, ?_⟩) (mkS _ hB) ?_
      · rintro w' s0
        go_simp
      try simp only [Act.put]
      refine wpT_take (i := 7) (v := .int .i64 (Nat.cast (p + 1))) rfl (by kernel_rfl) (by kernel_rfl) (by kernel_rfl) (by kernel_rfl) (by kernel_rfl) (by kernel_rfl) (by kernel_rfl) (by kernel_rfl) (fun _ _ _ h => h) (Or.inl ⟨by rfl, ?_⟩) (mkS _ hB) ?_
      · rintro w' s0
        go_simp
      try simp only [Act.put]
      refine wpT_take (i := 8) (v := .int .i64 (Nat.cast p)) rfl (by kernel_rfl) (by kernel_rfl) (by kernel_rfl) (by kernel_rfl) (by kernel_rfl) (by kernel_rfl) (by kernel_rfl) (by kernel_rfl) (fun _ _ _ h => h) (Or.inl ⟨by rfl, ?_⟩) (mkS _ hB) ?_
      · rintro w' s0
        go_simp
      try simp only [Act.put]
      refine wpT_take (i := 9) (v := .int .i64 (Nat.cast (p + 1))) rfl (by kernel_rfl) (by kernel_rfl) (by kernel_rfl) (by kernel_rfl) (by kernel_rfl) (by kernel_rfl) (by kernel_rfl) (by kernel_rfl) (fun _ _ _ h => h) (Or.inl ⟨by rfl, ?_⟩) (mkS _ hB) ?_
      · rintro w' s0
        go_simp
      try simp only [Act.put]
      refine wpT_take (i := 10) (v := .int .i64 (Nat.cast (p + 2))) rfl (by kernel_rfl) (by kernel_rfl) (by kernel_rfl) (by kernel_rfl) (by kernel_rfl) (by kernel_rfl) (by kernel_rfl) (by kernel_rfl) (fun _ _ _ h => h) (Or.inl ⟨by rfl, ?_⟩) (mkS _ hB) ?_
      · rintro w' s0
        go_simp
      try simp only [Act.put]
      refine wpT_take (i := 11) (v := .slice (some ⟨b, off + p, none⟩) 2 (pc - p)) rfl (by kernel_rfl) (by kernel_rfl) (by kernel_rfl) (by kernel_rfl) (by kernel_rfl) (by kernel_rfl) (by kernel_rfl) (by kernel_rfl) (fun _ _ _ h => h) (Or.inl ⟨by rfl, ?_⟩) (mkS _ hB) ?_
      · rintro w' s0
        go_simp
        try (intro hh; have := hh (by omega); omega)
      try simp only [Act.put]
      have hlen : ((push.take (p + 2)).drop p).length = 2 := by rw [List.length_drop, List.length_take, HL.out]; omega
      refine wpT_two (i := 12) (i' := 14) (by kernel_rfl) rfl rfl ?_ ?_
      · intro KK hKK
        go_simp
        refine (HCl2.out _ hB).mono ?_
        rintro e w6 ⟨u6, rfl, hown6, -, b6⟩
        have hb6 := hB.trans (b6.mono hB.size)
        obtain ⟨ua, uc, rfl⟩ := row_slice hown6
        rw [hlen] at hown6
        have hown6 := ownsRow_lower hown6 (Nat.le_trans HB5.out.size hB.size)
        refine hKK _ _ ⟨fun _ => mkS _ hb6, ?_⟩
        clear hKK
        try simp only [Act.put]
        rw [hlen]
        refine wpT_take (i := 13) (v := .agg #[.int .i64 (fresh + (j : Int)), .int .i64 x, .int .i64 to, .slice ua 2 uc, .int .u64 0]) rfl (by kernel_rfl) (by kernel_rfl) (by kernel_rfl) (by kernel_rfl) (by kernel_rfl) (by kernel_rfl) (by kernel_rfl) (by kernel_rfl) (fun _ _ _ h => h) (Or.inl ⟨by rfl, ?_⟩) (mkS _ hb6) ?_
        · rintro w' s0
          go_simp
        try simp only [Act.put]
        refine wpT_one (i := 14) (by kernel_rfl) rfl ?_
        intro KK hKK
        go_simp
        have hbt := hb6.trans ((sbelow_new w6 (.cells #[.int .i64 0, .int .i64 0, .int .i64 0, .slice none 0 0, .int .u64 0] 46)).mono hb6.size)
        have hbx := heap_alloc_new w6 (.cells #[.int .i64 0, .int .i64 0, .int .i64 0, .slice none 0 0, .int .u64 0] 46)
        have hu := hown6.alloc (.cells #[.int .i64 0, .int .i64 0, .int .i64 0, .slice none 0 0, .int .u64 0] 46)
        have hEb : w5.heap.size ≤ w6.heap.size := hb6.size
        refine hKK _ _ ⟨fun _ => mkS _ hbt, ?_⟩
        clear hKK hown6
        try simp only [Act.put]
        generalize w6.alloc (.cells #[.int .i64 0, .int .i64 0, .int .i64 0, .slice none 0 0, .int .u64 0] 46) = wt at *
        generalize w6.heap.size = X at *

        obtain ⟨hu13, hx13⟩ := own_put5 (by decide) hu hbx (.int .i64 (fresh + (j : Int))) (.int .i64 x) (.int .i64 to) (.slice ua 2 uc) (.int .u64 0)
        have hb13 : Below w5.heap.size w5 ((((((wt.setCell ⟨X, 0, none⟩ (.int .i64 (fresh + (j : Int)))).setCell ⟨X, 1, none⟩ (.int .i64 x)).setCell ⟨X, 2, none⟩ (.int .i64 to)).setCell ⟨X, 3, none⟩ (.slice ua 2 uc)).setCell ⟨X, 4, none⟩ (.int .u64 0))) := ((((hbt.setCell (p := ⟨X, 0, none⟩) hEb _).setCell (p := ⟨X, 1, none⟩) hEb _).setCell (p := ⟨X, 2, none⟩) hEb _).setCell (p := ⟨X, 3, none⟩) hEb _).setCell (p := ⟨X, 4, none⟩) hEb _
        obtain ⟨x0, x1, x2, x3, x4⟩ := cells5 hbx
        have xf : ∀ i, wt.frozen? ⟨X, i, none⟩ = false := fun i => by unfold World.frozen?; rw [hbx]; simp
        have xf0 := xf 0
        have xf1 := xf 1
        have xf2 := xf 2
        have xf3 := xf 3
        have xf4 := xf 4
        refine wpT_tail 15 1 rfl rfl (by kernel_rfl) (by kernel_rfl) ?_
        simp only [List.drop_succ_cons, List.drop_zero]
        go_upto_region 7 with (fail)
        have HU13 := Lib.hid hu13
        have HX13 := Lib.hid hx13
        have HB13 := Lib.hid (HB5.out.trans (hb13.mono HB5.out.size))
        have HR13 := Lib.hid (HR5.out.step hb13)
        clear x0 x1 x2 x3 x4 xf xf0 xf1 xf2 xf3 xf4 hu13 hx13 hb13 hu hbx hbt hEb
        generalize (((((wt.setCell ⟨X, 0, none⟩ (.int .i64 (fresh + (j : Int)))).setCell ⟨X, 1, none⟩ (.int .i64 x)).setCell ⟨X, 2, none⟩ (.int .i64 to)).setCell ⟨X, 3, none⟩ (.slice ua 2 uc)).setCell ⟨X, 4, none⟩ (.int .u64 0)) = w13 at *
        obtain ⟨y0, y1, y2, y3, y4⟩ := cells5 HX13.out
        obtain ⟨i0, hi, hz0, hz1, hz2⟩ := info_parts infoPRule
        have hown13 := HR13.out.own.alloc (.cells #[.int .i64 (fresh + (j : Int)), .int .i64 x, .int .i64 to, .slice ua 2 uc, .int .u64 0] 46)
        rw [List.length_set, lgL_len] at hown13
        have HO13 := Lib.hid hown13
        clear hown13
        go_wp2_with (at_builtin; refine wpList_append_lies _ rfl _ _ 22 rfl w.heap.size 46 i0 (.agg #[.int .i64 0, .int .i64 0, .int .i64 0, .slice none 0 0, .int .u64 0]) 5 56 Tryd.underlying22 hi hz0 hz1 hz2 rfl (by decide) _ _ _ rfl HO13.out ⟨w13.heap.size, 0, none⟩ 1 1 [.int .i64 (fresh + (j : Int)), .int .i64 x, .int .i64 to, .slice ua 2 uc, .int .u64 0] rfl rfl (World.news_of_block (heap_alloc_new w13 (.cells #[.int .i64 (fresh + (j : Int)), .int .i64 x, .int .i64 to, .slice ua 2 uc, .int .u64 0] 46))) (by intro y hy; simp only [List.mem_cons, List.not_mem_nil, or_false] at hy; rcases hy with rfl | rfl | rfl | rfl | rfl <;> rfl) (by decide) (by unfold maxLen; omega) (by omega) (by have := HB13.out.size; simp; omega) _ rfl ?_)
        intro g2 cap2 w15 hown15 hgrow15 hat15 hlt15
        have hst := HR13.out.step (sbelow_new w13 (.cells #[.int .i64 (fresh + (j : Int)), .int .i64 x, .int .i64 to, .slice ua 2 uc, .int .u64 0] 46))
        have hmore := RuO.more (r := ⟨fresh + (j : Int), x, to, (push.take (p + 2)).drop p, 0⟩) (by decide) hst (by rw [hlen]; exact HU13.out.alloc _) hgrow15 (by rw [List.length_set, lgL_len]; exact hown15)
        have HMo : Hid (RuO 46 w.heap.size _ (lgL fr top to push cost fresh m (j + 1)) (us ++ [.slice ua 2 uc]) w15) := Lib.hid (by
          rw [HSc.out, show m - (j + 1) = p by omega, show push.getD (p + 1) 0 = x by rw [List.getD_eq_getElem?_getD, HX.out]; rfl, show (push.drop p).take 2 = (push.take (p + 2)).drop p by rw [List.drop_take]; simp]
          exact hmore)
        have HBo := Lib.hid ((HB13.out.alloc HB13.out.size (.cells #[.int .i64 (fresh + (j : Int)), .int .i64 x, .int .i64 to, .slice ua 2 uc, .int .u64 0] 46)).grown hgrow15 (by have := HB13.out.size; simp; omega) (fun k e => (HO13.out.lt k e).1))
        clear hown15 hgrow15 hat15 hlt15 hst hmore hi hz0 hz1 hz2 y0 y1 y2 y3 y4
        go_wp2_with (go_at_call 29; refine (higher_any (fresh + (j : Int)) (by have := HF.out; omega) (by have := HF.out; omega) _).mono ?_; rintro e w16 ⟨rfl, rfl⟩)
        go_roundg p
        case measure => omega
        case rel => exact ⟨p, _, by omega, rfl, by go_num, by rw [show m - p = j + 1 by omega]; push_cast; rw [Int.add_assoc], by rw [show m - p = j + 1 by omega]; exact HMo.out, HBo.out⟩
      · intro KK hKK
        go_simp
        have hbn : Below w5.heap.size w5 (w5.alloc (.cells #[.int .i64 0, .int .i64 0, .int .i64 0, .slice none 0 0, .int .u64 0] 46)).drew := (sbelow_new w5 (.cells #[.int .i64 0, .int .i64 0, .int .i64 0, .slice none 0 0, .int .u64 0] 46)).drew
        have hbx0 : (w5.alloc (.cells #[.int .i64 0, .int .i64 0, .int .i64 0, .slice none 0 0, .int .u64 0] 46)).drew.heap[w5.heap.size]? = some (.cells #[.int .i64 0, .int .i64 0, .int .i64 0, .slice none 0 0, .int .u64 0] 46 (0, 0)) := heap_alloc_new w5 (.cells #[.int .i64 0, .int .i64 0, .int .i64 0, .slice none 0 0, .int .u64 0] 46)
        have hEb : w5.heap.size ≤ w5.heap.size := Nat.le_refl _
        refine hKK _ _ ⟨fun _ => mkS _ hbn, ?_⟩
        clear hKK
        try simp only [Act.put]
        generalize (w5.alloc (.cells #[.int .i64 0, .int .i64 0, .int .i64 0, .slice none 0 0, .int .u64 0] 46)).drew = wn at *
        refine wpT_one (i := 12) (by kernel_rfl) rfl ?_
        intro KK hKK
        go_simp
        refine (HCl2.out _ hbn).mono ?_
        rintro e w6 ⟨u6, rfl, hown6, -, b6⟩
        have hb6 := hbn.trans (b6.mono hbn.size)
        obtain ⟨ua, uc, rfl⟩ := row_slice hown6
        rw [hlen] at hown6
        have hown6 := ownsRow_lower hown6 (Nat.le_trans HB5.out.size hbn.size)
        refine hKK _ _ ⟨fun _ => mkS _ hb6, ?_⟩
        clear hKK
        try simp only [Act.put]
        rw [hlen]
        refine wpT_take (i := 13) (v := .agg #[.int .i64 (fresh + (j : Int)), .int .i64 x, .int .i64 to, .slice ua 2 uc, .int .u64 0]) rfl (by kernel_rfl) (by kernel_rfl) (by kernel_rfl) (by kernel_rfl) (by kernel_rfl) (by kernel_rfl) (by kernel_rfl) (by kernel_rfl) (fun _ _ _ h => h) (Or.inl ⟨by rfl, ?_⟩) (mkS _ hb6) ?_
        · rintro w' s0
          go_simp
        try simp only [Act.put]
        have hbt := hb6
        have hbx := blk hbx0 b6
        have hu := hown6
        clear hown6 hbx0 hbn

        obtain ⟨hu13, hx13⟩ := own_put5 (by decide) hu hbx (.int .i64 (fresh + (j : Int))) (.int .i64 x) (.int .i64 to) (.slice ua 2 uc) (.int .u64 0)
        have hb13 : Below w5.heap.size w5 ((((((w6.setCell ⟨w5.heap.size, 0, none⟩ (.int .i64 (fresh + (j : Int)))).setCell ⟨w5.heap.size, 1, none⟩ (.int .i64 x)).setCell ⟨w5.heap.size, 2, none⟩ (.int .i64 to)).setCell ⟨w5.heap.size, 3, none⟩ (.slice ua 2 uc)).setCell ⟨w5.heap.size, 4, none⟩ (.int .u64 0))) := ((((hbt.setCell (p := ⟨w5.heap.size, 0, none⟩) hEb _).setCell (p := ⟨w5.heap.size, 1, none⟩) hEb _).setCell (p := ⟨w5.heap.size, 2, none⟩) hEb _).setCell (p := ⟨w5.heap.size, 3, none⟩) hEb _).setCell (p := ⟨w5.heap.size, 4, none⟩) hEb _
        obtain ⟨x0, x1, x2, x3, x4⟩ := cells5 hbx
        have xf : ∀ i, w6.frozen? ⟨w5.heap.size, i, none⟩ = false := fun i => by unfold World.frozen?; rw [hbx]; simp
        have xf0 := xf 0
        have xf1 := xf 1
        have xf2 := xf 2
        have xf3 := xf 3
        have xf4 := xf 4
        refine wpT_tail 15 1 rfl rfl (by kernel_rfl) (by kernel_rfl) ?_
        simp only [List.drop_succ_cons, List.drop_zero]
        go_upto_region 7 with (fail)
        have HU13 := Lib.hid hu13
        have HX13 := Lib.hid hx13
        have HB13 := Lib.hid (HB5.out.trans (hb13.mono HB5.out.size))
        have HR13 := Lib.hid (HR5.out.step hb13)
        clear x0 x1 x2 x3 x4 xf xf0 xf1 xf2 xf3 xf4 hu13 hx13 hb13 hu hbx hbt hEb
        generalize (((((w6.setCell ⟨w5.heap.size, 0, none⟩ (.int .i64 (fresh + (j : Int)))).setCell ⟨w5.heap.size, 1, none⟩ (.int .i64 x)).setCell ⟨w5.heap.size, 2, none⟩ (.int .i64 to)).setCell ⟨w5.heap.size, 3, none⟩ (.slice ua 2 uc)).setCell ⟨w5.heap.size, 4, none⟩ (.int .u64 0)) = w13 at *
        obtain ⟨y0, y1, y2, y3, y4⟩ := cells5 HX13.out
        obtain ⟨i0, hi, hz0, hz1, hz2⟩ := info_parts infoPRule
        have hown13 := HR13.out.own.alloc (.cells #[.int .i64 (fresh + (j : Int)), .int .i64 x, .int .i64 to, .slice ua 2 uc, .int .u64 0] 46)
        rw [List.length_set, lgL_len] at hown13
        have HO13 := Lib.hid hown13
        clear hown13
        go_wp2_with (at_builtin; refine wpList_append_lies _ rfl _ _ 22 rfl w.heap.size 46 i0 (.agg #[.int .i64 0, .int .i64 0, .int .i64 0, .slice none 0 0, .int .u64 0]) 5 56 Tryd.underlying22 hi hz0 hz1 hz2 rfl (by decide) _ _ _ rfl HO13.out ⟨w13.heap.size, 0, none⟩ 1 1 [.int .i64 (fresh + (j : Int)), .int .i64 x, .int .i64 to, .slice ua 2 uc, .int .u64 0] rfl rfl (World.news_of_block (heap_alloc_new w13 (.cells #[.int .i64 (fresh + (j : Int)), .int .i64 x, .int .i64 to, .slice ua 2 uc, .int .u64 0] 46))) (by intro y hy; simp only [List.mem_cons, List.not_mem_nil, or_false] at hy; rcases hy with rfl | rfl | rfl | rfl | rfl <;> rfl) (by decide) (by unfold maxLen; omega) (by omega) (by have := HB13.out.size; simp; omega) _ rfl ?_)
        intro g2 cap2 w15 hown15 hgrow15 hat15 hlt15
        have hst := HR13.out.step (sbelow_new w13 (.cells #[.int .i64 (fresh + (j : Int)), .int .i64 x, .int .i64 to, .slice ua 2 uc, .int .u64 0] 46))
        have hmore := RuO.more (r := ⟨fresh + (j : Int), x, to, (push.take (p + 2)).drop p, 0⟩) (by decide) hst (by rw [hlen]; exact HU13.out.alloc _) hgrow15 (by rw [List.length_set, lgL_len]; exact hown15)
        have HMo : Hid (RuO 46 w.heap.size _ (lgL fr top to push cost fresh m (j + 1)) (us ++ [.slice ua 2 uc]) w15) := Lib.hid (by
          rw [HSc.out, show m - (j + 1) = p by omega, show push.getD (p + 1) 0 = x by rw [List.getD_eq_getElem?_getD, HX.out]; rfl, show (push.drop p).take 2 = (push.take (p + 2)).drop p by rw [List.drop_take]; simp]
          exact hmore)
        have HBo := Lib.hid ((HB13.out.alloc HB13.out.size (.cells #[.int .i64 (fresh + (j : Int)), .int .i64 x, .int .i64 to, .slice ua 2 uc, .int .u64 0] 46)).grown hgrow15 (by have := HB13.out.size; simp; omega) (fun k e => (HO13.out.lt k e).1))
        clear hown15 hgrow15 hat15 hlt15 hst hmore hi hz0 hz1 hz2 y0 y1 y2 y3 y4
        go_wp2_with (go_at_call 29; refine (higher_any (fresh + (j : Int)) (by have := HF.out; omega) (by have := HF.out; omega) _).mono ?_; rintro e w16 ⟨rfl, rfl⟩)
        go_roundg p
        case measure => omega
        case rel => exact ⟨p, _, by omega, rfl, by go_num, by rw [show m - p = j + 1 by omega]; push_cast; rw [Int.add_assoc], by rw [show m - p = j + 1 by omega]; exact HMo.out, HBo.out⟩
end Go.Proofs.YtjanbhodikhdeaaDoor
