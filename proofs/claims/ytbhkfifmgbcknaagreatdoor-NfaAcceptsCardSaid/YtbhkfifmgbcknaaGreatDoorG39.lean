/-
  A part of the proof of the statement NfaAccepts.
-/
import Derived.Test.YtbhkfifmgbcknaaGreatDoorG38
import Derived.Test.YtbhkfifmgbcknaaGreatDoorG37
import Derived.Test.YtbhkfifmgbcknaaGreatDoorG35
import Derived.Test.YtbhkfifmgbcknaaGreatDoorG36
import Derived.Deep.Slices
import Derived.Deep.Strs
import Derived.Deep.Grids
import Derived.SliceStrings
import Derived.Lib.LaidTab
set_option linter.unusedSimpArgs false
set_option linter.unusedVariables false
namespace Go.Proofs.YtbhkfifmgbcknaaGreatDoor
open Go.RowKit Go.Extern.Stop Go.Stop Go.Extern
def Na1 (n : Nat) (ons nxs : List (List Int)) (row : List Int) (w1 : World) (g : Nat) (u v : Value) (wr : World) : Prop :=
  ∃ (i : Nat) (al m : List Int), i ≤ row.length ∧ g = row.length - i ∧ u = .int .i64 i ∧ SameS al m ∧ rst3 ons nxs m (row.drop i) = rst3 ons nxs [0] row ∧ IntsAt wr v al ∧ Sts n al ∧ Below w1.heap.size w1 wr
set_option maxRecDepth 100000 in
set_option maxHeartbeats 8000000 in
theorem naccepts_any (oa fa na ra : Option Addr) (oc fc nc rc : Nat) (ss : List (Nat × Nat)) (ons nxs : List (List Int)) (fs : List Bool) (row : List Int) (w : World) (hso : ∀ x k : Int, setOn ss x k = hasL (onAt ons k) x) (ho : SsAt w (.slice oa ss.length oc) ss) (hn : LlAt w (.slice na ss.length nc) nxs) (hf : BoolsAt w (.slice fa ss.length fc) fs)
    (hr : IntsAt w (.slice ra row.length rc) row) (h0 : 0 < ss.length) (hnl : nxs.length = ss.length) (hfl : fs.length = ss.length) (hu : ∀ l ∈ nxs, ∀ x ∈ l, InN ss.length x) (hl : ss.length ≤ 200) (h64 : ∀ c ∈ ss, U64 c.1 ∧ U64 c.2) (hnx : ∀ l ∈ nxs, l.length ≤ 1000) (hrl : row.length ≤ 1000) :
    Calls Tryz.prog 9 #[.agg #[.slice oa ss.length oc, .slice na ss.length nc, .slice fa ss.length fc], .slice ra row.length rc] w fun e w' => e = .returned (.bool (raccs ons nxs fs row)) ∧ Below w.heap.size w w' := by
  have hB := sbelow_new w (.cells #[.slice oa ss.length oc, .slice na ss.length nc, .slice fa ss.length fc] 26)
  have hN := heap_alloc_new w (.cells #[.slice oa ss.length oc, .slice na ss.length nc, .slice fa ss.length fc] 26)
  have HR := Lib.hid (hr.step hB)
  have HB := Lib.hid hB
  have HC := Lib.hid hN
  have HF := Lib.hid (hf.step hB)
  have HO := Lib.hid (ho.step hB)
  have HN := Lib.hid (hn.step hB)
  have HST := Lib.hid (fun (al : List Int) (va : Option Addr) (vc : Nat) (x : Int) (W : World) (h1 : SsAt W (.slice oa ss.length oc) ss) (h2 : LlAt W (.slice na ss.length nc) nxs) (h3 : IntsAt W (.slice va al.length vc) al) (h4 : Sts ss.length al) => nstep_any oa fa na va oc fc nc vc ss.length ss nxs al x W h1 h2 h3 h4 hnl hu hl h64 hnx)
  have HSO := Lib.hid hso
  have HU := Lib.hid hu
  clear hB hN hr hf ho hn h64 hnx hso hu
  go_enter Tryz.func9, Tryz.ntmps9
  go_wp2_with fail
  generalize hw1 : w.alloc (.cells #[.slice oa ss.length oc, .slice na ss.length nc, .slice fa ss.length fc] 26) = w1 at *
  have hz : w1.heap.size = w.heap.size + 1 := by rw [← hw1]; exact World.size_alloc _ _
  have hlt : w.heap.size < w1.heap.size := by omega
  have hbn := sbelow_new w1 (.cells #[.int .i64 0] 3)
  have H0 : Hid (IntsAt (w1.alloc (.cells #[.int .i64 0] 3)) (.slice (some ⟨w.heap.size + 1, 0, none⟩) 1 1) [0] ∧ Sts ss.length [0] ∧ Below w1.heap.size w1 (w1.alloc (.cells #[.int .i64 0] 3))) := Lib.hid (by rw [← hz]; exact ⟨ints_new w1 0, Sts.zero h0, hbn⟩)
  generalize hw2 : w1.alloc (.cells #[.int .i64 0] 3) = w2 at *
  clear hbn hw1 hw2
  go_loopg [11, 5] row.length (fun g u v wr => Na1 ss.length ons nxs row w1 g u v wr)
  case atStart => exact ⟨0, [0], [0], Nat.zero_le _, by omega, rfl, fun _ => Iff.rfl, by rw [List.drop_zero], H0.out⟩
  case round =>
    clear H0
    obtain ⟨i, al, m, hi, hgi, rfl, hsm, hd, hiv, hst, hb⟩ := hrel
    obtain ⟨aa, ac, rfl⟩ := hiv.form
    have HD := Lib.hid hd
    have HA := Lib.hid hiv
    have HS := Lib.hid hst
    have HM := Lib.hid hsm
    have HBr := Lib.hid hb
    have hal := Nat.le_trans hst.len hl
    have e4 := (hb.block _ hlt).trans HC.out
    have c0 : wr.cell? ⟨w.heap.size, 0, none⟩ = some (.slice oa ss.length oc) := by rw [Lib.cell_of_heap e4]; rfl
    have c1 : wr.cell? ⟨w.heap.size, 1, none⟩ = some (.slice na ss.length nc) := by rw [Lib.cell_of_heap e4]; rfl
    have c2 : wr.cell? ⟨w.heap.size, 2, none⟩ = some (.slice fa ss.length fc) := by rw [Lib.cell_of_heap e4]; rfl
    clear hd hiv hst hsm
    by_cases hil : i < row.length
    · obtain ⟨x, hx⟩ : ∃ x, row[i]? = some x := ⟨_, List.getElem?_eq_getElem hil⟩
      obtain ⟨b, off, rfl, e0⟩ := HR.out.at hx hb
      have HX := Lib.hid hx
      have HQ := Lib.hid (HST.out al aa ac x wr (HO.out.step hb) (HN.out.step hb) HA.out HS.out)
      clear hx hb e4
      go_wp2_with fail
      refine HQ.out.mono ?_
      rintro e w5 ⟨v5, r, rfl, hi5, hp5, hb5⟩
      rw [nst_rst2 (HSO.out x)] at hp5
      have HS5 := Lib.hid ((Sts.rst2 (n := ss.length) (ons := ons) (x := x) (al := al) HU.out (Sts.nil _)).perm hp5)
      have HM5 : Hid (SameS r (rst2 ons nxs x [] m)) := Lib.hid (fun k => (hp5.mem_iff).trans (HM.out.rst2 k))
      have HI5 := Lib.hid hi5
      have HB5 := Lib.hid (HBr.out.trans (hb5.mono HBr.out.size))
      have HE5 : Hid (rst3 ons nxs (rst2 ons nxs x [] m) (row.drop (i + 1)) = rst3 ons nxs [0] row) := Lib.hid (by
        rw [← HD.out]
        unfold rst3
        rw [fold_drop HX.out])
      clear hp5 hi5 hb5 c0 c1 c2
      go_wp2_with fail
      go_roundg (row.length - (i + 1))
      case measure => omega
      case rel => exact ⟨i + 1, r, _, by omega, rfl, by go_num, HM5.out, HE5.out, HI5.out, HS5.out, HB5.out⟩
    · obtain rfl : i = row.length := by omega
      have HE : Hid (m = rst3 ons nxs [0] row) := Lib.hid (by
        have h1 := HD.out
        rw [List.drop_length] at h1
        exact h1)
      have HQ := Lib.hid (containsLast_any (.slice oa ss.length oc) (.slice na ss.length nc) fa fc fs w.heap.size al aa ac wr (by omega) HA.out (by rw [hfl]; exact HS.out.2) (by rw [hfl]; exact HF.out.step hb) (by rw [hfl]; exact e4))
      have HBW := Lib.hid (HB.out.trans (hb.mono HB.out.size))
      have HAN : Hid (al.any (lastB fs) = raccs ons nxs fs row) := Lib.hid (by
        unfold raccs
        rw [← HE.out]
        exact HM.out.any _)
      clear hb e4 c0 c1 c2 HD
      go_wp2_with fail
      refine HQ.out.mono ?_
      rintro e w5 ⟨rfl, rfl⟩
      go_wp2_with fail
      go_ret
      exact ⟨ret_bb' HAN.out, HBW.out⟩
end Go.Proofs.YtbhkfifmgbcknaaGreatDoor
namespace Go.Proofs.YtbhkfifmgbcknaaGreatDoor
open Go.RowKit Go.Extern.Stop Go.Stop Go.Extern
structure NvS (w : World) (sv nv fv rv : Value) (ss : List (Nat × Nat)) (nxs : List (List Int)) (fs : List Bool) (row : List Int) (W : World) : Prop where
  box : W.heap[w.heap.size]? = some (.cells #[sv, nv, fv] 26 (0, 0))
  ss : SsAt W sv ss
  ls : LlAt W nv nxs
  fs : BoolsAt W fv fs
  row : IntsAt W rv row
  hd : Handle W
  tab : TabB W
  bel : Below w.heap.size w W
theorem NvS.step {w : World} {sv nv fv rv : Value} {ss : List (Nat × Nat)} {nxs : List (List Int)} {fs : List Bool} {row : List Int} {W W' : World} (h : NvS w sv nv fv rv ss nxs fs row W) (hb : Below W.heap.size W W') : NvS w sv nv fv rv ss nxs fs row W' :=
  ⟨(hb.block _ (hlt17 h.box)).trans h.box, h.ss.step hb, h.ls.step hb, h.fs.step hb, h.row.step hb, h.hd.below hb, h.tab.below h.tab.lt hb, h.bel.trans (hb.mono h.bel.size)⟩
theorem NvS.cells {w : World} {sv nv fv rv : Value} {ss : List (Nat × Nat)} {nxs : List (List Int)} {fs : List Bool} {row : List Int} {W : World} (h : NvS w sv nv fv rv ss nxs fs row W) :
    W.cell? ⟨w.heap.size, 0, none⟩ = some sv ∧ W.cell? ⟨w.heap.size, 1, none⟩ = some nv ∧ W.cell? ⟨w.heap.size, 2, none⟩ = some fv := ⟨(cells17 h.box).1, (cells17 h.box).2.1, (cells17 h.box).2.2.1⟩
theorem nfaOk_true {on fin : Nat} {ls : List (List Int)} (h : nfaOk on fin ls = true) : 0 < on ∧ ls.length = on ∧ fin = on ∧ ∀ l ∈ ls, ∀ x ∈ l, InN on x := by
  unfold nfaOk at h
  simp only [Bool.and_eq_true, Bool.not_eq_true', Bool.or_eq_false_iff, decide_eq_false_iff_not] at h
  obtain ⟨⟨⟨h1, h2⟩, h3⟩, h4⟩ := h
  refine ⟨by omega, by omega, by omega, fun l hl x hx => ?_⟩
  exact upR_in (Int.le_refl _) (List.all_eq_true.1 h4 l hl) x hx
def NvR (w : World) (sv nv fv rv : Value) (ss : List (Nat × Nat)) (nxs : List (List Int)) (fs : List Bool) (row : List Int) (g : Nat) (u : Value) (wr : World) : Prop :=
  ∃ i : Nat, i ≤ nxs.length ∧ g = nxs.length - i ∧ u = .int .i64 i ∧ (∀ (k : Nat) (l : List Int), k < i → nxs[k]? = some l → l.length ≤ 20) ∧ NvS w sv nv fv rv ss nxs fs row wr
set_option maxRecDepth 100000 in
set_option maxHeartbeats 8000000 in
theorem nfaAcc_any (oa fa na ra : Option Addr) (oc fc nc rc : Nat) (ss : List (Nat × Nat)) (nxs : List (List Int)) (fs : List Bool) (row : List Int) (w : World) (ho : SsAt w (.slice oa ss.length oc) ss) (hn : LlAt w (.slice na nxs.length nc) nxs) (hf : BoolsAt w (.slice fa fs.length fc) fs)
    (hr : IntsAt w (.slice ra row.length rc) row) (h64 : ∀ c ∈ ss, U64 c.1 ∧ U64 c.2) (hk : Handle w) (ht : TabB w) :
    Calls Tryz.prog 3 #[.agg #[.slice oa ss.length oc, .slice na nxs.length nc, .slice fa fs.length fc], .slice ra row.length rc] w fun e w' => e = .returned (.bool true) ∧ Below w.heap.size w w' := by
  have hb0 := below_new w (.cells #[.slice oa ss.length oc, .slice na nxs.length nc, .slice fa fs.length fc] 26)
  have hN := heap_alloc_new w (.cells #[.slice oa ss.length oc, .slice na nxs.length nc, .slice fa fs.length fc] 26)
  have H1 : Hid (NvS w (.slice oa ss.length oc) (.slice na nxs.length nc) (.slice fa fs.length fc) (.slice ra row.length rc) ss nxs fs row (w.alloc (.cells #[.slice oa ss.length oc, .slice na nxs.length nc, .slice fa fs.length fc] 26))) :=
    Lib.hid ⟨hN, ho.step hb0, hn.step hb0, hf.step hb0, hr.step hb0, hk.below hb0, ht.below ht.lt hb0, hb0⟩
  have H64 := Lib.hid h64
  clear hb0 hN ho hn hf hr h64 hk ht
  go_enter Tryz.func3, Tryz.ntmps3
  go_wp2_with fail
  generalize w.alloc (.cells #[.slice oa ss.length oc, .slice na nxs.length nc, .slice fa fs.length fc] 26) = w1 at *
  refine (Ex.awake17_any _ ⟨H1.out.hd, H1.out.tab⟩).mono ?_
  rintro e w2 ⟨rfl, b2⟩
  have H2 := Lib.hid (H1.out.step b2)
  clear b2 H1
  obtain ⟨k0, k1, k2⟩ := H2.out.cells
  by_cases g1 : 20 < ss.length
  · have q1 : (20 : Int) < ss.length := by omega
    go_wp2_with fail
    go_ret
    exact ⟨rfl, H2.out.bel⟩
  have q1 : ¬ (20 : Int) < ss.length := by omega
  by_cases g2 : 20 < nxs.length
  · have q2 : (20 : Int) < nxs.length := by omega
    go_wp2_with fail
    go_ret
    exact ⟨rfl, H2.out.bel⟩
  have q2 : ¬ (20 : Int) < nxs.length := by omega
  by_cases g3 : 20 < fs.length
  · have q3 : (20 : Int) < fs.length := by omega
    go_wp2_with fail
    go_ret
    exact ⟨rfl, H2.out.bel⟩
  have q3 : ¬ (20 : Int) < fs.length := by omega
  by_cases g4 : 12 < row.length
  · have q4 : (12 : Int) < row.length := by omega
    go_wp2_with fail
    go_ret
    exact ⟨rfl, H2.out.bel⟩
  have q4 : ¬ (12 : Int) < row.length := by omega
  go_wp2_with fail
  clear k0 k1 k2
  go_loopg [34] nxs.length (fun g u wr => NvR w (.slice oa ss.length oc) (.slice na nxs.length nc) (.slice fa fs.length fc) (.slice ra row.length rc) ss nxs fs row g u wr)
  case atStart => exact ⟨0, Nat.zero_le _, by omega, rfl, fun k l h => absurd h (Nat.not_lt_zero _), H2.out⟩
  case round =>
    clear H2
    obtain ⟨i, hil, hgi, rfl, hall, hst⟩ := hrel
    by_cases hlt' : i < nxs.length
    · obtain ⟨l, hx⟩ : ∃ l, nxs[i]? = some l := ⟨_, List.getElem?_eq_getElem hlt'⟩
      obtain ⟨b2, off2, xa, xc, rfl, c0, -⟩ := hst.ls.at hx (Below.refl _ _)
      have HST := Lib.hid hst
      have HAL := Lib.hid hall
      have HX := Lib.hid hx
      clear hst hall hx
      by_cases g5 : 20 < l.length
      · have q5 : (20 : Int) < l.length := by omega
        go_wp2_with fail
        go_ret
        exact ⟨rfl, HST.out.bel⟩
      · have q5 : ¬ (20 : Int) < l.length := by omega
        go_wp2_with fail
        go_roundg (nxs.length - (i + 1))
        case measure => omega
        case rel =>
          refine ⟨i + 1, by omega, rfl, by go_num, fun k l' hk hl' => ?_, HST.out⟩
          rcases Nat.lt_or_ge k i with h | h
          · exact HAL.out k l' h hl'
          · obtain rfl : k = i := by omega
            have e := HX.out.symm.trans hl'
            injection e with e
            subst e
            omega
    · obtain rfl : i = nxs.length := by omega
      have hll : ∀ l ∈ nxs, l.length ≤ 20 := fun l hl => by
        obtain ⟨k, hk, e⟩ := List.mem_iff_getElem.1 hl
        exact hall k l hk (by rw [List.getElem?_eq_getElem hk, e])
      have HST := Lib.hid hst
      have HTo : Hid (∀ W, NvS w (.slice oa ss.length oc) (.slice na nxs.length nc) (.slice fa fs.length fc) (.slice ra row.length rc) ss nxs fs row W → Calls Tryz.prog 7 #[.agg #[.slice oa ss.length oc, .slice na nxs.length nc, .slice fa fs.length fc]] W fun e w' => ∃ a0 c0 a1 c1 a2 c2, e = .returned (.agg #[.slice a0 ss.length c0, .slice a1 nxs.length c1, .slice a2 fs.length c2]) ∧
          LlAt w' (.slice a0 ss.length c0) (onsL ss) ∧ LlAt w' (.slice a1 nxs.length c1) nxs ∧ BoolsAt w' (.slice a2 fs.length c2) fs ∧ Below W.heap.size W w') :=
        Lib.hid (fun W h => to17_any oa fa na oc fc nc ss nxs fs W h.ss h.ls h.fs H64.out (by omega) (by omega) (fun l hl => by have := hll l hl; omega) (by omega) h.tab)
      have HCk : Hid (∀ W, NvS w (.slice oa ss.length oc) (.slice na nxs.length nc) (.slice fa fs.length fc) (.slice ra row.length rc) ss nxs fs row W → Calls Tryz.prog 8 #[.agg #[.slice oa ss.length oc, .slice na nxs.length nc, .slice fa fs.length fc]] W fun e w' => e = .returned (.bool (nfaOk ss.length fs.length nxs)) ∧ Below W.heap.size W w') :=
        Lib.hid (fun W h => ncheck_any oa fa na ss.length oc fs.length fc nc nxs W h.ls (by omega) (fun l hl => by have := hll l hl; omega))
      have HRk : Hid (∀ W a0 c0 a1 c1 a2 c2, LlAt W (.slice a1 nxs.length c1) nxs → Calls Tryz.prog 6 #[.agg #[.slice a0 ss.length c0, .slice a1 nxs.length c1, .slice a2 fs.length c2]] W fun e w' => e = .returned (.bool (nfaOk ss.length fs.length nxs)) ∧ Below W.heap.size W w') :=
        Lib.hid (fun W a0 c0 a1 c1 a2 c2 h => rcheck_any a0 a2 a1 ss.length c0 fs.length c2 c1 nxs W h (by omega) (fun l hl => by have := hll l hl; omega))
      have HA1 : Hid (nfaOk ss.length fs.length nxs = true → ∀ W, NvS w (.slice oa ss.length oc) (.slice na nxs.length nc) (.slice fa fs.length fc) (.slice ra row.length rc) ss nxs fs row W → Calls Tryz.prog 9 #[.agg #[.slice oa ss.length oc, .slice na nxs.length nc, .slice fa fs.length fc], .slice ra row.length rc] W fun e w' => e = .returned (.bool (raccs (onsL ss) nxs fs row)) ∧ Below W.heap.size W w') :=
        Lib.hid (fun hok W h => by
          obtain ⟨p0, p1, p2, p3⟩ := nfaOk_true hok
          have h1 := h.ls
          have h2 := h.fs
          rw [p1] at h1
          rw [p2] at h2
          rw [p1, p2]
          exact naccepts_any oa fa na ra oc fc nc rc ss (onsL ss) nxs fs row W (setOn_onsL ss) h.ss h1 h2 h.row p0 p1 p2 p3 (by omega) H64.out (fun l hl => by have := hll l hl; omega) (by omega))
      have HR1 : Hid (nfaOk ss.length fs.length nxs = true → ∀ W a0 c0 a1 c1 a2 c2, NvS w (.slice oa ss.length oc) (.slice na nxs.length nc) (.slice fa fs.length fc) (.slice ra row.length rc) ss nxs fs row W → LlAt W (.slice a0 ss.length c0) (onsL ss) → LlAt W (.slice a1 nxs.length c1) nxs → BoolsAt W (.slice a2 fs.length c2) fs → Calls Tryz.prog 10 #[.agg #[.slice a0 ss.length c0, .slice a1 nxs.length c1, .slice a2 fs.length c2], .slice ra row.length rc] W fun e w' => e = .returned (.bool (raccs (onsL ss) nxs fs row)) ∧ Below W.heap.size W w') :=
        Lib.hid (fun hok W a0 c0 a1 c1 a2 c2 h h0 h1 h2 => by
          obtain ⟨p0, p1, p2, p3⟩ := nfaOk_true hok
          have ol : (onsL ss).length = ss.length := by unfold onsL; rw [List.length_map]
          rw [p1] at h1
          rw [p2] at h2
          rw [p1, p2]
          rw [← ol] at h0 h1 h2 p0 p1 p2 p3
          rw [← ol]
          exact raccepts_any a0 a2 a1 ra c0 c2 c1 rc (onsL ss) nxs fs row W h0 h1 h2 h.row p0 p1 p2 p3 (by omega) (fun l hl => by
            unfold onsL at hl
            obtain ⟨c, -, rfl⟩ := List.mem_map.1 hl
            have := intsL_le c.1 c.2
            omega) (fun l hl => by have := hll l hl; omega) (by omega))
      clear hst hall hll
      generalize raccs (onsL ss) nxs fs row = q at *
      generalize nfaOk ss.length fs.length nxs = ok at *
      obtain ⟨k0, k1, k2⟩ := HST.out.cells
      go_wp2_with fail
      refine (HTo.out _ HST.out).mono ?_
      rintro e w4 ⟨a0, c0, a1, c1, a2, c2, rfl, -, l1, -, b4⟩
      have H4 := Lib.hid (HST.out.step b4)
      have HL1 := Lib.hid l1
      clear l1 b4 HST k0 k1 k2
      go_wp2_with fail
      refine (HRk.out _ _ _ _ _ _ _ HL1.out).mono ?_
      rintro e w5 ⟨rfl, b5⟩
      have H5 := Lib.hid (H4.out.step b5)
      clear b5 H4 HL1 HRk
      go_wp2_with fail
      have hI := H5.out.step (Below.refl w5.heap.size w5).drew
      have kk := hI.cells
      clear H5
      cases ok
      case false =>
        refine region_T (fun W : World => W.cell? ⟨w.heap.size, 0, none⟩ = some (.slice oa ss.length oc) ∧ W.cell? ⟨w.heap.size, 1, none⟩ = some (.slice na nxs.length nc) ∧ W.cell? ⟨w.heap.size, 2, none⟩ = some (.slice fa fs.length fc)) 18 (by kernel_rfl) ?_
        refine wpT_take (i := 0) (v := .agg #[.slice oa ss.length oc, .slice na nxs.length nc, .slice fa fs.length fc]) rfl (by kernel_rfl) (by kernel_rfl) (by kernel_rfl) (by kernel_rfl) (by kernel_rfl) (by kernel_rfl) (by kernel_rfl) (by kernel_rfl) (fun _ _ _ h => h) (Or.inl ⟨by rfl, ?_⟩) kk ?_
        · rintro w' ⟨s0, s1, s2⟩
          go_simp
        try simp only [Act.put, List.setIfInBounds_toArray, List.set_cons_zero, List.set_cons_succ]
        refine wpT_take (i := 2) (v := .bool false) rfl (by kernel_rfl) (by kernel_rfl) (by kernel_rfl) (by kernel_rfl) (by kernel_rfl) (by kernel_rfl) (by kernel_rfl) (by kernel_rfl) (fun _ _ _ h => h) (Or.inl ⟨by rfl, ?_⟩) kk ?_
        · rintro w' ⟨s0, s1, s2⟩
          go_simp
        try simp only [Act.put, List.setIfInBounds_toArray, List.set_cons_zero, List.set_cons_succ]
        refine wpT_one (i := 1) (by kernel_rfl) rfl ?_
        intro KK hKK
        go_simp
        refine (HCk.out _ hI).mono ?_
        rintro e w6 ⟨rfl, b6⟩
        have hI6 := hI.step b6
        have kk6 := hI6.cells
        refine hKK _ _ ⟨fun _ => kk6, ?_⟩
        clear hKK kk
        try simp only [Act.put, List.setIfInBounds_toArray, List.set_cons_zero, List.set_cons_succ]
        refine wpT_take (i := 3) (v := .bool true) rfl (by kernel_rfl) (by kernel_rfl) (by kernel_rfl) (by kernel_rfl) (by kernel_rfl) (by kernel_rfl) (by kernel_rfl) (by kernel_rfl) (fun _ _ _ h => h) (Or.inl ⟨by rfl, ?_⟩) kk6 ?_
        · rintro w' ⟨s0, s1, s2⟩
          go_simp
        try simp only [Act.put, List.setIfInBounds_toArray, List.set_cons_zero, List.set_cons_succ]
        refine wpT_take (i := 4) (v := .bool true) rfl (by kernel_rfl) (by kernel_rfl) (by kernel_rfl) (by kernel_rfl) (by kernel_rfl) (by kernel_rfl) (by kernel_rfl) (by kernel_rfl) (fun _ _ _ h => h) (Or.inl ⟨by rfl, ?_⟩) kk6 ?_
        · rintro w' ⟨s0, s1, s2⟩
          go_simp
        try simp only [Act.put, List.setIfInBounds_toArray, List.set_cons_zero, List.set_cons_succ]
        refine wpT_take (i := 5) (v := .bool false) rfl (by kernel_rfl) (by kernel_rfl) (by kernel_rfl) (by kernel_rfl) (by kernel_rfl) (by kernel_rfl) (by kernel_rfl) (by kernel_rfl) (fun _ _ _ h => h) (Or.inl ⟨by rfl, ?_⟩) kk6 ?_
        · rintro w' ⟨s0, s1, s2⟩
          go_simp
        try simp only [Act.put, List.setIfInBounds_toArray, List.set_cons_zero, List.set_cons_succ]
        refine wpT_take (i := 6) (v := .bool true) rfl (by kernel_rfl) (by kernel_rfl) (by kernel_rfl) (by kernel_rfl) (by kernel_rfl) (by kernel_rfl) (by kernel_rfl) (by kernel_rfl) (fun _ _ _ h => h) (Or.inl ⟨by rfl, ?_⟩) kk6 ?_
        · rintro w' ⟨s0, s1, s2⟩
          go_simp
        try simp only [Act.put, List.setIfInBounds_toArray, List.set_cons_zero, List.set_cons_succ]
        refine wpT_take (i := 7) (v := .bool true) rfl (by kernel_rfl) (by kernel_rfl) (by kernel_rfl) (by kernel_rfl) (by kernel_rfl) (by kernel_rfl) (by kernel_rfl) (by kernel_rfl) (fun _ _ _ h => h) (Or.inl ⟨by rfl, ?_⟩) kk6 ?_
        · rintro w' ⟨s0, s1, s2⟩
          go_simp
        try simp only [Act.put, List.setIfInBounds_toArray, List.set_cons_zero, List.set_cons_succ]
        refine wpT_take (i := 8) (v := undef) rfl (by kernel_rfl) (by kernel_rfl) (by kernel_rfl) (by kernel_rfl) (by kernel_rfl) (by kernel_rfl) (by kernel_rfl) (by kernel_rfl) (fun _ _ _ h => h) (Or.inr ⟨by kernel_rfl, rfl⟩) kk6 ?_
        try simp only [Act.put, List.setIfInBounds_toArray, List.set_cons_zero, List.set_cons_succ]
        refine wpT_take (i := 9) (v := undef) rfl (by kernel_rfl) (by kernel_rfl) (by kernel_rfl) (by kernel_rfl) (by kernel_rfl) (by kernel_rfl) (by kernel_rfl) (by kernel_rfl) (fun _ _ _ h => h) (Or.inr ⟨by kernel_rfl, rfl⟩) kk6 ?_
        try simp only [Act.put, List.setIfInBounds_toArray, List.set_cons_zero, List.set_cons_succ]
        refine wpT_take (i := 11) (v := undef) rfl (by kernel_rfl) (by kernel_rfl) (by kernel_rfl) (by kernel_rfl) (by kernel_rfl) (by kernel_rfl) (by kernel_rfl) (by kernel_rfl) (fun _ _ _ h => h) (Or.inr ⟨by kernel_rfl, rfl⟩) kk6 ?_
        try simp only [Act.put, List.setIfInBounds_toArray, List.set_cons_zero, List.set_cons_succ]
        refine wpT_take (i := 13) (v := undef) rfl (by kernel_rfl) (by kernel_rfl) (by kernel_rfl) (by kernel_rfl) (by kernel_rfl) (by kernel_rfl) (by kernel_rfl) (by kernel_rfl) (fun _ _ _ h => h) (Or.inr ⟨by kernel_rfl, rfl⟩) kk6 ?_
        try simp only [Act.put, List.setIfInBounds_toArray, List.set_cons_zero, List.set_cons_succ]
        refine wpT_one (i := 10) ?hr10 rfl ?_
        case hr10 => decide +kernel
        intro KK hKK
        go_simp
        refine hKK _ _ ⟨fun _ => kk6, ?_⟩
        clear hKK
        try simp only [Act.put, List.setIfInBounds_toArray, List.set_cons_zero, List.set_cons_succ]
        refine wpT_one (i := 12) ?hr12 rfl ?_
        case hr12 => decide +kernel
        intro KK hKK
        go_simp
        refine hKK _ _ ⟨fun _ => kk6, ?_⟩
        clear hKK
        try simp only [Act.put, List.setIfInBounds_toArray, List.set_cons_zero, List.set_cons_succ]
        refine wpT_one (i := 14) ?hr14 rfl ?_
        case hr14 => decide +kernel
        intro KK hKK
        go_simp
        refine hKK _ _ ⟨fun _ => kk6, ?_⟩
        clear hKK
        try simp only [Act.put, List.setIfInBounds_toArray, List.set_cons_zero, List.set_cons_succ]
        refine wpT_take (i := 15) (v := undef) rfl (by kernel_rfl) (by kernel_rfl) (by kernel_rfl) (by kernel_rfl) (by kernel_rfl) (by kernel_rfl) (by kernel_rfl) (by kernel_rfl) (fun _ _ _ h => h) (Or.inr ⟨by kernel_rfl, rfl⟩) kk6 ?_
        try simp only [Act.put, List.setIfInBounds_toArray, List.set_cons_zero, List.set_cons_succ]
        refine wpT_take (i := 16) (v := .bool true) rfl (by kernel_rfl) (by kernel_rfl) (by kernel_rfl) (by kernel_rfl) (by kernel_rfl) (by kernel_rfl) (by kernel_rfl) (by kernel_rfl) (fun _ _ _ h => h) (Or.inl ⟨by rfl, ?_⟩) kk6 ?_
        · rintro w' ⟨s0, s1, s2⟩
          go_simp
        try simp only [Act.put, List.setIfInBounds_toArray, List.set_cons_zero, List.set_cons_succ]
        refine wpT_take (i := 17) (v := .bool true) rfl (by kernel_rfl) (by kernel_rfl) (by kernel_rfl) (by kernel_rfl) (by kernel_rfl) (by kernel_rfl) (by kernel_rfl) (by kernel_rfl) (fun _ _ _ h => h) (Or.inl ⟨by rfl, ?_⟩) kk6 ?_
        · rintro w' ⟨s0, s1, s2⟩
          go_simp
        try simp only [Act.put, List.setIfInBounds_toArray, List.set_cons_zero, List.set_cons_succ]
        refine wpT_tail 18 1 rfl rfl (by kernel_rfl) (by kernel_rfl) ?_
        simp only [List.drop_succ_cons, List.drop_zero]
        clear kk6
        go_wp2
        go_ret
        exact ⟨rfl, hI6.bel⟩
      case true =>
        go_region_held3 (fun W => W.cell? ⟨w.heap.size, 0, none⟩ = some (.slice oa ss.length oc) ∧ W.cell? ⟨w.heap.size, 1, none⟩ = some (.slice na nxs.length nc) ∧ W.cell? ⟨w.heap.size, 2, none⟩ = some (.slice fa fs.length fc))
          (first | exact kk | exact hI.cells)
          (first
          | (go_at_call 8; (with_reducible refine (HCk.out _ hI).mono ?_); rintro e w6 ⟨rfl, b6⟩; replace hI := hI.step b6; clear b6)
          | (go_at_call 9; (with_reducible refine (HA1.out (by trivial) _ hI).mono ?_); rintro e w6 ⟨rfl, b6⟩; replace hI := hI.step b6; clear b6)
          | (go_at_call 7; (with_reducible refine (HTo.out _ hI).mono ?_); rintro e w6 ⟨d0, e0, d1, e1, d2, e2, rfl, m0, m1, m2, b6⟩; replace hI := hI.step b6; clear b6)
          | (go_at_call 10; refine (HR1.out (by trivial) _ _ _ _ _ _ _ hI m0 m1 m2).mono ?_; rintro e w6 ⟨rfl, b6⟩; replace hI := hI.step b6; clear b6 m0 m1 m2))
        go_wp2
        go_ret
        exact ⟨rfl, hI.bel⟩
end Go.Proofs.YtbhkfifmgbcknaaGreatDoor
namespace Go.Proofs.YtbhkfifmgbcknaaGreatDoor
open Go.ChangeShapes Go.WideShapes Go.ChangeAt Go.RowKit Go.Deep
theorem Tryz.cellsIntN : Tryz.prog.cellsOf 3 = 1 := by kernel_rfl
theorem Tryz.cellsBoolN : Tryz.prog.cellsOf 4 = 1 := by kernel_rfl
theorem Tryz.cellsIntsN : Tryz.prog.cellsOf 27 = 1 := by kernel_rfl
theorem Tryz.cellsIntssN : Tryz.prog.cellsOf 23 = 1 := by kernel_rfl
theorem Tryz.cellsBoolsN : Tryz.prog.cellsOf 24 = 1 := by kernel_rfl
theorem Tryz.cellsU64N : Tryz.prog.cellsOf 41 = 1 := by kernel_rfl
theorem Tryz.cellsSetN : Tryz.prog.cellsOf 43 = 2 := by kernel_rfl
theorem Tryz.cellsSetsN : Tryz.prog.cellsOf 22 = 1 := by kernel_rfl
theorem Tryz.cellsNfaN : Tryz.prog.cellsOf 26 = 3 := by kernel_rfl
section
variable {H : Type} {enc : TypeId × Value → H}
theorem listN_of {α : Type} {n : Nat} {R : Nat → α → Prop} (h : ∀ i, i < n → ∃ x, R i x) : ∃ l : List α, l.length = n ∧ ∀ i x, l[i]? = some x → R i x := by
  refine ⟨List.ofFn fun i : Fin n => Classical.choose (h i i.2), by simp, fun i x hx => ?_⟩
  obtain ⟨hi', e⟩ := List.getElem?_eq_some_iff.1 hx
  simp at hi' e
  have := Classical.choose_spec (h i hi')
  rwa [e] at this
theorem intsN_of_cells {W : World} {fuel : Nat} {cs : List Value} {x : DataW H × List MemPlace} (hf : DataW.trod enc Tryz.prog W 0 (fun _ => true) true fuel 27 cs = some x) : ∃ v zs, cs = [v] ∧ IntsAt W v zs := by
  rcases open_ints Tryz.underlying27 Tryz.underlying3 Tryz.cellsIntN hf with ⟨hcs, hx⟩ | ⟨a, len, cap, zs, hcs, _, hl, hm, hz, hx, hcell, -⟩
  · exact ⟨_, [], hcs, .inl ⟨none, 0, rfl, rfl⟩⟩
  · simp only [if_true] at hz
    by_cases h0 : len = 0
    · subst h0; exact ⟨_, [], hcs, .inl ⟨some a, cap, rfl, rfl⟩⟩
    · obtain ⟨b, off, spot⟩ := a
      have hspot : spot = none := by simpa [Addr.add] using World.cell?_spot (hcell 0 (by omega))
      subst hspot
      have hl2 : (zs.take len).length = len := by simp; omega
      have hbl : b < W.heap.size := by
        have := World.block_lt_of_cell? W _ (hcell 0 (by omega))
        simpa [Addr.add] using this
      refine ⟨_, zs.take len, hcs, .inr ⟨b, off, cap, by rw [hl2], hbl, fun i c hi => ?_⟩⟩
      have hi' : i < len := by
        have := (List.getElem?_eq_some_iff.1 hi).1
        omega
      have hc := hcell i (by omega)
      rw [add_plain] at hc
      rw [hc]
      rw [List.getElem?_take_of_lt hi'] at hi
      rw [List.getD_eq_getElem?_getD, hi]
      rfl
theorem intsN_of_trod {W : World} {v : Value} {d : DataW H} {ps : List MemPlace} (hval : ∃ a len cap, v = .slice a len cap) (h : DataW.Trod enc Tryz.prog W 0 (fun _ => true) true 27 v d ps) : ∃ zs, IntsAt W v zs := by
  obtain ⟨a0, len, cap, rfl⟩ := hval
  obtain ⟨fuel, hf⟩ := h
  obtain ⟨u, zs, e, hr⟩ := intsN_of_cells hf
  simp only [Value.cells] at e
  injection e with e
  subst e
  exact ⟨zs, hr⟩
theorem bools_of_cells {W : World} {fuel : Nat} {cs : List Value} {x : DataW H × List MemPlace} (hf : DataW.trod enc Tryz.prog W 0 (fun _ => true) true fuel 24 cs = some x) : ∃ v l, cs = [v] ∧ BoolsAt W v l := by
  rcases open_bools Tryz.underlying24 Tryz.underlying4 Tryz.cellsBoolN hf with ⟨hcs, -⟩ | ⟨a, len, cap, B, hcs, -, hl, -, -, hcell⟩
  · exact ⟨_, [], hcs, .inl ⟨none, 0, rfl, rfl⟩⟩
  · by_cases h0 : len = 0
    · subst h0; exact ⟨_, [], hcs, .inl ⟨some a, cap, rfl, rfl⟩⟩
    · obtain ⟨b, off, spot⟩ := a
      have hspot : spot = none := by simpa [Addr.add] using World.cell?_spot (hcell 0 (by omega))
      subst hspot
      have hbl : b < W.heap.size := by
        have := World.block_lt_of_cell? W _ (hcell 0 (by omega))
        simpa [Addr.add] using this
      have hl2 : ((List.range len).map B).length = len := by simp
      refine ⟨_, (List.range len).map B, hcs, .inr ⟨b, off, cap, by rw [hl2], hbl, fun i c hi => ?_⟩⟩
      have hi' : i < len := by
        have := (List.getElem?_eq_some_iff.1 hi).1
        omega
      have hc := hcell i (by omega)
      rw [add_plain] at hc
      rw [hc]
      simp [hi'] at hi
      rw [hi]
theorem u64_bdN {n : Int} (h : (Lit.int .u64 n).wf = true) : 0 ≤ n ∧ n ≤ 18446744073709551615 := by
  simp [Lit.wf] at h
  have e : IntKind.u64.min = 0 := rfl
  have e' : IntKind.u64.max = 18446744073709551615 := rfl
  omega
theorem setc_of_cells {W : World} {fuel : Nat} {cs : List Value} {x : DataW H × List MemPlace} (hf : DataW.trod enc Tryz.prog W 0 (fun _ => true) true fuel 43 cs = some x) : ∃ a b : Nat, cs = [.int .u64 (a : Int), .int .u64 (b : Int)] ∧ U64 a ∧ U64 b := by
  cases fuel with
  | zero => simp [DataW.trod] at hf
  | succ fuel =>
    simp only [DataW.trod, Tryz.underlying43, Tryz.cellsU64N, Tryz.cellsSetN, Nat.mul_one] at hf
    split at hf
    · rename_i hl
      obtain ⟨xs, hm, hx⟩ := Option.map_eq_some_iff.1 hf
      obtain ⟨x0, -, h0⟩ := Lib.mapM_at hm 0 0 (by simp)
      obtain ⟨x1, -, h1⟩ := Lib.mapM_at hm 1 1 (by simp)
      obtain ⟨z0, e0, -, w0⟩ := DataW.trod_int Tryz.underlying41 h0
      obtain ⟨z1, e1, -, w1⟩ := DataW.trod_int Tryz.underlying41 h1
      have b0 := u64_bdN w0
      have b1 := u64_bdN w1
      obtain ⟨a, rfl⟩ := Int.eq_ofNat_of_zero_le b0.1
      obtain ⟨b, rfl⟩ := Int.eq_ofNat_of_zero_le b1.1
      refine ⟨a, b, ?_, by unfold U64; omega, by unfold U64; omega⟩
      match cs, hl with
      | [u0, u1], _ =>
        simp at e0 e1
        subst e0 e1
        rfl
    · cases hf
theorem sets_of_cells {W : World} {fuel : Nat} {cs : List Value} {x : DataW H × List MemPlace} (hf : DataW.trod enc Tryz.prog W 0 (fun _ => true) true fuel 22 cs = some x) : ∃ v ss, cs = [v] ∧ SsAt W v ss ∧ ∀ c ∈ ss, U64 c.1 ∧ U64 c.2 := by
  rcases open_slice Tryz.underlying22 hf with ⟨hcs, hx⟩ | ⟨a, len, cap, m, n, D, Pl, hcs, hb, hl, hm, hmm, hx, hi⟩
  · exact ⟨_, [], hcs, .inl ⟨none, 0, rfl, rfl⟩, fun c h => by cases h⟩
  · clear hx
    simp only [if_true] at hmm
    by_cases h0 : len = 0
    · subst h0; exact ⟨_, [], hcs, .inl ⟨some a, cap, rfl, rfl⟩, fun c h => by cases h⟩
    · have key : ∀ i, i < len → ∃ c : Nat × Nat, (W.cell? (a.add (i * 2)) = some (.int .u64 c.1) ∧ W.cell? (a.add (i * 2 + 1)) = some (.int .u64 c.2)) ∧ U64 c.1 ∧ U64 c.2 := by
        intro i hil
        obtain ⟨cs, hc, ht⟩ := hi i (by omega)
        rw [Tryz.cellsSetN] at hc
        obtain ⟨_, hcl, hat⟩ := World.cells?_some hc
        obtain ⟨p, q, rfl, hp, hq⟩ := setc_of_cells ht
        refine ⟨(p, q), ⟨?_, ?_⟩, hp, hq⟩
        · have := hat 0 (by simp); rw [Go.Deep.add_add] at this; simpa using this
        · have := hat 1 (by simp); rw [Go.Deep.add_add] at this; simpa using this
      obtain ⟨b, off, spot⟩ := a
      have hspot : spot = none := by
        obtain ⟨x, ⟨hx, -⟩, -⟩ := key 0 (by omega)
        simpa [Addr.add] using World.cell?_spot hx
      subst hspot
      have hbl : b < W.heap.size := by
        obtain ⟨x, ⟨hx, -⟩, -⟩ := key 0 (by omega)
        have := World.block_lt_of_cell? W _ hx
        simpa [Addr.add] using this
      obtain ⟨ss, hsl, hR⟩ := listN_of key
      exact ⟨_, ss, hcs, .inr ⟨b, off, cap, by rw [hsl], hbl, fun i c hic => by
        obtain ⟨⟨k0, k1⟩, -⟩ := hR i c hic
        rw [add_plain] at k0 k1
        exact ⟨k0, by simpa [Nat.add_assoc] using k1⟩⟩, fun c hc => by
        obtain ⟨k, hk, e⟩ := List.mem_iff_getElem.1 hc
        exact (hR k c (by rw [List.getElem?_eq_getElem hk, e])).2⟩
theorem intss_of_cells {W : World} {fuel : Nat} {cs : List Value} {x : DataW H × List MemPlace} (hf : DataW.trod enc Tryz.prog W 0 (fun _ => true) true fuel 23 cs = some x) : ∃ v ls, cs = [v] ∧ LlAt W v ls := by
  rcases open_slice Tryz.underlying23 hf with ⟨hcs, hx⟩ | ⟨a, len, cap, m, n, D, Pl, hcs, hb, hl, hm, hmm, hx, hi⟩
  · exact ⟨_, [], hcs, .inl ⟨none, 0, rfl, rfl⟩⟩
  · clear hx
    simp only [if_true] at hmm
    by_cases h0 : len = 0
    · subst h0; exact ⟨_, [], hcs, .inl ⟨some a, cap, rfl, rfl⟩⟩
    · have key : ∀ i, i < len → ∃ l : List Int, ∃ u, W.cell? (a.add i) = some u ∧ IntsAt W u l := by
        intro i hil
        obtain ⟨cs, hc, ht⟩ := hi i (by omega)
        rw [Tryz.cellsIntsN] at hc
        obtain ⟨_, hcl, hat⟩ := World.cells?_some hc
        obtain ⟨u, l, rfl, hl⟩ := intsN_of_cells ht
        refine ⟨l, u, ?_, hl⟩
        have := hat 0 (by simp); rw [Go.Deep.add_add] at this; simpa using this
      obtain ⟨b, off, spot⟩ := a
      have hspot : spot = none := by
        obtain ⟨x, u, hx, -⟩ := key 0 (by omega)
        simpa [Addr.add] using World.cell?_spot hx
      subst hspot
      have hbl : b < W.heap.size := by
        obtain ⟨x, u, hx, -⟩ := key 0 (by omega)
        have := World.block_lt_of_cell? W _ hx
        simpa [Addr.add] using this
      obtain ⟨ls, hsl, hR⟩ := listN_of key
      exact ⟨_, ls, hcs, .inr ⟨b, off, cap, by rw [hsl], hbl, fun i l hil => by
        obtain ⟨u, k0, k1⟩ := hR i l hil
        rw [add_plain] at k0
        exact ⟨u, k0, k1⟩⟩⟩
theorem trod_struct3N {P : Program} {W : World} {base : Nat} {spare : Nat → Bool} {held : Bool} {t : TypeId} {f0 f1 f2 : Field} {fuel : Nat} {cs : List Value} {x : DataW H × List MemPlace} (ht : P.underlying t = some (.struct #[f0, f1, f2])) (h : DataW.trod enc P W base spare held fuel t cs = some x) :
    ∃ y0 y1 y2 n, cs.length = P.cellsOf t ∧ DataW.trod enc P W base spare held n f0.type ((cs.drop f0.offset).take (P.cellsOf f0.type)) = some y0 ∧
      DataW.trod enc P W base spare held n f1.type ((cs.drop f1.offset).take (P.cellsOf f1.type)) = some y1 ∧ DataW.trod enc P W base spare held n f2.type ((cs.drop f2.offset).take (P.cellsOf f2.type)) = some y2 := by
  obtain ⟨xs, n, _, -, hl, hlen, hf⟩ := DataW.trod_struct ht h
  match xs, hlen with
  | [y0, y1, y2], _ => exact ⟨y0, y1, y2, n, hl, by simpa using hf 0 f0 rfl, by simpa using hf 1 f1 rfl, by simpa using hf 2 f2 rfl⟩
theorem nfa_of_trod {W : World} {v : Value} {d : DataW H} {ps : List MemPlace} (h : DataW.Trod enc Tryz.prog W 0 (fun _ => true) true 26 v d ps) :
    ∃ oa oc na nc fa fc ss nxs fs, v = .agg #[.slice oa ss.length oc, .slice na nxs.length nc, .slice fa fs.length fc] ∧ SsAt W (.slice oa ss.length oc) ss ∧ (∀ c ∈ ss, U64 c.1 ∧ U64 c.2) ∧ LlAt W (.slice na nxs.length nc) nxs ∧ BoolsAt W (.slice fa fs.length fc) fs := by
  obtain ⟨fuel, hf⟩ := h
  obtain ⟨y0, y1, y2, n', hl, h0, h1, h2⟩ := trod_struct3N Tryz.underlying26 hf
  rw [Tryz.cellsSetsN] at h0
  rw [Tryz.cellsIntssN] at h1
  rw [Tryz.cellsBoolsN] at h2
  rw [Tryz.cellsNfaN] at hl
  obtain ⟨v0, ss, e0, hs, h64⟩ := sets_of_cells h0
  obtain ⟨v1, nxs, e1, hn⟩ := intss_of_cells h1
  obtain ⟨v2, fs, e2, hb⟩ := bools_of_cells h2
  cases v with
  | agg cs =>
    obtain ⟨l⟩ := cs
    simp only [Value.cells] at hl e0 e1 e2
    match l, hl with
    | [u0, u1, u2], _ =>
      simp at e0 e1 e2
      subst e0 e1 e2
      obtain ⟨oa, oc, rfl⟩ := hs.form
      obtain ⟨na, nc, rfl⟩ := hn.form
      obtain ⟨fa, fc, rfl⟩ := hb.form
      exact ⟨oa, oc, na, nc, fa, fc, ss, nxs, fs, rfl, hs, h64, hn, hb⟩
  | _ => simp [Value.cells] at hl
end
end Go.Proofs.YtbhkfifmgbcknaaGreatDoor
