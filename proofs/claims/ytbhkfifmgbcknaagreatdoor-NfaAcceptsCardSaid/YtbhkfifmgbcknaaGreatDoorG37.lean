/-
  A part of the proof of the statement NfaAccepts.
-/
import Derived.Test.YtbhkfifmgbcknaaGreatDoorG36
import Derived.Test.YtbhkfifmgbcknaaGreatDoorG03
import Derived.Test.YtbhkfifmgbcknaaGreatDoorG24
import Derived.Lib.OwnBridge
import Derived.Lib.AppendIntMem
set_option linter.unusedSimpArgs false
set_option linter.unusedVariables false
namespace Go.Proofs.YtbhkfifmgbcknaaGreatDoor
open Go.RowKit Go.Extern.Stop Go.Stop Go.Extern
def NcR (n : Int) (l : List Int) (W : World) (g : Nat) (u : Value) (wr : World) : Prop :=
  ∃ (k : Nat) (last : Int), k ≤ l.length ∧ g = l.length - k ∧ u = .int .i64 k ∧ (k = 0 → last = 0) ∧ (0 < k → 1 ≤ last ∧ l[k - 1]? = some last) ∧ upR n last (l.drop k) = upR n 0 l ∧ wr = W
set_option maxRecDepth 100000 in
set_option maxHeartbeats 8000000 in
theorem rcheck_any (oa fa na : Option Addr) (on oc fin fc nc : Nat) (ls : List (List Int)) (w : World) (hls : LlAt w (.slice na ls.length nc) ls) (hl : ls.length ≤ 1000000) (hr : ∀ l ∈ ls, l.length ≤ 1000000) :
    Calls Tryz.prog 6 #[.agg #[.slice oa on oc, .slice na ls.length nc, .slice fa fin fc]] w fun e w' => e = .returned (.bool (nfaOk on fin ls)) ∧ Below w.heap.size w w' := by
  have hB := sbelow_new w (.cells #[.slice oa on oc, .slice na ls.length nc, .slice fa fin fc] 31)
  have hN := heap_alloc_new w (.cells #[.slice oa on oc, .slice na ls.length nc, .slice fa fin fc] 31)
  have HB := Lib.hid hB
  have HL := Lib.hid (hls.step hB)
  have c0 : (w.alloc (.cells #[.slice oa on oc, .slice na ls.length nc, .slice fa fin fc] 31)).cell? ⟨w.heap.size, 0, none⟩ = some (.slice oa on oc) := by rw [Lib.cell_of_heap hN]; rfl
  have c1 : (w.alloc (.cells #[.slice oa on oc, .slice na ls.length nc, .slice fa fin fc] 31)).cell? ⟨w.heap.size, 1, none⟩ = some (.slice na ls.length nc) := by rw [Lib.cell_of_heap hN]; rfl
  have c2 : (w.alloc (.cells #[.slice oa on oc, .slice na ls.length nc, .slice fa fin fc] 31)).cell? ⟨w.heap.size, 2, none⟩ = some (.slice fa fin fc) := by rw [Lib.cell_of_heap hN]; rfl
  clear hB hN hls
  by_cases h0 : (on : Int) = 0
  · have hno : nfaOk on fin ls = false := by unfold nfaOk; rw [decide_eq_true h0]; rfl
    rw [hno]
    go_enter Tryz.func6, Tryz.ntmps6
    go_wp2_with fail
    go_ret
    exact ⟨rfl, HB.out⟩
  by_cases h1 : ¬ ((ls.length : Int) = on)
  · have hno : nfaOk on fin ls = false := by unfold nfaOk; rw [decide_eq_true (p := (ls.length : Int) ≠ on) h1, Bool.or_true, Bool.true_or]; rfl
    rw [hno]
    go_enter Tryz.func6, Tryz.ntmps6
    go_wp2_with fail
    go_ret
    exact ⟨rfl, HB.out⟩
  replace h1 := Decidable.not_not.1 h1
  by_cases h2 : ¬ ((fin : Int) = on)
  · have hb0 : ((on : Int) == 0) = false := beq_eq_false_iff_ne.2 h0
    have hb1 : ((ls.length : Int) != (on : Int)) = false := by rw [h1]; exact bne_self_eq_false _
    have hb2 : ((fin : Int) != (on : Int)) = true := bne_iff_ne.2 h2
    have hno : nfaOk on fin ls = false := by unfold nfaOk; rw [decide_eq_true (p := (fin : Int) ≠ on) h2, Bool.or_true]; rfl
    rw [hno]
    go_enter Tryz.func6, Tryz.ntmps6
    go_wp2_with fail
    go_ret
    exact ⟨rfl, HB.out⟩
  replace h2 := Decidable.not_not.1 h2
  obtain rfl : on = ls.length := by omega
  obtain rfl : fin = ls.length := by omega
  have hok : nfaOk ls.length ls.length ls = upA ls.length ls := by
    unfold nfaOk
    rw [decide_eq_false h0, decide_eq_false (p := (ls.length : Int) ≠ ls.length) (fun h => h rfl)]
    rfl
  rw [hok]
  clear hok h1 h2
  have hb0 : ((ls.length : Int) == 0) = false := beq_eq_false_iff_ne.2 h0
  have hb3 : ¬ ls = [] := fun h => h0 (by rw [h]; rfl)
  go_enter Tryz.func6, Tryz.ntmps6
  go_wp2_with fail
  generalize w.alloc (.cells #[.slice oa ls.length oc, .slice na ls.length nc, .slice fa ls.length fc] 31) = w1 at *
  clear c0 c1 c2
  go_loopg [30] ls.length (fun g u wr => NaR ls.length ls w1 g u wr)
  case atStart => exact ⟨0, Nat.zero_le _, by omega, rfl, by rw [List.drop_zero], rfl⟩
  case round =>
    obtain ⟨i, hi, hgi, rfl, hd, rfl⟩ := hrel
    have HD := Lib.hid hd
    clear hd
    by_cases hil : i < ls.length
    · obtain ⟨l, hx⟩ : ∃ l, ls[i]? = some l := ⟨_, List.getElem?_eq_getElem hil⟩
      have hll := hr l (List.mem_of_getElem? hx)
      have HUP := Lib.hid ((upA_drop (n := ls.length) hx).symm.trans HD.out)
      obtain ⟨b, off, xa, xc, rfl, d0, d1⟩ := HL.out.at hx (Below.refl _ _)
      have HI := Lib.hid d1
      clear hx d1 HD
      go_wp2_with fail
      clear d0
      go_loopg [36] l.length (fun g u W => NcR ls.length l wr g u W)
      case atStart => exact ⟨0, 0, Nat.zero_le _, by omega, rfl, fun _ => rfl, fun h => by omega, by rw [List.drop_zero], rfl⟩
      case round =>
        obtain ⟨k, last, hk, hgk, rfl, hl0, hl1, hd, rfl⟩ := hrel
        have HD := Lib.hid hd
        clear hd
        by_cases hkl : k < l.length
        · obtain ⟨y, hy⟩ : ∃ y, l[k]? = some y := ⟨_, List.getElem?_eq_getElem hkl⟩
          obtain ⟨b2, off2, rfl, e0⟩ := HI.out.at hy (Below.refl _ _)
          have HU := Lib.hid ((upR_drop (n := ls.length) (last := last) hy).symm.trans HD.out)
          have HY := Lib.hid hy
          clear hy HD
          have HF : Hid ((y ≤ last ∨ y ≥ ls.length) → upA ls.length ls = false) := Lib.hid (fun h => by
            rw [← HUP.out, ← HU.out]
            rcases h with h | h
            · rw [decide_eq_true h]; rfl
            · rw [decide_eq_true h, Bool.or_true]; rfl)
          have HV : Hid (¬ (y ≤ last ∨ y ≥ ls.length) → upR ls.length y (l.drop (k + 1)) = upR ls.length 0 l) := Lib.hid (fun h => by
            have h1 := HU.out
            rw [decide_eq_false (fun h' => h (.inl h')), decide_eq_false (fun h' => h (.inr h'))] at h1
            simpa using h1)
          clear HU
          by_cases hy1 : y < 1
          · have HN : Hid (upA ls.length ls = false) := Lib.hid (HF.out (.inl (by
              rcases Nat.eq_zero_or_pos k with h | h
              · rw [hl0 h]; omega
              · have := (hl1 h).1; omega)))
            clear HF HV
            go_wp2_with fail
            go_ret
            exact ⟨ret_bb' HN.out.symm, HB.out⟩
          · by_cases hy2 : y ≥ ls.length
            · have HN : Hid (upA ls.length ls = false) := Lib.hid (HF.out (.inr hy2))
              clear HF HV
              go_wp2_with fail
              go_ret
              exact ⟨ret_bb' HN.out.symm, HB.out⟩
            · rcases k with _ | k
              · have e : last = 0 := hl0 rfl
                subst e
                rw [Nat.add_zero] at e0
                have HN : Hid (upR ls.length y (l.drop (0 + 1)) = upR ls.length 0 l) := Lib.hid (HV.out (by omega))
                clear HF HV hl0 hl1
                go_wp2_with fail
                go_roundg (l.length - (0 + 1))
                case measure => omega
                case rel => exact ⟨0 + 1, y, by omega, rfl, by go_num, fun h => by omega, fun _ => ⟨by omega, HY.out⟩, HN.out, rfl⟩
              · obtain ⟨hl2, hl3⟩ := hl1 (Nat.succ_pos k)
                obtain ⟨b3, off3, e3, f0⟩ := HI.out.at (show l[k]? = some last from hl3) (Below.refl _ _)
                cases e3
                by_cases hy3 : y ≤ last
                · have HN : Hid (upA ls.length ls = false) := Lib.hid (HF.out (.inl hy3))
                  clear HF HV hl0 hl1 hl3
                  go_wp2_with fail
                  go_ret
                  exact ⟨ret_bb' HN.out.symm, HB.out⟩
                · have HN : Hid (upR ls.length y (l.drop (k + 1 + 1)) = upR ls.length 0 l) := Lib.hid (HV.out (by omega))
                  clear HF HV hl0 hl1 hl3
                  go_wp2_with fail
                  go_roundg (l.length - (k + 1 + 1))
                  case measure => omega
                  case rel => exact ⟨k + 1 + 1, y, by omega, rfl, by go_num, fun h => by omega, fun _ => ⟨by omega, HY.out⟩, HN.out, rfl⟩
        · obtain rfl : k = l.length := by omega
          have HV : Hid (upA ls.length (ls.drop (i + 1)) = upA ls.length ls) := Lib.hid (by
            have h3 := HD.out
            rw [List.drop_length] at h3
            have h4 : upR ls.length 0 l = true := h3.symm
            have h5 := HUP.out
            rw [h4, Bool.true_and] at h5
            exact h5)
          clear HD HUP
          go_wp2_with fail
          go_roundg (ls.length - (i + 1))
          case measure => omega
          case rel => exact ⟨i + 1, by omega, rfl, by go_num, HV.out, rfl⟩
    · obtain rfl : i = ls.length := by omega
      go_wp2_with fail
      go_ret
      have h3 := HD.out
      rw [List.drop_length] at h3
      have h4 : upA ls.length ls = true := h3.symm
      exact ⟨ret_bb' h4.symm, HB.out⟩
end Go.Proofs.YtbhkfifmgbcknaaGreatDoor
namespace Go.Proofs.YtbhkfifmgbcknaaGreatDoor
open Go.RowKit Go.Extern.Stop Go.Stop Go.Extern
def RaW (n : Nat) (w : World) (v : Value) (l : List Int) (wr : World) : Prop := IntsAt wr v l ∧ Sts n l ∧ Below w.heap.size w wr
def Ra1 (n : Nat) (ons nxs : List (List Int)) (row : List Int) (w : World) (g : Nat) (u v : Value) (wr : World) : Prop :=
  ∃ (i : Nat) (al : List Int), i ≤ row.length ∧ g = row.length - i ∧ u = .int .i64 i ∧ rst3 ons nxs al (row.drop i) = rst3 ons nxs [0] row ∧ RaW n w v al wr
def Ra2 (n : Nat) (ons nxs : List (List Int)) (x : Int) (al : List Int) (w : World) (g : Nat) (u v : Value) (wr : World) : Prop :=
  ∃ (j : Nat) (nx : List Int), j ≤ al.length ∧ g = al.length - j ∧ u = .int .i64 j ∧ rst2 ons nxs x nx (al.drop j) = rst2 ons nxs x [] al ∧ RaW n w v nx wr
def Ra3 (n : Nat) (ons : List (List Int)) (x : Int) (nx0 ks : List Int) (w : World) (g : Nat) (u v : Value) (wr : World) : Prop :=
  ∃ (k : Nat) (nx : List Int), k ≤ ks.length ∧ g = ks.length - k ∧ u = .int .i64 k ∧ rst1 ons x nx (ks.drop k) = rst1 ons x nx0 ks ∧ RaW n w v nx wr
def Ra4 (fs : List Bool) (al : List Int) (w : World) (g : Nat) (u : Value) (wr : World) : Prop :=
  ∃ k : Nat, k ≤ al.length ∧ g = al.length - k ∧ u = .int .i64 k ∧ (al.drop k).any (lastB fs) = al.any (lastB fs) ∧ wr = w
theorem any_drop {α : Type} {f : α → Bool} {l : List α} {i : Nat} {x : α} (h : l[i]? = some x) : (l.drop i).any f = (f x || (l.drop (i + 1)).any f) := by
  obtain ⟨h1, rfl⟩ := List.getElem?_eq_some_iff.1 h
  rw [List.drop_eq_getElem_cons h1]
  rfl
set_option maxRecDepth 100000 in
set_option maxHeartbeats 16000000 in
theorem raccepts_any (oa fa na ra : Option Addr) (oc fc nc rc : Nat) (ons nxs : List (List Int)) (fs : List Bool) (row : List Int) (w : World) (ho : LlAt w (.slice oa ons.length oc) ons) (hn : LlAt w (.slice na ons.length nc) nxs) (hf : BoolsAt w (.slice fa ons.length fc) fs)
    (hr : IntsAt w (.slice ra row.length rc) row) (h0 : 0 < ons.length) (hnl : nxs.length = ons.length) (hfl : fs.length = ons.length) (hu : ∀ l ∈ nxs, ∀ x ∈ l, InN ons.length x) (hl : ons.length ≤ 1000) (hol : ∀ l ∈ ons, l.length ≤ 1000) (hnx : ∀ l ∈ nxs, l.length ≤ 1000) (hrl : row.length ≤ 1000) :
    Calls Tryz.prog 10 #[.agg #[.slice oa ons.length oc, .slice na ons.length nc, .slice fa ons.length fc], .slice ra row.length rc] w fun e w' => e = .returned (.bool (raccs ons nxs fs row)) ∧ Below w.heap.size w w' := by
  have hB := sbelow_new w (.cells #[.slice oa ons.length oc, .slice na ons.length nc, .slice fa ons.length fc] 31)
  have hN := heap_alloc_new w (.cells #[.slice oa ons.length oc, .slice na ons.length nc, .slice fa ons.length fc] 31)
  have HO := Lib.hid (ho.step hB)
  have HN := Lib.hid (hn.step hB)
  have HF := Lib.hid (hf.step hB)
  have HR := Lib.hid (hr.step hB)
  have HB := Lib.hid hB
  have HC := Lib.hid hN
  have HU := Lib.hid hu
  have HOL := Lib.hid hol
  have HNX := Lib.hid hnx
  clear hB hN ho hn hf hr hu hol hnx
  go_enter Tryz.func10, Tryz.ntmps10
  go_wp2_with fail
  generalize hw1 : w.alloc (.cells #[.slice oa ons.length oc, .slice na ons.length nc, .slice fa ons.length fc] 31) = w1 at *
  have hz : w1.heap.size = w.heap.size + 1 := by rw [← hw1]; exact World.size_alloc _ _
  have hlt : w.heap.size < w1.heap.size := by omega
  have hbn := sbelow_new w1 (.cells #[.int .i64 0] 3)
  have H0 : Hid (RaW ons.length w1 (.slice (some ⟨w.heap.size + 1, 0, none⟩) 1 1) [0] (w1.alloc (.cells #[.int .i64 0] 3))) := Lib.hid (by rw [← hz]; exact ⟨ints_new w1 0, Sts.zero h0, hbn⟩)
  generalize hw2 : w1.alloc (.cells #[.int .i64 0] 3) = w2 at *
  clear hbn hw1 hw2
  go_loopg [18, 5] row.length (fun g u v wr => Ra1 ons.length ons nxs row w1 g u v wr)
  case atStart => exact ⟨0, [0], Nat.zero_le _, by omega, rfl, by rw [List.drop_zero], H0.out⟩
  case round =>
    clear H0
    obtain ⟨i, al, hi, hgi, rfl, hd, hiv, hst, hb⟩ := hrel
    obtain ⟨aa, ac, rfl⟩ := hiv.form
    have HD := Lib.hid hd
    have HA := Lib.hid hiv
    have HS := Lib.hid hst
    have HBr := Lib.hid hb
    have hal := Nat.le_trans hst.len hl
    clear hd hiv hst
    by_cases hil : i < row.length
    · obtain ⟨x, hx⟩ : ∃ x, row[i]? = some x := ⟨_, List.getElem?_eq_getElem hil⟩
      obtain ⟨b, off, rfl, e0⟩ := HR.out.at hx hb
      have HX := Lib.hid hx
      clear hx hb
      go_wp2_with fail
      clear e0
      obtain ⟨w5, hw5⟩ : ∃ w5, w5 = wr := ⟨_, rfl⟩
      subst hw5
      go_loopg [24, 8] al.length (fun g u v W => Ra2 ons.length ons nxs x al w5 g u v W)
      case atStart => exact ⟨0, [], Nat.zero_le _, by omega, rfl, by rw [List.drop_zero], .inl ⟨_, _, rfl, rfl⟩, Sts.nil _, Below.refl _ _⟩
      case round =>
        obtain ⟨j, nx, hj, hgj, rfl, hd, hiv, hst, hb⟩ := hrel
        obtain ⟨xa, xc, rfl⟩ := hiv.form
        have HD2 := Lib.hid hd
        have HX2 := Lib.hid hiv
        have HS2 := Lib.hid hst
        have HB2 := Lib.hid hb
        clear hd hiv hst
        by_cases hjl : j < al.length
        · obtain ⟨y, hy⟩ : ∃ y, al[j]? = some y := ⟨_, List.getElem?_eq_getElem hjl⟩
          obtain ⟨yk, rfl, hyk⟩ := lt_of_in (HS.out.2 y (List.mem_of_getElem? hy))
          obtain ⟨ks, hks⟩ : ∃ ks, nxs[yk]? = some ks := ⟨_, List.getElem?_eq_getElem (by omega)⟩
          have hbb := HBr.out.trans (hb.mono HBr.out.size)
          obtain ⟨b2, off2, rfl, e1⟩ := HA.out.at hy hb
          obtain ⟨b3, off3, ka, kc, rfl, e2, e3⟩ := HN.out.at hks hbb
          have e4 := (hbb.block _ hlt).trans HC.out
          have c1 : wr.cell? ⟨w.heap.size, 1, none⟩ = some (.slice (some ⟨b3, off3, none⟩) ons.length nc) := by rw [Lib.cell_of_heap e4]; rfl
          have HK := Lib.hid e3
          have hkl : ks.length ≤ 1000 := HNX.out ks (List.mem_of_getElem? hks)
          have HKU := Lib.hid (HU.out ks (List.mem_of_getElem? hks))
          have HD3 : Hid (rst2 ons nxs x (rst1 ons x nx ks) (al.drop (j + 1)) = rst2 ons nxs x [] al) := Lib.hid (by
            rw [← HD2.out]
            unfold rst2
            rw [fold_drop hy]
            have : onAt nxs (yk : Int) = ks := by unfold onAt; rw [Int.toNat_natCast, hks]; rfl
            rw [this])
          clear hy hks hb hbb e3 e4 HD2
          have hylt : yk < nxs.length := by omega
          go_wp2_with fail
          clear e1 e2 c1
          obtain ⟨w6, hw6⟩ : ∃ w6, w6 = wr := ⟨_, rfl⟩
          subst hw6
          go_loopg [34, 8] ks.length (fun g u v W => Ra3 ons.length ons x nx ks w6 g u v W)
          case atStart => exact ⟨0, nx, Nat.zero_le _, by omega, rfl, by rw [List.drop_zero], HX2.out, HS2.out, Below.refl _ _⟩
          case round =>
            clear HX2 HS2
            obtain ⟨k, nz, hk, hgk, rfl, hd, hiv, hst, hb⟩ := hrel
            obtain ⟨za, zc, rfl⟩ := hiv.form
            have HD4 := Lib.hid hd
            have HX2 := Lib.hid hiv
            have HS2 := Lib.hid hst
            have HB3 := Lib.hid hb
            clear hd hiv hst
            by_cases hkl2 : k < ks.length
            · obtain ⟨z, hz2⟩ : ∃ z, ks[k]? = some z := ⟨_, List.getElem?_eq_getElem hkl2⟩
              have hzin := HKU.out z (List.mem_of_getElem? hz2)
              obtain ⟨zk, rfl, hzk⟩ := lt_of_in hzin
              have HZ := Lib.hid hzin
              obtain ⟨os, hos⟩ : ∃ os, ons[zk]? = some os := ⟨_, List.getElem?_eq_getElem hzk⟩
              have hb56 := HB2.out.trans (hb.mono HB2.out.size)
              have hbb := HBr.out.trans (hb56.mono HBr.out.size)
              obtain ⟨b4, off4, rfl, e1⟩ := HK.out.at hz2 hb
              obtain ⟨b5, off5, sa, sc, rfl, e2, e3⟩ := HO.out.at hos hbb
              have e4 := (hbb.block _ hlt).trans HC.out
              have c0 : wr.cell? ⟨w.heap.size, 0, none⟩ = some (.slice (some ⟨b5, off5, none⟩) ons.length oc) := by rw [Lib.cell_of_heap e4]; rfl
              have HH := Lib.hid (rhas_any os _ x wr e3 (Nat.le_trans (HOL.out os (List.mem_of_getElem? hos)) (by decide)))
              have HV := Lib.hid (have_any nz _ (zk : Int) wr HX2.out (Nat.le_trans (Nat.le_trans HS2.out.len hl) (by decide)))
              have HD5 : Hid (rst1 ons x (if hasL os x then haveL nz zk else nz) (ks.drop (k + 1)) = rst1 ons x nx ks) := Lib.hid (by
                rw [← HD4.out]
                unfold rst1
                rw [fold_drop hz2]
                have : onAt ons (zk : Int) = os := by unfold onAt; rw [Int.toNat_natCast, hos]; rfl
                rw [this])
              clear hz2 hos hb hbb hb56 e3 e4 HD4 hzin
              generalize hasL os x = q at *
              cases q with
              | false =>
                go_wp2_with fail
                refine HH.out.mono ?_
                rintro e w7 ⟨rfl, rfl⟩
                go_wp2_with fail
                go_roundg (ks.length - (k + 1))
                case measure => omega
                case rel => exact ⟨k + 1, nz, by omega, rfl, by go_num, HD5.out, HX2.out, HS2.out, HB3.out⟩
              | true =>
                go_wp2_with fail
                refine HH.out.mono ?_
                rintro e w7 ⟨rfl, rfl⟩
                go_wp2_with fail
                refine HV.out.mono ?_
                rintro e w8 ⟨v8, rfl, hi8, hb8⟩
                have HI8 := Lib.hid hi8
                have HB8 := Lib.hid (HB3.out.trans (hb8.mono HB3.out.size))
                clear hi8 hb8
                go_wp2_with fail
                go_roundg (ks.length - (k + 1))
                case measure => omega
                case rel => exact ⟨k + 1, _, by omega, rfl, by go_num, HD5.out, HI8.out, HS2.out.have HZ.out, HB8.out⟩
            · obtain rfl : k = ks.length := by omega
              have HE : Hid (nz = rst1 ons x nx ks) := Lib.hid (by
                have h1 := HD4.out
                rw [List.drop_length] at h1
                exact h1)
              have HB9 := Lib.hid (HB2.out.trans (hb.mono HB2.out.size))
              clear hb HD4
              go_wp2_with fail
              go_roundg (al.length - (j + 1))
              case measure => omega
              case rel => exact ⟨j + 1, nz, by omega, rfl, by go_num, by rw [HE.out]; exact HD3.out, HX2.out, HS2.out, HB9.out⟩
        · obtain rfl : j = al.length := by omega
          have HE : Hid (rst3 ons nxs nx (row.drop (i + 1)) = rst3 ons nxs [0] row) := Lib.hid (by
            have h1 := HD2.out
            rw [List.drop_length] at h1
            have h2 : nx = rst2 ons nxs x [] al := h1
            rw [← HD.out]
            unfold rst3
            rw [fold_drop HX.out, h2])
          have HB9 := Lib.hid (HBr.out.trans (hb.mono HBr.out.size))
          clear hb HD2 HD
          go_wp2_with fail
          go_roundg (row.length - (i + 1))
          case measure => omega
          case rel => exact ⟨i + 1, nx, by omega, rfl, by go_num, HE.out, HX2.out, HS2.out, HB9.out⟩
    · obtain rfl : i = row.length := by omega
      have HE : Hid (al = rst3 ons nxs [0] row) := Lib.hid (by
        have h1 := HD.out
        rw [List.drop_length] at h1
        exact h1)
      have HBW := Lib.hid (HB.out.trans (hb.mono HB.out.size))
      have e4 := (hb.block _ hlt).trans HC.out
      have c2 : wr.cell? ⟨w.heap.size, 2, none⟩ = some (.slice fa ons.length fc) := by rw [Lib.cell_of_heap e4]; rfl
      have HF2 := Lib.hid (HF.out.step hb)
      clear hb e4 HD HBr
      have HQ : Hid (raccs ons nxs fs row = al.any (lastB fs)) := Lib.hid (by unfold raccs; rw [← HE.out])
      clear HE
      go_wp2_with fail
      obtain ⟨w5, hw5⟩ : ∃ w5, w5 = wr := ⟨_, rfl⟩
      subst hw5
      go_loopg [54] al.length (fun g u W => Ra4 fs al w5 g u W)
      case atStart => exact ⟨0, Nat.zero_le _, by omega, rfl, by rw [List.drop_zero], rfl⟩
      case round =>
        obtain ⟨k, hk, hgk, rfl, hd, rfl⟩ := hrel
        have HD := Lib.hid hd
        clear hd
        by_cases hkl : k < al.length
        · obtain ⟨z, hz2⟩ : ∃ z, al[k]? = some z := ⟨_, List.getElem?_eq_getElem hkl⟩
          obtain ⟨zk, rfl, hzk⟩ := lt_of_in (HS.out.2 z (List.mem_of_getElem? hz2))
          obtain ⟨c, hc⟩ : ∃ c, fs[zk]? = some c := ⟨_, List.getElem?_eq_getElem (by omega)⟩
          obtain ⟨b2, off2, rfl, e1⟩ := HA.out.at hz2 (Below.refl _ _)
          obtain ⟨b3, off3, rfl, e2⟩ := HF2.out.at hc (Below.refl _ _)
          have HD5 : Hid ((c || (al.drop (k + 1)).any (lastB fs)) = al.any (lastB fs)) := Lib.hid (by
            rw [← HD.out, any_drop hz2]
            have : lastB fs (zk : Int) = c := by unfold lastB; rw [Int.toNat_natCast, hc]; rfl
            rw [this])
          clear hz2 hc HD
          cases c with
          | true =>
            go_wp2_with fail
            go_ret
            exact ⟨ret_bb' (by rw [HQ.out, ← HD5.out]; rfl), HBW.out⟩
          | false =>
            go_wp2_with fail
            go_roundg (al.length - (k + 1))
            case measure => omega
            case rel => exact ⟨k + 1, by omega, rfl, by go_num, HD5.out, rfl⟩
        · obtain rfl : k = al.length := by omega
          go_wp2_with fail
          go_ret
          have h1 := HD.out
          rw [List.drop_length] at h1
          exact ⟨ret_bb' (by rw [HQ.out, ← h1]; rfl), HBW.out⟩
end Go.Proofs.YtbhkfifmgbcknaaGreatDoor
namespace Go.Proofs.YtbhkfifmgbcknaaGreatDoor
open Go.RowKit Go.Extern.Stop Go.Stop Go.Extern Go.Sort
def srtI (l : List Int) : List Int := l.mergeSort fun x y => decide (x ≤ y)
theorem srtI_perm (l : List Int) : (srtI l).Perm l := List.mergeSort_perm l _
theorem srtI_own (l : List Int) (v : Value) (base : Nat) (w : World) (hown : w.ownsRow base 3 1 v l.length (encI l)) (hl : l.length ≤ 1000000) :
    Calls Tryz.prog 40 #[v] w fun e w' => e = .returned (.tuple #[]) ∧ w'.ownsRow base 3 1 v (srtI l).length (encI (srtI l)) ∧ Below base w w' := by
  by_cases hv : v = .slice none 0 0
  · subst hv
    obtain rfl : l = [] := by
      rcases hown.2 with ⟨-, h⟩ | ⟨_, _, _, e, -⟩
      · exact List.eq_nil_of_length_eq_zero h
      · cases e
    refine (Tryz.slices_Sort_int_none none 0 w).mono ?_
    rintro e w' ⟨rfl, rfl⟩
    exact ⟨rfl, by simpa [srtI] using hown, Below.refl _ _⟩
  · obtain ⟨g, cap, rfl, hbg, hlt, hnc, hcm, hzl, hH⟩ := Lib.holds_of_ownsRow hown hv
    refine (Tryz.slices_Sort_int g 0 cap l w hH hlt (by omega)).mono ?_
    rintro e w' ⟨rfl, q, os, rfl⟩
    have hlen : (srtI l).length = l.length := (srtI_perm l).length_eq
    have h := Lib.ownsRow_putRow (q := q) (ys := srtI l) hown hlen (Nat.le_refl _)
    rw [List.take_of_length_le (by omega)] at h
    have hb := Lib.below_putRow (enc := Value.int .i64) (q := q) (d := (srtI l).toArray) (Below.refl base w) hbg
    rw [hlen]
    exact ⟨rfl, Lib.ownsRow_grow h 0 os, hb.trans (Lib.below_grow base _ (Nat.le_trans (Nat.le_of_lt (Nat.lt_of_le_of_lt hbg hlt)) hb.size) 0 os)⟩
end Go.Proofs.YtbhkfifmgbcknaaGreatDoor
namespace Go.Proofs.YtbhkfifmgbcknaaGreatDoor
open Go.RowKit Go.Extern.Stop Go.Stop Go.Extern
structure NsW (n : Nat) (w w1 : World) (C : Nat) (v : Value) (nx : List Int) (wr : World) : Prop where
  own : wr.ownsRow (C + 1) 3 1 v nx.length (encI nx)
  sts : Sts n nx
  cm : CmAt wr C n fun k => hasL nx k
  bel : Below w1.heap.size w1 wr
theorem grown_of_belowN {w w' : World} (hb : Below w.heap.size w w') : w.grownBy w' none := ⟨hb.os, hb.tape, hb.output, hb.size, fun k hk _ => hb.block k hk⟩
theorem NsW.step {n : Nat} {w w1 : World} {C : Nat} {v : Value} {nx : List Int} {wr w' : World} (h : NsW n w w1 C v nx wr) (hb : Below wr.heap.size wr w') (hC : w1.heap.size ≤ wr.heap.size) : NsW n w w1 C v nx w' :=
  ⟨h.own.kept (grown_of_belowN hb) (row := none) (by cases Value.ownBlock v <;> simp), h.sts, (hb.block C (Array.getElem?_eq_some_iff.1 h.cm).1).trans h.cm, h.bel.trans (hb.mono hC)⟩
def Ns2 (n : Nat) (ss : List (Nat × Nat)) (nxs : List (List Int)) (x : Int) (al : List Int) (w w1 : World) (C : Nat) (g : Nat) (u v : Value) (wr : World) : Prop :=
  ∃ (j : Nat) (nx : List Int), j ≤ al.length ∧ g = al.length - j ∧ u = .int .i64 j ∧ nst2 ss nxs x nx (al.drop j) = nst2 ss nxs x [] al ∧ NsW n w w1 C v nx wr
def Ns3 (n : Nat) (ss : List (Nat × Nat)) (x : Int) (nx0 ks : List Int) (w w1 : World) (C : Nat) (g : Nat) (u v : Value) (wr : World) : Prop :=
  ∃ (k : Nat) (nx : List Int), k ≤ ks.length ∧ g = ks.length - k ∧ u = .int .i64 k ∧ nst1 ss x nx (ks.drop k) = nst1 ss x nx0 ks ∧ NsW n w w1 C v nx wr
set_option maxRecDepth 100000 in
set_option maxHeartbeats 16000000 in
theorem nstep_any (oa fa na ra : Option Addr) (oc fc nc rc fin : Nat) (ss : List (Nat × Nat)) (nxs : List (List Int)) (al : List Int) (x : Int) (w : World) (ho : SsAt w (.slice oa ss.length oc) ss) (hn : LlAt w (.slice na ss.length nc) nxs)
    (hr : IntsAt w (.slice ra al.length rc) al) (hst : Sts ss.length al) (hnl : nxs.length = ss.length) (hu : ∀ l ∈ nxs, ∀ x ∈ l, InN ss.length x) (hl : ss.length ≤ 200) (h64 : ∀ c ∈ ss, U64 c.1 ∧ U64 c.2) (hnx : ∀ l ∈ nxs, l.length ≤ 1000) :
    Calls Tryz.prog 26 #[.agg #[.slice oa ss.length oc, .slice na ss.length nc, .slice fa fin fc], .slice ra al.length rc, .int .i64 x] w fun e w' => ∃ v r, e = .returned v ∧ IntsAt w' v r ∧ r.Perm (nst2 ss nxs x [] al) ∧ Below w.heap.size w w' := by
  have hB := sbelow_new w (.cells #[.slice oa ss.length oc, .slice na ss.length nc, .slice fa fin fc] 26)
  have hN := heap_alloc_new w (.cells #[.slice oa ss.length oc, .slice na ss.length nc, .slice fa fin fc] 26)
  have c0 : (w.alloc (.cells #[.slice oa ss.length oc, .slice na ss.length nc, .slice fa fin fc] 26)).cell? ⟨w.heap.size, 0, none⟩ = some (.slice oa ss.length oc) := by rw [Lib.cell_of_heap hN]; rfl
  have c1 : (w.alloc (.cells #[.slice oa ss.length oc, .slice na ss.length nc, .slice fa fin fc] 26)).cell? ⟨w.heap.size, 1, none⟩ = some (.slice na ss.length nc) := by rw [Lib.cell_of_heap hN]; rfl
  have c2 : (w.alloc (.cells #[.slice oa ss.length oc, .slice na ss.length nc, .slice fa fin fc] 26)).cell? ⟨w.heap.size, 2, none⟩ = some (.slice fa fin fc) := by rw [Lib.cell_of_heap hN]; rfl
  have HO := Lib.hid (ho.step hB)
  have HN := Lib.hid (hn.step hB)
  have HR := Lib.hid (hr.step hB)
  have HB := Lib.hid hB
  have HC := Lib.hid hN
  have HU := Lib.hid hu
  have HNX := Lib.hid hnx
  have H64 := Lib.hid h64
  have HS := Lib.hid hst
  have hal := Nat.le_trans hst.len hl
  have HM := Lib.hid (make_cm ss.length hl)
  have HLN := Lib.hid (fun W => nlen_any oa ss.length oc (.slice na ss.length nc) (.slice fa fin fc) W)
  clear hB hN ho hn hr hu hnx h64 hst
  go_enter Tryz.func26, Tryz.ntmps26
  go_wp2_with fail
  refine (HLN.out _).mono ?_
  rintro e w2 ⟨rfl, hb2⟩
  have hm := HM.out w2
  have hbn := sbelow_new w2 (.cells (((List.range ss.length).map fun _ => Value.bool false).toArray) 4)
  have H0 : Hid (NsW ss.length w (w.alloc (.cells #[.slice oa ss.length oc, .slice na ss.length nc, .slice fa fin fc] 26)) w2.heap.size (.slice none 0 0) [] (w2.alloc (.cells (((List.range ss.length).map fun _ => Value.bool false).toArray) 4))) :=
    Lib.hid ⟨World.ownsRow_nil _ _ _ _, Sts.nil _, heap_alloc_new w2 _, hb2.trans (hbn.mono hb2.size)⟩
  clear c0 c1 c2
  go_wp2_with fail
  have hz : (w.alloc (.cells #[.slice oa ss.length oc, .slice na ss.length nc, .slice fa fin fc] 26)).heap.size = w.heap.size + 1 := World.size_alloc _ _
  generalize w.alloc (.cells #[.slice oa ss.length oc, .slice na ss.length nc, .slice fa fin fc] 26) = w1 at *
  have hlt : w.heap.size < w1.heap.size := by omega
  have hC1 : w1.heap.size ≤ w2.heap.size := hb2.size
  generalize w2.alloc (.cells (((List.range ss.length).map fun _ => Value.bool false).toArray) 4) = w3 at *
  clear hm hbn HLN HM hb2
  generalize w2.heap.size = C at *
  go_loopg [18, 7] al.length (fun g u v wr => Ns2 ss.length ss nxs x al w w1 C g u v wr)
  case atStart => exact ⟨0, [], Nat.zero_le _, by omega, rfl, by rw [List.drop_zero], H0.out⟩
  case round =>
    clear H0
    obtain ⟨j, nx, hj, hgj, rfl, hd, hW⟩ := hrel
    have HD := Lib.hid hd
    have HW := Lib.hid hW
    clear hd hW
    by_cases hjl : j < al.length
    · obtain ⟨y, hy⟩ : ∃ y, al[j]? = some y := ⟨_, List.getElem?_eq_getElem hjl⟩
      obtain ⟨yk, rfl, hyk⟩ := lt_of_in (HS.out.2 y (List.mem_of_getElem? hy))
      obtain ⟨ks, hks⟩ : ∃ ks, nxs[yk]? = some ks := ⟨_, List.getElem?_eq_getElem (by omega)⟩
      obtain ⟨b2, off2, rfl, e1⟩ := HR.out.at hy HW.out.bel
      obtain ⟨b3, off3, ka, kc, rfl, e2, e3⟩ := HN.out.at hks (Below.refl _ _)
      replace e2 := (HW.out.bel.cell (p := ⟨b3, off3 + yk, none⟩) (World.block_lt_of_cell? w1 _ e2)).trans e2
      have e4 := (HW.out.bel.block _ hlt).trans HC.out
      have c1 : wr.cell? ⟨w.heap.size, 1, none⟩ = some (.slice (some ⟨b3, off3, none⟩) ss.length nc) := by rw [Lib.cell_of_heap e4]; rfl
      have HK := Lib.hid e3
      have hkl : ks.length ≤ 1000 := HNX.out ks (List.mem_of_getElem? hks)
      have HKU := Lib.hid (HU.out ks (List.mem_of_getElem? hks))
      have HD3 : Hid (nst2 ss nxs x (nst1 ss x nx ks) (al.drop (j + 1)) = nst2 ss nxs x [] al) := Lib.hid (by
        rw [← HD.out]
        unfold nst2
        rw [fold_drop hy]
        have : onAt nxs (yk : Int) = ks := by unfold onAt; rw [Int.toNat_natCast, hks]; rfl
        rw [this])
      clear hy hks e3 e4 HD
      have hylt : yk < nxs.length := by omega
      go_wp2_with fail
      clear e1 e2 c1
      obtain ⟨w6, hw6⟩ : ∃ w6, w6 = wr := ⟨_, rfl⟩
      subst hw6
      go_loopg [28, 7] ks.length (fun g u v W => Ns3 ss.length ss x nx ks w w1 C g u v W)
      case atStart => exact ⟨0, nx, Nat.zero_le _, by omega, rfl, by rw [List.drop_zero], HW.out⟩
      case round =>
        clear HW
        obtain ⟨k, nz, hk, hgk, rfl, hd, hW⟩ := hrel
        have HD4 := Lib.hid hd
        have HW := Lib.hid hW
        clear hd hW
        by_cases hkl2 : k < ks.length
        · obtain ⟨z, hz2⟩ : ∃ z, ks[k]? = some z := ⟨_, List.getElem?_eq_getElem hkl2⟩
          have hzin := HKU.out z (List.mem_of_getElem? hz2)
          obtain ⟨zk, rfl, hzk⟩ := lt_of_in hzin
          have HZ := Lib.hid hzin
          obtain ⟨c, hc⟩ : ∃ c, ss[zk]? = some c := ⟨_, List.getElem?_eq_getElem hzk⟩
          obtain ⟨b4, off4, rfl, e1⟩ := HK.out.at hz2 HW.out.bel
          obtain ⟨b5, off5, rfl, e2, e3⟩ := HO.out.at hc HW.out.bel
          have e4 := (HW.out.bel.block _ hlt).trans HC.out
          have c0 : wr.cell? ⟨w.heap.size, 0, none⟩ = some (.slice (some ⟨b5, off5, none⟩) ss.length oc) := by rw [Lib.cell_of_heap e4]; rfl
          have c3 := HW.out.cm.cell hzk
          have HD5 : Hid (nst1 ss x (if setOn ss x zk then haveL nz zk else nz) (ks.drop (k + 1)) = nst1 ss x nx ks) := Lib.hid (by
            rw [← HD4.out]
            unfold nst1
            rw [fold_drop hz2])
          have hso : setOn ss x (zk : Int) = hasI c.1 c.2 x := by unfold setOn; rw [Int.toNat_natCast, hc]
          rw [hso] at HD5
          obtain ⟨c1, c2⟩ := c
          have HH := Lib.hid (has_any c1 c2 x (H64.out _ (List.mem_of_getElem? hc)).1 (H64.out _ (List.mem_of_getElem? hc)).2 wr)
          have hhv : haveL nz (zk : Int) = if hasL nz (zk : Int) then nz else nz ++ [(zk : Int)] := rfl
          clear hz2 hc e4 HD4 hzin hso
          cases hq : hasL nz (zk : Int) with
          | true =>
            rw [hq] at c3
            have HD6 : Hid (nst1 ss x nz (ks.drop (k + 1)) = nst1 ss x nx ks) := Lib.hid (by
              have h1 := HD5.out
              rw [hhv, hq, if_pos rfl] at h1
              simpa using h1)
            clear HD5 hhv
            go_wp2_with fail
            go_roundg (ks.length - (k + 1))
            case measure => omega
            case rel => exact ⟨k + 1, nz, by omega, rfl, by go_num, HD6.out, HW.out⟩
          | false =>
            rw [hq] at c3
            rw [hhv, hq] at HD5
            have HWS := Lib.hid (fun w' (hb : Below wr.heap.size wr w') => HW.out.step hb HW.out.bel.size)
            cases hq2 : hasI c1 c2 x with
            | false =>
              rw [hq2] at HH HD5
              have HD6 : Hid (nst1 ss x nz (ks.drop (k + 1)) = nst1 ss x nx ks) := Lib.hid HD5.out
              clear HD5 hhv
              go_wp2_with fail
              refine HH.out.mono ?_
              rintro e w7 ⟨rfl, hb7⟩
              have HW7 := Lib.hid (HWS.out w7 hb7)
              clear hb7
              go_wp2_with fail
              go_roundg (ks.length - (k + 1))
              case measure => omega
              case rel => exact ⟨k + 1, nz, by omega, rfl, by go_num, HD6.out, HW7.out⟩
            | true =>
              rw [hq2] at HH HD5
              have HD6 : Hid (nst1 ss x (nz ++ [(zk : Int)]) (ks.drop (k + 1)) = nst1 ss x nx ks) := Lib.hid HD5.out
              have HS9 : Hid (Sts ss.length (nz ++ [(zk : Int)])) := Lib.hid (by
                have := HW.out.sts.have HZ.out
                rw [hhv, hq] at this
                exact this)
              clear HD5 hhv
              go_wp2_with fail
              refine HH.out.mono ?_
              rintro e w7 ⟨rfl, hb7⟩
              have HW7 := Lib.hid (HWS.out w7 hb7)
              have c7 := HW7.out.cm.cell hzk
              have f7 := HW7.out.cm.fz zk
              have HO8 := Lib.hid (ownsRow_setCell_below HW7.out.own (a := ⟨C, zk, none⟩) (by show C < C + 1; omega) (.bool true))
              have HC8 : Hid (CmAt (w7.setCell ⟨C, zk, none⟩ (.bool true)) C ss.length fun k => hasL (nz ++ [(zk : Int)]) k) := Lib.hid (HW7.out.cm.put _ fun k => by
                show hasL (nz ++ [(zk : Int)]) k = _
                unfold hasL
                rw [List.any_append]
                by_cases hkz : k = zk
                · subst hkz; simp
                · have : ¬ (zk : Int) = k := by omega
                  simp [hkz, this])
              have HB8 := Lib.hid (HW7.out.bel.setCell (p := ⟨C, zk, none⟩) hC1 (.bool true))
              have hCz : C + 1 ≤ (w7.setCell ⟨C, zk, none⟩ (.bool true)).heap.size := (Array.getElem?_eq_some_iff.1 HC8.out).1
              have hnl2 := HW.out.sts.len
              have HI8 : Hid (IntsAt ((w7.setCell ⟨C, zk, none⟩ (.bool true)).alloc (.cells #[.int .i64 (zk : Int)] 3)) (.slice (some ⟨w7.heap.size, 0, none⟩) 1 1) [(zk : Int)]) := Lib.hid (by
                have h1 := ints_new (w7.setCell ⟨C, zk, none⟩ (.bool true)) (zk : Int)
                rw [World.size_setCell] at h1
                exact h1)
              clear hb7
              go_wp2_with (at_builtin; refine wpList_append_ints _ rfl _ _ rfl (C + 1) _ _ _ rfl (HO8.out.alloc _) _ [(zk : Int)] rfl HI8.out (by simp; omega) (by rw [World.size_alloc]; omega) ?_)
              intro v2 w9 hown9 hgrow9
              have hCl : C < (w7.setCell ⟨C, zk, none⟩ (.bool true)).heap.size := hCz
              have hbA := (below_new (w7.setCell ⟨C, zk, none⟩ (.bool true)) (.cells #[.int .i64 (zk : Int)] 3))
              have hrow : ∀ k', Value.ownBlock _ = some k' → C + 1 ≤ k' := fun k' e => ((HO8.out.alloc (.cells #[.int .i64 (zk : Int)] 3)).lt k' e).1
              have HW9 : Hid (NsW ss.length w w1 C v2 (nz ++ [(zk : Int)]) w9) := Lib.hid ⟨by simpa [encI] using hown9, HS9.out,
                (hgrow9.block C (by rw [World.size_alloc]; omega) (fun e => by have := hrow C e.symm; omega)).trans ((hbA.block C hCl).trans HC8.out),
                (HB8.out.trans (hbA.mono HB8.out.size)).grown hgrow9 (by rw [World.size_alloc]; omega) (fun k' e => by have := hrow k' e; omega)⟩
              clear hown9 hgrow9 hrow hbA
              go_wp2_with fail
              go_roundg (ks.length - (k + 1))
              case measure => omega
              case rel => exact ⟨k + 1, _, by omega, rfl, by go_num, HD6.out, HW9.out⟩
        · obtain rfl : k = ks.length := by omega
          have HE : Hid (nz = nst1 ss x nx ks) := Lib.hid (by
            have h1 := HD4.out
            rw [List.drop_length] at h1
            exact h1)
          clear HD4
          go_wp2_with fail
          go_roundg (al.length - (j + 1))
          case measure => omega
          case rel => exact ⟨j + 1, nz, by omega, rfl, by go_num, by rw [HE.out]; exact HD3.out, HW.out⟩
    · obtain rfl : j = al.length := by omega
      have HE : Hid (nx = nst2 ss nxs x [] al) := Lib.hid (by
        have h1 := HD.out
        rw [List.drop_length] at h1
        exact h1)
      have hnl2 := HW.out.sts.len
      have HSo := Lib.hid (srtI_own nx _ (C + 1) wr HW.out.own (by omega))
      have HBW := Lib.hid (HB.out.trans (HW.out.bel.mono HB.out.size))
      clear HD HW
      go_wp2_with fail
      refine HSo.out.mono ?_
      rintro e w5 ⟨rfl, hown5, hb5⟩
      have HF := Lib.hid (HBW.out.trans (hb5.mono (by omega)))
      have HI := Lib.hid (IntsAt.own hown5 rfl)
      clear hown5 hb5
      go_wp2_with fail
      go_ret
      exact ⟨_, _, rfl, HI.out, by rw [← HE.out]; exact srtI_perm _, HF.out⟩
end Go.Proofs.YtbhkfifmgbcknaaGreatDoor
