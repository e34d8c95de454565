/-
  A part of the proof of the statement NfaAccepts.
-/
import Derived.Test.YtbhkfifmgbcknaaGreatDoorG03
import Derived.Test.YtbhkfifmgbcknaaGreatDoorG28
import Derived.Test.YtbhkfifmgbcknaaGreatDoorG04
import Derived.Test.YtbhkfifmgbcknaaGreatDoorG27
import Derived.Laws.MakeOwn
import Derived.Test.YtbhkfifmgbcknaaGreatDoorProg
import Derived.Below
import Derived.Laws.OwnMore
import Derived.Laws.Rows
set_option linter.unusedSimpArgs false
set_option linter.unusedVariables false
namespace Go.Proofs.YtbhkfifmgbcknaaGreatDoor
open Go.RowKit Go.Extern.Stop Go.Stop Go.Extern
def LlAt (w : World) (v : Value) (ls : List (List Int)) : Prop :=
  (∃ a cap, v = .slice a 0 cap ∧ ls = []) ∨ ∃ b off cap, v = .slice (some ⟨b, off, none⟩) ls.length cap ∧ b < w.heap.size ∧ ∀ i l, ls[i]? = some l → ∃ u, w.cell? ⟨b, off + i, none⟩ = some u ∧ IntsAt w u l
theorem LlAt.form {w : World} {v : Value} {ls : List (List Int)} (h : LlAt w v ls) : ∃ a cap, v = .slice a ls.length cap := by
  rcases h with ⟨a, cap, rfl, rfl⟩ | ⟨b, off, cap, rfl, -⟩
  · exact ⟨a, cap, rfl⟩
  · exact ⟨_, cap, rfl⟩
theorem LlAt.at {w w' : World} {a : Option Addr} {n cap : Nat} {ls : List (List Int)} (h : LlAt w (.slice a n cap) ls) {i : Nat} {l : List Int} (hi : ls[i]? = some l) (hb : Below w.heap.size w w') :
    ∃ b off xa xc, a = some ⟨b, off, none⟩ ∧ w'.cell? ⟨b, off + i, none⟩ = some (.slice xa l.length xc) ∧ IntsAt w' (.slice xa l.length xc) l := by
  rcases h with ⟨a, cap, -, rfl⟩ | ⟨b, off, cap, e, hlt, hc⟩
  · simp at hi
  · injection e with e
    obtain ⟨u, h1, h2⟩ := hc i l hi
    obtain ⟨xa, xc, rfl⟩ := h2.form
    exact ⟨b, off, xa, xc, e, (hb.cell (p := ⟨b, off + i, none⟩) hlt).trans h1, h2.step hb⟩
theorem LlAt.step {w w' : World} {v : Value} {ls : List (List Int)} (h : LlAt w v ls) (hb : Below w.heap.size w w') : LlAt w' v ls := by
  rcases h with h | ⟨b, off, cap, e, hlt, hc⟩
  · exact .inl h
  · refine .inr ⟨b, off, cap, e, Nat.lt_of_lt_of_le hlt hb.size, fun i l hi => ?_⟩
    obtain ⟨u, h1, h2⟩ := hc i l hi
    exact ⟨u, (hb.cell (p := ⟨b, off + i, none⟩) hlt).trans h1, h2.step hb⟩
theorem ret_bb' {a b : Bool} (h : a = b) : Ending.returned (.bool a) = .returned (.bool b) := by rw [h]
def upR (n : Int) : Int → List Int → Bool
  | _, [] => true
  | last, s :: l => !(decide (s ≤ last) || decide (s ≥ n)) && upR n s l
def upA (n : Int) (ls : List (List Int)) : Bool := ls.all (upR n 0)
def nfaOk (on fin : Nat) (ls : List (List Int)) : Bool := !(decide ((on : Int) = 0) || decide ((ls.length : Int) ≠ on) || decide ((fin : Int) ≠ on)) && upA on ls
theorem upR_drop {n last : Int} {l : List Int} {i : Nat} {y : Int} (h : l[i]? = some y) : upR n last (l.drop i) = (!(decide (y ≤ last) || decide (y ≥ n)) && upR n y (l.drop (i + 1))) := by
  obtain ⟨h1, rfl⟩ := List.getElem?_eq_some_iff.1 h
  rw [List.drop_eq_getElem_cons h1]
  rfl
theorem upA_drop {n : Int} {ls : List (List Int)} {i : Nat} {l : List Int} (h : ls[i]? = some l) : upA n (ls.drop i) = (upR n 0 l && upA n (ls.drop (i + 1))) := by
  obtain ⟨h1, rfl⟩ := List.getElem?_eq_some_iff.1 h
  rw [List.drop_eq_getElem_cons h1]
  rfl
def NaR (n : Int) (ls : List (List Int)) (W : World) (g : Nat) (u : Value) (wr : World) : Prop :=
  ∃ i : Nat, i ≤ ls.length ∧ g = ls.length - i ∧ u = .int .i64 i ∧ upA n (ls.drop i) = upA n ls ∧ wr = W
def NbR (n : Int) (l : List Int) (W : World) (g : Nat) (u v : Value) (wr : World) : Prop :=
  ∃ (k : Nat) (last : Int), k ≤ l.length ∧ g = l.length - k ∧ u = .int .i64 k ∧ v = .int .i64 last ∧ upR n last (l.drop k) = upR n 0 l ∧ wr = W
set_option maxRecDepth 100000 in
set_option maxHeartbeats 8000000 in
theorem ncheck_any (oa fa na : Option Addr) (on oc fin fc nc : Nat) (ls : List (List Int)) (w : World) (hls : LlAt w (.slice na ls.length nc) ls) (hl : ls.length ≤ 1000000) (hr : ∀ l ∈ ls, l.length ≤ 1000000) :
    Calls Tryz.prog 8 #[.agg #[.slice oa on oc, .slice na ls.length nc, .slice fa fin fc]] w fun e w' => e = .returned (.bool (nfaOk on fin ls)) ∧ Below w.heap.size w w' := by
  have hB := sbelow_new w (.cells #[.slice oa on oc, .slice na ls.length nc, .slice fa fin fc] 26)
  have hN := heap_alloc_new w (.cells #[.slice oa on oc, .slice na ls.length nc, .slice fa fin fc] 26)
  have HB := Lib.hid hB
  have HL := Lib.hid (hls.step hB)
  have c0 : (w.alloc (.cells #[.slice oa on oc, .slice na ls.length nc, .slice fa fin fc] 26)).cell? ⟨w.heap.size, 0, none⟩ = some (.slice oa on oc) := by rw [Lib.cell_of_heap hN]; rfl
  have c1 : (w.alloc (.cells #[.slice oa on oc, .slice na ls.length nc, .slice fa fin fc] 26)).cell? ⟨w.heap.size, 1, none⟩ = some (.slice na ls.length nc) := by rw [Lib.cell_of_heap hN]; rfl
  have c2 : (w.alloc (.cells #[.slice oa on oc, .slice na ls.length nc, .slice fa fin fc] 26)).cell? ⟨w.heap.size, 2, none⟩ = some (.slice fa fin fc) := by rw [Lib.cell_of_heap hN]; rfl
  clear hB hN hls
  by_cases h0 : (on : Int) = 0
  · have hno : nfaOk on fin ls = false := by unfold nfaOk; rw [decide_eq_true h0]; rfl
    rw [hno]
    go_enter Tryz.func8, Tryz.ntmps8
    go_wp2_with fail
    go_ret
    exact ⟨rfl, HB.out⟩
  by_cases h1 : ¬ ((ls.length : Int) = on)
  · have hno : nfaOk on fin ls = false := by unfold nfaOk; rw [decide_eq_true (p := (ls.length : Int) ≠ on) h1, Bool.or_true, Bool.true_or]; rfl
    rw [hno]
    go_enter Tryz.func8, Tryz.ntmps8
    go_wp2_with fail
    go_ret
    exact ⟨rfl, HB.out⟩
  replace h1 := Decidable.not_not.1 h1
  by_cases h2 : ¬ ((fin : Int) = on)
  · have hb0 : ((on : Int) == 0) = false := beq_eq_false_iff_ne.2 h0
    have hb1 : ((ls.length : Int) != (on : Int)) = false := by rw [h1]; exact bne_self_eq_false _
    have hb2 : ((fin : Int) != (on : Int)) = true := bne_iff_ne.2 h2
    have hno : nfaOk on fin ls = false := by unfold nfaOk; rw [decide_eq_true (p := (fin : Int) ≠ on) h2, Bool.or_true]; rfl
    rw [hno]
    go_enter Tryz.func8, Tryz.ntmps8
    go_wp2_with fail
    go_ret
    exact ⟨rfl, HB.out⟩
  replace h2 := Decidable.not_not.1 h2
  obtain rfl : on = ls.length := by omega
  obtain rfl : fin = ls.length := by omega
  have hok : nfaOk ls.length ls.length ls = upA ls.length ls := by
    unfold nfaOk
    rw [decide_eq_false h0, decide_eq_false (p := (ls.length : Int) ≠ ls.length) (fun h => h rfl)]
    rfl
  rw [hok]
  clear hok h1 h2
  have hb0 : ((ls.length : Int) == 0) = false := beq_eq_false_iff_ne.2 h0
  have hb3 : ¬ ls = [] := fun h => h0 (by rw [h]; rfl)
  go_enter Tryz.func8, Tryz.ntmps8
  go_wp2_with fail
  generalize w.alloc (.cells #[.slice oa ls.length oc, .slice na ls.length nc, .slice fa ls.length fc] 26) = w1 at *
  clear c0 c1 c2
  go_loopg [31] ls.length (fun g u wr => NaR ls.length ls w1 g u wr)
  case atStart => exact ⟨0, Nat.zero_le _, by omega, rfl, by rw [List.drop_zero], rfl⟩
  case round =>
    obtain ⟨i, hi, hgi, rfl, hd, rfl⟩ := hrel
    have HD := Lib.hid hd
    clear hd
    by_cases hil : i < ls.length
    · obtain ⟨l, hx⟩ : ∃ l, ls[i]? = some l := ⟨_, List.getElem?_eq_getElem hil⟩
      have hll := hr l (List.mem_of_getElem? hx)
      have HUP := Lib.hid ((upA_drop (n := ls.length) hx).symm.trans HD.out)
      obtain ⟨b, off, xa, xc, rfl, d0, d1⟩ := HL.out.at hx (Below.refl _ _)
      have HI := Lib.hid d1
      clear hx d1 HD
      go_wp2_with fail
      clear d0
      go_loopg [37, 6] l.length (fun g u v W => NbR ls.length l wr g u v W)
      case atStart => exact ⟨0, 0, Nat.zero_le _, by omega, rfl, rfl, by rw [List.drop_zero], rfl⟩
      case round =>
        obtain ⟨k, last, hk, hgk, rfl, rfl, hd, rfl⟩ := hrel
        have HD := Lib.hid hd
        clear hd
        by_cases hkl : k < l.length
        · obtain ⟨y, hy⟩ : ∃ y, l[k]? = some y := ⟨_, List.getElem?_eq_getElem hkl⟩
          obtain ⟨b2, off2, rfl, e0⟩ := HI.out.at hy (Below.refl _ _)
          have HU := Lib.hid ((upR_drop (n := ls.length) (last := last) hy).symm.trans HD.out)
          clear hy HD
          by_cases hy1 : y ≤ last
          · rw [decide_eq_true hy1] at HU
            have HF : Hid (upA ls.length ls = false) := Lib.hid (by
              rw [← HUP.out, ← HU.out]
              rfl)
            clear HU
            go_wp2_with fail
            go_ret
            exact ⟨ret_bb' HF.out.symm, HB.out⟩
          · by_cases hy2 : y ≥ ls.length
            · rw [decide_eq_true hy2] at HU
              have HF : Hid (upA ls.length ls = false) := Lib.hid (by
                rw [← HUP.out, ← HU.out, Bool.or_true]
                rfl)
              clear HU
              go_wp2_with fail
              go_ret
              exact ⟨ret_bb' HF.out.symm, HB.out⟩
            · rw [decide_eq_false hy1, decide_eq_false hy2] at HU
              have HV : Hid (upR ls.length y (l.drop (k + 1)) = upR ls.length 0 l) := Lib.hid (by
                have := HU.out
                simpa using this)
              clear HU
              go_wp2_with fail
              go_roundg (l.length - (k + 1))
              case measure => omega
              case rel => exact ⟨k + 1, y, by omega, rfl, by go_num, rfl, HV.out, rfl⟩
        · obtain rfl : k = l.length := by omega
          have HV : Hid (upA ls.length (ls.drop (i + 1)) = upA ls.length ls) := Lib.hid (by
            have h3 := HD.out
            rw [List.drop_length] at h3
            have h4 : upR ls.length 0 l = true := h3.symm
            have h5 := HUP.out
            rw [h4, Bool.true_and] at h5
            exact h5)
          clear HD HUP
          go_wp2_with fail
          go_roundg (ls.length - (i + 1))
          case measure => omega
          case rel => exact ⟨i + 1, by omega, rfl, by go_num, HV.out, rfl⟩
    · obtain rfl : i = ls.length := by omega
      go_wp2_with fail
      go_ret
      have h3 := HD.out
      rw [List.drop_length] at h3
      have h4 : upA ls.length ls = true := h3.symm
      exact ⟨ret_bb' h4.symm, HB.out⟩
end Go.Proofs.YtbhkfifmgbcknaaGreatDoor
namespace Go.Proofs.YtbhkfifmgbcknaaGreatDoor
open Go.RowKit Go.Extern.Stop Go.Stop Go.Extern
def BoolsAt (w : World) (v : Value) (l : List Bool) : Prop :=
  (∃ a cap, v = .slice a 0 cap ∧ l = []) ∨ ∃ b off cap, v = .slice (some ⟨b, off, none⟩) l.length cap ∧ b < w.heap.size ∧ ∀ i c, l[i]? = some c → w.cell? ⟨b, off + i, none⟩ = some (.bool c)
theorem BoolsAt.form {w : World} {v : Value} {l : List Bool} (h : BoolsAt w v l) : ∃ a cap, v = .slice a l.length cap := by
  rcases h with ⟨a, cap, rfl, rfl⟩ | ⟨b, off, cap, rfl, -⟩
  · exact ⟨a, cap, rfl⟩
  · exact ⟨_, cap, rfl⟩
theorem BoolsAt.at {w w' : World} {a : Option Addr} {n cap : Nat} {l : List Bool} (h : BoolsAt w (.slice a n cap) l) {i : Nat} {c : Bool} (hi : l[i]? = some c) (hb : Below w.heap.size w w') :
    ∃ b off, a = some ⟨b, off, none⟩ ∧ w'.cell? ⟨b, off + i, none⟩ = some (.bool c) := by
  rcases h with ⟨a, cap, -, rfl⟩ | ⟨b, off, cap, e, hlt, hc⟩
  · simp at hi
  · injection e with e
    exact ⟨b, off, e, (hb.cell (p := ⟨b, off + i, none⟩) hlt).trans (hc i c hi)⟩
theorem BoolsAt.step {w w' : World} {v : Value} {l : List Bool} (h : BoolsAt w v l) (hb : Below w.heap.size w w') : BoolsAt w' v l := by
  rcases h with h | ⟨b, off, cap, e, hlt, hc⟩
  · exact .inl h
  · exact .inr ⟨b, off, cap, e, Nat.lt_of_lt_of_le hlt hb.size, fun i c hi => (hb.cell (p := ⟨b, off + i, none⟩) hlt).trans (hc i c hi)⟩
set_option maxHeartbeats 1000000 in
theorem nlen_any (oa : Option Addr) (on oc : Nat) (vn vf : Value) (w : World) : Calls Tryz.prog 14 #[.agg #[.slice oa on oc, vn, vf]] w fun e w' => e = .returned (.int .i64 on) ∧ Below w.heap.size w w' := by
  have hB := sbelow_new w (.cells #[.slice oa on oc, vn, vf] 26)
  have hN := heap_alloc_new w (.cells #[.slice oa on oc, vn, vf] 26)
  have c0 : (w.alloc (.cells #[.slice oa on oc, vn, vf] 26)).cell? ⟨w.heap.size, 0, none⟩ = some (.slice oa on oc) := by rw [Lib.cell_of_heap hN]; rfl
  have HB := Lib.hid hB
  clear hB hN
  go_enter Tryz.func14, Tryz.ntmps14
  go_wp2_with fail
  go_ret
  exact ⟨rfl, HB.out⟩
set_option maxHeartbeats 1000000 in
theorem nlast_any (i : Nat) (c : Bool) (B : Nat) (vo vn : Value) (fa : Option Addr) (fc : Nat) (fs : List Bool) (w : World) (hf : BoolsAt w (.slice fa fs.length fc) fs) (hi : fs[i]? = some c)
    (hB : w.heap[B]? = some (.cells #[vo, vn, .slice fa fs.length fc] 26 (0, 0))) :
    Calls Tryz.prog 28 #[.int .i64 i, .pointer (some ⟨B, 0, none⟩)] w fun e w' => e = .returned (.bool c) ∧ w' = w := by
  have c2 : w.cell? ⟨B, 2, none⟩ = some (.slice fa fs.length fc) := by rw [Lib.cell_of_heap hB]; rfl
  obtain ⟨b, off, rfl, e0⟩ := hf.at hi (Below.refl _ _)
  have hlt : i < fs.length := (List.getElem?_eq_some_iff.1 hi).1
  clear hB hf hi
  go_enter Tryz.func28, Tryz.ntmps28
  go_wp2_with fail
  go_ret
  exact ⟨rfl, rfl⟩
end Go.Proofs.YtbhkfifmgbcknaaGreatDoor
namespace Go.Proofs.YtbhkfifmgbcknaaGreatDoor
open Go.RowKit Go.Extern.Stop Go.Stop Go.Extern
def haveL (l : List Int) (i : Int) : List Int := if hasL l i then l else l ++ [i]
set_option maxRecDepth 100000 in
set_option maxHeartbeats 4000000 in
theorem have_any (l : List Int) (v : Value) (i : Int) (w : World) (hv : IntsAt w v l) (hl : l.length ≤ 100000) :
    Calls Tryz.prog 30 #[v, .int .i64 i] w fun e w' => ∃ v', e = .returned v' ∧ IntsAt w' v' (haveL l i) ∧ Below w.heap.size w w' := by
  have HH := Lib.hid (rhas_any l v i w hv hl)
  have HV := Lib.hid hv
  clear hv
  unfold haveL
  cases hq : hasL l i with
  | true =>
    rw [hq] at HH
    go_enter Tryz.func30, Tryz.ntmps30
    go_wp2_with fail
    refine HH.out.mono ?_
    rintro e w1 ⟨rfl, rfl⟩
    go_wp2_with fail
    go_ret
    exact ⟨_, rfl, HV.out, Below.refl _ _⟩
  | false =>
    rw [hq] at HH
    go_enter Tryz.func30, Tryz.ntmps30
    go_wp2_with fail
    refine HH.out.mono ?_
    rintro e w1 ⟨rfl, rfl⟩
    go_wp2_with (at_builtin; refine wpList_append_ints _ rfl _ _ rfl w.heap.size _ _ _ rfl (World.ownsRow_nil w _ _ _) _ l rfl HV.out (by omega) (Nat.le_refl _) ?_)
    intro v1 w1 hown1 hgrow1
    have hb1 : Below w.heap.size w w1 := below_own (Below.refl _ w) (World.ownsRow_nil w _ _ _) hgrow1
    have HB1 := Lib.hid hb1
    have HO1 := Lib.hid hown1
    have hsz := hb1.size
    clear hb1 hown1 hgrow1
    go_wp2_with (at_builtin; refine wpList_append_ints _ rfl _ _ rfl w.heap.size _ _ _ rfl (HO1.out.alloc _) _ [i] rfl (ints_new w1 i) (by simp; omega) (by simp; omega) ?_)
    intro v2 w2 hown2 hgrow2
    have hb2 : Below w.heap.size w w2 := below_own (HB1.out.alloc hsz _) (HO1.out.alloc _) hgrow2
    have hi2 : IntsAt w2 v2 (l ++ [i]) := IntsAt.own (base := w.heap.size) (n := 0 + l.length + 1) (by simpa [encI] using hown2) (by simp)
    have HB2 := Lib.hid hb2
    have HI2 := Lib.hid hi2
    clear hb2 hi2 hown2 hgrow2 HB1 HO1
    go_wp2_with fail
    go_ret
    exact ⟨_, rfl, HI2.out, HB2.out⟩
end Go.Proofs.YtbhkfifmgbcknaaGreatDoor
namespace Go.Proofs.YtbhkfifmgbcknaaGreatDoor
open Go.RowKit Go.Extern.Stop Go.Stop Go.Extern
def onAt (ls : List (List Int)) (i : Int) : List Int := (ls[i.toNat]?).getD []
def rst1 (ons : List (List Int)) (x : Int) (nx ks : List Int) : List Int := ks.foldl (fun nx k => if hasL (onAt ons k) x then haveL nx k else nx) nx
def rst2 (ons nxs : List (List Int)) (x : Int) (nx al : List Int) : List Int := al.foldl (fun nx i => rst1 ons x nx (onAt nxs i)) nx
def rst3 (ons nxs : List (List Int)) (al row : List Int) : List Int := row.foldl (fun al x => rst2 ons nxs x [] al) al
def lastB (fs : List Bool) (i : Int) : Bool := (fs[i.toNat]?).getD false
def raccs (ons nxs : List (List Int)) (fs : List Bool) (row : List Int) : Bool := (rst3 ons nxs [0] row).any (lastB fs)
def Sts (n : Nat) (l : List Int) : Prop := l.Nodup ∧ ∀ x ∈ l, InN n x
theorem Sts.len {n : Nat} {l : List Int} (h : Sts n l) : l.length ≤ n := nodup_le n l h.1 h.2
theorem hasL_iffE {l : List Int} {i : Int} : hasL l i = true ↔ i ∈ l := by
  unfold hasL
  rw [List.any_eq_true]
  constructor
  · rintro ⟨x, hx, h⟩
    have : x = i := by simpa using h
    exact this ▸ hx
  · intro h
    exact ⟨i, h, by simp⟩
theorem Sts.have {n : Nat} {l : List Int} (h : Sts n l) {i : Int} (hi : InN n i) : Sts n (haveL l i) := by
  unfold haveL
  split
  · exact h
  · rename_i hn
    have hn' : i ∉ l := fun h => hn (hasL_iffE.2 h)
    refine ⟨List.nodup_append.2 ⟨h.1, by simp, fun a ha b hb => ?_⟩, fun x hx => ?_⟩
    · have : b = i := by simpa using hb
      subst this
      exact fun e => hn' (e ▸ ha)
    · rcases List.mem_append.1 hx with hx | hx
      · exact h.2 x hx
      · have : x = i := by simpa using hx
        exact this ▸ hi
theorem Sts.nil (n : Nat) : Sts n [] := ⟨List.nodup_nil, fun _ h => nomatch h⟩
theorem Sts.zero {n : Nat} (h : 0 < n) : Sts n [0] := ⟨by simp, fun x hx => by
  have : x = 0 := by simpa using hx
  subst this
  unfold InN
  omega⟩
theorem upR_in {n : Int} : ∀ {l : List Int} {last : Int}, 0 ≤ last → upR n last l = true → ∀ x ∈ l, 0 ≤ x ∧ x < n
  | [], _, _, _, x, hx => by cases hx
  | s :: l, last, h0, h, x, hx => by
    unfold upR at h
    simp only [Bool.and_eq_true, Bool.not_eq_true', Bool.or_eq_false_iff, decide_eq_false_iff_not] at h
    rcases List.mem_cons.1 hx with rfl | hx
    · omega
    · exact upR_in (by omega) h.2 x hx
theorem fold_drop {α β : Type} {f : β → α → β} {l : List α} {i : Nat} {x : α} (h : l[i]? = some x) (z : β) : (l.drop i).foldl f z = (l.drop (i + 1)).foldl f (f z x) := by
  obtain ⟨h1, rfl⟩ := List.getElem?_eq_some_iff.1 h
  rw [List.drop_eq_getElem_cons h1]
  rfl
theorem lt_of_in {n : Nat} {i : Int} (h : InN n i) : ∃ k : Nat, i = k ∧ k < n := ⟨i.toNat, by unfold InN at h; omega, by unfold InN at h; omega⟩
end Go.Proofs.YtbhkfifmgbcknaaGreatDoor
namespace Go.Proofs.YtbhkfifmgbcknaaGreatDoor
open Go.RowKit Go.Extern.Stop Go.Stop Go.Extern
def SsAt (w : World) (v : Value) (l : List (Nat × Nat)) : Prop :=
  (∃ a cap, v = .slice a 0 cap ∧ l = []) ∨ ∃ b off cap, v = .slice (some ⟨b, off, none⟩) l.length cap ∧ b < w.heap.size ∧ ∀ i c, l[i]? = some c → w.cell? ⟨b, off + i * 2, none⟩ = some (.int .u64 c.1) ∧ w.cell? ⟨b, off + i * 2 + 1, none⟩ = some (.int .u64 c.2)
theorem SsAt.at {w w' : World} {a : Option Addr} {n cap : Nat} {l : List (Nat × Nat)} (h : SsAt w (.slice a n cap) l) {i : Nat} {c : Nat × Nat} (hi : l[i]? = some c) (hb : Below w.heap.size w w') :
    ∃ b off, a = some ⟨b, off, none⟩ ∧ w'.cell? ⟨b, off + i * 2, none⟩ = some (.int .u64 c.1) ∧ w'.cell? ⟨b, off + i * 2 + 1, none⟩ = some (.int .u64 c.2) := by
  rcases h with ⟨a, cap, -, rfl⟩ | ⟨b, off, cap, e, hlt, hc⟩
  · simp at hi
  · injection e with e
    exact ⟨b, off, e, (hb.cell (p := ⟨b, off + i * 2, none⟩) hlt).trans (hc i c hi).1, (hb.cell (p := ⟨b, off + i * 2 + 1, none⟩) hlt).trans (hc i c hi).2⟩
theorem SsAt.step {w w' : World} {v : Value} {l : List (Nat × Nat)} (h : SsAt w v l) (hb : Below w.heap.size w w') : SsAt w' v l := by
  rcases h with h | ⟨b, off, cap, e, hlt, hc⟩
  · exact .inl h
  · exact .inr ⟨b, off, cap, e, Nat.lt_of_lt_of_le hlt hb.size, fun i c hi => ⟨(hb.cell (p := ⟨b, off + i * 2, none⟩) hlt).trans (hc i c hi).1, (hb.cell (p := ⟨b, off + i * 2 + 1, none⟩) hlt).trans (hc i c hi).2⟩⟩
def setOn (ss : List (Nat × Nat)) (x k : Int) : Bool := match ss[k.toNat]? with
  | some c => hasI c.1 c.2 x
  | none => false
def nst1 (ss : List (Nat × Nat)) (x : Int) (nx ks : List Int) : List Int := ks.foldl (fun nx k => if setOn ss x k then haveL nx k else nx) nx
def nst2 (ss : List (Nat × Nat)) (nxs : List (List Int)) (x : Int) (nx al : List Int) : List Int := al.foldl (fun nx i => nst1 ss x nx (onAt nxs i)) nx
theorem nst_rst {ss : List (Nat × Nat)} {ons : List (List Int)} {x : Int} (h : ∀ k : Int, setOn ss x k = hasL (onAt ons k) x) (nx ks : List Int) : nst1 ss x nx ks = rst1 ons x nx ks := by
  unfold nst1 rst1
  congr 1
  funext nx k
  rw [h]
theorem nst_rst2 {ss : List (Nat × Nat)} {ons nxs : List (List Int)} {x : Int} (h : ∀ k : Int, setOn ss x k = hasL (onAt ons k) x) (nx al : List Int) : nst2 ss nxs x nx al = rst2 ons nxs x nx al := by
  unfold nst2 rst2
  congr 1
  funext nx i
  exact nst_rst h nx _
def CmAt (w : World) (C N : Nat) (f : Nat → Bool) : Prop := w.heap[C]? = some (.cells (((List.range N).map fun j => Value.bool (f j)).toArray) 4 (0, 0))
theorem CmAt.cell {w : World} {C N : Nat} {f : Nat → Bool} (h : CmAt w C N f) {j : Nat} (hj : j < N) : w.cell? ⟨C, j, none⟩ = some (.bool (f j)) := by
  rw [Lib.cell_of_heap h]
  simp [hj]
theorem CmAt.fz {w : World} {C N : Nat} {f : Nat → Bool} (h : CmAt w C N f) (j : Nat) : w.frozen? ⟨C, j, none⟩ = false := by
  unfold World.frozen?; rw [h]; simp
theorem CmAt.put {w : World} {C N : Nat} {f : Nat → Bool} (h : CmAt w C N f) {j : Nat} {c : Bool} (g : Nat → Bool) (hg : ∀ k, g k = if k = j then c else f k) : CmAt (w.setCell ⟨C, j, none⟩ (.bool c)) C N g := by
  have e := heap_setCell_same w C j _ _ (.bool c) h
  have el : ((List.range N).map fun k => (.bool (f k) : Value)).set j (.bool c) = (List.range N).map fun k => (.bool (g k) : Value) := by
    refine List.ext_getElem (by simp) fun k h1 h2 => ?_
    rw [List.getElem_set]
    by_cases hk : j = k
    · subst hk; simp [hg]
    · have : ¬ k = j := fun e => hk e.symm
      simp [hg, hk, this]
  unfold CmAt
  rw [e, List.setIfInBounds_toArray, el]
theorem infoBoolN : (Tryz.prog.info? 4).map (fun i => (i.zero, i.size, i.bytes)) = some (some (.bool false), 1, 1) := by kernel_rfl
theorem make_cm (n : Nat) (hn : n ≤ 200) (w : World) : (Instr.makeSlice 24 (.int .i64 (n : Int)) (.int .i64 (n : Int))).run Tryz.prog w =
    .ok (.slice (some ⟨w.heap.size, 0, none⟩) n n) (w.alloc (.cells (((List.range n).map fun _ => Value.bool false).toArray) 4)) := by
  obtain ⟨i0, hi, hz0, hz1, hz2⟩ := info_parts infoBoolN
  have e := run_make (P := Tryz.prog) w 24 4 i0 (.bool false) Tryz.underlying24 hi hz0 .i64 .i64 n n (by omega) (by omega) (by rw [hz2]; omega) (by omega)
  rw [e, hz1]
  have em : madeCells (Value.bool false).cells ((n : Int).toNat * 1) = ((List.range n).map fun _ => Value.bool false).toArray := by
    apply Array.ext
    · simp [size_madeCells]
    · intro k h1 h2
      simp [madeCells, Value.cells, Nat.mod_one]
  rw [em]
  simp
end Go.Proofs.YtbhkfifmgbcknaaGreatDoor
namespace Go.Proofs.YtbhkfifmgbcknaaGreatDoor
open Go.RowKit Go.Extern.Stop Go.Stop Go.Extern
def Surv (B : Nat) (T : TypeId) (w w' : World) : Prop := ∀ (k : Nat) (cur : Array Value) (e : TypeId), B ≤ k → w.heap[k]? = some (.cells cur e (0, 0)) → e ≠ T → w'.heap[k]? = some (.cells cur e (0, 0))
theorem Surv.below {B : Nat} {T : TypeId} {w w' : World} (h : Below w.heap.size w w') : Surv B T w w' := fun k _ _ _ hk _ => (h.block k (Array.getElem?_eq_some_iff.1 hk).1).trans hk
theorem Surv.grown {B B0 : Nat} {T : TypeId} {sz n : Nat} {v : Value} {xs : List Value} {w w' : World} (h : w.ownsRow B0 T sz v n xs) (hg : w.grownBy w' v.ownBlock) : Surv B T w w' := by
  intro k cur e _ hk hne
  refine (hg.block k (Array.getElem?_eq_some_iff.1 hk).1 ?_).trans hk
  intro hv
  rcases h.2 with ⟨rfl, -⟩ | ⟨g, cap, cur', rfl, -, h1, -⟩
  · cases hv
  · have e2 : k = g := by injection hv
    subst e2
    rw [hk] at h1
    injection h1 with h1
    injection h1 with _ h1
    exact hne h1
theorem Surv.setCell {B : Nat} {T : TypeId} {w : World} {q : Addr} (hq : q.block < B) (v : Value) : Surv B T w (w.setCell q v) := fun k _ _ hB hk _ => (heap_setCell_other w q k v (by omega)).trans hk
theorem Surv.trans {B : Nat} {T : TypeId} {a b c : World} (h : Surv B T a b) (h' : Surv B T b c) : Surv B T a c := fun k cur e hB hk hne => h' k cur e hB (h k cur e hB hk hne) hne
theorem ownsRow_surv {B : Nat} {T e : TypeId} {sz n : Nat} {v : Value} {xs : List Value} {w w' : World} (h : w.ownsRow B e sz v n xs) (hs : Surv B T w w') (hne : e ≠ T) : w'.ownsRow B e sz v n xs := by
  refine ⟨h.1, ?_⟩
  rcases h.2 with h0 | ⟨g, cap, cur, e1, hB, h1, rest⟩
  · exact .inl h0
  · exact .inr ⟨g, cap, cur, e1, hB, hs g cur e hB h1 hne, rest⟩
theorem ownsRow_lower {B B' : Nat} {e : TypeId} {sz n : Nat} {v : Value} {xs : List Value} {w : World} (h : w.ownsRow B e sz v n xs) (hB : B' ≤ B) : w.ownsRow B' e sz v n xs := by
  refine ⟨h.1, ?_⟩
  rcases h.2 with h0 | ⟨g, cap, cur, e1, hg, rest⟩
  · exact .inl h0
  · exact .inr ⟨g, cap, cur, e1, Nat.le_trans hB hg, rest⟩
end Go.Proofs.YtbhkfifmgbcknaaGreatDoor
namespace Go.Proofs.YtbhkfifmgbcknaaGreatDoor
open Go.RowKit Go.Extern.Stop Go.Stop Go.Extern
theorem SsAt.form {w : World} {v : Value} {l : List (Nat × Nat)} (h : SsAt w v l) : ∃ a cap, v = .slice a l.length cap := by
  rcases h with ⟨a, cap, rfl, rfl⟩ | ⟨b, off, cap, rfl, -⟩
  · exact ⟨a, cap, rfl⟩
  · exact ⟨_, cap, rfl⟩
theorem hlt17 {w : World} {k : Nat} {b : Obj} (h : w.heap[k]? = some b) : k < w.heap.size := (Array.getElem?_eq_some_iff.1 h).1
theorem ownsRow_far {B : Nat} {e : TypeId} {sz n : Nat} {v : Value} {xs : List Value} {w w' : World} {row : Option Nat} (h : w.ownsRow B e sz v n xs) (hg : w.grownBy w' row) (hne : ∀ k, v.ownBlock = some k → some k ≠ row) : w'.ownsRow B e sz v n xs := by
  refine ⟨h.1, ?_⟩
  rcases h.2 with h0 | ⟨g, cap, cur, e1, hB, h1, rest⟩
  · exact .inl h0
  · exact .inr ⟨g, cap, cur, e1, hB, (hg.block g (hlt17 h1) (hne g (by rw [e1]; rfl))).trans h1, rest⟩
structure LlO (B : Nat) (v : Value) (ls : List (List Int)) (vs : List Value) (W : World) : Prop where
  len : vs.length = ls.length
  own : W.ownsRow B 27 1 v ls.length vs
  es : ∀ (k : Nat) (l : List Int) (u : Value), ls[k]? = some l → vs[k]? = some u → (∃ a c, u = .slice a l.length c) ∧ W.ownsRow B 3 1 u l.length (encI l)
theorem LlO.nil (B : Nat) (W : World) : LlO B (.slice none 0 0) [] [] W := ⟨rfl, World.ownsRow_nil _ _ _ _, fun k l u h => by simp at h⟩
theorem LlO.surv {B : Nat} {v : Value} {ls : List (List Int)} {vs : List Value} {W W' : World} {T : TypeId} (h : LlO B v ls vs W) (hs : Surv B T W W') (h0 : 27 ≠ T) (h1 : 3 ≠ T) : LlO B v ls vs W' :=
  ⟨h.len, ownsRow_surv h.own hs h0, fun k l u hl hu => ⟨(h.es k l u hl hu).1, ownsRow_surv (h.es k l u hl hu).2 hs h1⟩⟩
theorem LlO.far {B B' : Nat} {v v1 : Value} {ls : List (List Int)} {vs xs : List Value} {W W' : World} {n : Nat} (h : LlO B v ls vs W) (ho : W.ownsRow B' 27 1 v1 n xs) (hg : W.grownBy W' v1.ownBlock) (hne : ∀ k, v.ownBlock = some k → some k ≠ v1.ownBlock) : LlO B v ls vs W' :=
  ⟨h.len, ownsRow_far h.own hg hne, fun k l u hl hu => ⟨(h.es k l u hl hu).1, ownsRow_surv (T := 27) (h.es k l u hl hu).2 (Surv.grown ho hg) (by decide)⟩⟩
theorem LlO.more {B : Nat} {v : Value} {ls : List (List Int)} {vs : List Value} {W W' : World} {l : List Int} {a : Option Addr} {c : Nat} {v' : Value} (h : LlO B v ls vs W) (he : W.ownsRow B 3 1 (.slice a l.length c) l.length (encI l)) (hg : W.grownBy W' v.ownBlock)
    (hown : W'.ownsRow B 27 1 v' (ls.length + 1) (vs ++ [.slice a l.length c])) : LlO B v' (ls ++ [l]) (vs ++ [.slice a l.length c]) W' := by
  have hs : Surv B 27 W W' := Surv.grown h.own hg
  refine ⟨by simp [h.len], by rw [List.length_append]; exact hown, ?_⟩
  intro k q u hq hu
  rcases Nat.lt_or_ge k ls.length with hk | hk
  · rw [List.getElem?_append_left hk] at hq
    rw [List.getElem?_append_left (by rw [h.len]; exact hk)] at hu
    obtain ⟨h1, h2⟩ := h.es k q u hq hu
    exact ⟨h1, ownsRow_surv h2 hs (by decide)⟩
  · rw [List.getElem?_append_right hk] at hq
    rw [List.getElem?_append_right (by rw [h.len]; exact hk), h.len] at hu
    obtain ⟨j, hj⟩ : ∃ j, j = k - ls.length := ⟨_, rfl⟩
    rw [← hj] at hq hu
    cases j with
    | zero =>
      simp only [List.getElem?_cons_zero, Option.some.injEq] at hq hu
      subst hq hu
      exact ⟨⟨_, _, rfl⟩, ownsRow_surv he hs (by decide)⟩
    | succ j => simp at hq
theorem LlO.ll {B : Nat} {v : Value} {ls : List (List Int)} {vs : List Value} {W : World} (h : LlO B v ls vs W) : LlAt W v ls := by
  rcases h.own.2 with ⟨rfl, h0⟩ | ⟨g, cap, cur, rfl, -, hg, hle, -, hsz, hx⟩
  · exact .inl ⟨none, 0, rfl, List.eq_nil_of_length_eq_zero h0⟩
  · refine .inr ⟨g, 0, cap, rfl, hlt17 hg, fun i l hi => ?_⟩
    have hil := (List.getElem?_eq_some_iff.1 hi).1
    obtain ⟨u, hu⟩ : ∃ u, vs[i]? = some u := ⟨_, List.getElem?_eq_getElem (by rw [h.len]; exact hil)⟩
    obtain ⟨-, he⟩ := h.es i l u hi hu
    have k0 := hu
    rw [← hx, List.getElem?_take, if_pos (by omega)] at k0
    exact ⟨u, by rw [Lib.cell_of_heap hg]; simpa using k0, IntsAt.own he rfl⟩
theorem infoInts17 : (Tryz.prog.info? 27).map (fun i => (i.zero, i.size, i.bytes)) = some (some (.slice none 0 0), 1, 24) := by kernel_rfl
theorem infoBool17 : (Tryz.prog.info? 4).map (fun i => (i.zero, i.size, i.bytes)) = some (some (.bool false), 1, 1) := by kernel_rfl
def encB (l : List Bool) : List Value := l.map Value.bool
theorem encB_one (l : List Bool) : ∀ u ∈ encB l, u.oneCell' = true := by
  intro u hu
  obtain ⟨x, -, rfl⟩ := List.mem_map.1 hu
  rfl
theorem BoolsAt.own {w : World} {base : Nat} {v : Value} {n : Nat} {l : List Bool} (h : w.ownsRow base 4 1 v n (encB l)) (hn : n = l.length) : BoolsAt w v l := by
  subst hn
  obtain ⟨h1, h2⟩ := h
  rcases h2 with ⟨rfl, h3⟩ | ⟨g, cap, cur, rfl, hg, hh, h3, h4, h5, h6⟩
  · exact .inl ⟨none, 0, rfl, List.eq_nil_of_length_eq_zero h3⟩
  · refine .inr ⟨g, 0, cap, rfl, (Array.getElem?_eq_some_iff.1 hh).1, fun i c hi => ?_⟩
    have e := congrArg (fun l => l[i]?) h6
    obtain ⟨hl, rfl⟩ := List.getElem?_eq_some_iff.1 hi
    simp [encB, hl] at e
    rw [Lib.cell_of_heap hh]
    simpa using e
theorem run_append_bools (w : World) (base : Nat) (ty : TypeId) (v : Value) (n : Nat) (xs : List Value) (hown : w.ownsRow base 4 1 v n xs) (vx : Value) (l : List Bool) (hv : BoolsAt w vx l) (hn : n + l.length ≤ 1000000) (hbase : base ≤ w.heap.size) :
    ∃ v' w', (Builtin.append_ #[24, 24] ty #[v, vx]).run Tryz.prog w = .ok v' w' ∧ w'.ownsRow base 4 1 v' (n + l.length) (xs ++ encB l) ∧ w.grownBy w' v.ownBlock := by
  obtain ⟨i0, hi, hz0, hz1, hz2⟩ := info_parts infoBool17
  rcases hv with ⟨a, cap, rfl, rfl⟩ | ⟨b, off, cap, rfl, hb, hc⟩
  · rcases a with _ | a
    · refine ⟨v, w, ?_, by simpa [encB] using hown, World.grownBy.refl w _⟩
      rcases hown.2 with ⟨rfl, -⟩ | ⟨g, cp, cur, rfl, -, -, hle, -⟩
      · simp [Builtin.append_, run_underlying Tryz.underlying24, sizeOf, typeInfo, hi, Builtin.lenOf, Builtin.firstCells]
      · simp [Builtin.append_, run_underlying Tryz.underlying24, sizeOf, typeInfo, hi, Builtin.lenOf, Builtin.firstCells, hle, storeCells]
    · obtain ⟨v', w', h1, h2, h3, -⟩ := run_append_own (P := Tryz.prog) w base 24 ty 4 i0 (.bool false) 1 1 Tryz.underlying24 hi hz0 hz1 hz2 rfl (by decide) v n xs hown a 0 cap [] rfl (by intro j u hu; cases hu) (by intro u hu; cases hu) (by unfold maxLen; omega) (by omega) hbase
      exact ⟨v', w', h1, by simpa [encB] using h2, h3⟩
  · obtain ⟨v', w', h1, h2, h3, -⟩ := run_append_own (P := Tryz.prog) w base 24 ty 4 i0 (.bool false) 1 1 Tryz.underlying24 hi hz0 hz1 hz2 rfl (by decide) v n xs hown ⟨b, off, none⟩ l.length cap (encB l) (by simp [encB]) (by
      intro j u hu
      obtain ⟨c, hj, rfl⟩ : ∃ c, l[j]? = some c ∧ Value.bool c = u := by simpa [encB] using hu
      have e0 : (⟨b, off, none⟩ : Addr).add j = ⟨b, off + j, none⟩ := by unfold Addr.add; split <;> simp_all
      rw [e0]
      exact hc j c hj) (encB_one l) (by unfold maxLen; omega) (by omega) hbase
    exact ⟨v', w', h1, h2, h3⟩
theorem wpList_append_bools {ops : Array Oper} {rest : List Oper} {o : Oper} {a : Act} {Q : Exit → Act → World → Prop} (w : World) (hgd : o.guard = none) (s x : Operand) (ho : o.op = .call { callee := .builtin .append, args := #[s, x], argTypes := #[24, 24] })
    (base : Nat) (v : Value) (n : Nat) (xs : List Value) (hs : a.eval s = v) (hown : w.ownsRow base 4 1 v n xs) (vx : Value) (l : List Bool) (hx : a.eval x = vx) (hv : BoolsAt w vx l) (hn : n + l.length ≤ 1000000) (hbase : base ≤ w.heap.size)
    (h : ∀ v' w', w'.ownsRow base 4 1 v' (n + l.length) (xs ++ encB l) → w.grownBy w' v.ownBlock → wpList Tryz.prog ops Q rest (a.put o.dst v') w') : wpList Tryz.prog ops Q (o :: rest) a w := by
  refine wpList_plain hgd fun K hK => ?_
  obtain ⟨v', w', h1, h2, h3⟩ := run_append_bools w base o.type v n xs hown vx l hv hn hbase
  unfold Oper.wp execOp
  simp only [ho, resolve, invoke, builtin, Sem.run_bind, Sem.run_pure, Result.andThen_ok, List.map_toArray, List.map_cons, List.map_nil, hs, hx, h1]
  exact hK _ _ (h v' w' h2 h3)
def onsL (ss : List (Nat × Nat)) : List (List Int) := ss.map fun c => intsL c.1 c.2
theorem setOn_onsL (ss : List (Nat × Nat)) (x k : Int) : setOn ss x k = hasL (onAt (onsL ss) k) x := by
  unfold setOn onAt onsL
  rw [List.getElem?_map]
  cases ss[k.toNat]? with
  | none => rfl
  | some c => exact (hasL_ints c.1 c.2 x).symm
end Go.Proofs.YtbhkfifmgbcknaaGreatDoor
