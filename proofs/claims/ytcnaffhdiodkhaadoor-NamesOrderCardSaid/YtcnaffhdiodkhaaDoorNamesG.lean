/-
  Chapter 4's example; the statement NamesGrow as a walk: whatever the texts, the law answers true, and all of old memory stays as it was.
-/
import Derived.Test.YtcnaffhdiodkhaaDoorNamesF
namespace Go.Proofs.YtcnaffhdiodkhaaDoor
open Go.RowKit Go.Extern.Stop Go.Stop Go.Extern

def sA : ByteArray := ⟨#[97]⟩
def sB : ByteArray := ⟨#[98]⟩
theorem isName_letter {b : UInt8} (h : isLet (b.toNat : Int) = true) : isNameB ⟨#[b]⟩ = true := by
  have hrun : runTo isIn ⟨#[b]⟩ 0 = 1 := by
    rw [runTo_go (s := ⟨#[b]⟩) (k := 0) (by show 0 < 1; decide) (show isIn (b.toNat : Int) = true from (isIn_iff _).2 (.inl h)), runTo_end (by show ¬ 1 < 1; decide)]
  rw [isNameB_eq (by show 1 ≤ 65536; decide)]
  unfold isNameR nameC nameK
  have hlet : isLet (byteI ⟨#[b]⟩ 0) = true := h
  rw [if_pos hlet, hrun, if_pos (by omega), if_pos ⟨hlet, by omega⟩]
  rfl
theorem ltB_BA : ltB sB sA = false := by
  rw [Bool.eq_false_iff, Ne, ltB_iff]; decide
theorem ltB_AB : ltB sA sB = true := by rw [ltB_iff]; decide
theorem ofR_BA : ofR [sB, sA] = ([sA, sB], 0, 0) := by
  have h1 : withC [] sB = 0 := by
    unfold withC; rw [if_pos (show isNameB sB = true from isName_letter (by decide))]; rfl
  have e1 : insS [] sB = [sB] := rfl
  have p2 : posOf [sB] sA = 0 := by unfold posOf; rw [List.takeWhile_cons, if_neg (by rw [ltB_BA]; decide)]; rfl
  have h2 : withC [sB] sA = 0 := by
    unfold withC
    rw [if_pos (show isNameB sA = true from isName_letter (by decide)), if_neg (by unfold foundB; rw [p2]; decide)]
    rfl
  have e2 : insS [sB] sA = [sA, sB] := by unfold insS; rw [p2]; rfl
  unfold ofR
  rw [if_neg (by decide)]
  show (if withC [] sB = 0 then (if withC (insS [] sB) sA = 0 then (insS (insS [] sB) sA, (0 : Int), (0 : Int)) else _) else _) = _
  rw [if_pos h1, e1, if_pos h2, e2]
theorem rises_AB : Rises [sA, sB] := by
  unfold Rises
  simp [ltB_AB]

set_option maxRecDepth 100000 in
set_option maxHeartbeats 1600000 in
theorem awake4_any (w : World) (hg : Handle w) :
    Calls Tryd.prog 29 #[] w fun e w' => e = .returned (.bool true) ∧ Below w.heap.size w w' := by
  have hst : StrsAt (w.alloc (.cells #[.string ⟨#[98]⟩, .string ⟨#[97]⟩] 9)) (.slice (some ⟨w.heap.size, 0, none⟩) 2 2) [sB, sA] := by
    refine .inr ⟨w.heap.size, 0, 2, rfl, by simp, fun i hi => ?_⟩
    match i, hi with
    | 0, _ => simp [sB]
    | 1, _ => simp [sA]
    | i + 2, h => simp at h; omega
  have HOF := of_any [sB, sA] (.slice (some ⟨w.heap.size, 0, none⟩) 2 2) _ hst (by intro x hx; simp at hx; rcases hx with rfl | rfl <;> decide)
  rw [ofR_BA] at HOF
  have HO := Lib.hid HOF
  have HB1 := Lib.hid (below_new w (.cells #[.string ⟨#[98]⟩, .string ⟨#[97]⟩] 9))
  clear hst HOF
  obtain ⟨w1, hw1⟩ : ∃ w1, w1 = w.alloc (.cells #[.string ⟨#[98]⟩, .string ⟨#[97]⟩] 9) := ⟨_, rfl⟩
  rw [← hw1] at HO HB1
  have HW1 := Lib.hid hw1
  clear hw1
  have hpg := posOf_get rises_AB 1 (by decide)
  rw [show ([sA, sB].getD 1 ⟨#[]⟩) = ⟨#[98]⟩ from rfl] at hpg
  have hfk : findK [sA, sB] ⟨#[98]⟩ = 1 := by unfold findK; rw [if_pos hpg.2]; exact hpg.1
  have HFIND := Lib.hid (fun v w' h => nfind_any [sA, sB] v ⟨#[98]⟩ w' h rises_AB (by decide))
  rw [hfk, hpg.2] at HFIND
  have HNAME := Lib.hid (fun v w' h => nname_in [sA, sB] v 0 (by decide) w' h)
  rw [show ([sA, sB].getD 0 ⟨#[]⟩) = ⟨#[97]⟩ from rfl] at HNAME
  clear hpg hfk
  go_enter Tryd.func29, Tryd.ntmps29
  go_wp2_with fail
  rw [← HW1.out]
  refine HO.out.mono ?_
  rintro e w2 ⟨v2, u, rfl, hrow, hu, b2⟩
  obtain rfl := hu.nil_of
  clear hu
  have HR2 := Lib.hid hrow
  have HB2 := Lib.hid (HB1.out.trans (b2.mono HB1.out.size))
  obtain ⟨A, c, rfl, -, -⟩ := hrow
  have HX3 := Lib.hid (BoxAt.new w2 A 2 c 58)
  have HR3 := Lib.hid (HR2.out.keep (below_new w2 (.cells #[.slice A 2 c] 58)))
  have HB3 := Lib.hid (HB2.out.trans ((below_new w2 (.cells #[.slice A 2 c] 58)).mono HB2.out.size))
  go_wp2_with fail
  generalize w2.alloc (.cells #[.slice A 2 c] 58) = w3 at *
  generalize w2.heap.size = q at *
  refine (HFIND.out _ _ HR3.out).mono ?_
  rintro e w4 ⟨rfl, b4⟩
  have HB4 := Lib.hid (HB3.out.trans (b4.mono HB3.out.size))
  have HR4 := Lib.hid (HR3.out.keep b4)
  have HX4 := Lib.hid (HX3.out.step b4)
  go_wp2_with fail
  refine (Awake3_any _ (hg.below HB4.out)).mono ?_
  rintro e w5 ⟨rfl, b5⟩
  have HB5 := Lib.hid (HB4.out.trans (b5.mono HB4.out.size))
  have HR5 := Lib.hid (HR4.out.keep b5)
  have HX5 := Lib.hid (HX4.out.step b5)
  obtain ⟨l5, x5, -⟩ := HX5.out
  go_wp2_with fail
  refine (HNAME.out _ _ HR5.out).mono ?_
  rintro e w6 ⟨rfl, b6⟩
  have HB6 := Lib.hid (HB5.out.trans (b6.mono HB5.out.size))
  have HX6 := Lib.hid (HX5.out.step b6)
  obtain ⟨l6, x6, -⟩ := HX6.out
  go_wp2_with fail
  refine (nlen_any A 2 c _).mono ?_
  rintro e w7 ⟨rfl, b7⟩
  go_wp2_with fail
  go_ret
  exact ⟨rfl, HB6.out.trans (b7.mono HB6.out.size)⟩

/-! ### NamesGrow -/
structure GrowRel (n q : Nat) (w0 : World) (k : Nat) (v4 i : Value) (wr : World) : Prop where
  ex : ∃ (j : Nat) (r : List ByteArray) (A : Option Addr) (c : Nat), j ≤ n ∧ k = n - j ∧ i = .int .i64 j ∧ Rises r ∧ r.length ≤ j ∧ BoxAt wr q A r.length c ∧ RowAt wr (.slice A r.length c) r ∧ RowAt wr v4 r
  low : w0.heap.size ≤ q
  below : Below w0.heap.size w0 wr

set_option maxRecDepth 100000 in
set_option maxHeartbeats 3200000 in
theorem namesGrow_near (l : List ByteArray) (v : Value) (w : World) (hv : StrsAt w v l) (hlen : l.length ≤ 80) (hsz : ∀ x ∈ l, x.size ≤ maxLen) (hg : Handle w) :
    Calls Tryd.prog 7 #[v] w fun e w' => e = .returned (.bool true) ∧ Below w.heap.size w w' := by
  obtain ⟨b, o, c, rfl, HIN⟩ := hv.parts
  clear hv
  have hn : ¬ (80 : Int) < l.length := by omega
  have HZ := Lib.hid hsz
  clear hsz
  go_enter Tryd.func7, Tryd.ntmps7
  go_wp2_with fail
  refine (awake4_any _ hg).mono ?_
  rintro e w1 ⟨rfl, b1⟩
  have HL := Lib.hid b1.size
  have H0 : Hid (GrowRel l.length w1.heap.size w l.length (.slice none 0 0) (.int .i64 0) (w1.alloc (.cells #[.slice none 0 0] 58))) :=
    Lib.hid ⟨⟨0, [], none, 0, Nat.zero_le _, rfl, rfl, List.Pairwise.nil, Nat.le_refl _, BoxAt.new w1 none 0 0 58, RowAt.nil _, RowAt.nil _⟩, b1.size, b1.trans ((below_new w1 _).mono b1.size)⟩
  go_wp2_with fail
  generalize w1.alloc (.cells #[.slice none 0 0] 58) = w2 at *
  generalize w1.heap.size = q at *
  go_loopg [4, 18] l.length (fun k v4 i wr => GrowRel l.length q w k v4 i wr)
  case atStart => exact H0.out
  case round =>
    obtain ⟨⟨j, r, A, cr, hj, hk, rfl, hrise, hrl, hbox, hrow, hrow4⟩, hlow, hbel⟩ := hrel
    have HK := Lib.hid hk
    have HBOX := Lib.hid hbox
    have HROW := Lib.hid hrow
    have HROW4 := Lib.hid hrow4
    obtain ⟨A4, c4, rfl, -, -⟩ := hrow4
    clear hk hbox hrow
    by_cases hlt : j < l.length
    · obtain ⟨b', rfl, hb', hcell⟩ := HIN.out j hlt
      have hcell' := (hbel.cell (p := ⟨b', o + j, none⟩) hb').trans hcell
      clear hcell
      have hsy : (l.getD j ByteArray.empty).size ≤ maxLen := by
        rw [List.getD_eq_getElem?_getD, List.getElem?_eq_getElem hlt]
        exact HZ.out _ (List.getElem_mem hlt)
      generalize l.getD j ByteArray.empty = y at *
      unfold maxLen at hsy
      by_cases hbig : (60 : Int) < y.size
      · go_wp2_with fail
        go_ret
        exact ⟨rfl, hbel⟩
      · have HW := Lib.hid (nwith_any r (.slice A r.length cr) y wr HROW.out hrise (by omega) (by unfold maxLen; omega))
        have HRW := Lib.hid (fun w' h => rwith_any r (.slice A4 r.length c4) y w' h hrise (by omega) (by omega))
        have HRS := Lib.hid (withL_rises hrise y)
        have HLE := Lib.hid (withL_length r y)
        have HIS := Lib.hid (fun v v' w' h h' => is4_any r v v' w' h h' hrise (by omega))
        have HIS2 := Lib.hid (fun v v' w' h h' => is4_any (withL r y) v v' w' h h' (withL_rises hrise y) (by have := withL_length r y; omega))
        generalize withL r y = r2 at *
        generalize withC r y = cc at *
        obtain ⟨lb, xb, fb⟩ := HBOX.out
        go_wp2_with fail
        refine HW.out.mono ?_
        rintro e w3 ⟨v3, u, rfl, hrow3, hu, b3⟩
        have HX3 := Lib.hid (HBOX.out.step b3)
        have HROW3 := Lib.hid (HROW.out.keep b3)
        have HROW43 := Lib.hid (HROW4.out.keep b3)
        have HB3 := Lib.hid (hbel.trans (b3.mono hbel.size))
        have HN3 := Lib.hid hrow3
        have HU3 := Lib.hid hu
        clear hu
        obtain ⟨A3, c3, rfl, -, -⟩ := hrow3
        have HA := Lib.hid (below_new w3 (.cells #[.slice A3 r2.length c3] 58))
        have HX4 := Lib.hid (HX3.out.step HA.out)
        have HY4 := Lib.hid (BoxAt.new w3 A3 r2.length c3 58)
        have HROW4' := Lib.hid (HROW3.out.keep HA.out)
        have HROW44 := Lib.hid (HROW43.out.keep HA.out)
        have HN4 := Lib.hid (HN3.out.keep HA.out)
        have HU4 := Lib.hid (HU3.out.keep HA.out)
        have HB4 := Lib.hid (HB3.out.trans (HA.out.mono HB3.out.size))
        have hqp : w3.heap.size ≠ q := by have := HX3.out.1; omega
        go_wp2_with fail
        generalize w3.alloc (.cells #[.slice A3 r2.length c3] 58) = w4 at *
        generalize w3.heap.size = p at *
        clear HA
        refine (HRW.out _ HROW44.out).mono ?_
        rintro e w5 ⟨v5, rfl, hrow5, b5⟩
        have HM5 := Lib.hid hrow5
        obtain ⟨A5, c5, rfl, -, -⟩ := hrow5
        have HX5 := Lib.hid (HX4.out.step b5)
        have HY5 := Lib.hid (HY4.out.step b5)
        have HROW5 := Lib.hid (HROW4'.out.keep b5)
        have HROW45 := Lib.hid (HROW44.out.keep b5)
        have HN5 := Lib.hid (HN4.out.keep b5)
        have HU5 := Lib.hid (HU4.out.keep b5)
        have HB5 := Lib.hid (HB4.out.trans (b5.mono HB4.out.size))
        go_wp2_with fail
        refine (lawIs_err u cc r.length _ HU5.out (hg.below HB5.out)).mono ?_
        rintro e w6 ⟨rfl, b6⟩
        have HX6 := Lib.hid (HX5.out.step b6)
        have HY6 := Lib.hid (HY5.out.step b6)
        have HROW6 := Lib.hid (HROW5.out.keep b6)
        have HROW46 := Lib.hid (HROW45.out.keep b6)
        have HN6 := Lib.hid (HN5.out.keep b6)
        have HM6 := Lib.hid (HM5.out.keep b6)
        have HB6 := Lib.hid (HB5.out.trans (b6.mono HB5.out.size))
        obtain ⟨l6, x6, f6⟩ := HX6.out
        go_wp2_with fail
        refine (HIS.out _ _ _ HROW6.out HROW46.out).mono ?_
        rintro e w7 ⟨rfl, b7⟩
        have HX7 := Lib.hid (HX6.out.step b7)
        have HY7 := Lib.hid (HY6.out.step b7)
        have HROW7 := Lib.hid (HROW6.out.keep b7)
        have HROW47 := Lib.hid (HROW46.out.keep b7)
        have HN7 := Lib.hid (HN6.out.keep b7)
        have HM7 := Lib.hid (HM6.out.keep b7)
        have HB7 := Lib.hid (HB6.out.trans (b7.mono HB6.out.size))
        obtain ⟨l7, y7, -⟩ := HY7.out
        go_wp2_with fail
        refine (HIS2.out _ _ _ HN7.out HM7.out).mono ?_
        rintro e w8 ⟨rfl, b8⟩
        have HX8 := Lib.hid (HX7.out.step b8)
        have HY8 := Lib.hid (HY7.out.step b8)
        have HROW8 := Lib.hid (HROW7.out.keep b8)
        have HROW48 := Lib.hid (HROW47.out.keep b8)
        have HN8 := Lib.hid (HN7.out.keep b8)
        have HM8 := Lib.hid (HM7.out.keep b8)
        have HB8 := Lib.hid (HB7.out.trans (b8.mono HB7.out.size))
        obtain ⟨l8, x8, f8⟩ := HX8.out
        obtain ⟨m8, y8, -⟩ := HY8.out
        by_cases hcc : cc = 0
        · have hb : (cc == 0) = true := by simpa using hcc
          clear hcc
          go_wp2_with fail
          go_roundg (l.length - (j + 1))
          case measure => have := HK.out; omega
          case rel => exact ⟨⟨j + 1, r2, A3, c3, by omega, rfl, by go_num, HRS.out, by have := HLE.out; omega, HX8.out.set A3 r2.length c3, HN8.out.set HX8.out _, HM8.out.set HX8.out _⟩, hlow, HB8.out.setCell hlow _⟩
        · have hb : (cc == 0) = false := by simpa using hcc
          clear hcc
          go_wp2_with fail
          go_roundg (l.length - (j + 1))
          case measure => have := HK.out; omega
          case rel => exact ⟨⟨j + 1, r, A, cr, by omega, rfl, by go_num, hrise, by omega, HX8.out, HROW8.out, HROW48.out⟩, hlow, HB8.out⟩
    · go_wp2_with fail
      go_ret
      exact ⟨rfl, hbel⟩

set_option maxHeartbeats 1000000 in
theorem namesGrow_far (a : Option Addr) (n c : Nat) (w : World) (h : 80 < n) (hg : Handle w) :
    Calls Tryd.prog 7 #[.slice a n c] w fun e w' => e = .returned (.bool true) ∧ Below w.heap.size w w' := by
  have hn : (80 : Int) < n := by omega
  go_enter Tryd.func7, Tryd.ntmps7
  go_wp2_with fail
  refine (awake4_any _ hg).mono ?_
  rintro e w1 ⟨rfl, b1⟩
  go_wp2_with fail
  go_ret
  exact ⟨rfl, b1⟩

theorem namesGrow_any (l : List ByteArray) (v : Value) (w : World) (hv : StrsAt w v l) (hsz : ∀ x ∈ l, x.size ≤ maxLen) (hg : Handle w) :
    Calls Tryd.prog 7 #[v] w fun e w' => e = .returned (.bool true) ∧ Below w.heap.size w w' := by
  by_cases h : 80 < l.length
  · obtain ⟨b, o, c, rfl, -⟩ := hv.parts
    exact namesGrow_far b l.length c w h hg
  · exact namesGrow_near l v w hv (by omega) hsz hg
end Go.Proofs.YtcnaffhdiodkhaaDoor
