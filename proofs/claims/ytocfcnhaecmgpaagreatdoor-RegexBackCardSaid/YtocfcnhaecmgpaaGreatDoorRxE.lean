/-
  Package regex's reader by contracts: word, begins.
-/
import Derived.Test.YtocfcnhaecmgpaaGreatDoorRxD
namespace Go.Proofs.YtocfcnhaecmgpaaGreatDoor
open Go.RowKit Go.Extern.Stop Go.Stop Go.Extern

/-- What the reader's word answers. -/
def RWordYes (w : World) (rb : Nat) (s : ByteArray) (k n d : Nat) (t : ByteArray) (e : Ending) (w' : World) : Prop :=
  e = .returned (.tuple #[.string t, .nilIface]) ∧ Rd w' rb s k n d ∧ Keeps (· = rb) w w'
def RWordNo (w : World) (rb : Nat) (c : Int) (a : Nat) (e : Ending) (w' : World) : Prop :=
  ∃ fb, e = .returned (.tuple #[.string ⟨#[]⟩, pf fb]) ∧ FaultAt w' fb c a ∧ Keeps (· = rb) w w'
set_option maxRecDepth 100000 in
set_option maxHeartbeats 2000000 in
theorem rword_yes (s : ByteArray) (k n d rb : Nat) (hs : s.size ≤ 100000) (hk : k ≤ s.size) (hc : wdC s (skp s k) = 0) (w : World) (hr : Rd w rb s k n d) :
    Calls Tryz.prog 141 #[.pointer (some ⟨rb, 0, none⟩)] w (RWordYes w rb s (wdK s (skp s k)) n d (s.extract (skp s k) (wdK s (skp s k)))) := by
  have HS := Lib.hid (fun W => skip_any s k hs hk W)
  have HW : Hid (∀ W, Calls Tryz.prog 41 #[.agg #[.string s, .int .i64 (skp s k)]] W (WordYes W s (wdK s (skp s k)) (s.extract (skp s k) (wdK s (skp s k))))) := Lib.hid fun W =>
    (readWord_any s (skp s k) hs (skp_le hk).2 W).mono (by
      rintro e w' (⟨-, h⟩ | ⟨h, -⟩)
      · exact h
      · exact absurd hc h)
  have HR := Lib.hid hr
  obtain ⟨c0, c1, -, -⟩ := hr.cells
  generalize wdK s (skp s k) = K at *
  unfold skp at *
  generalize runTo isBl s k = j at *
  generalize s.extract j K = t at *
  clear hr hc
  go_enter Tryz.func141, Tryz.ntmps141
  go_wp2_with fail
  refine (HS.out _).mono ?_
  rintro e w1 ⟨rfl, b1⟩
  clear c0 c1
  go_wp2_with fail
  refine (HW.out _).mono ?_
  rintro e w2 ⟨rfl, b2⟩
  have H3 := Lib.hid (((HR.out.step b1).step b2).step (sbelow_new w2 (.cells #[.string s, .int .i64 K] 50)))
  have HB := Lib.hid ((b1.trans (b2.mono b1.size)).trans ((sbelow_new w2 (.cells #[.string s, .int .i64 K] 50)).mono (b1.trans (b2.mono b1.size)).size))
  obtain ⟨c0, c1, -, -⟩ := H3.out.cells
  have f0 := H3.out.fz 0
  have f1 := H3.out.fz 1
  clear b1 b2
  go_wp2_with fail
  go_ret2
  exact ⟨rfl, H3.out.putc K, (Keeps.of_below HB.out).trans (keeps_putc _ rb _ _)⟩
set_option maxRecDepth 100000 in
set_option maxHeartbeats 2000000 in
theorem rword_no (s : ByteArray) (k n d rb : Nat) (hs : s.size ≤ 100000) (hk : k ≤ s.size) (hc : wdC s (skp s k) ≠ 0) (w : World) (hr : Rd w rb s k n d) :
    Calls Tryz.prog 141 #[.pointer (some ⟨rb, 0, none⟩)] w (RWordNo w rb (wdC s (skp s k)) (wdA s (skp s k))) := by
  have HS := Lib.hid (fun W => skip_any s k hs hk W)
  have HW : Hid (∀ W, Calls Tryz.prog 41 #[.agg #[.string s, .int .i64 (skp s k)]] W (WordNo W s (skp s k) (wdC s (skp s k)) (wdA s (skp s k)))) := Lib.hid fun W =>
    (readWord_any s (skp s k) hs (skp_le hk).2 W).mono (by
      rintro e w' (⟨h, -⟩ | ⟨-, h⟩)
      · exact absurd h hc
      · exact h)
  obtain ⟨c0, c1, -, -⟩ := hr.cells
  generalize wdC s (skp s k) = cc at *
  generalize wdA s (skp s k) = aa at *
  unfold skp at *
  generalize runTo isBl s k = j at *
  clear hr hc
  go_enter Tryz.func141, Tryz.ntmps141
  go_wp2_with fail
  refine (HS.out _).mono ?_
  rintro e w1 ⟨rfl, b1⟩
  clear c0 c1
  go_wp2_with fail
  refine (HW.out _).mono ?_
  rintro e w2 ⟨fb, rfl, hf, b2⟩
  have HF := Lib.hid (hf.keep (sbelow_new w2 (.cells #[.string s, .int .i64 j] 50)))
  have HB := Lib.hid ((b1.trans (b2.mono b1.size)).trans ((sbelow_new w2 (.cells #[.string s, .int .i64 j] 50)).mono (b1.trans (b2.mono b1.size)).size))
  clear b1 b2 hf
  unfold pf
  go_wp2_with fail
  go_ret2
  exact ⟨fb, rfl, HF.out, Keeps.of_below HB.out⟩

/-! ### begins -/
theorem nameC_let {s : ByteArray} {k : Nat} (hl : isLet (byteI s k) = true) : nameC s k = 0 ∨ nameC s k = 5 := by
  unfold nameC
  rw [if_pos hl]
  split
  · exact .inl rfl
  · exact .inr rfl
theorem nameC_not {s : ByteArray} {k : Nat} (hl : isLet (byteI s k) = false) : nameC s k = 3 ∨ nameC s k = 4 := by
  unfold nameC
  rw [if_neg (by rw [hl]; decide)]
  unfold missC
  split
  · exact .inr rfl
  · exact .inl rfl
theorem ois_fault {w : World} {fb : Nat} {c a d : Int} (h : FaultAt w fb c a) (h0 : c ≠ 0) :
    Calls Tryz.prog 130 #[pf fb, .int .i64 d] w fun e w' => e = .returned (.bool (decide (c = d))) ∧ w' = w := by
  rcases h with ⟨h, -⟩ | ⟨-, fb', hc⟩
  · exact absurd h h0
  · exact ois_any _ _ c d rfl [] _ w hc
set_option maxRecDepth 100000 in
set_option maxHeartbeats 2000000 in
theorem begins_any (s : ByteArray) (j : Nat) (hs : s.size ≤ 100000) (hj : j ≤ s.size) (w : World) :
    Calls Tryz.prog 109 #[.agg #[.string s, .int .i64 j]] w fun e w' => e = .returned (.bool (begB s j)) ∧ Below w.heap.size w w' := by
  have HP := Lib.hid (fun W => peek_any s j hj W)
  have HN := Lib.hid (fun W => name_any s j hs hj W)
  have hB0 := sbelow_new w (.cells #[.string s, .int .i64 j] 50)
  have hS0 := ScanAt.new w s j 50
  unfold begB
  have HB0 := Lib.hid hB0
  have HS0 := Lib.hid hS0
  by_cases hsgn : byteI s j = 46 ∨ byteI s j = 91 ∨ byteI s j = 40 ∨ byteI s j = 36
  · have he : (decide (byteI s j = 46) || (decide (byteI s j = 91) || (decide (byteI s j = 40) || (decide (byteI s j = 36) || isLet (byteI s j))))) = true := by
      rcases hsgn with h | h | h | h <;> simp [h]
    rw [he]
    clear he hB0 hS0
    generalize byteI s j = x at *
    rcases hsgn with rfl | rfl | rfl | rfl
    all_goals
      go_enter Tryz.func109, Tryz.ntmps109
      go_wp2_with fail
      refine (HP.out _).mono ?_
      rintro e w1 ⟨rfl, b1⟩
      have HB1 := Lib.hid (HB0.out.trans (b1.mono HB0.out.size))
      clear b1
      go_wp2_with fail
      go_ret
      exact ⟨rfl, HB1.out⟩
  · have g1 : (byteI s j == 46) = false := beq_eq_false_iff_ne.2 (fun h => hsgn (.inl h))
    have g2 : (byteI s j == 91) = false := beq_eq_false_iff_ne.2 (fun h => hsgn (.inr (.inl h)))
    have g3 : (byteI s j == 40) = false := beq_eq_false_iff_ne.2 (fun h => hsgn (.inr (.inr (.inl h))))
    have g4 : (byteI s j == 36) = false := beq_eq_false_iff_ne.2 (fun h => hsgn (.inr (.inr (.inr h))))
    have he : (decide (byteI s j = 46) || (decide (byteI s j = 91) || (decide (byteI s j = 40) || (decide (byteI s j = 36) || isLet (byteI s j))))) = isLet (byteI s j) := by
      rw [decide_eq_false (fun h => hsgn (.inl h)), decide_eq_false (fun h => hsgn (.inr (.inl h))), decide_eq_false (fun h => hsgn (.inr (.inr (.inl h)))), decide_eq_false (fun h => hsgn (.inr (.inr (.inr h))))]
      simp
    rw [he]
    have HL1 := Lib.hid (nameC_let (s := s) (k := j))
    have HL2 := Lib.hid (nameC_not (s := s) (k := j))
    clear he hsgn hB0 hS0
    generalize hlt : isLet (byteI s j) = lt at *
    clear hlt
    generalize byteI s j = x at *
    go_enter Tryz.func109, Tryz.ntmps109
    go_wp2_with fail
    refine (HP.out _).mono ?_
    rintro e w1 ⟨rfl, b1⟩
    have HB1 := Lib.hid (HB0.out.trans (b1.mono HB0.out.size))
    obtain ⟨-, c0, c1, -⟩ := HS0.out.step b1
    clear b1
    go_wp2_with fail
    refine (HN.out _).mono ?_
    intro e w2 hN
    rcases name_cases hN with ⟨hc, rfl, b2⟩ | ⟨hc, hk, fb, rfl, hf, b2⟩
    · have bn := sbelow_new w2 (.cells #[.string s, .int .i64 (nameK s j)] 50)
      have HB2 := Lib.hid (HB1.out.trans ((b2.trans (bn.mono b2.size)).mono HB1.out.size))
      have hl : lt = true := by
        cases lt with
        | true => rfl
        | false => rcases HL2.out rfl with h | h <;> rw [hc] at h <;> exact absurd h (by decide)
      subst hl
      clear hN hc b2 bn c0 c1
      go_wp2_with fail
      refine (ois_nil 3 _).mono ?_
      rintro e w3 ⟨rfl, rfl⟩
      go_wp2_with fail
      refine (ois_nil 4 _).mono ?_
      rintro e w3 ⟨rfl, rfl⟩
      go_wp2_with fail
      go_ret
      exact ⟨rfl, HB2.out⟩
    · have bn := sbelow_new w2 (.cells #[.string s, .int .i64 j] 50)
      have HB2 := Lib.hid (HB1.out.trans ((b2.trans (bn.mono b2.size)).mono HB1.out.size))
      have HO := Lib.hid (fun dd => ois_fault (d := dd) (hf.keep bn) hc)
      clear hN b2 bn c0 c1 hf hk
      cases lt with
      | true =>
        have h5 : nameC s j = 5 := by
          rcases HL1.out rfl with h | h
          · exact absurd h hc
          · exact h
        rw [h5] at HO
        clear h5 hc
        unfold pf at *
        go_wp2_with fail
        refine (HO.out 3).mono ?_
        rintro e w3 ⟨rfl, rfl⟩
        go_wp2_with fail
        refine (HO.out 4).mono ?_
        rintro e w3 ⟨rfl, rfl⟩
        go_wp2_with fail
        go_ret
        exact ⟨rfl, HB2.out⟩
      | false =>
        rcases HL2.out rfl with h | h
        · rw [h] at HO
          clear h hc
          unfold pf at *
          go_wp2_with fail
          refine (HO.out 3).mono ?_
          rintro e w3 ⟨rfl, rfl⟩
          go_wp2_with fail
          go_ret
          exact ⟨rfl, HB2.out⟩
        · rw [h] at HO
          clear h hc
          unfold pf at *
          go_wp2_with fail
          refine (HO.out 3).mono ?_
          rintro e w3 ⟨rfl, rfl⟩
          go_wp2_with fail
          refine (HO.out 4).mono ?_
          rintro e w3 ⟨rfl, rfl⟩
          go_wp2_with fail
          go_ret
          exact ⟨rfl, HB2.out⟩
end Go.Proofs.YtocfcnhaecmgpaaGreatDoor
