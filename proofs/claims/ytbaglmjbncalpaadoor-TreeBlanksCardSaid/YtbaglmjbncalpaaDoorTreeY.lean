/-
  TreeShort's law, by contract.
-/
import Derived.Test.YtbaglmjbncalpaaDoorTreeU
import Derived.Test.YtbaglmjbncalpaaDoorTreeX
import Derived.Deep.QuietTactic
namespace Go.Proofs.YtbaglmjbncalpaaDoor
open Go.RowKit Go.Extern.Stop Go.Stop Go.Extern Go.WideMaps

theorem below_dr (w : World) (n : Nat) : Below w.heap.size w (w.drewN n) := by
  induction n with
  | zero => exact Below.refl _ _
  | succ n ih => exact ⟨ih.os, ih.tape, ih.output, ih.size, ih.block⟩
theorem valC_kind {P : Nat → Prop} {w : World} {k : Int} {t : ByteArray} {n : Int} {a a' : Option Addr} {l c l' c' : Nat} {z : Int} {x : Val} (h : ValC P w [.int .i64 k, .string t, .int .u64 n, .slice a l c, .slice a' l' c', .int .i64 z] x) : k = x.kind' ∧ z = x.at'' := by
  cases x with
  | mk k' t' n' l' ks' z' =>
    unfold ValC at h
    obtain ⟨_, _, _, h, -⟩ := h
    simp at h
    exact ⟨h.1, h.2.2.2.2.2⟩
set_option maxRecDepth 100000 in
set_option maxHeartbeats 4000000 in
theorem treeShort_any (s : ByteArray) (cc : Int) (hcc : 0 ≤ cc ∧ cc ≤ 65535) (w : World) (hg : Handle w) : Calls Tryd.prog 5 #[.string s, .int .u16 cc] w fun e w' => e = .returned (.bool true) ∧ Below w.heap.size w w' := by
  have HG := Lib.hid hg
  have HC := Lib.hid hcc
  clear hg hcc
  go_enter Tryd.func5, Tryd.ntmps5
  go_wp2_with fail
  refine (awake5_any _ HG.out).mono ?_
  rintro e w1 ⟨rfl, b1⟩
  have HB1 := Lib.hid b1
  clear b1
  by_cases h400 : 400 < s.size
  · have h : (400 : Int) < (s.size : Int) := by omega
    go_wp2_with fail
    go_ret
    exact ⟨rfl, HB1.out⟩
  have h : ¬ (400 : Int) < (s.size : Int) := by omega
  go_wp2_with fail
  refine (tparse_any s (by unfold maxLen; omega) _ (HG.out.below HB1.out)).mono ?_
  rintro e w2 (⟨x, k1, t1, n1, a1, l1, c1, a1', l1', c1', z1, hw, rfl, hx, b2⟩ | ⟨ec, ea, fb, hw, rfl, hf, b2⟩)
  case inr =>
    have hB := HB1.out.trans (b2.mono HB1.out.size)
    have HB3 := Lib.hid (hB.trans ((below_new w2 (.cells #[.int .i64 0, .string ⟨#[]⟩, .int .u64 0, .slice none 0 0, .slice none 0 0, .int .i64 0] 27)).mono hB.size))
    clear hB b2 hf hw
    unfold pf
    go_wp2_with fail
    go_ret
    exact ⟨rfl, HB3.out⟩
  have hB := HB1.out.trans (b2.mono HB1.out.size)
  have HB3 := Lib.hid (hB.trans ((below_new w2 (.cells #[.int .i64 k1, .string t1, .int .u64 n1, .slice a1 l1 c1, .slice a1' l1' c1', .int .i64 z1] 27)).mono hB.size))
  have H6 : SixAt (w2.alloc (.cells #[.int .i64 k1, .string t1, .int .u64 n1, .slice a1 l1 c1, .slice a1' l1' c1', .int .i64 z1] 27)) w2.heap.size _ _ _ _ _ _ := heap_alloc_new w2 _
  obtain ⟨hk1, hz1⟩ := valC_kind hx
  obtain ⟨s0, -, -, -, -, s5⟩ := H6.cells
  have HW := Lib.hid hw
  clear hB b2 hx H6 HB1 hw
  by_cases h4 : k1 < 4
  · clear hk1 hz1
    go_wp2_with fail
    go_ret
    exact ⟨rfl, HB3.out⟩
  obtain ⟨k, j, hzk, hkj, hj, hbl, hall, hsh⟩ := whole_short HW.out (by omega)
  rw [hzk] at hz1
  subst hz1
  have HA := Lib.hid hall
  have HL := Lib.hid hbl
  have HS := Lib.hid hsh
  clear hall hbl hsh hzk hk1
  go_wp2_with fail
  generalize w2.alloc (.cells #[.int .i64 k1, .string t1, .int .u64 n1, .slice a1 l1 c1, .slice a1' l1' c1', .int .i64 (k : Int)] 27) = w3 at *
  go_loop [7] (fun u => ∃ i : Nat, j ≤ i + 1 ∧ i < s.size ∧ u = .int .i64 ((i : Int) + 1)) (fun u => (intOf u).toNat)
  case atStart => exact ⟨s.size - 1, by omega, by omega, by congr 1; omega⟩
  case round =>
    obtain ⟨i, hji, hi, rfl⟩ := hrel
    by_cases hlt : j ≤ i
    · have hb := (isBl_iff _).1 (HA.out i hlt hi)
      rw [byteI_lt hi] at hb
      have hbb : ((s[i].toNat : Int) == 32 || (s[i].toNat : Int) == 9 || (s[i].toNat : Int) == 10 || (s[i].toNat : Int) == 13) = true := by simpa [or_assoc] using hb
      clear hb
      obtain ⟨m, rfl⟩ : ∃ m, i = m + 1 := ⟨i - 1, by omega⟩
      go_wp2_with fail
      all_goals
        go_round
        case rel => exact ⟨m, by omega, by omega, by go_num⟩
        case measure => simp [intOf]; omega
    · obtain rfl : j = i + 1 := by omega
      rw [Nat.add_sub_cancel, byteI_lt hi] at HL
      have hor : ¬ ((s[i].toNat : Int) = 32 ∨ (s[i].toNat : Int) = 9 ∨ (s[i].toNat : Int) = 10 ∨ (s[i].toNat : Int) = 13) := fun h => by have := (isBl_iff _).2 h; rw [HL.out] at this; cases this
      have h1 : ((s[i].toNat : Int) == 32) = false := by rw [beq_eq_false_iff_ne]; omega
      have h2 : ((s[i].toNat : Int) == 9) = false := by rw [beq_eq_false_iff_ne]; omega
      have h3 : ((s[i].toNat : Int) == 10) = false := by rw [beq_eq_false_iff_ne]; omega
      have h5 : ((s[i].toNat : Int) == 13) = false := by rw [beq_eq_false_iff_ne]; omega
      clear hor
      obtain ⟨m, hm, hm1, hm2⟩ : ∃ m : Nat, wrap64 ((k : Int) + 1 + (wrap64 cc).tmod ((i : Int) + 1 - (k : Int) - 1)) = (m : Int) ∧ k < m ∧ m < i + 1 := by
        have hc := HC.out
        have hD : 0 < (i : Int) + 1 - (k : Int) - 1 := by omega
        rw [w64 cc (by omega)]
        have g1 := Int.tmod_nonneg ((i : Int) + 1 - (k : Int) - 1) hc.1
        have g2 := Int.tmod_lt_of_pos cc hD
        refine ⟨((k : Int) + 1 + cc.tmod ((i : Int) + 1 - (k : Int) - 1)).toNat, ?_, by omega, by omega⟩
        rw [w64 _ (by omega)]
        omega
      have HM : Hid (∀ o, Whole (cut s m) o → o = .er 3 m) := Lib.hid (fun o h => Whole.one (HS.out m hm1 hm2) h)
      have hms : m ≤ s.size := by omega
      go_wp2_with fail
      go_quiet (fail)
      rw [hm]
      have hB4 := HB3.out.trans ((below_dr w3 nq).mono HB3.out.size)
      have HB4 := Lib.hid hB4
      clear hB4 hm h1 h2 h3 h5 HL s0 s5 HB3
      generalize w3.drewN nq = w4 at *
      go_wp2_with fail
      refine (tparse_any (cut s m) (by rw [cut_size hms]; unfold maxLen; omega) _ (HG.out.below HB4.out)).mono ?_
      rintro e w5 (⟨x', k5, t5, n5, a5, l5, c5, a5', l5', c5', z5, hw, -⟩ | ⟨ec, ea, fb, hw, rfl, hf, b5⟩)
      case inl => cases HM.out _ hw
      have hxx := HM.out _ hw
      injection hxx with h1 h2
      subst h1; subst h2
      have HF := Lib.hid hf
      have HB5 := Lib.hid (HB4.out.trans (b5.mono HB4.out.size))
      clear hw hf b5
      have bn := below_new w5 (.cells #[.int .i64 0, .string ⟨#[]⟩, .int .u64 0, .slice none 0 0, .slice none 0 0, .int .i64 0] 27)
      have HB6 := Lib.hid (HB5.out.trans (bn.mono HB5.out.size))
      have HF6 := Lib.hid (HF.out.keep bn)
      clear bn
      unfold pf
      go_wp2_with fail
      refine (lawIs_err _ 3 ea _ HF6.out (HG.out.below HB6.out)).mono ?_
      rintro e w7 ⟨rfl, b7⟩
      go_wp2_with fail
      go_ret
      exact ⟨rfl, HB6.out.trans (b7.mono HB6.out.size)⟩
end Go.Proofs.YtbaglmjbncalpaaDoor
