/-
  Chapter 2's example holds; the statements AmountReckons and AmountLaws as walks: whatever the numbers, the law answers true, and all of old memory stays as it was.
-/
import Derived.Test.YtcjmmiimkedeoaaDoorAmtP
namespace Go.Proofs.YtcjmmiimkedeoaaDoor
open Go.RowKit Go.Extern.Stop Go.Stop Go.Extern

theorem parse_05 (w : World) : Calls Tryd.prog 40 #[.string ⟨#[48, 53]⟩] w fun e w' =>
    e = .returned (.tuple #[.int .u64 0, .iface 36 (.pointer (some ⟨w.heap.size, 0, none⟩))]) ∧ w' = w.alloc (.cells #[.int .i64 4, .int .i64 0] 42) := by
  refine (parse_any ⟨#[48, 53]⟩ w (by decide)).mono ?_
  have hR : parseR (ByteArray.mk #[48, 53]).data.toList = (0, 4, 0) := by decide
  rw [hR]
  rintro e w' (⟨h, -⟩ | ⟨-, h⟩)
  · exact absurd h (by decide)
  · exact h
theorem parse_50 (w : World) : Calls Tryd.prog 40 #[.string ⟨#[53, 48]⟩] w fun e w' =>
    e = .returned (.tuple #[.int .u64 50, .nilIface]) ∧ w' = w := by
  refine (parse_any ⟨#[53, 48]⟩ w (by decide)).mono ?_
  have hR : parseR (ByteArray.mk #[53, 48]).data.toList = (50, 0, 0) := by decide
  rw [hR]
  rintro e w' (⟨-, h⟩ | ⟨h, -⟩)
  · exact h
  · exact absurd rfl h

set_option maxRecDepth 100000 in
set_option maxHeartbeats 1600000 in
theorem awake2_any (w : World) (hg : Handle w) :
    Calls Tryd.prog 30 #[] w fun e w' => e = .returned (.bool true) ∧ Below w.heap.size w w' := by
  have b1 := below_alloc w (.cells #[.int .i64 4, .int .i64 0] 42)
  have c1 := new_chain 4 0 w
  have H05 := Lib.hid (parse_05 w)
  obtain ⟨w1, hw1⟩ : ∃ w1, w1 = w.alloc (.cells #[.int .i64 4, .int .i64 0] 42) := ⟨_, rfl⟩
  rw [← hw1] at b1 c1 H05
  have HW := Lib.hid hw1
  clear hw1
  have HC := Lib.hid c1
  clear c1
  have ha : addI 9223372036854775807 5 = 9223372036854775807 := by decide
  go_enter Tryd.func30, Tryd.ntmps30
  go_wp2_with fail
  refine H05.out.mono ?_
  rintro e w' ⟨rfl, rfl⟩
  go_wp2_with fail
  refine (parse_50 _).mono ?_
  rintro e w' ⟨rfl, rfl⟩
  have g1 := hg.below b1
  go_wp2_with fail
  refine (Awake1_any _ g1).mono ?_
  rintro e w2 ⟨rfl, b2⟩
  go_wp2_with fail
  refine (add_any _ _ (by decide) (by decide) _).mono ?_
  rintro e w' ⟨rfl, rfl⟩
  go_wp2_with fail
  refine (lawIs_fault _ 4 0 (by decide) _ _ (HC.out.keep b2) (g1.below b2)).mono ?_
  rintro e w3 ⟨rfl, b3⟩
  go_wp2_with fail
  go_ret
  exact ⟨rfl, b1.trans ((b2.trans (b3.mono b2.size)).mono b1.size)⟩

set_option maxHeartbeats 1000000 in
theorem reckons_far (a b : Int) (n : Nat) (x : Option Addr) (cp : Nat) (w : World) (hg : Handle w) (h : 100 < n) :
    Calls Tryd.prog 9 #[.int .u64 a, .int .u64 b, .slice x n cp] w fun e w' => e = .returned (.bool true) ∧ Below w.heap.size w w' := by
  have hb : (100 : Int) < n := by omega
  go_enter Tryd.func9, Tryd.ntmps9
  go_wp2_with fail
  refine (awake2_any _ hg).mono ?_
  rintro e w1 ⟨rfl, b1⟩
  go_wp2_with fail
  go_ret
  exact ⟨rfl, b1⟩

set_option maxRecDepth 100000 in
set_option maxHeartbeats 1600000 in
theorem reckons_near (a b : Int) (ha : 0 ≤ a) (hb : 0 ≤ b) (zs : List Int) (v : Value) (hz : ∀ z ∈ zs, 0 ≤ z) (w : World) (hv : NumsAt w v zs) (hg : Handle w) (h : zs.length ≤ 100) :
    Calls Tryd.prog 9 #[.int .u64 a, .int .u64 b, v] w fun e w' => e = .returned (.bool true) ∧ Below w.heap.size w w' := by
  have hf := hv.form
  obtain ⟨x, cp, rfl⟩ := hf
  have hl : ¬ (100 : Int) < zs.length := by omega
  have HS := Lib.hid (fun w hv => sum_any zs (.slice x zs.length cp) hz (by omega) w hv)
  have HR := Lib.hid (fun w hv => rsum_any zs (.slice x zs.length cp) hz (by omega) w hv)
  clear hz
  go_enter Tryd.func9, Tryd.ntmps9
  go_wp2_with fail
  refine (awake2_any _ hg).mono ?_
  rintro e w1 ⟨rfl, b1⟩
  have hv1 := hv.keep b1
  go_wp2_with (first
    | (go_at_call 31; refine (cap_any _ _).mono ?_; rintro e w' ⟨rfl, rfl⟩)
    | (go_at_call 32; refine (rcap_any _ _).mono ?_; rintro e w' ⟨rfl, rfl⟩)
    | (go_at_call 33; refine (add_any _ _ (by assumption) (by assumption) _).mono ?_; rintro e w' ⟨rfl, rfl⟩)
    | (go_at_call 34; refine (radd_any _ _ (by assumption) (by assumption) _).mono ?_; rintro e w' ⟨rfl, rfl⟩)
    | (go_at_call 35; refine (mul_any _ _ (by assumption) (by assumption) _).mono ?_; rintro e w' ⟨rfl, rfl⟩)
    | (go_at_call 36; refine (rmul_any _ _ (by assumption) (by assumption) _).mono ?_; rintro e w' ⟨rfl, rfl⟩)
    | (go_at_call 37; refine (HS.out _ (by assumption)).mono ?_; rintro e w' ⟨rfl, rfl⟩)
    | (go_at_call 38; refine (HR.out _ (by assumption)).mono ?_; rintro e w' ⟨rfl, rfl⟩))
  go_ret
  exact ⟨rfl, b1⟩

theorem reckons_any (a b : Int) (ha : 0 ≤ a) (hb : 0 ≤ b) (zs : List Int) (v : Value) (hz : ∀ z ∈ zs, 0 ≤ z) (w : World) (hv : NumsAt w v zs) (hg : Handle w) :
    Calls Tryd.prog 9 #[.int .u64 a, .int .u64 b, v] w fun e w' => e = .returned (.bool true) ∧ Below w.heap.size w w' := by
  by_cases h : 100 < zs.length
  · obtain ⟨x, cp, rfl⟩ := hv.form
    exact reckons_far a b _ x cp w hg h
  · exact reckons_near a b ha hb zs v hz w hv hg (by omega)

set_option maxRecDepth 100000 in
set_option maxHeartbeats 4000000 in
theorem laws_any (a b c : Int) (ha : 0 ≤ a) (hb : 0 ≤ b) (hc : 0 ≤ c) (w : World) (hg : Handle w) :
    Calls Tryd.prog 11 #[.int .u64 a, .int .u64 b, .int .u64 c] w fun e w' => e = .returned (.bool true) ∧ Below w.heap.size w w' := by
  have e1 : (addI a b != addI b a) = false := by rw [addI_comm]; simp
  have e2 : (mulI a b != mulI b a) = false := by rw [mulI_comm]; simp
  have e3 : (addI a 0 != capI a) = false := by rw [addI_zero]; simp
  have e4 : (mulI a 1 != capI a) = false := by rw [mulI_one]; simp
  have e5 : (mulI a 0 != 0) = false := by rw [mulI_zero]; rfl
  have e6 : (addI a (addI b c) != addI (addI a b) c) = false := by rw [addI_assoc a b c ha hc]; simp
  have e7 : (mulI a (mulI b c) != mulI (mulI a b) c) = false := by rw [mulI_assoc a b c ha hb hc]; simp
  have e8 : (mulI a (addI b c) == addI (mulI a b) (mulI a c)) = true := by rw [mulI_addI a b c ha hb hc]; simp
  have e9 : capI a ≤ addI a b := addI_ge a b hb
  have n0 : (0 : Int) ≤ 0 := by decide
  have n1 : (0 : Int) ≤ 1 := by decide
  have n2 := (addI_bd b c hb hc).1
  have n3 := (addI_bd a b ha hb).1
  have n4 := (mulI_bd b c hb hc).1
  have n5 := (mulI_bd a b ha hb).1
  have n6 := (mulI_bd a c ha hc).1
  by_cases h0 : b = 0
  · have hb0 : (b == 0) = true := by simpa using h0
    clear h0
    go_enter Tryd.func11, Tryd.ntmps11
    go_wp2_with fail
    refine (awake2_any _ hg).mono ?_
    rintro e w1 ⟨rfl, b1⟩
    go_wp2_with (first
      | (go_at_call 31; refine (cap_any _ _).mono ?_; rintro e w' ⟨rfl, rfl⟩)
      | (go_at_call 33; refine (add_any _ _ (by assumption) (by assumption) _).mono ?_; rintro e w' ⟨rfl, rfl⟩)
      | (go_at_call 35; refine (mul_any _ _ (by assumption) (by assumption) _).mono ?_; rintro e w' ⟨rfl, rfl⟩))
    go_ret
    exact ⟨rfl, b1⟩
  · have hb0 : (b == 0) = false := by simpa using h0
    have e10 : capI a ≤ mulI a b := mulI_ge a b ha (by omega)
    clear h0
    go_enter Tryd.func11, Tryd.ntmps11
    go_wp2_with fail
    refine (awake2_any _ hg).mono ?_
    rintro e w1 ⟨rfl, b1⟩
    go_wp2_with (first
      | (go_at_call 31; refine (cap_any _ _).mono ?_; rintro e w' ⟨rfl, rfl⟩)
      | (go_at_call 33; refine (add_any _ _ (by assumption) (by assumption) _).mono ?_; rintro e w' ⟨rfl, rfl⟩)
      | (go_at_call 35; refine (mul_any _ _ (by assumption) (by assumption) _).mono ?_; rintro e w' ⟨rfl, rfl⟩))
    go_ret
    exact ⟨rfl, b1⟩
end Go.Proofs.YtcjmmiimkedeoaaDoor
