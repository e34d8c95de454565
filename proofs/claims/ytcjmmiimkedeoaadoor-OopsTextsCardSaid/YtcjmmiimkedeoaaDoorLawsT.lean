/-
  The statement OopsTexts as a walk: whatever the number and the place, the law answers true, and all of old memory stays as it was.
-/
import Derived.Test.YtcjmmiimkedeoaaDoorRDig
import Derived.Test.YtcjmmiimkedeoaaDoorAwake
import Derived.Deep.RegionHeld3
namespace Go.Proofs.YtcjmmiimkedeoaaDoor
open Go.RowKit Go.Lib

def errL (c : Int) : List UInt8 := [101, 114, 114, 111, 114, 32] ++ Lib.itoa c
def faultL (c a : Int) : List UInt8 := errL c ++ [32, 97, 116, 32] ++ Lib.itoa a
def txt (l : List UInt8) : ByteArray := ⟨l.toArray⟩
theorem txt_app (l r : List UInt8) : txt l ++ txt r = txt (l ++ r) := by
  apply ByteArray.ext
  simp [txt, ByteArray.data_append]
theorem txt_size (l : List UInt8) : (txt l).size = l.length := by simp [txt, ByteArray.size]

theorem itoa_t (n : Int) (h0 : -9223372036854775808 ≤ n) (h1 : n ≤ 9223372036854775807) (w : World) (ht : Tab w) :
    Calls Tryd.prog 54 #[.int .i64 n] w fun e w' => e = .returned (.string (txt (Lib.itoa n))) ∧ Below w.heap.size w w' := itoa_any n h0 h1 w ht
theorem digitsRef_t (n : Int) (h0 : -9223372036854775808 ≤ n) (h1 : n ≤ 9223372036854775807) (w : World) :
    Calls Tryd.prog 55 #[.int .i64 n] w fun e w' => e = .returned (.string (txt (Lib.itoa n))) ∧ Below w.heap.size w w' := digitsRef_any n h0 h1 w

set_option maxHeartbeats 400000 in
theorem errnoError_any (c : Int) (h0 : -9223372036854775808 ≤ c) (h1 : c ≤ 9223372036854775807) (w : World) (ht : Tab w) :
    Calls Tryd.prog 53 #[.int .i64 c] w fun e w' => e = .returned (.string (txt (errL c))) ∧ Below w.heap.size w w' := by
  have hl := Lib.itoa_length_le c h0 h1
  have hs := txt_size (Lib.itoa c)
  have HE := Lib.hid (show (⟨#[101, 114, 114, 111, 114, 32]⟩ : ByteArray) ++ txt (Lib.itoa c) = txt (errL c) from txt_app [101, 114, 114, 111, 114, 32] (Lib.itoa c))
  have HC := Lib.hid (itoa_t c h0 h1 w ht)
  have hsz : (txt (Lib.itoa c)).size ≤ 21 := by rw [hs]; exact hl
  clear hs hl
  generalize txt (Lib.itoa c) = t at *
  go_enter Tryd.func53, Tryd.ntmps53
  go_wp2_with fail
  refine HC.out.mono ?_
  rintro e w' ⟨rfl, hb⟩
  go_wp2_with fail
  go_ret
  exact ⟨ret_v (congrArg Value.string HE.out), hb⟩

theorem at_app (l r : List UInt8) : (txt l ++ ⟨#[32, 97, 116, 32]⟩) ++ txt r = txt (l ++ [32, 97, 116, 32] ++ r) := by
  rw [show (⟨#[32, 97, 116, 32]⟩ : ByteArray) = txt [32, 97, 116, 32] from rfl, txt_app, txt_app]

/-- What holds while Error reads the fault. -/
structure TInv (W : World) (b : Nat) (c a : Int) (w : World) : Prop where
  below : Below W.heap.size W w
  tab : Tab w
  hb : b < w.heap.size
  k0 : w.cell? ⟨b, 0, none⟩ = some (.int .i64 c)
  k1 : w.cell? ⟨b, 1, none⟩ = some (.int .i64 a)
theorem TInv.step {W w w' : World} {b : Nat} {c a : Int} (h : TInv W b c a w) (hb : Below w.heap.size w w') : TInv W b c a w' :=
  ⟨h.below.trans (hb.mono h.below.size), h.tab.below hb, Nat.lt_of_lt_of_le h.hb hb.size, (hb.cell (p := ⟨b, 0, none⟩) h.hb).trans h.k0, (hb.cell (p := ⟨b, 1, none⟩) h.hb).trans h.k1⟩

set_option maxRecDepth 100000 in
set_option maxHeartbeats 1600000 in
theorem faultError_any (b : Nat) (c a : Int) (c0 : -9223372036854775808 ≤ c) (c1 : c ≤ 9223372036854775807) (a0 : -9223372036854775808 ≤ a) (a1 : a ≤ 9223372036854775807) (w : World) (h : TInv w b c a w) :
    Calls Tryd.prog 25 #[.pointer (some ⟨b, 0, none⟩)] w fun e w' => e = .returned (.string (txt (faultL c a))) ∧ Below w.heap.size w w' := by
  have hl := Lib.itoa_length_le c c0 c1
  have hl2 := Lib.itoa_length_le a a0 a1
  have hs1 : (txt (errL c)).size ≤ 27 := by rw [txt_size]; simp [errL]; omega
  have hs2 : (txt (Lib.itoa a)).size ≤ 21 := by rw [txt_size]; omega
  have HE := Lib.hid (show (txt (errL c) ++ ⟨#[32, 97, 116, 32]⟩) ++ txt (Lib.itoa a) = txt (faultL c a) from at_app _ _)
  have H1 := Lib.hid (fun w ht => errnoError_any c c0 c1 w ht)
  have H2 := Lib.hid (fun w ht => itoa_t a a0 a1 w ht)
  have h4 : ¬ 9223372036854775807 < (txt (errL c)).size + 4 := by omega
  have h5 : ¬ 9223372036854775807 < (txt (errL c)).size + 4 + (txt (Lib.itoa a)).size := by omega
  clear hl hl2
  generalize txt (errL c) = t1 at *
  generalize txt (Lib.itoa a) = t2 at *
  have k0 := h.k0
  have k1 := h.k1
  have hJ : TInv w b c a w.drew := h.step (below_drews w 1)
  go_enter Tryd.func25, Tryd.ntmps25
  go_wp2_with fail
  go_region_held3 (fun w' => w'.cell? ⟨b, 0, none⟩ = some (.int .i64 c) ∧ w'.cell? ⟨b, 1, none⟩ = some (.int .i64 a))
    (first | go_keep | exact ⟨hJ.k0, hJ.k1⟩)
    (first
    | (go_at_call 53; refine (H1.out _ hJ.tab).mono ?_; rintro e w' ⟨rfl, hb⟩; replace hJ := hJ.step hb)
    | (go_at_call 54; refine (H2.out _ hJ.tab).mono ?_; rintro e w' ⟨rfl, hb⟩; replace hJ := hJ.step hb))
  all_goals go_wp2
  all_goals go_ret
  all_goals exact ⟨ret_v (congrArg Value.string HE.out), hJ.below⟩

/-! ### The reference's text -/
set_option maxRecDepth 100000 in
set_option maxHeartbeats 1600000 in
theorem refText_any (c a : Int) (c0 : -9223372036854775808 ≤ c) (c1 : c ≤ 9223372036854775807) (a0 : -9223372036854775808 ≤ a) (a1 : a ≤ 9223372036854775807) (w : World) :
    Calls Tryd.prog 26 #[.int .i64 c, .int .i64 a] w fun e w' => e = .returned (.string (txt (faultL c a))) ∧ Below w.heap.size w w' := by
  have hl := Lib.itoa_length_le c c0 c1
  have hl2 := Lib.itoa_length_le a a0 a1
  have hs1 : (txt (Lib.itoa c)).size ≤ 21 := by rw [txt_size]; omega
  have hs2 : (txt (Lib.itoa a)).size ≤ 21 := by rw [txt_size]; omega
  have HE := Lib.hid (show ((⟨#[101, 114, 114, 111, 114, 32]⟩ : ByteArray) ++ txt (Lib.itoa c) ++ ⟨#[32, 97, 116, 32]⟩) ++ txt (Lib.itoa a) = txt (faultL c a) by
    rw [show (⟨#[101, 114, 114, 111, 114, 32]⟩ : ByteArray) = txt [101, 114, 114, 111, 114, 32] from rfl, txt_app]; exact at_app _ _)
  have H1 := Lib.hid (fun w => digitsRef_t c c0 c1 w)
  have H2 := Lib.hid (fun w => digitsRef_t a a0 a1 w)
  clear hl hl2
  generalize txt (Lib.itoa c) = t1 at *
  generalize txt (Lib.itoa a) = t2 at *
  go_enter Tryd.func26, Tryd.ntmps26
  go_wp2_with fail
  refine (H1.out _).mono ?_
  rintro e w1 ⟨rfl, b1⟩
  go_wp2_with fail
  refine (H2.out _).mono ?_
  rintro e w2 ⟨rfl, b2⟩
  go_wp2_with fail
  go_ret
  exact ⟨ret_v (congrArg Value.string HE.out), b1.trans (b2.mono b1.size)⟩

/-! ### The law -/
set_option maxRecDepth 100000 in
set_option maxHeartbeats 1600000 in
theorem texts_any (c a : Int) (c0 : -9223372036854775808 ≤ c) (c1 : c ≤ 9223372036854775807) (a0 : -9223372036854775808 ≤ a) (a1 : a ≤ 9223372036854775807) (w : World) (hg : Handle w) (ht : Tab w) :
    Calls Tryd.prog 6 #[.int .i64 c, .int .i64 a] w fun e w' => e = .returned (.bool true) ∧ Below w.heap.size w w' := by
  go_enter Tryd.func6, Tryd.ntmps6
  go_wp2_with fail
  refine (awake1_any _ hg).mono ?_
  rintro e w1 ⟨rfl, b1⟩
  have b2 := below_alloc w1 (.cells #[.int .i64 c, .int .i64 a] 42)
  have hI : TInv (w1.alloc (.cells #[.int .i64 c, .int .i64 a] 42)) w1.heap.size c a (w1.alloc (.cells #[.int .i64 c, .int .i64 a] 42)) :=
    ⟨Below.refl _ _, (ht.below b1).below b2, by simp, by simp, by simp⟩
  go_wp2_with fail
  refine (faultError_any _ c a c0 c1 a0 a1 _ hI).mono ?_
  rintro e w3 ⟨rfl, b3⟩
  go_wp2_with fail
  refine (refText_any c a c0 c1 a0 a1 _).mono ?_
  rintro e w4 ⟨rfl, b4⟩
  go_wp2_with fail
  go_ret
  exact ⟨rfl, b1.trans ((b2.trans ((b3.trans (b4.mono b3.size)).mono b2.size)).mono b1.size)⟩
end Go.Proofs.YtcjmmiimkedeoaaDoor
