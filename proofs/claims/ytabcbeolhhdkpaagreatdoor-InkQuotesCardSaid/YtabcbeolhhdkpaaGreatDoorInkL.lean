/-
  InkQuotes.
-/
import Derived.Test.YtabcbeolhhdkpaaGreatDoorInkK
import Derived.Test.YtabcbeolhhdkpaaGreatDoorShelf
namespace Go.Proofs.YtabcbeolhhdkpaaGreatDoor
open Go.RowKit Go.Extern.Stop Go.Stop Go.Extern Go.WideMaps

theorem mayL_all {l : List UInt8} (h : l.all mayS = true) : mayL l = l := by
  unfold mayL
  exact List.filter_eq_self.2 (fun x hx => List.all_eq_true.1 h x hx)
theorem quoL_pre (l : List UInt8) : Lib.hasPrefix (⟨(quoL l).toArray⟩ : ByteArray).data.toList (⟨#[34]⟩ : ByteArray).data.toList = true := by
  unfold quoL
  simp [Lib.hasPrefix]
set_option maxRecDepth 100000 in
set_option maxHeartbeats 4000000 in
theorem inkQuotes_any (s : ByteArray) (w : World) (hg : Handle w) (hT : Tab w) : Calls Tryz.prog 3 #[.string s] w fun e w' => e = .returned (.bool true) ∧ Below w.heap.size w w' := by
  have HG := Lib.hid hg
  have HA := Lib.hid (awake6_any w hg hT)
  clear hg hT
  by_cases hs : 300 < s.size
  · go_enter Tryz.func3, Tryz.ntmps3
    go_wp2_with fail
    refine HA.out.mono ?_
    rintro e w1 ⟨rfl, b1⟩
    have HB1 := Lib.hid b1
    clear b1
    go_wp2_with fail
    go_ret
    exact ⟨rfl, HB1.out⟩
  · have hs' : s.size ≤ 300 := by omega
    have HQ := Lib.hid (fun W => quote_any s (by omega) W)
    have HRQ := Lib.hid (fun W => rquote_any s (by omega) W)
    have HP := Lib.hid (fun W => rplain_any s (by omega) W)
    have hlen : s.data.toList.length = s.size := by simp
    have hTs : (⟨(quoL s.data.toList).toArray⟩ : ByteArray).size ≤ 602 := by
      rw [sizeQ, quoL_len]
      have := bodyQ_len s.data.toList
      omega
    have HPT := Lib.hid (fun W (hW : Handle W) => tparse_any ⟨(quoL s.data.toList).toArray⟩ (by unfold maxLen; omega) W hW)
    have HWh := Lib.hid (fun o (h : Whole ⟨(quoL s.data.toList).toArray⟩ o) => Whole.one (quote_whole s.data.toList (by omega)) h)
    have HPre : Hid (∀ W, Calls Tryz.prog 9 #[.string ⟨(quoL s.data.toList).toArray⟩, .string ⟨#[34]⟩] W fun e w' => e = .returned (.bool true) ∧ w' = W) := Lib.hid (fun W => by
      have := Tryz.strings_HasPrefix ⟨(quoL s.data.toList).toArray⟩ ⟨#[34]⟩ W
      rw [quoL_pre] at this
      exact this)
    have HMay : Hid (s.data.toList.all mayS = true → (⟨(mayL s.data.toList).toArray⟩ : ByteArray) = s) := Lib.hid (fun h => by rw [mayL_all h])
    generalize (⟨(quoL s.data.toList).toArray⟩ : ByteArray) = T at *
    generalize (⟨(mayL s.data.toList).toArray⟩ : ByteArray) = M at *
    generalize s.data.toList.all mayS = r at *
    clear hlen
    go_enter Tryz.func3, Tryz.ntmps3
    go_wp2_with fail
    refine HA.out.mono ?_
    rintro e w1 ⟨rfl, b1⟩
    have HB1 := Lib.hid b1
    clear b1
    go_wp2_with fail
    refine (HQ.out _).mono ?_
    rintro e w2 ⟨rfl, b2⟩
    have HB2 := Lib.hid (HB1.out.trans (b2.mono HB1.out.size))
    clear b2
    go_wp2_with fail
    refine (HPT.out _ (HG.out.below HB2.out)).mono ?_
    rintro e w3 (⟨x, k, t, n, a, l, c, a', l', c', z, hw, rfl, hx, b3⟩ | ⟨ec, ea, fb, hw, -⟩)
    case inr => cases HWh.out _ hw
    have hxx := HWh.out _ hw
    injection hxx with _ hxx
    subst hxx
    unfold ValC at hx
    obtain ⟨sl, sk', xs, e, -⟩ := hx
    simp only [List.cons.injEq, Value.int.injEq, Value.string.injEq, true_and, and_true] at e
    obtain ⟨rfl, rfl, rfl, -, -, rfl⟩ := e
    have bn := sbelow_new w3 (.cells #[.int .i64 4, .string t, .int .u64 0, .slice a l c, .slice a' l' c', .int .i64 0] 28)
    have HB3 := Lib.hid (HB2.out.trans ((b3.trans (bn.mono b3.size)).mono HB2.out.size))
    have H6 : Hid (SixAt (w3.alloc (.cells #[.int .i64 4, .string t, .int .u64 0, .slice a l c, .slice a' l' c', .int .i64 0] 28)) w3.heap.size _ _ _ _ _ _) := Lib.hid (heap_alloc_new w3 _)
    clear b3 hw bn
    go_wp2_with fail
    refine (HRQ.out _).mono ?_
    rintro e w4 ⟨rfl, rfl⟩
    generalize w3.alloc (.cells #[.int .i64 4, .string t, .int .u64 0, .slice a l c, .slice a' l' c', .int .i64 0] 28) = w5 at *
    generalize w3.heap.size = q at *
    obtain ⟨s0, s1, s2, s3, s4, s5⟩ := H6.out.cells
    go_wp2_with fail
    refine (HP.out _).mono ?_
    rintro e w6 ⟨rfl, rfl⟩
    cases r
    · clear HMay
      go_wp2_with fail
      refine (HPre.out _).mono ?_
      rintro e w7 ⟨rfl, rfl⟩
      go_wp2_with fail
      go_ret
      exact ⟨rfl, HB3.out⟩
    · have ht : t = s := HMay.out rfl
      subst ht
      clear HMay
      go_wp2_with fail
      refine (HPre.out _).mono ?_
      rintro e w7 ⟨rfl, rfl⟩
      go_wp2_with fail
      go_ret
      exact ⟨rfl, HB3.out⟩
end Go.Proofs.YtabcbeolhhdkpaaGreatDoor
