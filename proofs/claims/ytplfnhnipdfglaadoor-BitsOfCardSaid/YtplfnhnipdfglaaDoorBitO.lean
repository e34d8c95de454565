/-
  BitsOf's law, by contract.
-/
import Derived.Test.YtplfnhnipdfglaaDoorBitN
namespace Go.Proofs.YtplfnhnipdfglaaDoor
open Go.RowKit Go.Extern.Stop Go.Stop Go.Extern

set_option maxRecDepth 100000 in
set_option maxHeartbeats 4000000 in
theorem bitsOf_any (l : List Int) (v : Value) (n i : Int) (hn : -9223372036854775808 ≤ n ∧ n ≤ 9223372036854775807) (w : World) (hv : IntsAt w v l) (ht : TabB w) :
    Calls Tryd.prog 3 #[v, .int .i64 n, .int .i64 i] w fun e w' => e = .returned (.bool true) ∧ Below w.heap.size w w' := by
  obtain ⟨p, cap, rfl⟩ := hv.form
  have HA := Lib.hid (awake7_any w ht)
  have HV := Lib.hid hv
  have HT := Lib.hid ht
  clear hv ht
  go_enter Tryd.func3, Tryd.ntmps3
  go_wp2_with fail
  refine HA.out.mono ?_
  rintro e w1 ⟨rfl, b1⟩
  have HB1 := Lib.hid b1
  clear HA b1
  by_cases h200 : 200 < l.length
  · have h : (200 : Int) < (l.length : Int) := by omega
    go_wp2_with fail
    go_ret
    exact ⟨rfl, HB1.out⟩
  · have h : ¬ (200 : Int) < (l.length : Int) := by omega
    have HOf := Lib.hid (of_any l _ w1 (HV.out.step HB1.out) (by omega))
    have HRf := Lib.hid fun W h => rof_any l (.slice p l.length cap) W h (by omega)
    rw [rof_of] at HRf
    obtain ⟨U1, U2⟩ := ofS_u64 l
    have HUp := Lib.hid fun W => upto_any n hn W
    have HRu := Lib.hid fun W => rupto_any n hn W
    have hN : (min n 128).toNat ≤ 128 := by omega
    generalize (min n 128).toNat = N at *
    have HuL := Lib.hid (upto_ints N hN)
    obtain ⟨V1, V2⟩ := ofS_u64 (firstN N)
    generalize (ofS (firstN N)).1 = c at *
    generalize (ofS (firstN N)).2 = d at *
    generalize (ofS l).1 = a at *
    generalize (ofS l).2 = b at *
    have hlen := intsL_le a b
    go_wp2_with fail
    refine HOf.out.mono ?_
    rintro e w2 ⟨rfl, b2⟩
    have HB2 := Lib.hid (HB1.out.trans (b2.mono HB1.out.size))
    clear HOf b2
    go_wp2_with fail
    refine (HRf.out _ (HV.out.step HB2.out)).mono ?_
    rintro e w3 ⟨x, rfl, hx, b3⟩
    have HI : Hid (IsSt w w3.heap.size a b x (intsL a b) (w3.alloc (.cells #[.int .u64 (a : Int), .int .u64 (b : Int)] 26))) := Lib.hid (by
      have hB3 := HB2.out.trans (b3.mono HB2.out.size)
      have hB := below_new w3 (.cells #[.int .u64 (a : Int), .int .u64 (b : Int)] 26)
      have hB4 := hB3.trans (hB.mono hB3.size)
      exact ⟨boxed_set w3 a b, (IntsAt.own hx rfl).step hB, HT.out.below HT.out.lt hB4, hB4⟩)
    clear HRf HB2 HB1 HV b3 hx
    have k0 := HI.out.set.cells.1
    have k1 := HI.out.set.cells.2.1
    go_wp2_with fail
    refine (is_any a b U1 U2 _ _ HI.out.ints HI.out.tab).mono ?_
    rintro e w4 ⟨rfl, b4⟩
    have HI4 := Lib.hid (HI.out.step b4)
    clear HI b4 k0 k1
    go_wp2_with fail
    refine (HUp.out _).mono ?_
    rintro e w5 ⟨rfl, b5⟩
    have HI5 := Lib.hid (HI4.out.step b5)
    clear HI4 b5 HUp
    go_wp2_with fail
    refine (HRu.out _).mono ?_
    rintro e w6 ⟨u, rfl, hu, b6⟩
    have HI6 := Lib.hid (HI5.out.step b6)
    have hu2 : IntsAt w6 u (firstN N) := IntsAt.own hu (by unfold firstN; simp)
    rw [HuL.out] at hu2
    have HU := Lib.hid hu2
    clear HI5 b6 HRu hu hu2
    go_wp2_with fail
    refine (is_any c d V1 V2 _ _ HU.out HI6.out.tab).mono ?_
    rintro e w7 ⟨rfl, b7⟩
    have HI7 := Lib.hid (HI6.out.step b7)
    clear HI6 b7 HU
    have k0 := HI7.out.set.cells.1
    have k1 := HI7.out.set.cells.2.1
    go_wp2_with fail
    refine (has_any a b i U1 U2 _).mono ?_
    rintro e w8 ⟨rfl, b8⟩
    have HI8 := Lib.hid (HI7.out.step b8)
    clear HI7 b8 k0 k1
    go_wp2_with fail
    refine (rhas_any _ _ i _ HI8.out.ints (by omega)).mono ?_
    rintro e w9 ⟨rfl, rfl⟩
    rw [hasL_ints]
    have k0 := HI8.out.set.cells.1
    have k1 := HI8.out.set.cells.2.1
    go_wp2_with fail
    refine (with_any a b i U1 U2 _).mono ?_
    rintro e w10 ⟨rfl, b10⟩
    have HI10 := Lib.hid (HI8.out.step b10)
    clear HI8 b10 k0 k1
    have HI11 := Lib.hid (HI10.out.step (below_new _ (.cells #[.int .i64 i] 3)))
    go_wp2_with fail
    refine (ror_any (intsL a b) [i] _ _ _ HI11.out.ints (ints_new _ i) (by omega) (by simp)).mono ?_
    rintro e w12 ⟨y, rfl, hy, b12⟩
    have HI12 := Lib.hid (HI11.out.step b12)
    have hy2 := IntsAt.own hy rfl
    rw [rof_with] at hy2
    have HY := Lib.hid hy2
    clear HI10 HI11 b12 hy hy2
    go_wp2_with fail
    refine (is_any _ _ (U1.or (oneW_u64 i).1) (U2.or (oneW_u64 i).2) _ _ HY.out HI12.out.tab).mono ?_
    rintro e w13 ⟨rfl, b13⟩
    have HI13 := Lib.hid (HI12.out.step b13)
    clear HI12 b13 HY
    have k0 := HI13.out.set.cells.1
    have k1 := HI13.out.set.cells.2.1
    go_wp2_with fail
    refine (without_any a b i U1 U2 _).mono ?_
    rintro e w14 ⟨rfl, b14⟩
    have HI14 := Lib.hid (HI13.out.step b14)
    clear HI13 b14 k0 k1
    have HI15 := Lib.hid (HI14.out.step (below_new _ (.cells #[.int .i64 i] 3)))
    go_wp2_with fail
    refine (rless_any (intsL a b) [i] _ _ _ HI15.out.ints (ints_new _ i) (by omega) (by simp)).mono ?_
    rintro e w16 ⟨z, rfl, hz, b16⟩
    have HI16 := Lib.hid (HI15.out.step b16)
    have hz2 := IntsAt.own hz rfl
    rw [filt_without U1 U2] at hz2
    have HZ := Lib.hid hz2
    clear HI14 HI15 b16 hz hz2
    go_wp2_with fail
    refine (is_any _ _ (U64.less _ U1) (U64.less _ U2) _ _ HZ.out HI16.out.tab).mono ?_
    rintro e w17 ⟨rfl, b17⟩
    have HI17 := Lib.hid (HI16.out.step b17)
    clear HI16 b17 HZ
    go_wp2_with fail
    go_ret
    exact ⟨rfl, HI17.out.below⟩
end Go.Proofs.YtplfnhnipdfglaaDoor
