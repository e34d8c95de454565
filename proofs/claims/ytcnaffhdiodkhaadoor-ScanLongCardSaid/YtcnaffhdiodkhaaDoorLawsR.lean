/-
  The statement ScanLong as a walk: whatever the number, the law answers true, and all of old memory stays as it was.
-/
import Derived.Test.YtcnaffhdiodkhaaDoorAwk3
import Derived.Test.YtcnaffhdiodkhaaDoorShelf
namespace Go.Proofs.YtcnaffhdiodkhaaDoor
open Go.RowKit Go.Extern.Stop Go.Stop Go.Extern

/-- So many blanks. -/
def blanks (n : Nat) : ByteArray := ⟨(Lib.repeatL [32] n).toArray⟩
theorem blanks_list (n : Nat) : (blanks n).data.toList = List.replicate n 32 := by
  have := Lib.repeatL_replicate 32 1 n
  simp at this
  simp [blanks, this]
theorem blanks_size (n : Nat) : (blanks n).size = n := by
  have := congrArg List.length (blanks_list n)
  simpa using this
theorem blanks_get (n i : Nat) (h : i < (blanks n).size) : (blanks n)[i] = 32 := by
  have h1 : i < (blanks n).data.toList.length := by simpa using h
  have h2 : (blanks n)[i] = (blanks n).data.toList[i] := rfl
  rw [h2]
  simp [blanks_list]
theorem runTo_all {p : Int → Bool} {s : ByteArray} (h : ∀ i (hi : i < s.size), p (s[i].toNat : Int) = true) : ∀ (n k : Nat), s.size - k = n → k ≤ s.size → runTo p s k = s.size := by
  intro n
  induction n with
  | zero => intro k hn hk; rw [runTo_end (by omega)]; omega
  | succ n ih => intro k hn hk; rw [runTo_go (by omega) (h k (by omega))]; exact ih (k + 1) (by omega) (by omega)
theorem runTo_blanks (n : Nat) : runTo isBl (blanks n) 0 = n := by
  rw [runTo_all (fun i hi => by rw [blanks_get n i hi]; decide) _ 0 rfl (Nat.zero_le _), blanks_size]

theorem repeat_blanks (c : Nat) (w : World) (hc : c ≤ 100000) :
    Calls Tryd.prog 28 #[.string ⟨#[32]⟩, .int .i64 c] w fun e w' => e = .returned (.string (blanks c)) ∧ Below w.heap.size w w' :=
  Tryd.strings_Repeat ⟨#[32]⟩ c w (by omega) (by show 1 * c ≤ _; omega)

set_option maxRecDepth 100000 in
set_option maxHeartbeats 1600000 in
theorem scanLong_any (n : Int) (h0 : -2147483648 ≤ n) (h1 : n ≤ 2147483647) (w : World) (hg : Handle w) :
    Calls Tryd.prog 5 #[.int .i32 n] w fun e w' => e = .returned (.bool true) ∧ Below w.heap.size w w' := by
  by_cases hneg : n < 0
  · go_enter Tryd.func5, Tryd.ntmps5
    go_wp2_with fail
    refine (awake3_any _ hg).mono ?_
    rintro e w1 ⟨rfl, b1⟩
    go_wp2_with fail
    go_ret
    exact ⟨rfl, b1⟩
  · obtain ⟨c, rfl⟩ := Int.eq_ofNat_of_zero_le (show 0 ≤ n by omega)
    by_cases hbig : (70000 : Int) < c
    · go_enter Tryd.func5, Tryd.ntmps5
      go_wp2_with fail
      refine (awake3_any _ hg).mono ?_
      rintro e w1 ⟨rfl, b1⟩
      go_wp2_with fail
      go_ret
      exact ⟨rfl, b1⟩
    · have HRP := Lib.hid (fun w => repeat_blanks c w (by omega))
      by_cases hl : (65536 : Int) < c
      · have HN := Lib.hid (fun w => scanNew_long (blanks c) (by rw [blanks_size]; omega) (by rw [blanks_size]; unfold maxLen; omega) w)
        generalize blanks c = s at *
        go_enter Tryd.func5, Tryd.ntmps5
        go_wp2_with fail
        refine (awake3_any _ hg).mono ?_
        rintro e w1 ⟨rfl, b1⟩
        go_wp2_with fail
        refine (HRP.out _).mono ?_
        rintro e w2 ⟨rfl, b2⟩
        have B2 := Lib.hid (b1.trans (b2.mono b1.size))
        go_wp2_with fail
        refine (HN.out _).mono ?_
        rintro e w3 ⟨v, rfl, hv, b3⟩
        have B3 := Lib.hid (B2.out.trans (b3.mono B2.out.size))
        have B4 := Lib.hid (B3.out.trans ((below_new w3 (.cells #[.string ⟨#[]⟩, .int .i64 0] 25)).mono B3.out.size))
        have HV := Lib.hid (hv.keep (below_new w3 (.cells #[.string ⟨#[]⟩, .int .i64 0] 25)))
        clear hv
        go_wp2_with fail
        refine (lawIs_err v 5 65536 _ HV.out (hg.below B4.out)).mono ?_
        rintro e w5 ⟨rfl, b5⟩
        go_wp2_with fail
        go_ret
        exact ⟨rfl, B4.out.trans (b5.mono B4.out.size)⟩
      · have HN := Lib.hid (fun w => scanNew_any (blanks c) (by rw [blanks_size]; omega) w)
        have HS := Lib.hid (fun w => skip_any (blanks c) 0 (by rw [blanks_size]; omega) (Nat.zero_le _) w)
        rw [runTo_blanks] at HS
        have HE := Lib.hid (fun w => end_any (blanks c) c w)
        rw [show decide (c = (blanks c).size) = true by rw [blanks_size]; exact decide_eq_true rfl] at HE
        generalize blanks c = s at *
        go_enter Tryd.func5, Tryd.ntmps5
        go_wp2_with fail
        refine (awake3_any _ hg).mono ?_
        rintro e w1 ⟨rfl, b1⟩
        go_wp2_with fail
        refine (HRP.out _).mono ?_
        rintro e w2 ⟨rfl, b2⟩
        have B2 := Lib.hid (b1.trans (b2.mono b1.size))
        go_wp2_with fail
        refine (HN.out _).mono ?_
        rintro e w3 ⟨rfl, b3⟩
        have B3 := Lib.hid (B2.out.trans (b3.mono B2.out.size))
        have hs4 := ScanAt.new w3 s 0 25
        have B4 := Lib.hid (B3.out.trans ((below_new w3 (.cells #[.string s, .int .i64 0] 25)).mono B3.out.size))
        have HL := Lib.hid B3.out.size
        go_wp2_with fail
        generalize w3.alloc (.cells #[.string s, .int .i64 0] 25) = w4 at *
        generalize w3.heap.size = q at *
        refine (HS.out _).mono ?_
        rintro e w5 ⟨rfl, b5⟩
        have hs5 := hs4.step b5
        have B5 := Lib.hid (B4.out.trans (b5.mono B4.out.size))
        have hs6 := hs5.set s c
        have B6 := Lib.hid ((B5.out.setCell (p := ⟨q, 0, none⟩) HL.out (.string s)).setCell (p := ⟨q, 1, none⟩) HL.out (.int .i64 c))
        obtain ⟨l5, c0, c1, cf⟩ := hs5
        have HS6 := Lib.hid hs6
        clear hs4 hs6
        go_wp2_with fail
        generalize (w5.setCell ⟨q, 0, none⟩ (.string s)).setCell ⟨q, 1, none⟩ (.int .i64 c) = w6 at *
        clear c0 c1 cf
        obtain ⟨l6, d0, d1, df⟩ := HS6.out
        go_wp2_with fail
        refine (at_any s c _).mono ?_
        rintro e w7 ⟨rfl, b7⟩
        have B7 := Lib.hid (B6.out.trans (b7.mono B6.out.size))
        obtain ⟨l7, e0, e1, ef⟩ := HS6.out.step b7
        go_wp2_with fail
        refine (HE.out _).mono ?_
        rintro e w8 ⟨rfl, b8⟩
        go_wp2_with fail
        go_ret
        exact ⟨rfl, B7.out.trans (b8.mono B7.out.size)⟩
end Go.Proofs.YtcnaffhdiodkhaaDoor
