/-
  The statements' words on rows of names: Is.
-/
import Derived.Test.YtcnaffhdiodkhaaDoorNamesD
namespace Go.Proofs.YtcnaffhdiodkhaaDoor
open Go.RowKit Go.Extern.Stop Go.Stop Go.Extern

structure IsRel (A : Option Addr) (n c b0 : Nat) (w0 : World) (k : Nat) (i : Value) (wr : World) : Prop where
  ex : ∃ j : Nat, j ≤ n ∧ k = n - j ∧ i = .int .i64 j ∧ BoxAt wr b0 A n c
  below : Below w0.heap.size w0 wr

set_option maxRecDepth 100000 in
set_option maxHeartbeats 1600000 in
theorem is4_any (l : List ByteArray) (v v2 : Value) (w : World) (hv : RowAt w v l) (hv2 : RowAt w v2 l) (hr : Rises l) (hlen : l.length ≤ 1000) :
    Calls Tryd.prog 32 #[.agg #[v], v2] w fun e w' => e = .returned (.bool true) ∧ Below w.heap.size w w' := by
  have HALL := Lib.hid (fun w' h => nall_any l v w' h hlen)
  have HFIND := Lib.hid (fun x w' h => nfind_any l v x w' h hr hlen)
  have HNIN := Lib.hid (fun i h w' hv => nname_in l v i h w' hv)
  have HV := Lib.hid hv
  have HV2 := Lib.hid hv2
  obtain ⟨A, c, rfl, -, -⟩ := hv
  obtain ⟨A2, c2, rfl, -, hc2⟩ := hv2
  have HC := Lib.hid hc2
  clear hc2
  have hnn : ((l.length : Int) != (l.length : Int)) = false := by simp
  have HB0 := Lib.hid (below_new w (.cells #[.slice A l.length c] 58))
  have HX0 := Lib.hid (BoxAt.new w A l.length c 58)
  go_enter Tryd.func32, Tryd.ntmps32
  go_wp2_with fail
  generalize w.alloc (.cells #[.slice A l.length c] 58) = w0 at *
  refine (nlen_any A l.length c _).mono ?_
  rintro e w1 ⟨rfl, b1⟩
  have HB1 := Lib.hid (HB0.out.trans (b1.mono HB0.out.size))
  have HX1 := Lib.hid (HX0.out.step b1)
  obtain ⟨l1, x1, -⟩ := HX1.out
  go_wp2_with fail
  refine (HALL.out _ (HV.out.keep HB1.out)).mono ?_
  rintro e w2 ⟨v', rfl, hown, b2, h0⟩
  have HB2 := Lib.hid (HB1.out.trans (b2.mono HB1.out.size))
  have HX2 := Lib.hid (HX1.out.step b2)
  have hs := strs_own hown
  have HQ := Lib.hid (equalS_any v' (.slice A2 l.length c2) l l w2 hs (HV2.out.keep HB2.out).strs hlen)
  rw [decide_eq_true rfl] at HQ
  clear h0 hs
  rcases hown with ⟨-, ⟨rfl, -⟩ | ⟨g, cap, cur, rfl, -⟩⟩
  all_goals
    go_wp2_with fail
    refine HQ.out.mono ?_
    rintro e w' ⟨rfl, m, rfl⟩
    have HB3 := Lib.hid (HB2.out.trans ((below_drewN w2 m).mono HB2.out.size))
    have HX3 := Lib.hid (HX2.out.step (below_drewN w2 m))
    obtain ⟨l3, x3, -⟩ := HX3.out
    go_wp2_with fail
    refine (nname_low A l.length c (-1) (by decide) _).mono ?_
    rintro e w4 ⟨rfl, b4⟩
    have HB4 := Lib.hid (HB3.out.trans (b4.mono HB3.out.size))
    have HX4 := Lib.hid (HX3.out.step b4)
    obtain ⟨l4, x4, -⟩ := HX4.out
    go_wp2_with fail
    refine (nname_high A l.length c l.length (Nat.le_refl _) _).mono ?_
    rintro e w5 ⟨rfl, b5⟩
    have HB5 := Lib.hid (HB4.out.trans (b5.mono HB4.out.size))
    have HX5 := Lib.hid (HX4.out.step b5)
    have H0 : Hid (IsRel A l.length c w.heap.size w l.length (.int .i64 0) w5) := Lib.hid ⟨⟨0, Nat.zero_le _, rfl, rfl, HX5.out⟩, HB5.out⟩
    go_wp2_with fail
    go_loopg [35] l.length (fun k i wr => IsRel A l.length c w.heap.size w k i wr)
    case atStart => exact H0.out
    case round =>
      obtain ⟨⟨j, hj, hk, rfl, hbox⟩, hbel⟩ := hrel
      have HK := Lib.hid hk
      have HX6 := Lib.hid hbox
      clear hk hbox
      obtain ⟨l6, x6, -⟩ := HX6.out
      by_cases hlt : j < l.length
      · obtain ⟨b, rfl, hb, hcell⟩ := HC.out j hlt
        have hcell' := (hbel.cell (p := ⟨b, j, none⟩) hb).trans hcell
        clear hcell
        have hpg := posOf_get hr j hlt
        have HF := Lib.hid (fun w' h => HFIND.out (l.getD j ⟨#[]⟩) w' h)
        rw [show findK l (l.getD j ⟨#[]⟩) = j by unfold findK; rw [if_pos hpg.2]; exact hpg.1, hpg.2] at HF
        have HI := Lib.hid (fun w' h => HNIN.out j hlt w' h)
        clear hpg
        generalize l.getD j ⟨#[]⟩ = y at *
        go_wp2_with fail
        refine (HF.out _ (HV.out.keep hbel)).mono ?_
        rintro e w7 ⟨rfl, b7⟩
        have HB7 := Lib.hid (hbel.trans (b7.mono hbel.size))
        have HX7 := Lib.hid (HX6.out.step b7)
        obtain ⟨l7, x7, -⟩ := HX7.out
        have hjj : ((j : Int) != (j : Int)) = false := by simp
        go_wp2_with fail
        refine (HI.out _ (HV.out.keep HB7.out)).mono ?_
        rintro e w8 ⟨rfl, b8⟩
        have HB8 := Lib.hid (HB7.out.trans (b8.mono HB7.out.size))
        have HX8 := Lib.hid (HX7.out.step b8)
        go_wp2_with fail
        go_roundg (l.length - (j + 1))
        case measure => have := HK.out; omega
        case rel => exact ⟨⟨j + 1, by omega, rfl, by go_num, HX8.out⟩, HB8.out⟩
      · go_wp2_with fail
        go_ret
        exact ⟨rfl, hbel⟩
end Go.Proofs.YtcnaffhdiodkhaaDoor
