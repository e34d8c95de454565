/-
  The statement WeighCosts, proved: for every weight and two paths, and in whatever memory, the law answers true and each argument reads afterwards as it did; what it lists of package-level variables is tied to the program's text.
-/
import Derived.Test.YtogbocgjijhmgaaGreatDoorLift5
import Derived.Test.YtogbocgjijhmgaaGreatDoorWgO
namespace Go.Proofs.YtogbocgjijhmgaaGreatDoor
open Go.ChangeShapes Go.WideShapes Go.ChangeAt Go.RowKit

set_option maxRecDepth 100000 in
theorem weighCosts_lifted (os : Os) (started : os.Started) (H : Type) (enc : TypeId × Value → H) :
    ReturnsInHanded {} Tryz.checked os 8 .any (fun w args => (Rows.weighCostsSpec.pre enc Tryz.prog Tryz.f8 [] false w args ∧ laidMetH Tryz.prog lone5 w) ∧ sizedMet enc Tryz.prog Tryz.f8 (OpenSpec.ofChange Rows.weighCostsSpec) false w args)
      (Rows.weighCostsSpec.post enc Tryz.prog Tryz.f8 false true false false) := by
  refine returnsInHanded_of_change_and (C := Tryz.checked) (X := fun w _ => laidMetH Tryz.prog lone5 w) (fun _ _ _ hh h => h.of_heap hh) Tryz.own started (by kernel_rfl) Tryz.func8
    (ChangeSpec.witness_shaped (enc := enc) (C := Tryz.checked) (os := os) (X := fun w _ => laidMetH Tryz.prog lone5 w) false (laidWorld5 os) #[.agg #[.int .u64 0, .int .u64 0, .int .u64 0], .int .u64 0, .int .u64 0, .int .u64 0, .int .u64 0, .int .u64 0, .int .u64 0] 8 rfl (World.shaped_of_RefB (by kernel_rfl) (by kernel_rfl)) (by kernel_rfl) (by kernel_rfl) (by kernel_rfl) (laidWorld5_met os _)) ?_
  intro W base args ds gs before hval0 hW _ _ hL _
  have hval : ∀ (j : Nat) t v, Tryz.f8.params[j]? = some t → args[j]? = some v → Value.okWide Tryz.prog W .any base t v := hval0
  have hW' := hW
  obtain ⟨p, q, hA0, hV, rfl, hfz, hnd⟩ := hW
  have hA : DataW.TrodAll enc Tryz.prog W 0 (fun _ => true) true Tryz.f8.params.toList args.toList ds p := hA0
  rw [Tryz.params8] at hA hval
  obtain ⟨v0, vs0, d0, ds0, p0, q0, hargs, rfl, rfl, h0, hr0⟩ := trodAll_cons hA
  obtain ⟨v1, vs1, d1, ds1, p1, q1, rfl, rfl, rfl, h1, hr1⟩ := trodAll_cons hr0
  obtain ⟨v2, vs2, d2, ds2, p2, q2, rfl, rfl, rfl, h2, hr2⟩ := trodAll_cons hr1
  obtain ⟨v3, vs3, d3, ds3, p3, q3, rfl, rfl, rfl, h3, hr3⟩ := trodAll_cons hr2
  obtain ⟨v4, vs4, d4, ds4, p4, q4, rfl, rfl, rfl, h4, hr4⟩ := trodAll_cons hr3
  obtain ⟨v5, vs5, d5, ds5, p5, q5, rfl, rfl, rfl, h5, hr5⟩ := trodAll_cons hr4
  obtain ⟨v6, vs6, d6, ds6, p6, q6, rfl, rfl, rfl, h6, hr6⟩ := trodAll_cons hr5
  obtain ⟨rfl, rfl, rfl⟩ := trodAll_nil hr6
  obtain rfl : args = #[v0, v1, v2, v3, v4, v5, v6] := by cases args; simp_all
  obtain ⟨x, y, z, rfl⟩ := weight_of_trod h0
  obtain ⟨a, rfl, rfl, rfl, wa⟩ := open_int Tryz.underlying53 (hval 1 53 v1 rfl rfl) h1
  obtain ⟨na, rfl⟩ := u64_nat wa
  obtain ⟨b, rfl, rfl, rfl, wb⟩ := open_int Tryz.underlying53 (hval 2 53 v2 rfl rfl) h2
  obtain ⟨nb, rfl⟩ := u64_nat wb
  obtain ⟨c, rfl, rfl, rfl, wc⟩ := open_int Tryz.underlying53 (hval 3 53 v3 rfl rfl) h3
  obtain ⟨nc, rfl⟩ := u64_nat wc
  obtain ⟨d, rfl, rfl, rfl, wd⟩ := open_int Tryz.underlying53 (hval 4 53 v4 rfl rfl) h4
  obtain ⟨nd, rfl⟩ := u64_nat wd
  obtain ⟨e, rfl, rfl, rfl, we⟩ := open_int Tryz.underlying53 (hval 5 53 v5 rfl rfl) h5
  obtain ⟨ne, rfl⟩ := u64_nat we
  obtain ⟨f, rfl, rfl, rfl, wf⟩ := open_int Tryz.underlying53 (hval 6 53 v6 rfl rfl) h6
  obtain ⟨nf, rfl⟩ := u64_nat wf
  refine (weighCosts_any x y z na nb nc nd ne nf (by omega) (by omega) (by omega) (by omega) (by omega) (by omega) (by omega) (by omega) (by omega) W (lk_of_laid5 hL)).mono fun e W' ⟨he, hb⟩ => ?_
  subst he
  exact ⟨_, rfl, law_post (by kernel_rfl) rfl (by rw [Tryz.params8]; decide +kernel) hW' hb (by simp [Rows.weighCostsSpec]) (by simp [Rows.weighCostsSpec]) (by simp [Rows.weighCostsSpec])⟩

theorem weighCosts_holds : Rows.WeighCostsSaid :=
  OpenClaim.holds_of_wide 8 Tryz.f8 rfl rfl rfl rfl rfl rfl rfl ⟨rfl, rfl, rfl, rfl, rfl⟩ rfl rfl rfl rfl rfl (by kernel_rfl) Tryz.func8 (by kernel_rfl)
    (of_decide_eq_true (by kernel_rfl)) (by unfold Func.isWrapper; rw [if_neg (of_decide_eq_false (by kernel_rfl))]; exact ⟨rfl, rfl⟩)
    (fun os started H enc _ => weighCosts_lifted os started H enc)

theorem weighCosts_card : Rows.WeighCostsCardSaid :=
  Claim7.holds_tied_plain_at .later [] [.data, .data, .data, .handle, .data] true Rows.weighCostsCard.stood.harness true
    weighCosts_holds (fun _ h => by cases h) (by kernel_rfl) (fun _ h => by cases h) weighCosts_row_tie rfl ⟨rfl, rfl⟩ (by kernel_rfl) rfl
    (fun f fn hf hfn => by
      obtain rfl : f = 8 := Option.some.inj ((show Tryz.prog.funcNamed "fairlead/fairleadlaw20.WeighCosts" = some 8 by kernel_rfl).symm.trans hf) |>.symm
      obtain rfl : fn = Tryz.f8 := (Option.some.inj (Tryz.func8.symm.trans hfn)).symm
      exact ⟨by kernel_rfl, fun j t ht => by
        have hk : ∀ t ∈ Tryz.f8.params.toList, Tryz.prog.wantsStandIn t = false := by rw [Tryz.params8]; decide +kernel
        exact hk t (by
          obtain ⟨hj, e⟩ := Array.getElem?_eq_some_iff.1 ht
          rw [← e]
          simp)⟩)
    (by kernel_rfl)
#print axioms weighCosts_card
end Go.Proofs.YtogbocgjijhmgaaGreatDoor
