/-
  The statement BitsWalks, proved: for every set and number, and in whatever memory, the law answers true and each argument reads afterwards as it did; what it lists of package-level variables is tied to the program's text.
-/
import Derived.Test.YtplfnhnipdfglaaDoorLiftD
import Derived.Test.YtplfnhnipdfglaaDoorBitJ
namespace Go.Proofs.YtplfnhnipdfglaaDoor
open Go.ChangeShapes Go.WideShapes Go.ChangeAt Go.RowKit

set_option maxRecDepth 100000 in
theorem bitsWalks_lifted (os : Os) (started : os.Started) (H : Type) (enc : TypeId × Value → H) :
    ReturnsInHanded {} Tryd.checked os 6 .any (fun w args => (Rows.bitsWalksSpec.pre enc Tryd.prog Tryd.f6 [] false w args ∧ laidMetH Tryd.prog loneT w) ∧ sizedMet enc Tryd.prog Tryd.f6 (OpenSpec.ofChange Rows.bitsWalksSpec) false w args)
      (Rows.bitsWalksSpec.post enc Tryd.prog Tryd.f6 false true false false) := by
  refine returnsInHanded_of_change_and (C := Tryd.checked) (X := fun w _ => laidMetH Tryd.prog loneT w) (fun _ _ _ hh h => h.of_heap hh) Tryd.own started (by kernel_rfl) Tryd.func6
    (ChangeSpec.witness_shaped (enc := enc) (C := Tryd.checked) (os := os) (X := fun w _ => laidMetH Tryd.prog loneT w) false (laidWorldT os) #[.agg #[.int .u64 0, .int .u64 0], .int .u8 0] 8 rfl (World.shaped_of_RefB (by kernel_rfl) (by kernel_rfl)) (by kernel_rfl) (by kernel_rfl) (by kernel_rfl) (laidWorldT_met os _)) ?_
  intro W base args ds gs before hval0 hW _ _ hL _
  have hval : ∀ (j : Nat) t v, Tryd.f6.params[j]? = some t → args[j]? = some v → Value.okWide Tryd.prog W .any base t v := hval0
  have hW' := hW
  obtain ⟨p, q, hA0, hV, rfl, hfz, hnd⟩ := hW
  have hA : DataW.TrodAll enc Tryd.prog W 0 (fun _ => true) true Tryd.f6.params.toList args.toList ds p := hA0
  rw [Tryd.params6] at hA hval
  obtain ⟨v0, v1, d0, d1, p0, p1, rfl, rfl, rfl, h0, h1⟩ := trodAll_two hA
  obtain ⟨a, b, rfl, ua, ub⟩ := set_of_trod h0
  obtain ⟨n, rfl, rfl, rfl, wn⟩ := open_int Tryd.underlying5 (hval 1 5 v1 rfl rfl) h1
  obtain ⟨k, rfl⟩ := Int.eq_ofNat_of_zero_le (u8_bd wn).1
  refine (bitsWalks_any a b ua ub k (by have := (u8_bd wn).2; omega) W (tab_of_laid hL)).mono fun e W' ⟨he, hb⟩ => ?_
  subst he
  exact ⟨_, rfl, law_post (by kernel_rfl) rfl (by rw [Tryd.params6]; decide +kernel) hW' hb (by simp [Rows.bitsWalksSpec]) (by simp [Rows.bitsWalksSpec]) (by simp [Rows.bitsWalksSpec])⟩

theorem bitsWalks_holds : Rows.BitsWalksSaid :=
  OpenClaim.holds_of_wide 6 Tryd.f6 rfl rfl rfl rfl rfl rfl rfl ⟨rfl, rfl, rfl, rfl, rfl⟩ rfl rfl rfl rfl rfl (by kernel_rfl) Tryd.func6 (by kernel_rfl)
    (of_decide_eq_true (by kernel_rfl)) (by unfold Func.isWrapper; rw [if_neg (of_decide_eq_false (by kernel_rfl))]; exact ⟨rfl, rfl⟩)
    (fun os started H enc _ => bitsWalks_lifted os started H enc)

theorem bitsWalks_card : Rows.BitsWalksCardSaid :=
  Claim7.holds_tied_plain_at .later [] [.data] true Rows.bitsWalksCard.stood.harness false
    bitsWalks_holds (fun _ h => by cases h) (by kernel_rfl) (fun _ h => by cases h) bitsWalks_row_tie rfl ⟨rfl, rfl⟩ (by kernel_rfl) rfl
    (fun f fn hf hfn => by
      obtain rfl : f = 6 := Option.some.inj ((show Tryd.prog.funcNamed "fairlead/fairleadlaw07.BitsWalks" = some 6 by kernel_rfl).symm.trans hf) |>.symm
      obtain rfl : fn = Tryd.f6 := (Option.some.inj (Tryd.func6.symm.trans hfn)).symm
      exact ⟨by kernel_rfl, fun j t ht => by
        have hk : ∀ t ∈ Tryd.f6.params.toList, Tryd.prog.wantsStandIn t = false := by rw [Tryd.params6]; decide +kernel
        exact hk t (by
          obtain ⟨hj, e⟩ := Array.getElem?_eq_some_iff.1 ht
          rw [← e]
          simp)⟩)
    (by kernel_rfl)
#print axioms bitsWalks_card
end Go.Proofs.YtplfnhnipdfglaaDoor
