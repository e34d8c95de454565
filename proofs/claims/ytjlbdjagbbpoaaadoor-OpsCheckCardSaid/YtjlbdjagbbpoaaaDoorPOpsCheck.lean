/-
  The statement OpsCheck, proved: for every list of kinds, label and chain, and in whatever memory, the law answers true and each argument reads afterwards as it did; what it lists of package-level variables is tied to the program's text.
-/
import Derived.Test.YtjlbdjagbbpoaaaDoorLiftF
import Derived.Test.YtjlbdjagbbpoaaaDoorOpQ
import Derived.Test.YtjlbdjagbbpoaaaDoorLiftG
namespace Go.Proofs.YtjlbdjagbbpoaaaDoor
open Go.ChangeShapes Go.WideShapes Go.ChangeAt Go.RowKit

set_option maxRecDepth 100000 in
theorem opsCheck_lifted (os : Os) (started : os.Started) (H : Type) (enc : TypeId × Value → H) :
    ReturnsInHanded {} Tryd.checked os 8 .any (fun w args => (Rows.opsCheckSpec.pre enc Tryd.prog Tryd.f8 [] false w args ∧ laidMetH Tryd.prog loneH w) ∧ sizedMet enc Tryd.prog Tryd.f8 (OpenSpec.ofChange Rows.opsCheckSpec) false w args)
      (Rows.opsCheckSpec.post enc Tryd.prog Tryd.f8 false true false false) := by
  refine returnsInHanded_of_change_and (C := Tryd.checked) (X := fun w _ => laidMetH Tryd.prog loneH w) (fun _ _ _ hh h => h.of_heap hh) Tryd.own started (by kernel_rfl) Tryd.func8
    (ChangeSpec.witness_shaped (enc := enc) (C := Tryd.checked) (os := os) (X := fun w _ => laidMetH Tryd.prog loneH w) false (laidWorldT os) #[.slice none 0 0, .int .i64 0, .slice none 0 0] 8 rfl (World.shaped_of_RefB (by kernel_rfl) (by kernel_rfl)) (by kernel_rfl) (by kernel_rfl) (by kernel_rfl) (laidWorldT_metH os _)) ?_
  intro W base args ds gs before hval0 hW _ _ hL _
  have hval : ∀ (j : Nat) t v, Tryd.f8.params[j]? = some t → args[j]? = some v → Value.okWide Tryd.prog W .any base t v := hval0
  have hW' := hW
  obtain ⟨p, q, hA0, hV, rfl, hfz, hnd⟩ := hW
  have hA : DataW.TrodAll enc Tryd.prog W 0 (fun _ => true) true Tryd.f8.params.toList args.toList ds p := hA0
  rw [Tryd.params8] at hA hval
  obtain ⟨v0, v1, v2, d0, d1, d2, p0, p1, p2, rfl, rfl, rfl, h0, h1, h2⟩ := trodAll_three hA
  have hlt0 : ∀ x ∈ p0, x.block < W.heap.size := fun x hx => hW'.lt x (by simp [hx])
  obtain ⟨⟨ks, hs0⟩, hc0⟩ := intsC_of_trod (okWide_slice Tryd.underlying22 (hval 0 22 v0 rfl rfl)) h0 hlt0
  obtain ⟨t, rfl, rfl, rfl, wt⟩ := open_int Tryd.underlying3 (hval 1 3 v1 rfl rfl) h1
  obtain ⟨c, hs2⟩ := ops_of_trod (okWide_slice Tryd.underlying41 (hval 2 41 v2 rfl rfl)) h2
  refine (opsCheck_any ks t c v0 v2 W hs0 hs2 (tab_of_laidH hL) (handle_of_laidH hL)).mono fun e W' ⟨he, hb⟩ => ?_
  subst he
  exact ⟨_, rfl, law_post (by kernel_rfl) rfl (by rw [Tryd.params8]; decide +kernel) hW' hb (by simp [Rows.opsCheckSpec]) (by simp [Rows.opsCheckSpec]) (by simp [Rows.opsCheckSpec])⟩

theorem opsCheck_holds : Rows.OpsCheckSaid :=
  OpenClaim.holds_of_wide 8 Tryd.f8 rfl rfl rfl rfl rfl rfl rfl ⟨rfl, rfl, rfl, rfl, rfl⟩ rfl rfl rfl rfl rfl (by kernel_rfl) Tryd.func8 (by kernel_rfl)
    (of_decide_eq_true (by kernel_rfl)) (by unfold Func.isWrapper; rw [if_neg (of_decide_eq_false (by kernel_rfl))]; exact ⟨rfl, rfl⟩)
    (fun os started H enc _ => opsCheck_lifted os started H enc)

theorem opsCheck_card : Rows.OpsCheckCardSaid :=
  Claim7.holds_tied_plain_at .later [] [.data, .handle] true Rows.opsCheckCard.stood.harness true
    opsCheck_holds (fun _ h => by cases h) (by kernel_rfl) (fun _ h => by cases h) opsCheck_row_tie rfl ⟨rfl, rfl⟩ (by kernel_rfl) rfl
    (fun f fn hf hfn => by
      obtain rfl : f = 8 := Option.some.inj ((show Tryd.prog.funcNamed "fairlead/fairleadlaw10.OpsCheck" = some 8 by kernel_rfl).symm.trans hf) |>.symm
      obtain rfl : fn = Tryd.f8 := (Option.some.inj (Tryd.func8.symm.trans hfn)).symm
      exact ⟨by kernel_rfl, fun j t ht => by
        have hk : ∀ t ∈ Tryd.f8.params.toList, Tryd.prog.wantsStandIn t = false := by rw [Tryd.params8]; decide +kernel
        exact hk t (by
          obtain ⟨hj, e⟩ := Array.getElem?_eq_some_iff.1 ht
          rw [← e]
          simp)⟩)
    (by kernel_rfl)
#print axioms opsCheck_card
end Go.Proofs.YtjlbdjagbbpoaaaDoor
