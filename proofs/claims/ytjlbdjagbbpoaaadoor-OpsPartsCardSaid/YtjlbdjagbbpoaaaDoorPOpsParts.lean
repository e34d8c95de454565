/-
  The statement OpsParts, proved: for every list of kinds, header and two chains, and in whatever memory, the law answers true and each argument reads afterwards as it did; what it lists of package-level variables is tied to the program's text.
-/
import Derived.Test.YtjlbdjagbbpoaaaDoorLiftF
import Derived.Test.YtjlbdjagbbpoaaaDoorOpN
import Derived.Test.YtjlbdjagbbpoaaaDoorLiftG
namespace Go.Proofs.YtjlbdjagbbpoaaaDoor
open Go.ChangeShapes Go.WideShapes Go.ChangeAt Go.RowKit

set_option maxRecDepth 100000 in
theorem opsParts_lifted (os : Os) (started : os.Started) (H : Type) (enc : TypeId × Value → H) :
    ReturnsInHanded {} Tryd.checked os 10 .any (fun w args => (Rows.opsPartsSpec.pre enc Tryd.prog Tryd.f10 [] false w args ∧ laidMetH Tryd.prog loneH w) ∧ sizedMet enc Tryd.prog Tryd.f10 (OpenSpec.ofChange Rows.opsPartsSpec) false w args)
      (Rows.opsPartsSpec.post enc Tryd.prog Tryd.f10 false true false false) := by
  refine returnsInHanded_of_change_and (C := Tryd.checked) (X := fun w _ => laidMetH Tryd.prog loneH w) (fun _ _ _ hh h => h.of_heap hh) Tryd.own started (by kernel_rfl) Tryd.func10
    (ChangeSpec.witness_shaped (enc := enc) (C := Tryd.checked) (os := os) (X := fun w _ => laidMetH Tryd.prog loneH w) false (laidWorldT os) #[.slice none 0 0, .slice none 0 0, .slice none 0 0, .slice none 0 0] 8 rfl (World.shaped_of_RefB (by kernel_rfl) (by kernel_rfl)) (by kernel_rfl) (by kernel_rfl) (by kernel_rfl) (laidWorldT_metH os _)) ?_
  intro W base args ds gs before hval0 hW _ _ hL _
  have hval : ∀ (j : Nat) t v, Tryd.f10.params[j]? = some t → args[j]? = some v → Value.okWide Tryd.prog W .any base t v := hval0
  have hW' := hW
  obtain ⟨p, q, hA0, hV, rfl, hfz, hnd⟩ := hW
  have hA : DataW.TrodAll enc Tryd.prog W 0 (fun _ => true) true Tryd.f10.params.toList args.toList ds p := hA0
  rw [Tryd.params10] at hA hval
  obtain ⟨v0, v1, v2, v3, d0, d1, d2, d3, p0, p1, p2, p3, rfl, rfl, rfl, h0, h1, h2, h3⟩ := trodAll_four hA
  have hlt0 : ∀ x ∈ p0, x.block < W.heap.size := fun x hx => hW'.lt x (by simp [hx])
  obtain ⟨⟨ks, hs0⟩, hc0⟩ := intsC_of_trod (okWide_slice Tryd.underlying22 (hval 0 22 v0 rfl rfl)) h0 hlt0
  have hlt1 : ∀ x ∈ p1, x.block < W.heap.size := fun x hx => hW'.lt x (by simp [hx])
  obtain ⟨⟨l, hs1⟩, hc1⟩ := intsC_of_trod (okWide_slice Tryd.underlying22 (hval 1 22 v1 rfl rfl)) h1 hlt1
  obtain ⟨a, hs2⟩ := ops_of_trod (okWide_slice Tryd.underlying41 (hval 2 41 v2 rfl rfl)) h2
  obtain ⟨b, hs3⟩ := ops_of_trod (okWide_slice Tryd.underlying41 (hval 3 41 v3 rfl rfl)) h3
  refine (opsParts_any ks l a b v0 v1 v2 v3 W hs0 hs1 hs2 hs3 (tab_of_laidH hL) (handle_of_laidH hL)).mono fun e W' ⟨he, hb⟩ => ?_
  subst he
  exact ⟨_, rfl, law_post (by kernel_rfl) rfl (by rw [Tryd.params10]; decide +kernel) hW' hb (by simp [Rows.opsPartsSpec]) (by simp [Rows.opsPartsSpec]) (by simp [Rows.opsPartsSpec])⟩

theorem opsParts_holds : Rows.OpsPartsSaid :=
  OpenClaim.holds_of_wide 10 Tryd.f10 rfl rfl rfl rfl rfl rfl rfl ⟨rfl, rfl, rfl, rfl, rfl⟩ rfl rfl rfl rfl rfl (by kernel_rfl) Tryd.func10 (by kernel_rfl)
    (of_decide_eq_true (by kernel_rfl)) (by unfold Func.isWrapper; rw [if_neg (of_decide_eq_false (by kernel_rfl))]; exact ⟨rfl, rfl⟩)
    (fun os started H enc _ => opsParts_lifted os started H enc)

theorem opsParts_card : Rows.OpsPartsCardSaid :=
  Claim7.holds_tied_plain_at .later [] [.data, .handle] true Rows.opsPartsCard.stood.harness true
    opsParts_holds (fun _ h => by cases h) (by kernel_rfl) (fun _ h => by cases h) opsParts_row_tie rfl ⟨rfl, rfl⟩ (by kernel_rfl) rfl
    (fun f fn hf hfn => by
      obtain rfl : f = 10 := Option.some.inj ((show Tryd.prog.funcNamed "fairlead/fairleadlaw10.OpsParts" = some 10 by kernel_rfl).symm.trans hf) |>.symm
      obtain rfl : fn = Tryd.f10 := (Option.some.inj (Tryd.func10.symm.trans hfn)).symm
      exact ⟨by kernel_rfl, fun j t ht => by
        have hk : ∀ t ∈ Tryd.f10.params.toList, Tryd.prog.wantsStandIn t = false := by rw [Tryd.params10]; decide +kernel
        exact hk t (by
          obtain ⟨hj, e⟩ := Array.getElem?_eq_some_iff.1 ht
          rw [← e]
          simp)⟩)
    (by kernel_rfl)
#print axioms opsParts_card
end Go.Proofs.YtjlbdjagbbpoaaaDoor
