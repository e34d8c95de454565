/-
  The statement NfaAccepts, proved: for every automaton and row, and in whatever memory, the law answers true and each argument reads afterwards as it did; what it lists of package-level variables is tied to the program's text.
-/
import Derived.Test.YtbhkfifmgbcknaaGreatDoorG35
import Derived.Test.YtbhkfifmgbcknaaGreatDoorG39
import Derived.Test.YtbhkfifmgbcknaaGreatDoorFcNfA
import Derived.Test.YtbhkfifmgbcknaaGreatDoorFgNfA
set_option linter.unusedSimpArgs false
set_option linter.unusedVariables false
namespace Go.Proofs.YtbhkfifmgbcknaaGreatDoor
open Go.ChangeShapes Go.WideShapes Go.ChangeAt Go.RowKit
set_option maxRecDepth 100000 in
theorem nfaAccepts_lifted (os : Os) (started : os.Started) (H : Type) (enc : TypeId × Value → H) :
    ReturnsInHanded {} Tryz.checked os 3 .any (fun w args => (Rows.nfaAcceptsSpec.pre enc Tryz.prog Tryz.f3 [] false w args ∧ laidMetH Tryz.prog loneQ w) ∧ sizedMet enc Tryz.prog Tryz.f3 (OpenSpec.ofChange Rows.nfaAcceptsSpec) false w args)
      (Rows.nfaAcceptsSpec.post enc Tryz.prog Tryz.f3 false true false false) := by
  refine returnsInHanded_of_change_and (C := Tryz.checked) (X := fun w _ => laidMetH Tryz.prog loneQ w) (fun _ _ _ hh h => h.of_heap hh) Tryz.own started (by kernel_rfl) Tryz.func3
    (ChangeSpec.witness_shaped (enc := enc) (C := Tryz.checked) (os := os) (X := fun w _ => laidMetH Tryz.prog loneQ w) false (laidWorldT os) #[.agg #[.slice none 0 0, .slice none 0 0, .slice none 0 0], .slice none 0 0] 8 rfl (World.shaped_of_RefB (by kernel_rfl) (by kernel_rfl)) (by kernel_rfl) (by kernel_rfl) (by kernel_rfl) (laidWorldT_metQ os _)) ?_
  intro W base args ds gs before hval0 hW _ _ hL _
  have hval : ∀ (j : Nat) t v, Tryz.f3.params[j]? = some t → args[j]? = some v → Value.okWide Tryz.prog W .any base t v := hval0
  have hW' := hW
  obtain ⟨p, q, hA0, hV, rfl, hfz, hnd⟩ := hW
  have hA : DataW.TrodAll enc Tryz.prog W 0 (fun _ => true) true Tryz.f3.params.toList args.toList ds p := hA0
  rw [Tryz.params3] at hA hval
  obtain ⟨v0, v1, d0, d1, p0, p1, rfl, rfl, rfl, h0, h1⟩ := trodAll_two hA
  obtain ⟨oa, oc, na, nc, fa, fc, ss, nxs, fs, rfl, hs, h64, hn, hf⟩ := nfa_of_trod h0
  obtain ⟨row, hr⟩ := intsN_of_trod (okWide_slice Tryz.underlying27 (hval 1 27 v1 rfl rfl)) h1
  obtain ⟨ra, rc, rfl⟩ := hr.form
  refine (nfaAcc_any oa fa na ra oc fc nc rc ss nxs fs row W hs hn hf hr h64 (handle_of_laidQ hL) (tab_of_laidQ hL)).mono fun e W' ⟨he, hb⟩ => ?_
  subst he
  exact ⟨_, rfl, law_post (by kernel_rfl) rfl (by rw [Tryz.params3]; decide +kernel) hW' hb (by simp [Rows.nfaAcceptsSpec]) (by simp [Rows.nfaAcceptsSpec]) (by simp [Rows.nfaAcceptsSpec])⟩
theorem nfaAccepts_holds : Rows.NfaAcceptsSaid :=
  OpenClaim.holds_of_wide 3 Tryz.f3 rfl rfl rfl rfl rfl rfl rfl ⟨rfl, rfl, rfl, rfl, rfl⟩ rfl rfl rfl rfl rfl nfaAccepts_fn Tryz.func3 nfaAccepts_closed
    (of_decide_eq_true (by kernel_rfl)) (by unfold Func.isWrapper; rw [if_neg (of_decide_eq_false (by kernel_rfl))]; exact ⟨rfl, rfl⟩)
    (fun os started H enc _ => nfaAccepts_lifted os started H enc)
theorem nfaAccepts_card : Rows.NfaAcceptsCardSaid :=
  Claim7.holds_tied_plain_at .later [] [.data, .data, .data, .handle] true Rows.nfaAcceptsCard.stood.harness true
    nfaAccepts_holds (fun _ h => by cases h) (by kernel_rfl) (fun _ h => by cases h) nfaAccepts_row_tie rfl ⟨rfl, rfl⟩ nfaAccepts_main rfl
    (fun f fn hf hfn => by
      obtain rfl : f = 3 := Option.some.inj (nfaAccepts_fn.symm.trans hf) |>.symm
      obtain rfl : fn = Tryz.f3 := (Option.some.inj (Tryz.func3.symm.trans hfn)).symm
      exact ⟨nfaAccepts_looks, fun j t ht => by
        have hk : ∀ t ∈ Tryz.f3.params.toList, Tryz.prog.wantsStandIn t = false := by rw [Tryz.params3]; decide +kernel
        exact hk t (by
          obtain ⟨hj, e⟩ := Array.getElem?_eq_some_iff.1 ht
          rw [← e]
          simp)⟩)
    nfaAccepts_goes
#print axioms nfaAccepts_card
end Go.Proofs.YtbhkfifmgbcknaaGreatDoor
