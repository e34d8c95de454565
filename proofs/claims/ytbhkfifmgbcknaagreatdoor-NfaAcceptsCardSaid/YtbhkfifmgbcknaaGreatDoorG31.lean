/-
  A part of the proof of the statement NfaAccepts.
-/
import Derived.Test.YtbhkfifmgbcknaaGreatDoorG30
import Derived.OrdersHeld
import Derived.StillTail
import Derived.RegionTactic
import Derived.ProofKit
set_option linter.unusedSimpArgs false
set_option linter.unusedVariables false
namespace Go.Proofs.YtbhkfifmgbcknaaGreatDoor
open Go.RowKit Go.Extern.Stop Go.Stop Go.Extern
theorem hbelow_drewN (w : World) (n : Nat) : Below w.heap.size w (w.drewN n) := by
  induction n with
  | zero => exact Below.refl _ _
  | succ n ih => exact ⟨ih.os, ih.tape, ih.output, ih.size, ih.block⟩
structure MS {α : Type} (enc : α → Value) (T : TypeId) (B : Nat) (w0 : World) (b : Nat) (c0 : Value) (c t h : Int) (pl pr q : Option Addr) (l r o : Tr α) (w : World) : Prop where
  it : ItAt w T b c0 c t h pl pr
  l : TreeAt enc T B w pl l
  r : TreeAt enc T B w pr r
  o : TreeAt enc T B w q o
  lt : B < w.heap.size
  below : Below w0.heap.size w0 w
theorem MS.step {α : Type} {enc : α → Value} {T : TypeId} {B : Nat} {w0 : World} {b : Nat} {c0 : Value} {c t h : Int} {pl pr q : Option Addr} {l r o : Tr α} {w w' : World} (hs : MS enc T B w0 b c0 c t h pl pr q l r o w) (hb : Below w.heap.size w w') : MS enc T B w0 b c0 c t h pl pr q l r o w' :=
  ⟨(hb.block b hs.it.lt).trans hs.it, hs.l.below hb, hs.r.below hb, hs.o.below hb, Nat.lt_of_lt_of_le hs.lt hb.size, hs.below.trans (hb.mono hs.below.size)⟩
set_option maxRecDepth 100000 in
set_option maxHeartbeats 4000000 in
theorem mergeS_go (B : Nat) : ∀ (n : Nat) (a b : Tr ByteArray) (p q : Option Addr) (w : World), a.size + b.size < n → a.size + b.size ≤ 1000000 → a.ok → b.ok → TreeAt encS 450 B w p a → TreeAt encS 450 B w q b → B < w.heap.size →
    Calls Tryz.prog 405 #[.pointer p, .pointer q] w fun e w' => ∃ p', e = .returned (.pointer p') ∧ TreeAt encS 450 B w' p' (Tr.merge a b) ∧ Below w.heap.size w w' := by
  intro n
  induction n with
  | zero => intro a b p q w hn; exact absurd hn (Nat.not_lt_zero _)
  | succ n ih =>
    intro a b p q w hn hs' oa ob ta tb hB
    cases a with
    | nil =>
      obtain rfl : p = none := ta
      rw [Tr.merge_nil]
      have HT := Lib.hid tb
      clear ih oa ob tb hB hn hs'
      go_enter Tryz.func405, Tryz.ntmps405
      go_wp2_with fail
      go_ret
      exact ⟨_, rfl, HT.out, Below.refl _ _⟩
    | node ea ha la ra =>
    cases b with
    | nil =>
      obtain rfl : q = none := tb
      rw [Tr.merge_nil']
      have HT := Lib.hid ta
      obtain ⟨ba, pla, pra, rfl, -⟩ := ta
      clear ih oa ob hB hn hs'
      go_enter Tryz.func405, Tryz.ntmps405
      go_wp2_with fail
      go_ret
      exact ⟨_, rfl, HT.out, Below.refl _ _⟩
    | node eb hb lb rb =>
    obtain ⟨ba, pla, pra, rfl, lta, ia, tla, tra⟩ := ta
    obtain ⟨bb, plb, prb, rfl, ltb, ib, tlb, trb⟩ := tb
    by_cases h : eb.lt ea
    · have HI : Hid (MS encS 450 B w bb (.string eb.x) eb.c eb.t hb plb prb (some ⟨ba, 0, none⟩) lb rb (.node ea ha la ra) w) := Lib.hid ⟨ib, tlb, trb, ⟨ba, pla, pra, rfl, lta, ia, tla, tra⟩, hB, Below.refl _ _⟩
      have HM := Lib.hid (fun w' (hs : MS encS 450 B w bb (.string eb.x) eb.c eb.t hb plb prb (some ⟨ba, 0, none⟩) lb rb (.node ea ha la ra) w') => ih rb (.node ea ha la ra) prb (some ⟨ba, 0, none⟩) w' (by simp only [Tr.size] at hn ⊢; omega) (by simp only [Tr.size] at hs' ⊢; omega) ob.2.2.2.2 oa hs.r hs.o hs.lt)
      have HV := Lib.hid (fun w' p' (hs : MS encS 450 B w bb (.string eb.x) eb.c eb.t hb plb prb (some ⟨ba, 0, none⟩) lb rb (.node ea ha la ra) w') (ht : TreeAt encS 450 B w' p' (Tr.merge rb (.node ea ha la ra))) =>
        aboveS_any w' hs.it hs.l ht hs.lt ob.2.2.2.1 (Tr.merge_ok _ _ _ rfl ob.2.2.2.2 oa) (by simp only [Tr.size] at hn hs'; omega) (by rw [Tr.merge_size]; simp only [Tr.size] at hn hs' ⊢; omega))
      have HA := Lib.hid (aheadS_any w ib ia)
      have HE : Hid (eltB eb.c eb.t ea.c ea.t = true) := Lib.hid (by rw [eltB_of]; simpa using h)
      rw [Tr.merge_lt h]
      clear ih ia ib tla tra tlb trb oa ob hB h
      go_enter Tryz.func405, Tryz.ntmps405
      go_wp2_with fail
      refine HA.out.mono ?_
      rintro e w1 ⟨rfl, nd, rfl⟩
      rw [HE.out]
      have hI := HI.out.step (hbelow_drewN w nd)
      clear HI HA
      go_wp2_with fail
      replace hI := hI.step (Below.refl _ _).drew
      have k4 := hI.it.cells.2.2.2.2.1
      have k5 := hI.it.cells.2.2.2.2.2
      go_region_held3 (fun w' => w'.cell? ⟨bb, 4, none⟩ = some (.pointer plb) ∧ w'.cell? ⟨bb, 5, none⟩ = some (.pointer prb))
        (first | exact ⟨k4, k5⟩ | exact ⟨hI.it.cells.2.2.2.2.1, hI.it.cells.2.2.2.2.2⟩)
        (first
        | (go_at_call 405; refine (HM.out _ hI).mono ?_; rintro e w2 ⟨p2, rfl, ht, hb⟩; replace hI := hI.step hb)
        | (go_at_call 409; refine (HV.out _ _ hI ht).mono ?_; rintro e w3 ⟨p3, rfl, hr, hb⟩; replace hI := hI.step hb))
      go_wp2_with fail
      go_ret
      exact ⟨_, rfl, hr, hI.below⟩
    · have HI : Hid (MS encS 450 B w ba (.string ea.x) ea.c ea.t ha pla pra (some ⟨bb, 0, none⟩) la ra (.node eb hb lb rb) w) := Lib.hid ⟨ia, tla, tra, ⟨bb, plb, prb, rfl, ltb, ib, tlb, trb⟩, hB, Below.refl _ _⟩
      have HM := Lib.hid (fun w' (hs : MS encS 450 B w ba (.string ea.x) ea.c ea.t ha pla pra (some ⟨bb, 0, none⟩) la ra (.node eb hb lb rb) w') => ih ra (.node eb hb lb rb) pra (some ⟨bb, 0, none⟩) w' (by simp only [Tr.size] at hn ⊢; omega) (by simp only [Tr.size] at hs' ⊢; omega) oa.2.2.2.2 ob hs.r hs.o hs.lt)
      have HV := Lib.hid (fun w' p' (hs : MS encS 450 B w ba (.string ea.x) ea.c ea.t ha pla pra (some ⟨bb, 0, none⟩) la ra (.node eb hb lb rb) w') (ht : TreeAt encS 450 B w' p' (Tr.merge ra (.node eb hb lb rb))) =>
        aboveS_any w' hs.it hs.l ht hs.lt oa.2.2.2.1 (Tr.merge_ok _ _ _ rfl oa.2.2.2.2 ob) (by simp only [Tr.size] at hn hs'; omega) (by rw [Tr.merge_size]; simp only [Tr.size] at hn hs' ⊢; omega))
      have HA := Lib.hid (aheadS_any w ib ia)
      have HE : Hid (eltB eb.c eb.t ea.c ea.t = false) := Lib.hid (by rw [eltB_of]; simpa using h)
      rw [Tr.merge_ge h]
      clear ih ia ib tla tra tlb trb oa ob hB h
      go_enter Tryz.func405, Tryz.ntmps405
      go_wp2_with fail
      refine HA.out.mono ?_
      rintro e w1 ⟨rfl, nd, rfl⟩
      rw [HE.out]
      have hI := HI.out.step (hbelow_drewN w nd)
      clear HI HA
      go_wp2_with fail
      replace hI := hI.step (Below.refl _ _).drew
      have k4 := hI.it.cells.2.2.2.2.1
      have k5 := hI.it.cells.2.2.2.2.2
      go_region_held3 (fun w' => w'.cell? ⟨ba, 4, none⟩ = some (.pointer pla) ∧ w'.cell? ⟨ba, 5, none⟩ = some (.pointer pra))
        (first | exact ⟨k4, k5⟩ | exact ⟨hI.it.cells.2.2.2.2.1, hI.it.cells.2.2.2.2.2⟩)
        (first
        | (go_at_call 405; refine (HM.out _ hI).mono ?_; rintro e w2 ⟨p2, rfl, ht, hb⟩; replace hI := hI.step hb)
        | (go_at_call 409; refine (HV.out _ _ hI ht).mono ?_; rintro e w3 ⟨p3, rfl, hr, hb⟩; replace hI := hI.step hb))
      go_wp2_with fail
      go_ret
      exact ⟨_, rfl, hr, hI.below⟩
set_option maxRecDepth 100000 in
set_option maxHeartbeats 4000000 in
theorem mergeI_go (B : Nat) : ∀ (n : Nat) (a b : Tr Int) (p q : Option Addr) (w : World), a.size + b.size < n → a.size + b.size ≤ 1000000 → a.ok → b.ok → TreeAt hencI 435 B w p a → TreeAt hencI 435 B w q b → B < w.heap.size →
    Calls Tryz.prog 390 #[.pointer p, .pointer q] w fun e w' => ∃ p', e = .returned (.pointer p') ∧ TreeAt hencI 435 B w' p' (Tr.merge a b) ∧ Below w.heap.size w w' := by
  intro n
  induction n with
  | zero => intro a b p q w hn; exact absurd hn (Nat.not_lt_zero _)
  | succ n ih =>
    intro a b p q w hn hs' oa ob ta tb hB
    cases a with
    | nil =>
      obtain rfl : p = none := ta
      rw [Tr.merge_nil]
      have HT := Lib.hid tb
      clear ih oa ob tb hB hn hs'
      go_enter Tryz.func390, Tryz.ntmps390
      go_wp2_with fail
      go_ret
      exact ⟨_, rfl, HT.out, Below.refl _ _⟩
    | node ea ha la ra =>
    cases b with
    | nil =>
      obtain rfl : q = none := tb
      rw [Tr.merge_nil']
      have HT := Lib.hid ta
      obtain ⟨ba, pla, pra, rfl, -⟩ := ta
      clear ih oa ob hB hn hs'
      go_enter Tryz.func390, Tryz.ntmps390
      go_wp2_with fail
      go_ret
      exact ⟨_, rfl, HT.out, Below.refl _ _⟩
    | node eb hb lb rb =>
    obtain ⟨ba, pla, pra, rfl, lta, ia, tla, tra⟩ := ta
    obtain ⟨bb, plb, prb, rfl, ltb, ib, tlb, trb⟩ := tb
    by_cases h : eb.lt ea
    · have HI : Hid (MS hencI 435 B w bb (.int .i64 eb.x) eb.c eb.t hb plb prb (some ⟨ba, 0, none⟩) lb rb (.node ea ha la ra) w) := Lib.hid ⟨ib, tlb, trb, ⟨ba, pla, pra, rfl, lta, ia, tla, tra⟩, hB, Below.refl _ _⟩
      have HM := Lib.hid (fun w' (hs : MS hencI 435 B w bb (.int .i64 eb.x) eb.c eb.t hb plb prb (some ⟨ba, 0, none⟩) lb rb (.node ea ha la ra) w') => ih rb (.node ea ha la ra) prb (some ⟨ba, 0, none⟩) w' (by simp only [Tr.size] at hn ⊢; omega) (by simp only [Tr.size] at hs' ⊢; omega) ob.2.2.2.2 oa hs.r hs.o hs.lt)
      have HV := Lib.hid (fun w' p' (hs : MS hencI 435 B w bb (.int .i64 eb.x) eb.c eb.t hb plb prb (some ⟨ba, 0, none⟩) lb rb (.node ea ha la ra) w') (ht : TreeAt hencI 435 B w' p' (Tr.merge rb (.node ea ha la ra))) =>
        aboveI_any w' hs.it hs.l ht hs.lt ob.2.2.2.1 (Tr.merge_ok _ _ _ rfl ob.2.2.2.2 oa) (by simp only [Tr.size] at hn hs'; omega) (by rw [Tr.merge_size]; simp only [Tr.size] at hn hs' ⊢; omega))
      have HA := Lib.hid (aheadI_any w ib ia)
      have HE : Hid (eltB eb.c eb.t ea.c ea.t = true) := Lib.hid (by rw [eltB_of]; simpa using h)
      rw [Tr.merge_lt h]
      clear ih ia ib tla tra tlb trb oa ob hB h
      go_enter Tryz.func390, Tryz.ntmps390
      go_wp2_with fail
      refine HA.out.mono ?_
      rintro e w1 ⟨rfl, nd, rfl⟩
      rw [HE.out]
      have hI := HI.out.step (hbelow_drewN w nd)
      clear HI HA
      go_wp2_with fail
      replace hI := hI.step (Below.refl _ _).drew
      have k4 := hI.it.cells.2.2.2.2.1
      have k5 := hI.it.cells.2.2.2.2.2
      go_region_held3 (fun w' => w'.cell? ⟨bb, 4, none⟩ = some (.pointer plb) ∧ w'.cell? ⟨bb, 5, none⟩ = some (.pointer prb))
        (first | exact ⟨k4, k5⟩ | exact ⟨hI.it.cells.2.2.2.2.1, hI.it.cells.2.2.2.2.2⟩)
        (first
        | (go_at_call 390; refine (HM.out _ hI).mono ?_; rintro e w2 ⟨p2, rfl, ht, hb⟩; replace hI := hI.step hb)
        | (go_at_call 404; refine (HV.out _ _ hI ht).mono ?_; rintro e w3 ⟨p3, rfl, hr, hb⟩; replace hI := hI.step hb))
      go_wp2_with fail
      go_ret
      exact ⟨_, rfl, hr, hI.below⟩
    · have HI : Hid (MS hencI 435 B w ba (.int .i64 ea.x) ea.c ea.t ha pla pra (some ⟨bb, 0, none⟩) la ra (.node eb hb lb rb) w) := Lib.hid ⟨ia, tla, tra, ⟨bb, plb, prb, rfl, ltb, ib, tlb, trb⟩, hB, Below.refl _ _⟩
      have HM := Lib.hid (fun w' (hs : MS hencI 435 B w ba (.int .i64 ea.x) ea.c ea.t ha pla pra (some ⟨bb, 0, none⟩) la ra (.node eb hb lb rb) w') => ih ra (.node eb hb lb rb) pra (some ⟨bb, 0, none⟩) w' (by simp only [Tr.size] at hn ⊢; omega) (by simp only [Tr.size] at hs' ⊢; omega) oa.2.2.2.2 ob hs.r hs.o hs.lt)
      have HV := Lib.hid (fun w' p' (hs : MS hencI 435 B w ba (.int .i64 ea.x) ea.c ea.t ha pla pra (some ⟨bb, 0, none⟩) la ra (.node eb hb lb rb) w') (ht : TreeAt hencI 435 B w' p' (Tr.merge ra (.node eb hb lb rb))) =>
        aboveI_any w' hs.it hs.l ht hs.lt oa.2.2.2.1 (Tr.merge_ok _ _ _ rfl oa.2.2.2.2 ob) (by simp only [Tr.size] at hn hs'; omega) (by rw [Tr.merge_size]; simp only [Tr.size] at hn hs' ⊢; omega))
      have HA := Lib.hid (aheadI_any w ib ia)
      have HE : Hid (eltB eb.c eb.t ea.c ea.t = false) := Lib.hid (by rw [eltB_of]; simpa using h)
      rw [Tr.merge_ge h]
      clear ih ia ib tla tra tlb trb oa ob hB h
      go_enter Tryz.func390, Tryz.ntmps390
      go_wp2_with fail
      refine HA.out.mono ?_
      rintro e w1 ⟨rfl, nd, rfl⟩
      rw [HE.out]
      have hI := HI.out.step (hbelow_drewN w nd)
      clear HI HA
      go_wp2_with fail
      replace hI := hI.step (Below.refl _ _).drew
      have k4 := hI.it.cells.2.2.2.2.1
      have k5 := hI.it.cells.2.2.2.2.2
      go_region_held3 (fun w' => w'.cell? ⟨ba, 4, none⟩ = some (.pointer pla) ∧ w'.cell? ⟨ba, 5, none⟩ = some (.pointer pra))
        (first | exact ⟨k4, k5⟩ | exact ⟨hI.it.cells.2.2.2.2.1, hI.it.cells.2.2.2.2.2⟩)
        (first
        | (go_at_call 390; refine (HM.out _ hI).mono ?_; rintro e w2 ⟨p2, rfl, ht, hb⟩; replace hI := hI.step hb)
        | (go_at_call 404; refine (HV.out _ _ hI ht).mono ?_; rintro e w3 ⟨p3, rfl, hr, hb⟩; replace hI := hI.step hb))
      go_wp2_with fail
      go_ret
      exact ⟨_, rfl, hr, hI.below⟩
end Go.Proofs.YtbhkfifmgbcknaaGreatDoor
namespace Go.Proofs.YtbhkfifmgbcknaaGreatDoor
open Go
section
variable {P : Program} {ops : Array Oper} {Q : Exit → Act → World → Prop} {md : Region.Mode} {S : World → Prop} {n : Nat}
def wpT (P : Program) (md : Region.Mode) (ops : Array Oper) (Q : Exit → Act → World → Prop) (S : World → Prop) (n : Nat) : Nat → Array Bool → Act → World → Prop
  | 0, listed, a, w => Region.ready md ops listed = [] ∧ Q .normal a w
  | fuel + 1, listed, a, w =>
    (Region.ready md ops listed = [] → Q .normal a w) ∧
    ∀ i ∈ Region.ready md ops listed, wpOp P ops Q i (fun a' w' => (i < n → S w') ∧ wpT P md ops Q S n fuel (listed.setIfInBounds i true) a' w') a w
theorem wpAny_of_T : ∀ (fuel : Nat) (listed : Array Bool) (a : Act) (w : World), wpT P md ops Q S n fuel listed a w → wpAny P md ops Q fuel listed a w
  | 0, _, _, _, h => h
  | fuel + 1, _, _, _, h => ⟨h.1, fun i hi => wpOp_mono (fun a' w' h' => wpAny_of_T fuel _ a' w' h'.2) (h.2 i hi)⟩
theorem wpT_first {i : Nat} {oi : Oper} {v : Value} (hi : ops[i]? = some oi) (hin : i < n) (hsel : ∀ (j : Nat) (o : Oper) cs b, ops[j]? = some o → o.op ≠ .select cs b)
    (hsk : Region.sinkB md ops n = true) (hch : Region.chainB md ops n = true) (hn : n < ops.size)
    (hQ : ∀ c a w, Q (.panic c) (a.put oi.dst v) w → Q (.panic c) a w) :
    ∀ (fuel : Nat) (listed : Array Bool) (a : Act) (w : World), HeadInv md ops n listed →
      (∀ j oj, ops[j]? = some oj → j ≠ i → listed.getD j true = false → (∀ e ∈ oj.after, Region.binds md e = true → e.on ≠ i) → oi.apart ops oj = true) →
      i ∈ Region.ready md ops listed → YieldsIf P ops S oi v a → S w →
      wpT P md ops Q S n fuel (listed.setIfInBounds i true) (a.put oi.dst v) w → wpT P md ops Q S n (fuel + 1) listed a w := by
  intro fuel
  induction fuel with
  | zero =>
    intro listed a w _ _ hr hy hS H
    refine ⟨fun h => (by rw [h] at hr; cases hr), fun j hj => ?_⟩
    by_cases hji : j = i
    · subst hji; exact hy.wpOp hi hS ⟨fun _ => hS, H⟩
    · have := ready_mono hj hji
      rw [H.1] at this
      cases this
  | succ fuel ih =>
    intro listed a w inv hfree hr hy hS H
    refine ⟨fun h => (by rw [h] at hr; cases hr), fun j hj => ?_⟩
    by_cases hji : j = i
    · subst hji; exact hy.wpOp hi hS ⟨fun _ => hS, H⟩
    · have hjn : j < n := by
        rcases Nat.lt_or_ge j n with h | h
        · exact h
        · exact absurd hj (tail_waits hsk hch hn inv _ i rfl hin (mem_ready.1 hr).1 j h)
      have h1 := H.2 j (ready_mono hj hji)
      obtain ⟨hjun, oj, hoj, hall⟩ := mem_ready.1 hj
      have hnot : ∀ e ∈ oj.after, Region.binds md e = true → e.on ≠ i := fun e he hb heq => by
        have h1 := hall e he hb
        have h0 := (mem_ready.1 hr).1
        rw [heq] at h1
        rcases Nat.lt_or_ge i listed.size with h' | h'
        · simp [h'] at h0 h1; rw [h0] at h1; cases h1
        · simp [Array.getElem?_eq_none h'] at h1
      have h2 := wpOp_putIf hoj (hfree j oj hoj hji hjun hnot) (fun cs b => hsel i oi cs b hi) (fun cs b => hsel j oj cs b hoj) hQ hy h1
      have hfree' : ∀ k ok, ops[k]? = some ok → k ≠ i → (listed.setIfInBounds j true).getD k true = false →
          (∀ e ∈ ok.after, Region.binds md e = true → e.on ≠ i) → oi.apart ops ok = true := fun k ok hk hki hun hno => by
        refine hfree k ok hk hki ?_ hno
        by_cases hjk : j = k
        · subst hjk; exact hjun
        · rw [getD_set_ne true hjk] at hun; exact hun
      refine wpOp_mono (fun a' w' h3 => ⟨h3.2.1, ih (listed.setIfInBounds j true) a' w' (inv.set hj hjn) hfree' (ready_mono hr (Ne.symm hji)) h3.1 (h3.2.1 hjn) ?_⟩) h2
      rw [Array.setIfInBounds_comm _ _ hji]
      exact h3.2.2
def headB (md : Region.Mode) (ops : Array Oper) (n : Nat) (listed : Array Bool) : Bool :=
  decide (listed.size = ops.size) && (List.range ops.size).all (fun j => !listed.getD j false || ((ops[j]?).map (·.after.all fun e => !Region.binds md e || listed.getD e.on false)).getD true) &&
    (List.range ops.size).all fun t => decide (t < n) || !listed.getD t true
theorem headB_inv {listed : Array Bool} (h : headB md ops n listed = true) : HeadInv md ops n listed := by
  unfold headB at h
  simp only [Bool.and_eq_true, decide_eq_true_eq] at h
  obtain ⟨⟨h0, h1⟩, h2⟩ := h
  refine ⟨h0, fun j oj hj hl e he hb => ?_, fun t ht hts => ?_⟩
  · have hjs : j < ops.size := (Array.getElem?_eq_some_iff.1 hj).1
    have := List.all_eq_true.1 h1 j (List.mem_range.2 hjs)
    rw [hl, hj] at this
    simp only [Bool.not_true, Bool.false_or, Option.map_some, Option.getD_some] at this
    have := Array.all_eq_true'.1 this e he
    rw [hb] at this
    simpa using this
  · have := List.all_eq_true.1 h2 t (List.mem_range.2 hts)
    simp only [Bool.or_eq_true, decide_eq_true_eq, Bool.not_eq_true'] at this
    exact this.resolve_left (by omega)
theorem wpT_take {i : Nat} {oi : Oper} {v : Value} {fuel : Nat} {listed : Array Bool} {a : Act} {w : World} (hi : ops[i]? = some oi) (hin : decide (i < n) = true)
    (hs : Region.noSelect ops = true) (hsk : Region.sinkB md ops n = true) (hch : Region.chainB md ops n = true) (hn : decide (n < ops.size) = true) (hinv : headB md ops n listed = true)
    (hf : Region.free md ops listed i = true) (hr : (Region.ready md ops listed).contains i = true)
    (hQ : ∀ c a w, Q (.panic c) (a.put oi.dst v) w → Q (.panic c) a w) (hy : YieldsIf P ops S oi v a) (hS : S w)
    (h : wpT P md ops Q S n fuel (listed.setIfInBounds i true) (a.put oi.dst v) w) : wpT P md ops Q S n (fuel + 1) listed a w :=
  wpT_first hi (of_decide_eq_true hin) (Region.noSelect_spec hs) hsk hch (of_decide_eq_true hn) hQ fuel listed a w (headB_inv hinv) (Region.free_spec hi hf) (by simpa using hr) hy hS h
theorem wpT_one {i : Nat} {oi : Oper} {fuel : Nat} {listed : Array Bool} {a : Act} {w : World} (hr : Region.ready md ops listed = [i]) (hi : ops[i]? = some oi)
    (h : ∀ K : Act → World → Prop, (∀ a' w', ((i < n → S w') ∧ wpT P md ops Q S n fuel (listed.setIfInBounds i true) a' w') → K a' w') → if Region.wanted oi (yielded ops a.tmps) = true then Oper.wp P oi a w K Q else K (a.put oi.dst undef) w) :
    wpT P md ops Q S n (fuel + 1) listed a w :=
  ⟨fun h0 => (by rw [hr] at h0; cases h0), fun j hj => by
    rw [hr] at hj
    obtain rfl := List.mem_singleton.1 hj
    exact wpOp_step hi h⟩
theorem wpT_seq : ∀ (l : List Oper) (k : Nat) (listed : Array Bool) (a : Act) (w : World), (∀ j, l[j]? = ops[k + j]?) → n ≤ k →
    Region.seqB md ops l.length k listed = true → wpList P ops Q l a w → wpT P md ops Q S n l.length listed a w
  | [], _, _, _, _, _, _, hB, h => ⟨by simpa [Region.seqB] using hB, h⟩
  | o :: l, k, listed, a, w, hl, hk, hB, h => by
    have h0 : ops[k]? = some o := by simpa using (hl 0).symm
    simp only [List.length_cons, Region.seqB, Bool.and_eq_true, decide_eq_true_eq] at hB
    refine ⟨fun h1 => (by rw [hB.1] at h1; cases h1), fun i hi => ?_⟩
    rw [hB.1] at hi
    have hik : i = k := by simpa using hi
    subst hik
    have hw : wpOp P ops Q i (wpList P ops Q l) a w := by unfold wpOp; simp only [h0]; exact h
    exact wpOp_mono (fun a' w' h' => ⟨fun hlt => by omega, wpT_seq l (i + 1) _ a' w' (fun j => by have := hl (j + 1); simpa [Nat.add_assoc, Nat.add_comm 1 j] using this) (by omega) hB.2 h'⟩) hw
theorem wpT_tail {l : List Oper} (k g : Nat) {listed : Array Bool} {a : Act} {w : World} (hg : l.length = g) (hl : l = ops.toList.drop k) (hk : decide (n ≤ k) = true) (hB : Region.seqB md ops g k listed = true)
    (h : wpList P ops Q l a w) : wpT P md ops Q S n g listed a w := by
  subst hg
  exact wpT_seq l k listed a w (fun j => by rw [hl]; simp) (of_decide_eq_true hk) hB h
theorem region_T {id : Nat} {a : Act} {w : World} (S : World → Prop) (n : Nat) (hm : P.follows .mixedOrders = true)
    (h : wpT P .any ops Q S n ops.size (Array.replicate ops.size false) a w.drew) : (Code.region id ops true).wp P Q a w :=
  wp_region_any hm (wpAny_of_T _ _ _ _ h)
end
end Go.Proofs.YtbhkfifmgbcknaaGreatDoor
