/-
  Package heap by contracts, second part: what two trees come to.
-/
import Derived.Test.YtplfnhnipdfglaaHeapB
namespace Go.Proofs.Ytplfnhnipdfglaa
open Go.RowKit Go.Extern.Stop Go.Stop Go.Extern

theorem below_drewN (w : World) (n : Nat) : Below w.heap.size w (w.drewN n) := by
  induction n with
  | zero => exact Below.refl _ _
  | succ n ih => exact ⟨ih.os, ih.tape, ih.output, ih.size, ih.block⟩
/-- On the way through two trees: the one that stands above, its two kids, the other one. -/
structure MS {α : Type} (enc : α → Value) (T : TypeId) (B : Nat) (w0 : World) (b : Nat) (c0 : Value) (c t h : Int) (pl pr q : Option Addr) (l r o : Tr α) (w : World) : Prop where
  it : ItAt w T b c0 c t h pl pr
  l : TreeAt enc T B w pl l
  r : TreeAt enc T B w pr r
  o : TreeAt enc T B w q o
  lt : B < w.heap.size
  below : Below w0.heap.size w0 w
theorem MS.step {α : Type} {enc : α → Value} {T : TypeId} {B : Nat} {w0 : World} {b : Nat} {c0 : Value} {c t h : Int} {pl pr q : Option Addr} {l r o : Tr α} {w w' : World} (hs : MS enc T B w0 b c0 c t h pl pr q l r o w) (hb : Below w.heap.size w w') : MS enc T B w0 b c0 c t h pl pr q l r o w' :=
  ⟨(hb.block b hs.it.lt).trans hs.it, hs.l.below hb, hs.r.below hb, hs.o.below hb, Nat.lt_of_lt_of_le hs.lt hb.size, hs.below.trans (hb.mono hs.below.size)⟩

set_option maxRecDepth 100000 in
set_option maxHeartbeats 4000000 in
theorem mergeS_go (B : Nat) : ∀ (n : Nat) (a b : Tr ByteArray) (p q : Option Addr) (w : World), a.size + b.size < n → a.size + b.size ≤ 1000000 → a.ok → b.ok → TreeAt encS 50 B w p a → TreeAt encS 50 B w q b → B < w.heap.size →
    Calls Try.prog 15 #[.pointer p, .pointer q] w fun e w' => ∃ p', e = .returned (.pointer p') ∧ TreeAt encS 50 B w' p' (Tr.merge a b) ∧ Below w.heap.size w w' := by
  intro n
  induction n with
  | zero => intro a b p q w hn; exact absurd hn (Nat.not_lt_zero _)
  | succ n ih =>
    intro a b p q w hn hs' oa ob ta tb hB
    cases a with
    | nil =>
      obtain rfl : p = none := ta
      rw [Tr.merge_nil]
      have HT := Lib.hid tb
      clear ih oa ob tb hB hn hs'
      go_enter Try.func15, Try.ntmps15
      go_wp2_with fail
      go_ret
      exact ⟨_, rfl, HT.out, Below.refl _ _⟩
    | node ea ha la ra =>
    cases b with
    | nil =>
      obtain rfl : q = none := tb
      rw [Tr.merge_nil']
      have HT := Lib.hid ta
      obtain ⟨ba, pla, pra, rfl, -⟩ := ta
      clear ih oa ob hB hn hs'
      go_enter Try.func15, Try.ntmps15
      go_wp2_with fail
      go_ret
      exact ⟨_, rfl, HT.out, Below.refl _ _⟩
    | node eb hb lb rb =>
    obtain ⟨ba, pla, pra, rfl, lta, ia, tla, tra⟩ := ta
    obtain ⟨bb, plb, prb, rfl, ltb, ib, tlb, trb⟩ := tb
    by_cases h : eb.lt ea
    · have HI : Hid (MS encS 50 B w bb (.string eb.x) eb.c eb.t hb plb prb (some ⟨ba, 0, none⟩) lb rb (.node ea ha la ra) w) := Lib.hid ⟨ib, tlb, trb, ⟨ba, pla, pra, rfl, lta, ia, tla, tra⟩, hB, Below.refl _ _⟩
      have HM := Lib.hid (fun w' (hs : MS encS 50 B w bb (.string eb.x) eb.c eb.t hb plb prb (some ⟨ba, 0, none⟩) lb rb (.node ea ha la ra) w') => ih rb (.node ea ha la ra) prb (some ⟨ba, 0, none⟩) w' (by simp only [Tr.size] at hn ⊢; omega) (by simp only [Tr.size] at hs' ⊢; omega) ob.2.2.2.2 oa hs.r hs.o hs.lt)
      have HV := Lib.hid (fun w' p' (hs : MS encS 50 B w bb (.string eb.x) eb.c eb.t hb plb prb (some ⟨ba, 0, none⟩) lb rb (.node ea ha la ra) w') (ht : TreeAt encS 50 B w' p' (Tr.merge rb (.node ea ha la ra))) =>
        aboveS_any w' hs.it hs.l ht hs.lt ob.2.2.2.1 (Tr.merge_ok _ _ _ rfl ob.2.2.2.2 oa) (by simp only [Tr.size] at hn hs'; omega) (by rw [Tr.merge_size]; simp only [Tr.size] at hn hs' ⊢; omega))
      have HA := Lib.hid (aheadS_any w ib ia)
      have HE : Hid (eltB eb.c eb.t ea.c ea.t = true) := Lib.hid (by rw [eltB_of]; simpa using h)
      rw [Tr.merge_lt h]
      clear ih ia ib tla tra tlb trb oa ob hB h
      go_enter Try.func15, Try.ntmps15
      go_wp2_with fail
      refine HA.out.mono ?_
      rintro e w1 ⟨rfl, nd, rfl⟩
      rw [HE.out]
      have hI := HI.out.step (below_drewN w nd)
      clear HI HA
      go_wp2_with fail
      replace hI := hI.step (Below.refl _ _).drew
      have k4 := hI.it.cells.2.2.2.2.1
      have k5 := hI.it.cells.2.2.2.2.2
      go_region_held3 (fun w' => w'.cell? ⟨bb, 4, none⟩ = some (.pointer plb) ∧ w'.cell? ⟨bb, 5, none⟩ = some (.pointer prb))
        (first | exact ⟨k4, k5⟩ | exact ⟨hI.it.cells.2.2.2.2.1, hI.it.cells.2.2.2.2.2⟩)
        (first
        | (go_at_call 15; refine (HM.out _ hI).mono ?_; rintro e w2 ⟨p2, rfl, ht, hb⟩; replace hI := hI.step hb)
        | (go_at_call 19; refine (HV.out _ _ hI ht).mono ?_; rintro e w3 ⟨p3, rfl, hr, hb⟩; replace hI := hI.step hb))
      go_wp2_with fail
      go_ret
      exact ⟨_, rfl, hr, hI.below⟩
    · have HI : Hid (MS encS 50 B w ba (.string ea.x) ea.c ea.t ha pla pra (some ⟨bb, 0, none⟩) la ra (.node eb hb lb rb) w) := Lib.hid ⟨ia, tla, tra, ⟨bb, plb, prb, rfl, ltb, ib, tlb, trb⟩, hB, Below.refl _ _⟩
      have HM := Lib.hid (fun w' (hs : MS encS 50 B w ba (.string ea.x) ea.c ea.t ha pla pra (some ⟨bb, 0, none⟩) la ra (.node eb hb lb rb) w') => ih ra (.node eb hb lb rb) pra (some ⟨bb, 0, none⟩) w' (by simp only [Tr.size] at hn ⊢; omega) (by simp only [Tr.size] at hs' ⊢; omega) oa.2.2.2.2 ob hs.r hs.o hs.lt)
      have HV := Lib.hid (fun w' p' (hs : MS encS 50 B w ba (.string ea.x) ea.c ea.t ha pla pra (some ⟨bb, 0, none⟩) la ra (.node eb hb lb rb) w') (ht : TreeAt encS 50 B w' p' (Tr.merge ra (.node eb hb lb rb))) =>
        aboveS_any w' hs.it hs.l ht hs.lt oa.2.2.2.1 (Tr.merge_ok _ _ _ rfl oa.2.2.2.2 ob) (by simp only [Tr.size] at hn hs'; omega) (by rw [Tr.merge_size]; simp only [Tr.size] at hn hs' ⊢; omega))
      have HA := Lib.hid (aheadS_any w ib ia)
      have HE : Hid (eltB eb.c eb.t ea.c ea.t = false) := Lib.hid (by rw [eltB_of]; simpa using h)
      rw [Tr.merge_ge h]
      clear ih ia ib tla tra tlb trb oa ob hB h
      go_enter Try.func15, Try.ntmps15
      go_wp2_with fail
      refine HA.out.mono ?_
      rintro e w1 ⟨rfl, nd, rfl⟩
      rw [HE.out]
      have hI := HI.out.step (below_drewN w nd)
      clear HI HA
      go_wp2_with fail
      replace hI := hI.step (Below.refl _ _).drew
      have k4 := hI.it.cells.2.2.2.2.1
      have k5 := hI.it.cells.2.2.2.2.2
      go_region_held3 (fun w' => w'.cell? ⟨ba, 4, none⟩ = some (.pointer pla) ∧ w'.cell? ⟨ba, 5, none⟩ = some (.pointer pra))
        (first | exact ⟨k4, k5⟩ | exact ⟨hI.it.cells.2.2.2.2.1, hI.it.cells.2.2.2.2.2⟩)
        (first
        | (go_at_call 15; refine (HM.out _ hI).mono ?_; rintro e w2 ⟨p2, rfl, ht, hb⟩; replace hI := hI.step hb)
        | (go_at_call 19; refine (HV.out _ _ hI ht).mono ?_; rintro e w3 ⟨p3, rfl, hr, hb⟩; replace hI := hI.step hb))
      go_wp2_with fail
      go_ret
      exact ⟨_, rfl, hr, hI.below⟩
set_option maxRecDepth 100000 in
set_option maxHeartbeats 4000000 in
theorem mergeI_go (B : Nat) : ∀ (n : Nat) (a b : Tr Int) (p q : Option Addr) (w : World), a.size + b.size < n → a.size + b.size ≤ 1000000 → a.ok → b.ok → TreeAt encI 55 B w p a → TreeAt encI 55 B w q b → B < w.heap.size →
    Calls Try.prog 16 #[.pointer p, .pointer q] w fun e w' => ∃ p', e = .returned (.pointer p') ∧ TreeAt encI 55 B w' p' (Tr.merge a b) ∧ Below w.heap.size w w' := by
  intro n
  induction n with
  | zero => intro a b p q w hn; exact absurd hn (Nat.not_lt_zero _)
  | succ n ih =>
    intro a b p q w hn hs' oa ob ta tb hB
    cases a with
    | nil =>
      obtain rfl : p = none := ta
      rw [Tr.merge_nil]
      have HT := Lib.hid tb
      clear ih oa ob tb hB hn hs'
      go_enter Try.func16, Try.ntmps16
      go_wp2_with fail
      go_ret
      exact ⟨_, rfl, HT.out, Below.refl _ _⟩
    | node ea ha la ra =>
    cases b with
    | nil =>
      obtain rfl : q = none := tb
      rw [Tr.merge_nil']
      have HT := Lib.hid ta
      obtain ⟨ba, pla, pra, rfl, -⟩ := ta
      clear ih oa ob hB hn hs'
      go_enter Try.func16, Try.ntmps16
      go_wp2_with fail
      go_ret
      exact ⟨_, rfl, HT.out, Below.refl _ _⟩
    | node eb hb lb rb =>
    obtain ⟨ba, pla, pra, rfl, lta, ia, tla, tra⟩ := ta
    obtain ⟨bb, plb, prb, rfl, ltb, ib, tlb, trb⟩ := tb
    by_cases h : eb.lt ea
    · have HI : Hid (MS encI 55 B w bb (.int .i64 eb.x) eb.c eb.t hb plb prb (some ⟨ba, 0, none⟩) lb rb (.node ea ha la ra) w) := Lib.hid ⟨ib, tlb, trb, ⟨ba, pla, pra, rfl, lta, ia, tla, tra⟩, hB, Below.refl _ _⟩
      have HM := Lib.hid (fun w' (hs : MS encI 55 B w bb (.int .i64 eb.x) eb.c eb.t hb plb prb (some ⟨ba, 0, none⟩) lb rb (.node ea ha la ra) w') => ih rb (.node ea ha la ra) prb (some ⟨ba, 0, none⟩) w' (by simp only [Tr.size] at hn ⊢; omega) (by simp only [Tr.size] at hs' ⊢; omega) ob.2.2.2.2 oa hs.r hs.o hs.lt)
      have HV := Lib.hid (fun w' p' (hs : MS encI 55 B w bb (.int .i64 eb.x) eb.c eb.t hb plb prb (some ⟨ba, 0, none⟩) lb rb (.node ea ha la ra) w') (ht : TreeAt encI 55 B w' p' (Tr.merge rb (.node ea ha la ra))) =>
        aboveI_any w' hs.it hs.l ht hs.lt ob.2.2.2.1 (Tr.merge_ok _ _ _ rfl ob.2.2.2.2 oa) (by simp only [Tr.size] at hn hs'; omega) (by rw [Tr.merge_size]; simp only [Tr.size] at hn hs' ⊢; omega))
      have HA := Lib.hid (aheadI_any w ib ia)
      have HE : Hid (eltB eb.c eb.t ea.c ea.t = true) := Lib.hid (by rw [eltB_of]; simpa using h)
      rw [Tr.merge_lt h]
      clear ih ia ib tla tra tlb trb oa ob hB h
      go_enter Try.func16, Try.ntmps16
      go_wp2_with fail
      refine HA.out.mono ?_
      rintro e w1 ⟨rfl, nd, rfl⟩
      rw [HE.out]
      have hI := HI.out.step (below_drewN w nd)
      clear HI HA
      go_wp2_with fail
      replace hI := hI.step (Below.refl _ _).drew
      have k4 := hI.it.cells.2.2.2.2.1
      have k5 := hI.it.cells.2.2.2.2.2
      go_region_held3 (fun w' => w'.cell? ⟨bb, 4, none⟩ = some (.pointer plb) ∧ w'.cell? ⟨bb, 5, none⟩ = some (.pointer prb))
        (first | exact ⟨k4, k5⟩ | exact ⟨hI.it.cells.2.2.2.2.1, hI.it.cells.2.2.2.2.2⟩)
        (first
        | (go_at_call 16; refine (HM.out _ hI).mono ?_; rintro e w2 ⟨p2, rfl, ht, hb⟩; replace hI := hI.step hb)
        | (go_at_call 21; refine (HV.out _ _ hI ht).mono ?_; rintro e w3 ⟨p3, rfl, hr, hb⟩; replace hI := hI.step hb))
      go_wp2_with fail
      go_ret
      exact ⟨_, rfl, hr, hI.below⟩
    · have HI : Hid (MS encI 55 B w ba (.int .i64 ea.x) ea.c ea.t ha pla pra (some ⟨bb, 0, none⟩) la ra (.node eb hb lb rb) w) := Lib.hid ⟨ia, tla, tra, ⟨bb, plb, prb, rfl, ltb, ib, tlb, trb⟩, hB, Below.refl _ _⟩
      have HM := Lib.hid (fun w' (hs : MS encI 55 B w ba (.int .i64 ea.x) ea.c ea.t ha pla pra (some ⟨bb, 0, none⟩) la ra (.node eb hb lb rb) w') => ih ra (.node eb hb lb rb) pra (some ⟨bb, 0, none⟩) w' (by simp only [Tr.size] at hn ⊢; omega) (by simp only [Tr.size] at hs' ⊢; omega) oa.2.2.2.2 ob hs.r hs.o hs.lt)
      have HV := Lib.hid (fun w' p' (hs : MS encI 55 B w ba (.int .i64 ea.x) ea.c ea.t ha pla pra (some ⟨bb, 0, none⟩) la ra (.node eb hb lb rb) w') (ht : TreeAt encI 55 B w' p' (Tr.merge ra (.node eb hb lb rb))) =>
        aboveI_any w' hs.it hs.l ht hs.lt oa.2.2.2.1 (Tr.merge_ok _ _ _ rfl oa.2.2.2.2 ob) (by simp only [Tr.size] at hn hs'; omega) (by rw [Tr.merge_size]; simp only [Tr.size] at hn hs' ⊢; omega))
      have HA := Lib.hid (aheadI_any w ib ia)
      have HE : Hid (eltB eb.c eb.t ea.c ea.t = false) := Lib.hid (by rw [eltB_of]; simpa using h)
      rw [Tr.merge_ge h]
      clear ih ia ib tla tra tlb trb oa ob hB h
      go_enter Try.func16, Try.ntmps16
      go_wp2_with fail
      refine HA.out.mono ?_
      rintro e w1 ⟨rfl, nd, rfl⟩
      rw [HE.out]
      have hI := HI.out.step (below_drewN w nd)
      clear HI HA
      go_wp2_with fail
      replace hI := hI.step (Below.refl _ _).drew
      have k4 := hI.it.cells.2.2.2.2.1
      have k5 := hI.it.cells.2.2.2.2.2
      go_region_held3 (fun w' => w'.cell? ⟨ba, 4, none⟩ = some (.pointer pla) ∧ w'.cell? ⟨ba, 5, none⟩ = some (.pointer pra))
        (first | exact ⟨k4, k5⟩ | exact ⟨hI.it.cells.2.2.2.2.1, hI.it.cells.2.2.2.2.2⟩)
        (first
        | (go_at_call 16; refine (HM.out _ hI).mono ?_; rintro e w2 ⟨p2, rfl, ht, hb⟩; replace hI := hI.step hb)
        | (go_at_call 21; refine (HV.out _ _ hI ht).mono ?_; rintro e w3 ⟨p3, rfl, hr, hb⟩; replace hI := hI.step hb))
      go_wp2_with fail
      go_ret
      exact ⟨_, rfl, hr, hI.below⟩
end Go.Proofs.Ytplfnhnipdfglaa
