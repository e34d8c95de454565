/-
  A part of the proof of the statement NfaAccepts.
-/
import Derived.Test.YtbhkfifmgbcknaaGreatDoorHeapD
import Derived.OrdersHeld
import Derived.OrdersIn
import Derived.TacticsIn
import Derived.ProofKit
import Derived.Test.YtbhkfifmgbcknaaGreatDoorG30
set_option linter.unusedSimpArgs false
set_option linter.unusedVariables false
namespace Go.Proofs.YtbhkfifmgbcknaaGreatDoor
open Go.RowKit Go.Extern.Stop Go.Stop Go.Extern
def sA : ByteArray := ⟨#[97]⟩
def sB : ByteArray := ⟨#[98]⟩
def sC : ByteArray := ⟨#[99]⟩
theorem heap_new (w : World) {α : Type} (enc : α → Value) (TI TH : TypeId) : HpAt enc TI TH w.heap.size (w.alloc (.cells #[.pointer none, .int .i64 0, .int .u64 0] TH)) [] 0 :=
  ⟨none, .nil, heap_alloc_new w _, rfl, Hp.nil, (fun _ h => by cases h), Int.le_refl _⟩
theorem hbelow_own {w w1 w2 : World} {B : Nat} (hb : Below w.heap.size w w1) (hB : w.heap.size ≤ B) (hg : w1.grownBy w2 (some B)) : Below w.heap.size w w2 :=
  hb.grown hg hb.size (fun k e => by cases e; exact hB)
set_option maxRecDepth 100000 in
set_option maxHeartbeats 4000000 in
theorem awake8_any (w : World) : Calls Tryz.prog 375 #[] w fun e w' => e = .returned (.bool true) ∧ Below w.heap.size w w' := by
  have H0 := Lib.hid (heap_new w encS 450 439)
  have B0 := Lib.hid (hbelow_new w (.cells #[.pointer none, .int .i64 0, .int .u64 0] 439))
  have P1 := Lib.hid (fun W h => putS_any (B := w.heap.size) (q := []) (n := 0) 5 sA 0 W h (by decide) (by decide) (fun y hy => by cases hy) (fun y hy => by cases hy))
  have P2 := Lib.hid (fun W h => putS_any (B := w.heap.size) (q := [⟨5, 0, sA⟩]) (n := 0 + 1) 3 sB 0 W h (by decide) (by decide) (fun y hy => by cases hy) (fun y hy => by simp at hy; subst hy; decide))
  have P3 := Lib.hid (fun W h => putS_any (B := w.heap.size) (q := [⟨3, 1, sB⟩, ⟨5, 0, sA⟩]) (n := 1 + 1) 5 sC 2 W h (by decide) (by decide) (fun y hy => by simp at hy; rcases hy with rfl | rfl <;> decide) (fun y hy => by cases hy))
  have T1 := Lib.hid (fun W n h => takeS_some (B := w.heap.size) (e := ⟨3, 1, sB⟩) (q := [⟨5, 0, sA⟩, ⟨5, 2, sC⟩]) (n := n) W h (by decide))
  have T2 := Lib.hid (fun W n h => takeS_some (B := w.heap.size) (e := ⟨5, 0, sA⟩) (q := [⟨5, 2, sC⟩]) (n := n) W h (by decide))
  have L1 := Lib.hid (fun W n h => lenS_any (B := w.heap.size) (q := [⟨5, 2, sC⟩]) (n := n) W h)
  have eA : sA.toList = [97] := by rw [Go.ByteArray.toList_eq]; rfl
  have eB : sB.toList = [98] := by rw [Go.ByteArray.toList_eq]; rfl
  go_enter Tryz.func375, Tryz.ntmps375
  go_wp2_with fail
  refine (P1.out _ H0.out).mono ?_
  rintro e w1 ⟨⟨v1, rfl⟩, h1, g1⟩
  have B1 := Lib.hid (hbelow_own B0.out (Nat.le_refl _) g1)
  have H1 := Lib.hid h1
  clear h1 g1 B0 H0 P1
  go_wp2_with fail
  refine (P2.out _ H1.out).mono ?_
  rintro e w2 ⟨⟨v2, rfl⟩, h2, g2⟩
  have B2 := Lib.hid (hbelow_own B1.out (Nat.le_refl _) g2)
  have H2 := Lib.hid h2
  clear h2 g2 B1 H1 P2
  go_wp2_with fail
  refine (P3.out _ H2.out).mono ?_
  rintro e w3 ⟨⟨v3, rfl⟩, h3, g3⟩
  have B3 := Lib.hid (hbelow_own B2.out (Nat.le_refl _) g3)
  have H3 := Lib.hid h3
  clear h3 g3 B2 H2 P3
  go_wp2_with fail
  refine (T1.out _ _ H3.out).mono ?_
  rintro e w4 ⟨rfl, ⟨n4, -, h4⟩, g4⟩
  have B4 := Lib.hid (hbelow_own B3.out (Nat.le_refl _) g4)
  have H4 := Lib.hid h4
  clear h4 g4 B3 H3 T1
  go_wp2_with fail
  refine (T2.out _ _ H4.out).mono ?_
  rintro e w5 ⟨rfl, ⟨n5, -, h5⟩, g5⟩
  have B5 := Lib.hid (hbelow_own B4.out (Nat.le_refl _) g5)
  have H5 := Lib.hid h5
  clear h5 g5 B4 H4 T2
  go_wp2_with fail
  refine (L1.out _ _ H5.out).mono ?_
  rintro e w6 ⟨rfl, rfl⟩
  go_wp2_with fail
  go_ret
  exact ⟨rfl, B5.out⟩
end Go.Proofs.YtbhkfifmgbcknaaGreatDoor
namespace Go.Proofs.YtbhkfifmgbcknaaGreatDoor
open Go
section
variable {F : Fence} {n : Nat} {P : Program} {ops : Array Oper} {Q : Exit → Act → World → Prop} {md : Region.Mode} {S : World → Prop}
def noDefer (ops : Array Oper) : Bool := ops.all fun o => match o.op with | .defer _ => false | _ => true
theorem noDefer_spec {ops : Array Oper} (h : noDefer ops = true) {j : Nat} {o : Oper} (hj : ops[j]? = some o) : ∀ c, o.op ≠ .defer c := by
  intro c hc
  obtain ⟨hlt, rfl⟩ := Array.getElem?_eq_some_iff.1 hj
  unfold noDefer at h
  rw [Array.all_eq_true] at h
  have := h j hlt
  rw [hc] at this
  cases this
def YieldsFI (P : Program) (ops : Array Oper) (S : World → Prop) (o : Oper) (v : Value) (a : Act) : Prop := YieldsIf P ops S o v a ∧ ∀ w, o.about P w a.eval = none
theorem YieldsFI.wpOpIn {i : Nat} {o : Oper} {v : Value} {a : Act} (hnd : ∀ c, o.op ≠ .defer c) (hi : ops[i]? = some o) (hy : YieldsFI P ops S o v a)
    {K : Act → World → Prop} {w : World} (hS : S w) (h : K (a.put o.dst v) w) : wpOpIn F n P ops Q i K a w := by
  unfold Go.wpOpIn
  simp only [hi]
  have hab : ∀ f, o.about P w a.eval = some f → F.fn f := fun f hf => by rw [hy.2 w] at hf; cases hf
  rcases hy.1 with ⟨hw, hv⟩ | ⟨hw, rfl⟩
  · simp only [hw, if_true, Oper.wpIn, Oper.semAt_eq F.round a.eval o hnd, hv w hS, Oper.uponIn]; exact ⟨hab, h⟩
  · simp only [hw, Bool.false_eq_true, if_false]; exact ⟨hab, h⟩
theorem YieldsFI.of_same {o : Oper} {v : Value} {a a' : Act} (hy : YieldsFI P ops S o v a) (he : execOp a'.eval o = execOp a.eval o)
    (hw : Region.wanted o (yielded ops a'.tmps) = Region.wanted o (yielded ops a.tmps)) (hb : ∀ w, o.about P w a'.eval = o.about P w a.eval) : YieldsFI P ops S o v a' :=
  ⟨hy.1.of_same he hw, fun w => by rw [hb w]; exact hy.2 w⟩
theorem wpOpIn_putIf {j : Nat} {oi oj : Oper} {v : Value} (hnd : ∀ c, oj.op ≠ .defer c) (hj : ops[j]? = some oj) (hap : oi.apart ops oj = true)
    (hsi : ∀ cs b, oi.op ≠ .select cs b) (hsj : ∀ cs b, oj.op ≠ .select cs b)
    (hQ : ∀ c a w, Q (.panic c) (a.put oi.dst v) w → Q (.panic c) a w) {K : Act → World → Prop} {a : Act} {w : World}
    (hy : YieldsFI P ops S oi v a) (h : wpOpIn F n P ops Q j K (a.put oi.dst v) w) :
    wpOpIn F n P ops Q j (fun a' w' => YieldsFI P ops S oi v a' ∧ K (a'.put oi.dst v) w') a w := by
  obtain ⟨h1, h2, h3⟩ := Oper.apart_spec hap
  have keep : ∀ (a : Act), YieldsFI P ops S oi v a → ∀ u, YieldsFI P ops S oi v (a.put oj.dst u) := fun a hy u =>
    hy.of_same (execOp_put oi hsi a oj.dst u h3) (wanted_put oi a oj.dst u h3) (fun w => about_put oi w a oj.dst u h3)
  have keepD : ∀ d, YieldsFI P ops S oi v { a with defers := d :: a.defers } := fun d => hy.of_same rfl rfl (fun _ => rfl)
  unfold wpOpIn at *
  simp only [hj] at *
  rw [wanted_put oj a oi.dst v h1, about_put oj w a oi.dst v h1] at h
  split
  · rename_i hw
    simp only [hw, if_true] at h
    unfold Oper.wpIn at *
    rw [about_put oj w a oi.dst v h1] at h
    refine ⟨h.1, ?_⟩
    have h := h.2
    rw [Oper.semAt_eq _ _ oj hnd, execOp_put oj hsj a oi.dst v h1] at h
    rw [Oper.semAt_eq _ _ oj hnd]
    generalize (execOp a.eval oj).run P w = r at *
    cases r with
    | ok x w' =>
      cases x <;> simp only [Oper.uponIn] at h ⊢
      case value u => exact ⟨keep a hy u, by rw [← Act.put_comm a v u h2]; exact h⟩
      case skip => exact ⟨keep a hy _, by rw [← Act.put_comm a v undef h2]; exact h⟩
      case defer d =>
        refine ⟨keep _ (keepD d) _, ?_⟩
        rw [← Act.put_comm _ v undef h2, ← Act.put_defers]
        exact h
      case enter f args =>
        refine ⟨h.1, CallsIn.mono h.2 fun e w'' he => ?_⟩
        cases e with
        | returned u => exact ⟨keep a hy u, by rw [← Act.put_comm a v u h2]; exact he⟩
        | panicked c => exact hQ _ _ _ he
        | outgrown => exact he
      case row row args => exact ⟨h.1, RowsIn.mono h.2 fun u w'' he => ⟨keep a hy u, by rw [← Act.put_comm a v u h2]; exact he⟩⟩
      case round l f tmps assign body =>
        refine ⟨h.1, RoundIn.mono h.2 fun e w'' he => ?_⟩
        cases e with
        | returned u => exact ⟨keep a hy u, by rw [← Act.put_comm a v u h2]; exact he⟩
        | panicked c => exact hQ _ _ _ he
        | outgrown => exact he
    | halt x w' =>
      cases x <;> simp only [Oper.uponIn] at h ⊢
      case panic u => exact hQ _ _ _ h
  · rename_i hw
    simp only [hw] at h
    exact ⟨h.1, keep a hy _, by rw [← Act.put_comm a v undef h2]; exact h.2⟩
def wpH (F : Fence) (n : Nat) (P : Program) (md : Region.Mode) (ops : Array Oper) (Q : Exit → Act → World → Prop) (S : World → Prop) : Nat → Array Bool → Act → World → Prop
  | 0, listed, a, w => Region.ready md ops listed = [] ∧ Q .normal a w
  | fuel + 1, listed, a, w =>
    (Region.ready md ops listed = [] → Q .normal a w) ∧
    ∀ i ∈ Region.ready md ops listed, wpOpIn F n P ops Q i (fun a' w' => S w' ∧ wpH F n P md ops Q S fuel (listed.setIfInBounds i true) a' w') a w
theorem wpAnyIn_of_H : ∀ (fuel : Nat) (listed : Array Bool) (a : Act) (w : World), wpH F n P md ops Q S fuel listed a w → wpAnyIn F n P md ops Q fuel listed a w
  | 0, _, _, _, h => h
  | fuel + 1, _, _, _, h => ⟨h.1, fun i hi => wpOpIn_mono (fun a' w' h' => wpAnyIn_of_H fuel _ a' w' h'.2) (h.2 i hi)⟩
theorem wpH_first {i : Nat} {oi : Oper} {v : Value} (hnd : noDefer ops = true) (hi : ops[i]? = some oi) (hsel : ∀ (j : Nat) (o : Oper) cs b, ops[j]? = some o → o.op ≠ .select cs b)
    (hQ : ∀ c a w, Q (.panic c) (a.put oi.dst v) w → Q (.panic c) a w) :
    ∀ (fuel : Nat) (listed : Array Bool) (a : Act) (w : World),
      (∀ j oj, ops[j]? = some oj → j ≠ i → listed.getD j true = false → (∀ e ∈ oj.after, Region.binds md e = true → e.on ≠ i) → oi.apart ops oj = true) →
      i ∈ Region.ready md ops listed → YieldsFI P ops S oi v a → S w →
      wpH F n P md ops Q S fuel (listed.setIfInBounds i true) (a.put oi.dst v) w → wpH F n P md ops Q S (fuel + 1) listed a w := by
  intro fuel
  induction fuel with
  | zero =>
    intro listed a w _ hr hy hS H
    refine ⟨fun h => (by rw [h] at hr; cases hr), fun j hj => ?_⟩
    by_cases hji : j = i
    · subst hji; exact hy.wpOpIn (noDefer_spec hnd hi) hi hS ⟨hS, H⟩
    · have := ready_mono hj hji
      rw [H.1] at this
      cases this
  | succ fuel ih =>
    intro listed a w hfree hr hy hS H
    refine ⟨fun h => (by rw [h] at hr; cases hr), fun j hj => ?_⟩
    by_cases hji : j = i
    · subst hji; exact hy.wpOpIn (noDefer_spec hnd hi) hi hS ⟨hS, H⟩
    · have h1 := H.2 j (ready_mono hj hji)
      obtain ⟨hjun, oj, hoj, hall⟩ := mem_ready.1 hj
      have hnot : ∀ e ∈ oj.after, Region.binds md e = true → e.on ≠ i := fun e he hb heq => by
        have h1 := hall e he hb
        have h0 := (mem_ready.1 hr).1
        rw [heq] at h1
        rcases Nat.lt_or_ge i listed.size with h' | h'
        · simp [h'] at h0 h1; rw [h0] at h1; cases h1
        · simp [Array.getElem?_eq_none h'] at h1
      have h2 := wpOpIn_putIf (noDefer_spec hnd hoj) hoj (hfree j oj hoj hji hjun hnot) (fun cs b => hsel i oi cs b hi) (fun cs b => hsel j oj cs b hoj) hQ hy h1
      have hfree' : ∀ k ok, ops[k]? = some ok → k ≠ i → (listed.setIfInBounds j true).getD k true = false →
          (∀ e ∈ ok.after, Region.binds md e = true → e.on ≠ i) → oi.apart ops ok = true := fun k ok hk hki hun hno => by
        refine hfree k ok hk hki ?_ hno
        by_cases hjk : j = k
        · subst hjk; exact hjun
        · rw [getD_set_ne true hjk] at hun; exact hun
      refine wpOpIn_mono (fun a' w' h3 => ⟨h3.2.1, ih (listed.setIfInBounds j true) a' w' hfree' (ready_mono hr (Ne.symm hji)) h3.1 h3.2.1 ?_⟩) h2
      rw [Array.setIfInBounds_comm _ _ hji]
      exact h3.2.2
theorem wpH_take {i : Nat} {oi : Oper} {v : Value} {fuel : Nat} {listed : Array Bool} {a : Act} {w : World} (hnd : noDefer ops = true) (hi : ops[i]? = some oi)
    (hs : Region.noSelect ops = true) (hf : Region.free md ops listed i = true) (hr : (Region.ready md ops listed).contains i = true)
    (hQ : ∀ c a w, Q (.panic c) (a.put oi.dst v) w → Q (.panic c) a w) (hy : YieldsIf P ops S oi v a) (hab : ∀ w, oi.about P w a.eval = none) (hS : S w)
    (h : wpH F n P md ops Q S fuel (listed.setIfInBounds i true) (a.put oi.dst v) w) : wpH F n P md ops Q S (fuel + 1) listed a w :=
  wpH_first hnd hi (Region.noSelect_spec hs) hQ fuel listed a w (Region.free_spec hi hf) (by simpa using hr) ⟨hy, hab⟩ hS h
theorem wpH_one {i : Nat} {oi : Oper} {fuel : Nat} {listed : Array Bool} {a : Act} {w : World} (hr : Region.ready md ops listed = [i]) (hi : ops[i]? = some oi)
    (h : ∀ K : Act → World → Prop, (∀ a' w', (S w' ∧ wpH F n P md ops Q S fuel (listed.setIfInBounds i true) a' w') → K a' w') → if Region.wanted oi (yielded ops a.tmps) = true then Oper.wpIn F n P oi a w K Q else (∀ f, oi.about P w a.eval = some f → F.fn f) ∧ K (a.put oi.dst undef) w) :
    wpH F n P md ops Q S (fuel + 1) listed a w :=
  ⟨fun h0 => (by rw [hr] at h0; cases h0), fun j hj => by
    rw [hr] at hj
    obtain rfl := List.mem_singleton.1 hj
    exact wpOpIn_step hi h⟩
theorem wpH_done {listed : Array Bool} {a : Act} {w : World} (hr : Region.ready md ops listed = []) (h : Q .normal a w) : ∀ fuel, wpH F n P md ops Q S fuel listed a w
  | 0 => ⟨hr, h⟩
  | _ + 1 => ⟨fun _ => h, by rw [hr]; simp⟩
theorem region_H {id : Nat} {a : Act} {w : World} (S : World → Prop) (hm : P.follows .mixedOrders = true)
    (h : wpH F n P .any ops Q S ops.size (Array.replicate ops.size false) a w.drew) : (Code.region id ops true).wpIn F n P Q a w :=
  wpIn_region_any hm (wpAnyIn_of_H _ _ _ _ h)
def noP (Q : Exit → Act → World → Prop) : Exit → Act → World → Prop
  | .panic _, _, _ => False
  | e, a, w => Q e a w
theorem region_P {id : Nat} {a : Act} {w : World} (S : World → Prop) (hm : P.follows .mixedOrders = true)
    (h : wpH F n P .any ops (noP Q) S ops.size (Array.replicate ops.size false) a w.drew) : (Code.region id ops true).wpIn F n P Q a w := by
  refine Code.wpIn_mono (Q := noP Q) (fun e a w h => ?_) (region_H S hm h)
  cases e with
  | panic c => exact h.elim
  | _ => exact h
end
end Go.Proofs.YtbhkfifmgbcknaaGreatDoor
namespace Go.Proofs.YtbhkfifmgbcknaaGreatDoor
open Go.RowKit Go.Extern.Stop Go.Stop Go.Extern Go.Shelf
theorem part_len {α : Type} (P Q : α → Bool) : ∀ l : List α, (l.filter P).length = (l.filter fun x => P x && Q x).length + (l.filter fun x => P x && !Q x).length
  | [] => rfl
  | x :: l => by
    have ih := part_len P Q l
    rw [List.filter_cons, List.filter_cons, List.filter_cons]
    cases P x <;> cases Q x <;> simp <;> omega
theorem range_filt (p : Nat → Bool) (m k : Nat) (hm : m ≤ k) (h : ∀ j, m ≤ j → p j = false) : ((List.range k).filter p).length = ((List.range m).filter p).length := by
  obtain ⟨d, rfl⟩ : ∃ d, k = m + d := ⟨k - m, by omega⟩
  rw [List.range_add, List.filter_append, List.length_append]
  have : ((List.range d).map fun x => m + x).filter p = [] := by
    rw [List.filter_eq_nil_iff]
    intro x hx
    obtain ⟨y, -, rfl⟩ := List.mem_map.1 hx
    rw [h _ (by omega)]
    decide
  rw [this]
  rfl
def outN (ls : List Lk) (F : Nat → Bool) (L : Int → Bool) (i : Nat) : Bool := !F i && (ls[i]?.map fun l => L l.fr).getD false
def remL (ls : List Lk) (F : Nat → Bool) (L : Int → Bool) : Nat := ((List.range ls.length).filter (outN ls F L)).length
theorem remL_le (ls : List Lk) (F : Nat → Bool) (L : Int → Bool) : remL ls F L ≤ ls.length := by
  unfold remL
  have := List.length_filter_le (outN ls F L) (List.range ls.length)
  simpa using this
theorem remL_split (ls : List Lk) (F : Nat → Bool) (L L' : Int → Bool) (r : Int) (hr : L r = true) (hL : ∀ v, L' v = (L v && decide (v ≠ r))) :
    remL ls F L = ((List.range ls.length).filter fun i => !F i && (ls[i]?.map (frB r)).getD false).length + remL ls F L' := by
  unfold remL
  rw [part_len (outN ls F L) (fun i => (ls[i]?.map (frB r)).getD false)]
  congr 2
  · apply List.filter_congr
    intro i _
    unfold outN
    cases ls[i]? with
    | none => simp
    | some l =>
      simp only [Option.map_some, Option.getD_some]
      by_cases h : l.fr = r
      · simp [frB, h, hr]
      · simp [frB, beq_eq_false_iff_ne.2 h]
  · apply List.filter_congr
    intro i _
    unfold outN
    cases ls[i]? with
    | none => simp
    | some l =>
      simp only [Option.map_some, Option.getD_some]
      rw [hL]
      by_cases h : l.fr = r
      · simp [frB, h]
      · simp [frB, h]
def outW (ls : List Lk) (r : Int) (fa fb : Nat) : Nat × Nat := (lessN (whS (frB r) ls).1 fa, lessN (whS (frB r) ls).2 fb)
theorem has_out {ls : List Lk} {r : Int} {fa fb : Nat} (ua : U64 fa) (ub : U64 fb) (j : Nat) : hasB (outW ls r fa fb).1 (outW ls r fa fb).2 j = (decide (j < 128) && (ls[j]?.map (frB r)).getD false && !hasB fa fb j) := by
  obtain ⟨u1, u2⟩ := whS_u64 (frB r) ls
  unfold outW
  rw [hasB_less u1 u2 ua ub]
  unfold whS
  rw [hasB_idx]
theorem out_link {ls : List Lk} {r : Int} {fa fb : Nat} (ua : U64 fa) (ub : U64 fb) {j : Nat} (h : hasB (outW ls r fa fb).1 (outW ls r fa fb).2 j = true) : ∃ l, ls[j]? = some l ∧ l.fr = r ∧ hasB fa fb j = false := by
  rw [has_out ua ub] at h
  simp only [Bool.and_eq_true, Bool.not_eq_true'] at h
  obtain ⟨⟨_, h1⟩, h2⟩ := h
  cases hl : ls[j]? with
  | none => rw [hl] at h1; simp at h1
  | some l => rw [hl] at h1; exact ⟨l, rfl, by simpa [frB] using h1, h2⟩
theorem out_len {ls : List Lk} {r : Int} {fa fb : Nat} (ua : U64 fa) (ub : U64 fb) (hl : ls.length ≤ 128) : (listM (outW ls r fa fb).1 (outW ls r fa fb).2).length = ((List.range ls.length).filter fun i => !hasB fa fb i && (ls[i]?.map (frB r)).getD false).length := by
  have h1 : (listM (outW ls r fa fb).1 (outW ls r fa fb).2).length = (setL (outW ls r fa fb).1 (outW ls r fa fb).2).length := by
    rw [← listN_val, List.length_map, ← listM_val, List.length_map]
  rw [h1, setL_eq, range_filt _ ls.length 128 hl (fun j hj => by rw [has_out ua ub, List.getElem?_eq_none hj]; simp)]
  congr 1
  apply List.filter_congr
  intro i hi
  have := List.mem_range.1 hi
  rw [has_out ua ub]
  cases hasB fa fb i <;> simp <;> omega
theorem hasI_without {a b : Nat} (ha : U64 a) (hb : U64 b) {r : Int} (hr : 0 ≤ r ∧ r < 128) (v : Int) : hasI (lessN a (oneW r).1) (lessN b (oneW r).2) v = (hasI a b v && decide (v ≠ r)) := by
  unfold hasI
  rw [hasB_less ha hb (oneW_u64 r).1 (oneW_u64 r).2, hasB_one, Bool.eq_iff_iff]
  simp only [Bool.and_eq_true, decide_eq_true_eq, Bool.not_eq_true', Bool.and_eq_false_iff, decide_eq_false_iff_not]
  constructor
  · rintro ⟨h0, h1, h2⟩
    refine ⟨⟨h0, h1⟩, fun e => ?_⟩
    rcases h2 with h2 | h2
    · exact h2 (by omega)
    · by_cases hj : v.toNat < 128
      · exact h2 hj
      · rw [hasB_ge _ _ (by omega)] at h1; cases h1
  · rintro ⟨⟨h0, h1⟩, h2⟩
    exact ⟨h0, h1, .inl (by omega)⟩
section
variable {ls : List Lk} {n : Nat} {F : Nat → Bool} {a to : Int}
structure LeI (ls : List Lk) (n : Nat) (F : Nat → Bool) (a to : Int) (a1 b1 : Nat) (q : List (E Int)) : Prop where
  u1 : U64 a1
  u2 : U64 b1
  sub : ∀ v, hasI a1 b1 v = true → InN n v
  dij : Dij ls n F a (fun u => hasI a1 b1 u = true) (fun _ => True) q
  goal : InN n to → hasI a1 b1 to = true
theorem LeI.init (hn : n ≤ 128) (a to : Int) : LeI ls n F a to (ofS (firstN (min (n : Int) 128).toNat)).1 (ofS (firstN (min (n : Int) 128).toNat)).2 [⟨0, 0, a⟩] := by
  have h := has_routers n hn
  refine ⟨(ofS_u64 _).1, (ofS_u64 _).2, fun v hv => ?_, Dij.init _ (fun u => ?_) _ rfl rfl, fun ht => ?_⟩
  · rw [h] at hv; exact of_decide_eq_true hv
  · rw [h]; exact decide_eq_true_iff
  · rw [h]; exact decide_eq_true ht
theorem LeI.skip {a1 b1 : Nat} {e : E Int} {q : List (E Int)} (h : LeI ls n F a to a1 b1 (e :: q)) (hx : hasI a1 b1 e.x = false) : LeI ls n F a to a1 b1 q :=
  ⟨h.u1, h.u2, h.sub, h.dij.skip (by rw [hx]; decide), h.goal⟩
theorem LeI.none (hm : MayL n ls) {a1 b1 : Nat} (h : LeI ls n F a to a1 b1 []) : Told ls n F a to 0 false := .inr ⟨rfl, rfl, h.dij.none hm h.goal⟩
theorem LeI.hit (hm : MayL n ls) {a1 b1 : Nat} {e : E Int} {q : List (E Int)} (h : LeI ls n F a to a1 b1 (e :: q)) (hs : Sorted (e :: q)) (hx : hasI a1 b1 e.x = true) (he : e.x = to) : Told ls n F a to e.c true := by
  refine .inl ⟨rfl, ?_⟩
  rw [← he]
  exact h.dij.pop hm hs hx
structure LnI (ls : List Lk) (n : Nat) (F : Nat → Bool) (a to : Int) (a2 b2 : Nat) (r c : Int) (pre : List Nat) (q : List (E Int)) : Prop where
  u1 : U64 a2
  u2 : U64 b2
  sub : ∀ v, hasI a2 b2 v = true → InN n v
  best : Best ls n F a r c
  dij : Dij ls n F a (fun u => hasI a2 b2 u = true) (fun i => (∀ l, ls[i]? = some l → l.fr ≠ r) ∨ i ∈ pre) q
  goal : InN n to → hasI a2 b2 to = true
theorem LeI.mark (hm : MayL n ls) (hn : n ≤ 128) {a1 b1 : Nat} {e : E Int} {q : List (E Int)} (h : LeI ls n F a to a1 b1 (e :: q)) (hs : Sorted (e :: q)) (hx : hasI a1 b1 e.x = true) (he : e.x ≠ to) :
    LnI ls n F a to (lessN a1 (oneW e.x).1) (lessN b1 (oneW e.x).2) e.x e.c [] q := by
  have hr := h.sub _ hx
  have hr' : 0 ≤ e.x ∧ e.x < 128 := by unfold InN at hr; omega
  refine ⟨U64.less _ h.u1, U64.less _ h.u2, fun v hv => ?_, h.dij.pop hm hs hx, ?_, fun ht => ?_⟩
  · rw [hasI_without h.u1 h.u2 hr', Bool.and_eq_true] at hv
    exact h.sub v hv.1
  · refine (h.dij.mark hm hs hx (L' := fun u => hasI (lessN a1 (oneW e.x).1) (lessN b1 (oneW e.x).2) u = true) fun u => ?_).kless fun i hi => ?_
    · rw [hasI_without h.u1 h.u2 hr', Bool.and_eq_true, decide_eq_true_eq]
    · rcases hi with hi | hi
      · exact hi
      · cases hi
  · rw [hasI_without h.u1 h.u2 hr', Bool.and_eq_true]
    exact ⟨h.goal ht, by simpa using fun e' => he e'.symm⟩
theorem LnI.put {a2 b2 : Nat} {r c : Int} {pre : List Nat} {q q' : List (E Int)} (h : LnI ls n F a to a2 b2 r c pre q) {j : Nat} {l : Lk} (hj : ls[j]? = some l) (hF : F j = false) (hfr : l.fr = r)
    {e : E Int} (hx : e.x = l.to) (hc : e.c = addI c l.ds) (hq : ∀ y, y ∈ q' ↔ y = e ∨ y ∈ q) : LnI ls n F a to a2 b2 r c (pre ++ [j]) q' := by
  refine ⟨h.u1, h.u2, h.sub, h.best, h.dij.put h.best hj hF hfr hx hc hq fun i hi => ?_, h.goal⟩
  rcases hi with hi | hi
  · exact .inl (.inl hi)
  · rcases List.mem_append.1 hi with hi | hi
    · exact .inl (.inr hi)
    · exact .inr (List.mem_singleton.1 hi)
theorem LnI.done {a2 b2 : Nat} {r c : Int} {pre : List Nat} {q : List (E Int)} (h : LnI ls n F a to a2 b2 r c pre q) (hp : ∀ i l, ls[i]? = some l → F i = false → l.fr = r → i ∈ pre) : LeI ls n F a to a2 b2 q := by
  refine ⟨h.u1, h.u2, h.sub, h.dij.all fun i l hi hF => ?_, h.goal⟩
  by_cases hr : l.fr = r
  · exact .inr (hp i l hi hF hr)
  · refine .inl fun l' hl' => ?_
    rw [hi] at hl'
    injection hl' with hl'
    rwa [← hl']
end
theorem out_all {ls : List Lk} {r : Int} {fa fb : Nat} (ua : U64 fa) (ub : U64 fb) (hl : ls.length ≤ 128) (i : Nat) (l : Lk) (hi : ls[i]? = some l) (hF : hasB fa fb i = false) (hfr : l.fr = r) : i ∈ ((listM (outW ls r fa fb).1 (outW ls r fa fb).2).map (·.1)).map (·.1) := by
  rw [listM_val, listN_val, setL_mem, has_out ua ub, hi, hF]
  have := (List.getElem?_eq_some_iff.1 hi).1
  simp [frB, hfr]
  omega
theorem sorted_cut {α : Type} (c : Int) : ∀ {q : List (E α)}, Sorted q → ∃ k, k ≤ q.length ∧ (∀ y ∈ q.take k, y.c ≤ c) ∧ (∀ y ∈ q.drop k, c < y.c)
  | [], _ => ⟨0, Nat.le_refl _, (fun _ h => by cases h), (fun _ h => by cases h)⟩
  | a :: q, h => by
    have h' := h
    unfold Sorted at h'
    rw [List.pairwise_cons] at h'
    by_cases hc : c < a.c
    · refine ⟨0, Nat.zero_le _, (fun _ h => by cases h), fun y hy => ?_⟩
      rcases List.mem_cons.1 hy with rfl | hy
      · exact hc
      · have := h'.1 y hy
        unfold E.lt at this
        omega
    · obtain ⟨k, hk, h1, h2⟩ := sorted_cut c (q := q) h'.2
      refine ⟨k + 1, Nat.succ_le_succ hk, fun y hy => ?_, h2⟩
      rcases List.mem_cons.1 hy with rfl | hy
      · omega
      · exact h1 y hy
theorem mem_put {α : Type} (q : List α) (k : Nat) (e y : α) : y ∈ q.take k ++ e :: q.drop k ↔ y = e ∨ y ∈ q := by
  rw [List.mem_append, List.mem_cons]
  conv => rhs; rw [← List.take_append_drop k q, List.mem_append]
  constructor
  · rintro (h | h | h)
    · exact .inr (.inl h)
    · exact .inl h
    · exact .inr (.inr h)
  · rintro (h | h | h)
    · exact .inr (.inl h)
    · exact .inl h
    · exact .inr (.inr h)
theorem len_put {α : Type} (q : List α) (k : Nat) (e : α) : (q.take k ++ e :: q.drop k).length = q.length + 1 := by
  rw [List.length_append, List.length_cons, List.length_take, List.length_drop]; omega
theorem TreeAt.own {α : Type} {enc : α → Value} {T : TypeId} {B : Nat} {X Y : World} {row : Option Nat} (hg : X.grownBy Y row) (hr : ∀ r, row = some r → ∃ o : Obj, X.heap[r]? = some o ∧ o.isCells = false) :
    ∀ {t : Tr α} {p : Option Addr}, TreeAt enc T B X p t → TreeAt enc T B Y p t
  | .nil, _, h => h
  | .node _ _ _ _, _, ⟨b, pl, pr, e, hb, hi, hl, hr'⟩ => ⟨b, pl, pr, e, hb, blk_kept hi rfl hg hr, hl.own hg hr, hr'.own hg hr⟩
theorem HpAt.own {α : Type} {enc : α → Value} {TI TH : TypeId} {B : Nat} {X Y : World} {row : Option Nat} {q : List (E α)} {n : Int} (h : HpAt enc TI TH B X q n) (hg : X.grownBy Y row) (hr : ∀ r, row = some r → ∃ o : Obj, X.heap[r]? = some o ∧ o.isCells = false) : HpAt enc TI TH B Y q n := by
  obtain ⟨p, t, h0, h1, h2⟩ := h
  exact ⟨p, t, blk_kept h0 rfl hg hr, h1.own hg hr, h2⟩
theorem HpAt.sorted {α : Type} {enc : α → Value} {TI TH : TypeId} {B : Nat} {w : World} {q : List (E α)} {n : Int} (h : HpAt enc TI TH B w q n) : Sorted q := by
  obtain ⟨p, t, -, -, h2, -⟩ := h
  exact h2.sorted
theorem HpAt.far {α : Type} {enc : α → Value} {TI TH : TypeId} {B : Nat} {w : World} {q : List (E α)} {n : Int} (h : HpAt enc TI TH B w q n) {b : Nat} (hb : b < B) (i : Nat) (u : Value) : HpAt enc TI TH B (w.setCell ⟨b, i, none⟩ u) q n :=
  h.step fun c hc _ => heap_setCell_other _ _ _ _ (by show c ≠ b; omega)
theorem HpAt.keeps {α : Type} {enc : α → Value} {TI TH : TypeId} {B : Nat} {w w' : World} {q : List (E α)} {n : Int} (h : HpAt enc TI TH B w q n) (hg : w.grownBy w' (some B)) : KeepsOthers w w' := by
  obtain ⟨p, t, h0, -⟩ := h
  refine KeepsOthers.of_grownBy hg fun j o e ho => ?_
  injection e with e
  subst e
  rw [h0] at ho
  injection ho with ho
  subst ho
  rfl
structure LS (w : World) (vr vl : Value) (fa fb : Nat) (W : World) : Prop where
  topo : W.heap[w.heap.size]? = some (.cells #[vr, vl] 99 (0, 0))
  fl : SetAt W (w.heap.size + 1) fa fb
  below : Below w.heap.size w W
theorem LS.lt {w : World} {vr vl : Value} {fa fb : Nat} {W : World} (h : LS w vr vl fa fb W) : w.heap.size + 1 < W.heap.size := h.fl.lt
theorem LS.step {w : World} {vr vl : Value} {fa fb : Nat} {W W' : World} (h : LS w vr vl fa fb W) (hb : Below W.heap.size W W') : LS w vr vl fa fb W' :=
  ⟨(hb.block _ (Array.getElem?_eq_some_iff.1 h.topo).1).trans h.topo, h.fl.step hb, h.below.trans (hb.mono h.below.size)⟩
theorem LS.far {w : World} {vr vl : Value} {fa fb : Nat} {W : World} (h : LS w vr vl fa fb W) {b : Nat} (hb : w.heap.size + 1 < b) (i : Nat) (u : Value) : LS w vr vl fa fb (W.setCell ⟨b, i, none⟩ u) :=
  ⟨(heap_setCell_other _ _ _ _ (by show w.heap.size ≠ b; omega)).trans h.topo, h.fl.far (by omega) _ _, h.below.setCell (p := ⟨b, i, none⟩) (by show _ ≤ b; omega) _⟩
theorem LS.grown {w : World} {vr vl : Value} {fa fb : Nat} {W W' : World} (h : LS w vr vl fa fb W) {H : Nat} (hH : w.heap.size + 1 < H) (hg : W.grownBy W' (some H)) : LS w vr vl fa fb W' :=
  ⟨(hg.block _ (Array.getElem?_eq_some_iff.1 h.topo).1 (fun e => by injection e; omega)).trans h.topo, (hg.block _ h.fl.lt (fun e => by injection e; omega)).trans h.fl, h.below.grown hg h.below.size (fun k e => by cases e; omega)⟩
theorem LS.cells {w : World} {vr vl : Value} {fa fb : Nat} {W : World} (h : LS w vr vl fa fb W) : W.cell? ⟨w.heap.size, 0, none⟩ = some vr ∧ W.cell? ⟨w.heap.size, 1, none⟩ = some vl :=
  ⟨by rw [Lib.cell_of_heap h.topo]; rfl, by rw [Lib.cell_of_heap h.topo]; rfl⟩
theorem LS.own {w : World} {vr vl : Value} {fa fb S : Nat} (hS : w.heap.size ≤ S) {β : Type} : OwnFrom S (fun (_ : β) W => LS w vr vl fa fb W) := fun s X Y row hs hg hr =>
  ⟨blk_kept hs.topo rfl hg (fun r e => (hr r e).2), hs.fl.own hg (fun r e => (hr r e).2), ownFrom_below (β := β) (Nat.le_refl _) hS s X Y row hs.below hg hr⟩
theorem LS.start (w : World) (vr vl : Value) (fa fb : Nat) : LS w vr vl fa fb ((w.alloc (.cells #[vr, vl] 99)).alloc (.cells #[.int .u64 (fa : Int), .int .u64 (fb : Int)] 43)) := by
  refine ⟨(heap_alloc_old _ _ (by simp)).trans (heap_alloc_new w _), ?_, (below_new w _).trans ((below_new _ _).mono (below_new w _).size)⟩
  have := heap_alloc_new (w.alloc (.cells #[vr, vl] 99)) (.cells #[.int .u64 (fa : Int), .int .u64 (fb : Int)] 43)
  rwa [World.size_alloc] at this
theorem SetAt.grown {W W' : World} {b x y H : Nat} (h : SetAt W b x y) (hb : b ≠ H) (hg : W.grownBy W' (some H)) : SetAt W' b x y := (hg.block _ h.lt (fun e => by injection e with e; exact hb e)).trans h
end Go.Proofs.YtbhkfifmgbcknaaGreatDoor
