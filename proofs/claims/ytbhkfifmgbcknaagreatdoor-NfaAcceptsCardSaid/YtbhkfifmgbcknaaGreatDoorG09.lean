/-
  A part of the proof of the statement NfaAccepts.
-/
import Derived.Test.YtbhkfifmgbcknaaGreatDoorG08
import Derived.Laws.CopyRow
import Derived.MapKept
import Derived.Calls
set_option linter.unusedSimpArgs false
set_option linter.unusedVariables false
namespace Go.Proofs.YtbhkfifmgbcknaaGreatDoor.Ex
open Go Go.RowKit
inductive Ent where
  | cells (e : TypeId) (cs : List Value)
  | row (e : TypeId) (s : Nat) (cs : List Value)
  | map (es : List (Value × Value))
structure H where
  t : T Ent
  n : Nat
abbrev Full := Nat → Option Ent
inductive MsR (E : Env) : List (Value × Value) → List MapEntry → Prop
  | nil : MsR E [] []
  | cons {k v k' v' : Value} {b : Nat} {es : List (Value × Value)} {es' : List MapEntry} : VR E k k' → VR E v v' → MsR E es es' → MsR E ((k, v) :: es) (⟨k', v', b⟩ :: es')
theorem MsR.mono {E E' : Env} (hE : E.le E') : ∀ {xs : List (Value × Value)} {xs' : List MapEntry}, MsR E xs xs' → MsR E' xs xs'
  | _, _, .nil => .nil
  | _, _, .cons hk hv hs => .cons (hk.mono hE) (hv.mono hE) (hs.mono hE)
def At (E : Env) (w : World) (p : Pl) : Ent → Prop
  | .cells e cs => p.o = 0 ∧ p.c = none ∧ ∃ cs', w.heap[p.b]? = some (.cells cs'.toArray e (0, 0)) ∧ VsR E cs cs'
  | .row e s cs => ∃ c arr, p.c = some c ∧ w.heap[p.b]? = some (.cells arr e (0, 0)) ∧ 0 < s ∧ cs.length ≤ c * s ∧ p.o + c * s ≤ arr.size ∧ VsR E cs ((arr.toList.drop p.o).take cs.length)
  | .map es => p.o = 0 ∧ p.c = none ∧ ∃ arr clk, w.heap[p.b]? = some (.map arr clk) ∧ MsR E es arr.toList ∧ MapKept.Stamped arr clk
structure Rel (E : Env) (F : Full) (w : World) : Prop where
  at_ : ∀ i e, F i = some e → ∃ p, E i = some p ∧ At E w p e
  ne : ∀ i j e e' p q, F i = some e → F j = some e' → i ≠ j → E i = some p → E j = some q → p.b ≠ q.b
  kn : kFact w
  kb : ∀ b, b ∈ kBs → b < w.heap.size ∧ ∀ i e p, F i = some e → E i = some p → p.b ≠ b
structure Step (E : Env) (F : Full) (n : Nat) (w : World) (E' : Env) (F' : Full) (n' : Nat) (w' : World) : Prop where
  le : E.le E'
  rel : Rel E' F' w'
  own : ∀ i e p, F' i = some e → E' i = some p → w.heap.size ≤ p.b ∨ ∃ j e0 q, F j = some e0 ∧ E j = some q ∧ q.b = p.b
  frame : ∀ b, b < w.heap.size → (∀ i e p, F i = some e → E i = some p → p.b ≠ b) → w'.heap[b]? = w.heap[b]?
  size : w.heap.size ≤ w'.heap.size
  os : w'.os = w.os
  tape : w'.tape = w.tape
  output : w'.output = w.output
  nle : n ≤ n'
  out : ∀ i, i < n ∨ n' ≤ i → E' i = E i
theorem Step.refl {E : Env} {F : Full} {n : Nat} {w : World} (h : Rel E F w) : Step E F n w E F n w :=
  ⟨Env.le.refl E, h, fun i e p hf he => .inr ⟨i, e, p, hf, he, rfl⟩, fun _ _ _ => rfl, Nat.le_refl _, rfl, rfl, rfl, Nat.le_refl _, fun _ _ => rfl⟩
theorem At.lt {E : Env} {w : World} {p : Pl} {e : Ent} (h : At E w p e) : p.b < w.heap.size := by
  cases e with
  | cells e cs => obtain ⟨-, -, _, h, -⟩ := h; exact (Array.getElem?_eq_some_iff.1 h).1
  | row e s cs => obtain ⟨_, _, -, h, -⟩ := h; exact (Array.getElem?_eq_some_iff.1 h).1
  | map es => obtain ⟨-, -, _, _, h, -⟩ := h; exact (Array.getElem?_eq_some_iff.1 h).1
theorem At.mono {E E' : Env} {w w' : World} {p : Pl} {e : Ent} (hE : E.le E') (hb : w'.heap[p.b]? = w.heap[p.b]?) (h : At E w p e) : At E' w' p e := by
  cases e with
  | cells e cs => obtain ⟨h1, h2, cs', h3, h4⟩ := h; exact ⟨h1, h2, cs', hb.trans h3, h4.mono hE⟩
  | row e s cs => obtain ⟨c, arr, h1, h2, h3, h4, h5, h6⟩ := h; exact ⟨c, arr, h1, hb.trans h2, h3, h4, h5, h6.mono hE⟩
  | map es => obtain ⟨h1, h2, arr, clk, h3, h4, h5⟩ := h; exact ⟨h1, h2, arr, clk, hb.trans h3, h4.mono hE, h5⟩
theorem Step.trans {E E1 E2 : Env} {F F1 F2 : Full} {n n1 n2 : Nat} {w w1 w2 : World} (h : Step E F n w E1 F1 n1 w1) (k : Step E1 F1 n1 w1 E2 F2 n2 w2) : Step E F n w E2 F2 n2 w2 := by
  refine ⟨h.le.trans k.le, k.rel, ?_, ?_, Nat.le_trans h.size k.size, k.os.trans h.os, k.tape.trans h.tape, k.output.trans h.output, Nat.le_trans h.nle k.nle, ?_⟩
  · intro i e p hf he
    rcases k.own i e p hf he with hb | ⟨j, e1, q, hf1, he1, hq⟩
    · exact .inl (Nat.le_trans h.size hb)
    · rcases h.own j e1 q hf1 he1 with hb | ⟨j0, e0, q0, hf0, he0, hq0⟩
      · exact .inl (hq ▸ hb)
      · exact .inr ⟨j0, e0, q0, hf0, he0, hq0.trans hq⟩
  · intro b hb hne
    rw [k.frame b (Nat.lt_of_lt_of_le hb h.size) ?_, h.frame b hb hne]
    intro i e p hf he hpb
    rcases h.own i e p hf he with hb' | ⟨j, e0, q, hf0, he0, hq⟩
    · omega
    · exact hne j e0 q hf0 he0 (hq.trans hpb)
  · intro i hi
    have h1 := h.nle
    have h2 := k.nle
    rw [k.out i (by omega), h.out i (by omega)]
theorem Step.drew {E : Env} {F : Full} {n : Nat} {w : World} (h : Rel E F w) : Step E F n w E F n w.drew :=
  ⟨Env.le.refl E, ⟨fun i e hf => by obtain ⟨p, he, ha⟩ := h.at_ i e hf; exact ⟨p, he, ha.mono (Env.le.refl E) rfl⟩, h.ne, kOnly (w := w) (fun _ _ => rfl) h.kn, h.kb⟩, fun i e p hf he => .inr ⟨i, e, p, hf, he, rfl⟩, fun _ _ _ => rfl, Nat.le_refl _, rfl, rfl, rfl, Nat.le_refl _, fun _ _ => rfl⟩
def Sub (h : H) (F : Full) : Prop := ∀ i e, h.t.get i = some e → F i = some e
structure Fits (h h' : H) (F F' : Full) : Prop where
  sub : Sub h' F'
  keep : ∀ i, i < h.n ∨ h'.n ≤ i → h.t.get i = none → F' i = F i
  old : ∀ i, i < h.n ∨ h'.n ≤ i → h.t.get i = none → h'.t.get i = none
  nle : h.n ≤ h'.n
theorem Fits.refl {h : H} {F : Full} (hs : Sub h F) : Fits h h F F := ⟨hs, fun _ _ _ => rfl, fun _ _ h => h, Nat.le_refl _⟩
theorem Fits.trans {h h1 h2 : H} {F F1 F2 : Full} (a : Fits h h1 F F1) (b : Fits h1 h2 F1 F2) : Fits h h2 F F2 :=
  ⟨b.sub, fun i hi hn => by
      have h1 := a.nle
      have h2 := b.nle
      exact (b.keep i (by omega) (a.old i (by omega) hn)).trans (a.keep i (by omega) hn), fun i hi hn => by
      have h1 := a.nle
      have h2 := b.nle
      exact b.old i (by omega) (a.old i (by omega) hn), Nat.le_trans a.nle b.nle⟩
structure St (E : Env) (F : Full) (h : H) (w : World) : Prop where
  rel : Rel E F w
  sub : Sub h F
structure Go (E : Env) (F : Full) (h : H) (w : World) (E' : Env) (F' : Full) (h' : H) (w' : World) : Prop where
  step : Step E F h.n w E' F' h'.n w'
  fits : Fits h h' F F'
theorem Go.refl {E : Env} {F : Full} {h : H} {w : World} (s : St E F h w) : Go E F h w E F h w := ⟨.refl s.rel, .refl s.sub⟩
theorem Go.trans {E E1 E2 : Env} {F F1 F2 : Full} {h h1 h2 : H} {w w1 w2 : World} (a : Go E F h w E1 F1 h1 w1) (b : Go E1 F1 h1 w1 E2 F2 h2 w2) : Go E F h w E2 F2 h2 w2 := ⟨a.step.trans b.step, a.fits.trans b.fits⟩
theorem Go.st {E E1 : Env} {F F1 : Full} {h h1 : H} {w w1 : World} (a : Go E F h w E1 F1 h1 w1) : St E1 F1 h1 w1 := ⟨a.step.rel, a.fits.sub⟩
theorem Go.drew {E : Env} {F : Full} {h : H} {w : World} (s : St E F h w) : Go E F h w E F h w.drew := ⟨.drew s.rel, .refl s.sub⟩
def Free (E : Env) (n m : Nat) : Prop := ∀ i, n ≤ i → i < m → E i = none
def putF (F : Full) (i : Nat) (e : Ent) : Full := fun j => if j = i then some e else F j
def putE (E : Env) (i : Nat) (p : Pl) : Env := fun j => if j = i then some p else E j
theorem putE_le {E : Env} {n : Nat} {p : Pl} (hn : E n = none) : E.le (putE E n p) := fun i q h => by
  unfold putE
  by_cases hi : i = n
  · rw [hi, hn] at h; cases h
  · rw [if_neg hi]; exact h
theorem heap_new (w : World) (o : Obj) : (w.alloc o).heap[w.heap.size]? = some o := by
  show (w.heap.push o)[w.heap.size]? = _
  simp
theorem Go.new {E : Env} {F : Full} {h : H} {w : World} (s : St E F h w) (hn : E h.n = none) (o : Obj) (ent : Ent) (c : Option Nat) (ha : ∀ E' w', E.le E' → w'.heap[w.heap.size]? = some o → At E' w' ⟨w.heap.size, 0, c⟩ ent) :
    Go E F h w (putE E h.n ⟨w.heap.size, 0, c⟩) (putF F h.n ent) ⟨h.t.set ent h.n, Nat.succ h.n⟩ (w.alloc o) := by
  have hF : ∀ i e, F i = some e → i ≠ h.n := fun i e hf hi => by
    obtain ⟨p, he, -⟩ := s.rel.at_ i e hf
    rw [hi, hn] at he; cases he
  have hle := putE_le (p := ⟨w.heap.size, 0, c⟩) hn
  have hE : ∀ i, i ≠ h.n → putE E h.n ⟨w.heap.size, 0, c⟩ i = E i := fun i hi => by unfold putE; rw [if_neg hi]
  have hE0 : putE E h.n ⟨w.heap.size, 0, c⟩ h.n = some ⟨w.heap.size, 0, c⟩ := by unfold putE; rw [if_pos rfl]
  have hFi : ∀ i, i ≠ h.n → putF F h.n ent i = F i := fun i hi => by unfold putF; rw [if_neg hi]
  have hF0 : putF F h.n ent h.n = some ent := by unfold putF; rw [if_pos rfl]
  have hblk : ∀ k, k < w.heap.size → (w.alloc o).heap[k]? = w.heap[k]? := fun k hk => Below.heap_alloc w o k hk
  refine ⟨⟨hle, ⟨?_, ?_, kOnly (fun b hb => hblk b (s.rel.kb b hb).1) s.rel.kn, ?_⟩, ?_, ?_, by simp, rfl, rfl, rfl, Nat.le_succ _, ?_⟩, ⟨?_, ?_, ?_, Nat.le_succ _⟩⟩
  · intro i e hf
    by_cases hi : i = h.n
    · subst hi
      rw [hF0] at hf
      injection hf with hf
      subst hf
      exact ⟨_, hE0, ha _ _ hle (heap_new w o)⟩
    · rw [hFi i hi] at hf
      obtain ⟨p, he, hat⟩ := s.rel.at_ i e hf
      exact ⟨p, (hE i hi).trans he, hat.mono hle (hblk _ hat.lt)⟩
  · intro i j e e' p q hfi hfj hij hei hej
    by_cases hi : i = h.n
    · have hj : j ≠ h.n := fun hj => hij (hi.trans hj.symm)
      rw [hFi j hj] at hfj
      rw [hE j hj] at hej
      subst hi
      rw [hE0] at hei
      injection hei with hei
      subst hei
      obtain ⟨q', he, hat⟩ := s.rel.at_ j e' hfj
      rw [hej] at he
      injection he with he
      subst he
      have := hat.lt
      show w.heap.size ≠ q.b
      omega
    · rw [hFi i hi] at hfi
      rw [hE i hi] at hei
      by_cases hj : j = h.n
      · subst hj
        rw [hE0] at hej
        injection hej with hej
        subst hej
        obtain ⟨q', he, hat⟩ := s.rel.at_ i e hfi
        rw [hei] at he
        injection he with he
        subst he
        have := hat.lt
        show p.b ≠ w.heap.size
        omega
      · rw [hFi j hj] at hfj
        rw [hE j hj] at hej
        exact s.rel.ne i j e e' p q hfi hfj hij hei hej
  · intro b hb
    have hbs := s.rel.kb b hb
    refine ⟨by simp; omega, fun i e p hf he => ?_⟩
    by_cases hi : i = h.n
    · subst hi
      rw [hE0] at he
      cases he
      have := hbs.1
      show w.heap.size ≠ b
      omega
    · rw [hFi i hi] at hf
      rw [hE i hi] at he
      exact hbs.2 i e p hf he
  · intro i e p hf he
    by_cases hi : i = h.n
    · subst hi
      rw [hE0] at he
      injection he with he
      subst he
      exact .inl (Nat.le_refl _)
    · rw [hFi i hi] at hf
      rw [hE i hi] at he
      exact .inr ⟨i, e, p, hf, he, rfl⟩
  · intro b hb _
    exact hblk b hb
  · intro i hi
    refine hE i ?_
    rcases hi with hi | hi
    · omega
    · have hi' : Nat.succ h.n ≤ i := hi
      omega
  · intro i e hg
    have hg' : (h.t.set ent h.n).get i = some e := hg
    rw [T.get_set] at hg'
    by_cases hi : i = h.n
    · rw [if_pos hi] at hg'
      rw [hi, hF0]
      exact hg'
    · rw [if_neg hi] at hg'
      rw [hFi i hi]
      exact s.sub i e hg'
  · intro i hi _
    refine hFi i ?_
    rcases hi with hi | hi
    · omega
    · have hi' : Nat.succ h.n ≤ i := hi
      omega
  · intro i hi hg
    show (h.t.set ent h.n).get i = none
    rw [T.get_set, if_neg (by
      rcases hi with hi | hi
      · omega
      · have hi' : Nat.succ h.n ≤ i := hi
        omega)]
    exact hg
theorem Go.cells {E : Env} {F : Full} {h : H} {w : World} (s : St E F h w) (hn : E h.n = none) (e : TypeId) {cs cs' : List Value} (hv : VsR E cs cs') :
    Go E F h w (putE E h.n ⟨w.heap.size, 0, none⟩) (putF F h.n (.cells e cs)) ⟨h.t.set (.cells e cs) h.n, Nat.succ h.n⟩ (w.alloc (.cells cs'.toArray e (0, 0))) :=
  Go.new s hn _ _ _ fun _ _ hle hb => ⟨rfl, rfl, cs', hb, hv.mono hle⟩
theorem putE_at (E : Env) (i : Nat) (p : Pl) : putE E i p i = some p := if_pos rfl
theorem Go.put {E : Env} {F : Full} {h : H} {w w' : World} (s : St E F h w) {i : Nat} {e0 ent : Ent} {p : Pl} (hg : h.t.get i = some e0) (he : E i = some p) (ha : At E w' p ent)
    (hb : ∀ k, k ≠ p.b → w'.heap[k]? = w.heap[k]?) (hz : w'.heap.size = w.heap.size) (hos : w'.os = w.os) (ht : w'.tape = w.tape) (ho : w'.output = w.output) :
    Go E F h w E (putF F i ent) ⟨h.t.set ent i, h.n⟩ w' := by
  have hf0 := s.sub i e0 hg
  have hFi : ∀ j, j ≠ i → putF F i ent j = F j := fun j hj => by unfold putF; rw [if_neg hj]
  have hF0 : putF F i ent i = some ent := by unfold putF; rw [if_pos rfl]
  refine ⟨⟨Env.le.refl E, ⟨?_, ?_, kOnly (fun b hbk => hb b (fun h => (s.rel.kb b hbk).2 i e0 p hf0 he h.symm)) s.rel.kn, ?_⟩, ?_, ?_, by omega, hos, ht, ho, Nat.le_refl _, fun _ _ => rfl⟩, ⟨?_, ?_, ?_, Nat.le_refl _⟩⟩
  · intro j e hf
    by_cases hj : j = i
    · subst hj
      rw [hF0] at hf
      injection hf with hf
      subst hf
      exact ⟨p, he, ha⟩
    · rw [hFi j hj] at hf
      obtain ⟨q, hq, hat⟩ := s.rel.at_ j e hf
      exact ⟨q, hq, hat.mono (Env.le.refl E) (hb _ (s.rel.ne j i e e0 q p hf hf0 hj hq he))⟩
  · intro j k e e' q r hfj hfk hjk hej hek
    have hj' : ∃ e1, F j = some e1 := by
      by_cases hj : j = i
      · exact ⟨e0, hj ▸ hf0⟩
      · exact ⟨e, by rw [← hFi j hj]; exact hfj⟩
    have hk' : ∃ e1, F k = some e1 := by
      by_cases hk : k = i
      · exact ⟨e0, hk ▸ hf0⟩
      · exact ⟨e', by rw [← hFi k hk]; exact hfk⟩
    obtain ⟨e1, h1⟩ := hj'
    obtain ⟨e2, h2⟩ := hk'
    exact s.rel.ne j k e1 e2 q r h1 h2 hjk hej hek
  · intro b hbk
    have hbs := s.rel.kb b hbk
    refine ⟨by rw [hz]; exact hbs.1, fun j e q hf hq => ?_⟩
    by_cases hj : j = i
    · subst hj
      exact hbs.2 j e0 q hf0 hq
    · rw [hFi j hj] at hf
      exact hbs.2 j e q hf hq
  · intro j e q hf hq
    refine .inr ?_
    by_cases hj : j = i
    · subst hj
      exact ⟨j, e0, q, hf0, hq, rfl⟩
    · rw [hFi j hj] at hf
      exact ⟨j, e, q, hf, hq, rfl⟩
  · intro b _ hne
    exact hb b (fun hbp => hne i e0 p hf0 he hbp.symm)
  · intro j e hgj
    have hgj' : (h.t.set ent i).get j = some e := hgj
    rw [T.get_set] at hgj'
    by_cases hj : j = i
    · rw [if_pos hj] at hgj'
      rw [hj, hF0]
      exact hgj'
    · rw [if_neg hj] at hgj'
      rw [hFi j hj]
      exact s.sub j e hgj'
  · intro j hj hgj
    refine hFi j (fun hji => ?_)
    rw [hji, hg] at hgj; cases hgj
  · intro j hj hgj
    show (h.t.set ent i).get j = none
    rw [T.get_set, if_neg (fun hji => by rw [hji, hg] at hgj; cases hgj)]
    exact hgj
end Go.Proofs.YtbhkfifmgbcknaaGreatDoor.Ex
namespace Go.Proofs.YtbhkfifmgbcknaaGreatDoor.Ex
open Go Go.RowKit
abbrev Fr := T Value
inductive Out where
  | val (v : Value) (h : H)
  | enter (f : FuncId) (args : List Value) (h : H)
  | fail
abbrev X := Fr → H → Out
inductive Opd where
  | t (n : Nat)
  | c (v : Value)
  | g (n : Nat)
  | bad
noncomputable def gr : Nat → Value → Bool
  | 0, _ => false
  | n + 1, v => match v with
    | .bool _ => true
    | .int _ _ => true
    | .string _ => true
    | .pointer none => true
    | .slice none _ _ => true
    | .map none => true
    | .nilFunc => true
    | .nilIface => true
    | .iface _ v => gr n v
    | .agg cs => cs.toList.all (gr n)
    | .tuple cs => cs.toList.all (gr n)
    | _ => false
theorem vsr_of_all {E : Env} {f : Value → Bool} (hf : ∀ v, f v = true → VR E v v) : ∀ (l : List Value), l.all f = true → VsR E l l
  | [], _ => .nil
  | v :: l, h => by
    simp only [List.all_cons, Bool.and_eq_true] at h
    exact .cons (hf v h.1) (vsr_of_all hf l h.2)
theorem gr_ok {E : Env} : ∀ (n : Nat) (v : Value), gr n v = true → VR E v v
  | 0, v, h => by cases h
  | n + 1, v, h => by
    have ih := gr_ok (E := E) n
    unfold gr at h
    split at h
    · exact .bool _
    · exact .int _ _
    · exact .string _
    · exact .ptr0
    · exact .slice0 _ _
    · exact .map0
    · exact .func0
    · exact .iface0
    · exact .iface _ (ih _ h)
    · rename_i cs
      have := VR.agg (vsr_of_all ih cs.toList h)
      rwa [Array.toArray_toList] at this
    · rename_i cs
      have := VR.tuple (vsr_of_all ih cs.toList h)
      rwa [Array.toArray_toList] at this
    · cases h
noncomputable def cOpd (ng : Nat) : Operand → Opd
  | .tmp t => .t t
  | .const v => match gr 6 v with | true => .c v | false => .bad
  | .global g => match Nat.ble (Nat.succ g) ng with | true => .g g | false => .bad
  | .func f => .c (.func (.func f) #[] #[])
noncomputable def ev (tm : Fr) : Opd → Option Value
  | .t n => tm.get n
  | .c v => some v
  | .g n => some (.pointer (some ⟨n, 0, none⟩))
  | .bad => none
structure TmR (E : Env) (nt : Nat) (df : List Deferred) (tm : Fr) (a : Act) : Prop where
  size : a.tmps.size = nt
  at_ : ∀ t v, tm.get t = some v → ∃ v', a.tmps[t]? = some v' ∧ VR E v v'
  defers : a.defers = df
def Glob (E : Env) (ng : Nat) : Prop := ∀ g, g < ng → E g = some ⟨g, 0, none⟩
theorem Glob.mono {E E' : Env} {ng : Nat} (h : Glob E ng) (hE : E.le E') : Glob E' ng := fun g hg => hE _ _ (h g hg)
theorem TmR.mono {E E' : Env} {nt : Nat} {df : List Deferred} {tm : Fr} {a : Act} (h : TmR E nt df tm a) (hE : E.le E') : TmR E' nt df tm a :=
  ⟨h.size, fun t v hv => by obtain ⟨v', h1, h2⟩ := h.at_ t v hv; exact ⟨v', h1, h2.mono hE⟩, h.defers⟩
theorem ev_ok {E : Env} {ng nt : Nat} {df : List Deferred} {tm : Fr} {a : Act} (hg : Glob E ng) (ht : TmR E nt df tm a) {x : Operand} {v : Value} (h : ev tm (cOpd ng x) = some v) : VR E v (a.eval x) := by
  cases x with
  | tmp t =>
    obtain ⟨v', h1, h2⟩ := ht.at_ t v h
    have e : a.eval (.tmp t) = v' := by
      show a.tmps.getD t undef = v'
      rw [Array.getD_eq_getD_getElem?, h1]; rfl
    rw [e]; exact h2
  | const c =>
    dsimp only [cOpd] at h
    cases hc : gr 6 c with
    | true =>
      rw [hc] at h
      have h' : some c = some v := h
      injection h' with h'
      subst h'
      exact gr_ok 6 c hc
    | false => rw [hc] at h; cases h
  | global g =>
    dsimp only [cOpd] at h
    cases hc : Nat.ble (Nat.succ g) ng with
    | true =>
      rw [hc] at h
      have h' : some (Value.pointer (some ⟨g, 0, none⟩)) = some v := h
      injection h' with h'
      subst h'
      have := VR.ptr (E := E) (o := 0) (hg g (Nat.le_of_ble_eq_true hc))
      exact this
    | false => rw [hc] at h; cases h
  | func f =>
    have h' : some (Value.func (.func f) #[] #[]) = some v := h
    injection h' with h'
    subst h'
    exact VR.func (f := f) VsR.nil VsR.nil
def Told (P : Program) (o : Oper) (a : Act) (E : Env) (F : Full) (h : H) (w : World) : Out → Prop
  | .val v h' => Free E h.n h'.n → ∃ E' F' w' r, Go E F h w E' F' h' w' ∧ ((∃ v', r = .value v' ∧ VR E' v v') ∨ (r = .skip ∧ v = undef)) ∧ (execOp a.eval o).run P w = .ok r w'
  | .enter f args h' => h' = h ∧ ∃ args', VsR E args args' ∧ (execOp a.eval o).run P w = .ok (.enter f args'.toArray) w
  | .fail => True
def Does (P : Program) (ng nt : Nat) (o : Oper) (x : X) : Prop :=
  ∀ (tm : Fr) (h : H) (E : Env) (F : Full) (w : World) (a : Act) (df : List Deferred), St E F h w → Glob E ng → TmR E nt df tm a → Told P o a E F h w (x tm h)
theorem Told.same {P : Program} {o : Oper} {a : Act} {E : Env} {F : Full} {h : H} {w : World} (s : St E F h w) {v v' : Value} (hv : VR E v v') (hr : (execOp a.eval o).run P w = .ok (.value v') w) : Told P o a E F h w (.val v h) :=
  fun _ => ⟨E, F, w, _, Go.refl s, .inl ⟨v', rfl, hv⟩, hr⟩
def xFail : X := fun _ _ => .fail
theorem does_fail (P : Program) (ng nt : Nat) (o : Oper) : Does P ng nt o xFail := fun _ _ _ _ _ _ _ _ _ _ => trivial
noncomputable def xMov (x : Opd) : X := fun tm h => match ev tm x with
  | some v => .val v h
  | none => .fail
theorem does_mov {P : Program} {ng nt : Nat} {o : Oper} {x : Operand} (ho : o.op = .move x ∨ o.op = .assign x) : Does P ng nt o (xMov (cOpd ng x)) := by
  intro tm h E F w a df s hg ht
  unfold xMov
  cases hx : ev tm (cOpd ng x) with
  | none => exact trivial
  | some v =>
    refine Told.same s (ev_ok hg ht hx) ?_
    rcases ho with ho | ho <;> simp [execOp, ho]
noncomputable def xPick (c a b : Opd) : X := fun tm h => match ev tm c with
  | some (.bool true) => xMov a tm h
  | some (.bool false) => xMov b tm h
  | _ => .fail
theorem VR.bool_inv {E : Env} {b : Bool} {v : Value} (h : VR E (.bool b) v) : v = .bool b := by cases h; rfl
theorem VR.int_inv {E : Env} {k : IntKind} {n : Int} {v : Value} (h : VR E (.int k n) v) : v = .int k n := by cases h; rfl
theorem VR.string_inv {E : Env} {s : ByteArray} {v : Value} (h : VR E (.string s) v) : v = .string s := by cases h; rfl
theorem VR.ptr0_inv {E : Env} {v : Value} (h : VR E (.pointer none) v) : v = .pointer none := by cases h; rfl
theorem VR.iface0_inv {E : Env} {v : Value} (h : VR E .nilIface v) : v = .nilIface := by cases h; rfl
theorem VR.iface_inv {E : Env} {t : TypeId} {u v : Value} (h : VR E (.iface t u) v) : ∃ u', v = .iface t u' ∧ VR E u u' := by
  cases h; exact ⟨_, rfl, by assumption⟩
theorem VR.ptr_inv {E : Env} {i o : Nat} {sp : Option Nat} {v : Value} (h : VR E (.pointer (some ⟨i, o, sp⟩)) v) : ∃ p, E i = some p ∧ sp = none ∧ v = .pointer (some ⟨p.b, p.o + o, none⟩) := by
  cases h; exact ⟨_, by assumption, rfl, rfl⟩
theorem VR.tuple_inv {E : Env} {xs : Array Value} {v : Value} (h : VR E (.tuple xs) v) : ∃ xs', v = .tuple xs' ∧ VsR E xs.toList xs'.toList := by
  generalize hu : Value.tuple xs = u at h
  cases h <;> cases hu
  exact ⟨_, rfl, by assumption⟩
theorem VR.agg_inv {E : Env} {xs : Array Value} {v : Value} (h : VR E (.agg xs) v) : ∃ xs', v = .agg xs' ∧ VsR E xs.toList xs'.toList := by
  generalize hu : Value.agg xs = u at h
  cases h <;> cases hu
  exact ⟨_, rfl, by assumption⟩
theorem does_pick {P : Program} {ng nt : Nat} {o : Oper} {c x y : Operand} (ho : o.op = .pick c x y) : Does P ng nt o (xPick (cOpd ng c) (cOpd ng x) (cOpd ng y)) := by
  intro tm h E F w a df s hg ht
  unfold xPick
  cases hc : ev tm (cOpd ng c) with
  | none => exact trivial
  | some v =>
    have hv := ev_ok hg ht hc
    cases v with
    | bool b =>
      have eb := hv.bool_inv
      cases b with
      | true =>
        show Told P o a E F h w (xMov (cOpd ng x) tm h)
        unfold xMov
        cases hx : ev tm (cOpd ng x) with
        | none => exact trivial
        | some v => exact Told.same s (ev_ok hg ht hx) (by simp [execOp, ho, eb, asBool])
      | false =>
        show Told P o a E F h w (xMov (cOpd ng y) tm h)
        unfold xMov
        cases hx : ev tm (cOpd ng y) with
        | none => exact trivial
        | some v => exact Told.same s (ev_ok hg ht hx) (by simp [execOp, ho, eb, asBool])
    | _ => exact trivial
noncomputable def xNot (x : Opd) : X := fun tm h => match ev tm x with
  | some (.bool true) => .val (.bool false) h
  | some (.bool false) => .val (.bool true) h
  | _ => .fail
theorem does_not {P : Program} {ng nt : Nat} {o : Oper} {t : TypeId} {x : Operand} (ho : o.op = .unOp .not t x) : Does P ng nt o (xNot (cOpd ng x)) := by
  intro tm h E F w a df s hg ht
  unfold xNot
  cases hx : ev tm (cOpd ng x) with
  | none => exact trivial
  | some v =>
    have hv := ev_ok hg ht hx
    cases v with
    | bool b =>
      have eb := hv.bool_inv
      cases b with
      | true => exact Told.same s (.bool false) (by simp [execOp, ho, eb, Op.unary])
      | false => exact Told.same s (.bool true) (by simp [execOp, ho, eb, Op.unary])
    | _ => exact trivial
noncomputable def xExt (x : Opd) (i : Nat) : X := fun tm h => match ev tm x with
  | some (.tuple vs) => match lget vs.toList i with
    | some v => .val v h
    | none => .fail
  | _ => .fail
theorem does_ext {P : Program} {ng nt : Nat} {o : Oper} {x : Operand} {i : Nat} (ho : o.op = .extract x i) : Does P ng nt o (xExt (cOpd ng x) i) := by
  intro tm h E F w a df s hg ht
  unfold xExt
  cases hx : ev tm (cOpd ng x) with
  | none => exact trivial
  | some v =>
    have hv := ev_ok hg ht hx
    cases v with
    | tuple vs =>
      obtain ⟨vs', e, hvs⟩ := hv.tuple_inv
      show Told P o a E F h w (match lget vs.toList i with | some v => .val v h | none => .fail)
      cases hl : lget vs.toList i with
      | none => exact trivial
      | some v =>
        rw [lget_eq] at hl
        obtain ⟨v', h1, h2⟩ := hvs.at hl
        have h1' : vs'[i]? = some v' := by simpa using h1
        exact Told.same s h2 (by simp [execOp, ho, e, Instr.extract, h1'])
    | _ => exact trivial
noncomputable def xIface (t : TypeId) (x : Opd) : X := fun tm h => match ev tm x with
  | some v => .val (.iface t v) h
  | none => .fail
theorem does_iface {P : Program} {ng nt : Nat} {o : Oper} {t : TypeId} {x : Operand} (ho : o.op = .makeInterface t x) {d : TypeDesc} (hd : P.underlying t = some d) (hi : ∀ ms, d ≠ .interface ms) : Does P ng nt o (xIface t (cOpd ng x)) := by
  intro tm h E F w a df s hg ht
  unfold xIface
  cases hx : ev tm (cOpd ng x) with
  | none => exact trivial
  | some v =>
    refine Told.same s (.iface t (ev_ok hg ht hx)) ?_
    have hr : (Instr.makeInterface t (a.eval x)).run P w = .ok (.iface t (a.eval x)) w := by
      unfold Instr.makeInterface
      rw [Sem.run_bind, run_underlying hd w]
      cases d <;> first | rfl | exact absurd rfl (hi _)
    simp [execOp, ho, hr]
noncomputable def xNil (x : Opd) : X := fun tm h => match ev tm x with
  | some (.pointer (some p)) => .val (.pointer (some p)) h
  | some (.iface t v) => .val (.iface t v) h
  | some (.func (.func f) a b) => .val (.func (.func f) a b) h
  | _ => .fail
theorem does_nil {P : Program} {ng nt : Nat} {o : Oper} {x : Operand} (ho : o.op = .nilCheck x) : Does P ng nt o (xNil (cOpd ng x)) := by
  intro tm h E F w a df s hg ht
  unfold xNil
  cases hx : ev tm (cOpd ng x) with
  | none => exact trivial
  | some v =>
    have hv := ev_ok hg ht hx
    cases v with
    | pointer p =>
      cases p with
      | none => exact trivial
      | some p =>
        obtain ⟨i, oo, sp⟩ := p
        obtain ⟨q, h1, h2, h3⟩ := hv.ptr_inv
        exact Told.same s hv (by simp [execOp, ho, h3])
    | iface t u =>
      obtain ⟨u', e, -⟩ := hv.iface_inv
      exact Told.same s hv (by simp [execOp, ho, e])
    | func fn p q =>
      cases fn with
      | func f =>
        generalize hu : a.eval x = u at hv
        cases hv
        exact Told.same s (hu ▸ (ev_ok hg ht hx)) (by simp [execOp, ho, hu])
      | _ => exact trivial
    | _ => exact trivial
end Go.Proofs.YtbhkfifmgbcknaaGreatDoor.Ex
