/-
  A part of the proof of the statement NfaAccepts.
-/
import Derived.Test.YtbhkfifmgbcknaaGreatDoorG18
set_option linter.unusedSimpArgs false
set_option linter.unusedVariables false
namespace Go.Proofs.YtbhkfifmgbcknaaGreatDoor.Ex
open Go Go.RowKit
noncomputable def aEq (a b : Option Addr) : Bool := match a with
  | none => match b with
    | none => true
    | some _ => false
  | some ⟨x, o, none⟩ => match b with
    | some ⟨y, p, none⟩ => match Nat.beq x y with
      | true => Nat.beq o p
      | false => false
    | _ => false
  | some ⟨_, _, some _⟩ => false
theorem aEq_ok {a b : Option Addr} (h : aEq a b = true) : a = b := by
  unfold aEq at h
  split at h
  · split at h
    · rfl
    · cases h
  · split at h
    · split at h
      · rename_i h1
        rw [Nat.eq_of_beq_eq_true h1, Nat.eq_of_beq_eq_true h]
      · cases h
    · cases h
  · cases h
noncomputable def mEq (a b : Option Nat) : Bool := match a with
  | none => match b with
    | none => true
    | some _ => false
  | some x => match b with
    | some y => Nat.beq x y
    | none => false
theorem mEq_ok {a b : Option Nat} (h : mEq a b = true) : a = b := by
  unfold mEq at h
  split at h
  · split at h
    · rfl
    · cases h
  · split at h
    · rw [Nat.eq_of_beq_eq_true h]
    · cases h
section
variable {α : Type}
noncomputable def lEq (f : α → α → Bool) (l : List α) : List α → Bool :=
  List.rec (motive := fun _ => List α → Bool) (fun r => match r with
      | [] => true
      | _ :: _ => false)
    (fun a _ ih r => match r with
      | [] => false
      | b :: r => match f a b with
        | true => ih r
        | false => false) l
theorem lEq_ok {f : α → α → Bool} (hf : ∀ a b, f a b = true → a = b) : ∀ (l r : List α), lEq f l r = true → l = r
  | [], [], _ => rfl
  | [], _ :: _, h => by cases (show false = true from h)
  | _ :: _, [], h => by cases (show false = true from h)
  | a :: l, b :: r, h => by
    have h' : (match f a b with
      | true => lEq f l r
      | false => false) = true := h
    cases hab : f a b with
    | false => rw [hab] at h'; cases h'
    | true =>
      rw [hab] at h'
      rw [hf a b hab, lEq_ok hf l r h']
end
noncomputable def bEq (a b : UInt8) : Bool := Nat.beq a.toNat b.toNat
theorem bEq_ok (a b : UInt8) (h : bEq a b = true) : a = b := UInt8.toNat_inj.1 (Nat.eq_of_beq_eq_true h)
noncomputable def veq (n : Nat) : Value → Value → Bool :=
  Nat.rec (motive := fun _ => Value → Value → Bool) (fun _ _ => false) (fun _ ih a b => match a with
    | .bool x => match b with
      | .bool y => match x with
        | true => y
        | false => bnot y
      | _ => false
    | .int k x => match b with
      | .int k' y => match decide (k = k') with
        | true => decide (x = y)
        | false => false
      | _ => false
    | .string s => match b with
      | .string t => lEq bEq s.data.toList t.data.toList
      | _ => false
    | .pointer x => match b with
      | .pointer y => aEq x y
      | _ => false
    | .slice x l c => match b with
      | .slice y l' c' => match aEq x y with
        | true => match Nat.beq l l' with
          | true => Nat.beq c c'
          | false => false
        | false => false
      | _ => false
    | .map x => match b with
      | .map y => mEq x y
      | _ => false
    | .func (.func f) xs ys => match b with
      | .func (.func g) us vs => match Nat.beq f g with
        | true => match lEq ih xs.toList us.toList with
          | true => lEq ih ys.toList vs.toList
          | false => false
        | false => false
      | _ => false
    | .nilFunc => match b with
      | .nilFunc => true
      | _ => false
    | .iface t x => match b with
      | .iface u y => match Nat.beq t u with
        | true => ih x y
        | false => false
      | _ => false
    | .nilIface => match b with
      | .nilIface => true
      | _ => false
    | .agg xs => match b with
      | .agg ys => lEq ih xs.toList ys.toList
      | _ => false
    | .tuple xs => match b with
      | .tuple ys => lEq ih xs.toList ys.toList
      | _ => false
    | _ => false) n
theorem veq_succ (n : Nat) (a b : Value) : veq (n + 1) a b = (match a with
    | .bool x => match b with
      | .bool y => match x with
        | true => y
        | false => bnot y
      | _ => false
    | .int k x => match b with
      | .int k' y => match decide (k = k') with
        | true => decide (x = y)
        | false => false
      | _ => false
    | .string s => match b with
      | .string t => lEq bEq s.data.toList t.data.toList
      | _ => false
    | .pointer x => match b with
      | .pointer y => aEq x y
      | _ => false
    | .slice x l c => match b with
      | .slice y l' c' => match aEq x y with
        | true => match Nat.beq l l' with
          | true => Nat.beq c c'
          | false => false
        | false => false
      | _ => false
    | .map x => match b with
      | .map y => mEq x y
      | _ => false
    | .func (.func f) xs ys => match b with
      | .func (.func g) us vs => match Nat.beq f g with
        | true => match lEq (veq n) xs.toList us.toList with
          | true => lEq (veq n) ys.toList vs.toList
          | false => false
        | false => false
      | _ => false
    | .nilFunc => match b with
      | .nilFunc => true
      | _ => false
    | .iface t x => match b with
      | .iface u y => match Nat.beq t u with
        | true => veq n x y
        | false => false
      | _ => false
    | .nilIface => match b with
      | .nilIface => true
      | _ => false
    | .agg xs => match b with
      | .agg ys => lEq (veq n) xs.toList ys.toList
      | _ => false
    | .tuple xs => match b with
      | .tuple ys => lEq (veq n) xs.toList ys.toList
      | _ => false
    | _ => false) := rfl
theorem ba_ext {s t : ByteArray} (h : s.data.toList = t.data.toList) : s = t := by
  cases s; cases t
  congr 1
  exact Array.ext' h
theorem veq_ok : ∀ (n : Nat) (a b : Value), veq n a b = true → a = b
  | 0, a, b, h => by cases (show false = true from h)
  | n + 1, a, b, h => by
    have ih := veq_ok n
    have arr : ∀ {xs ys : Array Value}, lEq (veq n) xs.toList ys.toList = true → xs = ys := fun h => Array.ext' (lEq_ok ih _ _ h)
    rw [veq_succ] at h
    cases a with
    | bool x =>
      dsimp only at h
      split at h
      · rename_i y
        cases x <;> cases y <;> first
          | rfl
          | (exfalso; revert h; decide)
      · cases h
    | int k x =>
      dsimp only at h
      split at h
      · split at h
        · rename_i hk
          rw [of_decide_eq_true hk, of_decide_eq_true h]
        · cases h
      · cases h
    | string s =>
      dsimp only at h
      split at h
      · rw [ba_ext (lEq_ok bEq_ok _ _ h)]
      · cases h
    | pointer x =>
      dsimp only at h
      split at h
      · rw [aEq_ok h]
      · cases h
    | slice x l c =>
      dsimp only at h
      split at h
      · split at h
        · rename_i h1
          split at h
          · rename_i h2
            rw [aEq_ok h1, Nat.eq_of_beq_eq_true h2, Nat.eq_of_beq_eq_true h]
          · cases h
        · cases h
      · cases h
    | map x =>
      dsimp only at h
      split at h
      · rw [mEq_ok h]
      · cases h
    | func fn xs ys =>
      cases fn with
      | func f =>
        dsimp only at h
        split at h
        · split at h
          · rename_i h1
            split at h
            · rename_i h2
              rw [Nat.eq_of_beq_eq_true h1, arr h2, arr h]
            · cases h
          · cases h
        · cases h
      | _ => cases h
    | nilFunc =>
      dsimp only at h
      split at h
      · rfl
      · cases h
    | iface t x =>
      dsimp only at h
      split at h
      · split at h
        · rename_i h1
          rw [Nat.eq_of_beq_eq_true h1, ih _ _ h]
        · cases h
      · cases h
    | nilIface =>
      dsimp only at h
      split at h
      · rfl
      · cases h
    | agg xs =>
      dsimp only at h
      split at h
      · rw [arr h]
      · cases h
    | tuple xs =>
      dsimp only at h
      split at h
      · rw [arr h]
      · cases h
    | _ => cases h
noncomputable def restr (tm : Fr) (l : List Nat) : Fr :=
  List.rec (motive := fun _ => Fr) .leaf (fun t _ ih => match tm.get t with
    | some v => ih.set v t
    | none => ih) l
theorem restr_get (tm : Fr) {t : Nat} {v : Value} : ∀ (l : List Nat), (restr tm l).get t = some v → t ∈ l ∧ tm.get t = some v
  | [], h => by cases h
  | u :: l, h => by
    have h' : (match tm.get u with
      | some v => (restr tm l).set v u
      | none => restr tm l).get t = some v := h
    cases hu : tm.get u with
    | none =>
      rw [hu] at h'
      obtain ⟨h1, h2⟩ := restr_get tm l h'
      exact ⟨List.mem_cons_of_mem _ h1, h2⟩
    | some x =>
      rw [hu] at h'
      dsimp only at h'
      rw [T.get_set] at h'
      by_cases htu : t = u
      · rw [if_pos htu] at h'
        subst htu
        exact ⟨List.mem_cons_self, hu.trans h'⟩
      · rw [if_neg htu] at h'
        obtain ⟨h1, h2⟩ := restr_get tm l h'
        exact ⟨List.mem_cons_of_mem _ h1, h2⟩
noncomputable def freeAt (m j : Nat) (es : List Nat) : Nat → Bool :=
  List.rec (motive := fun _ => Nat → Bool) (fun _ => true) (fun p _ ih i => match Nat.testBit p j with
    | true => Nat.ble m i
    | false => ih (Nat.succ i)) es
theorem freeAt_ok {m j : Nat} : ∀ (es : List Nat) (i : Nat), freeAt m j es i = true → ∀ x p, es[x]? = some p → p.testBit j = true → m ≤ i + x
  | [], i, _, x, p, hp, _ => by simp at hp
  | q :: es, i, h, x, p, hp, hb => by
    have h' : (match Nat.testBit q j with
      | true => Nat.ble m i
      | false => freeAt m j es (i + 1)) = true := h
    cases hq : Nat.testBit q j with
    | true =>
      rw [hq] at h'
      have := Nat.le_of_ble_eq_true h'
      omega
    | false =>
      rw [hq] at h'
      cases x with
      | zero =>
        simp at hp
        rw [hp, hb] at hq; cases hq
      | succ x =>
        have := freeAt_ok es (i + 1) h' x p (by simpa using hp) hb
        omega
theorem freeAt_of {m j : Nat} : ∀ (es : List Nat) (i : Nat), (∀ x p, es[x]? = some p → p.testBit j = true → m ≤ i + x) → freeAt m j es i = true
  | [], i, _ => rfl
  | q :: es, i, h => by
    show (match Nat.testBit q j with
      | true => Nat.ble m i
      | false => freeAt m j es (i + 1)) = true
    cases hq : Nat.testBit q j with
    | true => exact Nat.ble_eq_true_of_le (h 0 q (by simp) hq)
    | false =>
      refine freeAt_of es (i + 1) fun x p hp hb => ?_
      have := h (x + 1) p (by simpa using hp) hb
      omega
noncomputable def loOk (p m : Nat) (ei : List Nat) : Nat → Bool :=
  List.rec (motive := fun _ => Nat → Bool) (fun _ => true) (fun e _ ih i => match Nat.testBit p e with
    | true => match Nat.ble (Nat.succ i) m with
      | true => ih (Nat.succ i)
      | false => false
    | false => ih (Nat.succ i)) ei
theorem loOk_of {p m : Nat} : ∀ (ei : List Nat) (i : Nat), (∀ x e, ei[x]? = some e → p.testBit e = true → i + x < m) → loOk p m ei i = true
  | [], i, _ => rfl
  | e :: ei, i, h => by
    have hr : loOk p m ei (i + 1) = true := loOk_of ei (i + 1) fun x e' he hb => by
      have := h (x + 1) e' (by simpa using he) hb
      omega
    show (match Nat.testBit p e with
      | true => match Nat.ble (Nat.succ i) m with
        | true => loOk p m ei (i + 1)
        | false => false
      | false => loOk p m ei (i + 1)) = true
    cases hb : Nat.testBit p e with
    | false => exact hr
    | true =>
      have := h 0 e (by simp) hb
      rw [Nat.ble_eq_true_of_le (show Nat.succ i ≤ m by omega)]
      exact hr
noncomputable def tabOf (en : T (Nat × Ent)) (es : List Nat) (p m : Nat) (core : T Ent) (al : List Nat) : T Ent :=
  List.rec (motive := fun _ => T Ent) core (fun j _ ih => match Nat.testBit p j with
    | true => match en.get j with
      | some (i, e) => match freeAt m j es 0 with
        | true => ih.set e i
        | false => ih
      | none => ih
    | false => ih) al
theorem tabOf_get {en : T (Nat × Ent)} {es : List Nat} {p m : Nat} {core : T Ent} {i : Nat} {e : Ent} : ∀ (al : List Nat), (tabOf en es p m core al).get i = some e → core.get i = some e ∨ ∃ j, p.testBit j = true ∧ en.get j = some (i, e) ∧ freeAt m j es 0 = true
  | [], h => .inl h
  | j :: al, h => by
    have h' : (match Nat.testBit p j with
      | true => match en.get j with
        | some (i, e) => match freeAt m j es 0 with
          | true => (tabOf en es p m core al).set e i
          | false => tabOf en es p m core al
        | none => tabOf en es p m core al
      | false => tabOf en es p m core al).get i = some e := h
    cases h1 : Nat.testBit p j with
    | false => rw [h1] at h'; exact tabOf_get al h'
    | true =>
      rw [h1] at h'
      dsimp only at h'
      cases h2 : en.get j with
      | none => rw [h2] at h'; exact tabOf_get al h'
      | some q =>
        obtain ⟨x, y⟩ := q
        rw [h2] at h'
        dsimp only at h'
        cases h3 : freeAt m j es 0 with
        | false => rw [h3] at h'; exact tabOf_get al h'
        | true =>
          rw [h3] at h'
          dsimp only at h'
          rw [T.get_set] at h'
          by_cases hi : i = x
          · rw [if_pos hi] at h'
            cases h'
            subst hi
            exact .inr ⟨j, h1, h2, h3⟩
          · rw [if_neg hi] at h'
            exact tabOf_get al h'
theorem tabOf_congr {en en' : T (Nat × Ent)} {es : List Nat} {p m : Nat} {core : T Ent} (h : ∀ j, p.testBit j = true → en.get j = en'.get j) : ∀ (al : List Nat), tabOf en es p m core al = tabOf en' es p m core al
  | [] => rfl
  | j :: al => by
    show (match Nat.testBit p j with
      | true => match en.get j with
        | some (i, e) => match freeAt m j es 0 with
          | true => (tabOf en es p m core al).set e i
          | false => tabOf en es p m core al
        | none => tabOf en es p m core al
      | false => tabOf en es p m core al) = (match Nat.testBit p j with
      | true => match en'.get j with
        | some (i, e) => match freeAt m j es 0 with
          | true => (tabOf en' es p m core al).set e i
          | false => tabOf en' es p m core al
        | none => tabOf en' es p m core al
      | false => tabOf en' es p m core al)
    rw [tabOf_congr h al]
    cases h1 : Nat.testBit p j with
    | false => rfl
    | true => rw [h j h1]
end Go.Proofs.YtbhkfifmgbcknaaGreatDoor.Ex
namespace Go.Proofs.YtbhkfifmgbcknaaGreatDoor.Ex
open Go Go.RowKit
noncomputable def isE (o : Oper) : Bool := match kdOf o with
  | .e => true
  | _ => false
theorem isE_eq {o : Oper} : isE o = true ↔ kdOf o = .e := by
  unfold isE
  cases kdOf o <;> simp
noncomputable def eLs (f : Nat → Nat) (l : List Oper) : Nat → List Nat :=
  List.rec (motive := fun _ => Nat → List Nat) (fun _ => []) (fun o _ ih k => match isE o with
    | true => f k :: ih (Nat.succ k)
    | false => ih (Nat.succ k)) l
theorem eLs_cons (f : Nat → Nat) (o : Oper) (l : List Oper) (k : Nat) : eLs f (o :: l) k = (match isE o with
    | true => f k :: eLs f l (k + 1)
    | false => eLs f l (k + 1)) := rfl
theorem eLs_at (f : Nat → Nat) : ∀ (l : List Oper) (k j : Nat) (o : Oper), l[j]? = some o → isE o = true → (eLs f l k)[(l.take j).countP isE]? = some (f (k + j))
  | [], k, j, o, h, _ => by simp at h
  | x :: l, k, 0, o, h, he => by
    simp at h
    subst h
    rw [eLs_cons, he]
    simp
  | x :: l, k, j + 1, o, h, he => by
    have ih := eLs_at f l (k + 1) j o (by simpa using h) he
    rw [eLs_cons, List.take_succ_cons, List.countP_cons]
    have e : k + 1 + j = k + (j + 1) := by omega
    rw [e] at ih
    cases hx : isE x with
    | true => simpa using ih
    | false => simpa using ih
theorem eLs_of (f : Nat → Nat) : ∀ (l : List Oper) (k x p : Nat), (eLs f l k)[x]? = some p → ∃ j o, l[j]? = some o ∧ isE o = true ∧ (l.take j).countP isE = x ∧ p = f (k + j)
  | [], k, x, p, h => by
    have h' : ([] : List Nat)[x]? = some p := h
    simp at h'
  | y :: l, k, x, p, h => by
    rw [eLs_cons] at h
    cases hy : isE y with
    | false =>
      rw [hy] at h
      obtain ⟨j, o, h1, h2, h3, h4⟩ := eLs_of f l (k + 1) x p h
      refine ⟨j + 1, o, by simpa using h1, h2, ?_, ?_⟩
      · rw [List.take_succ_cons, List.countP_cons, hy, h3]; simp
      · rw [h4]; congr 1; omega
    | true =>
      rw [hy] at h
      cases x with
      | zero =>
        simp at h
        exact ⟨0, y, by simp, hy, by simp, by rw [← h]; rfl⟩
      | succ x =>
        obtain ⟨j, o, h1, h2, h3, h4⟩ := eLs_of f l (k + 1) x p (by simpa using h)
        refine ⟨j + 1, o, by simpa using h1, h2, ?_, ?_⟩
        · rw [List.take_succ_cons, List.countP_cons, hy, h3]; simp
        · rw [h4]; congr 1; omega
structure RR where
  k : Nat
  i : Ins
  p : Nat
  fr : Fr
  v : Value
  n : Nat
  m : Nat
structure DS where
  v : Value
  tm : Fr
  n : Nat
  m : Nat
  core : T Ent
  en : T (Nat × Ent)
  cs : List (T Ent)
  rs : List RR
noncomputable def laid (en : T (Nat × Ent)) (k n : Nat) (h : H) : T (Nat × Ent) := match h.t.get n with
  | some e => match Nat.ble (Nat.succ n) h.n with
    | true => en.set (n, e) k
    | false => en
  | none => en
noncomputable def stepD (P : Program) (ng nt : Nat) (call : Caller) (all : List Oper) (tb : T Nat) (es al : List Nat) (o : Oper) (k : Nat) (s : DS) : Option DS := match kdOf o with
  | .p => match oneI call (cI P ng nt all o) (restr s.tm (readsOf all o)) ⟨.leaf, s.n⟩ with
    | some (v, h) => some ⟨v, put o.dst v s.tm, h.n, s.m, s.core, laid s.en k s.n h, s.cs, s.rs⟩
    | none => none
  | .r => match oneI call (cI P ng nt all o) (restr s.tm (readsOf all o)) ⟨tabOf s.en es (mkOf tb k) s.m s.core al, s.n⟩ with
    | some (v, h) => some ⟨v, put o.dst v s.tm, h.n, s.m, s.core, s.en, s.cs, ⟨k, cI P ng nt all o, mkOf tb k, restr s.tm (readsOf all o), v, s.n, s.m⟩ :: s.rs⟩
    | none => none
  | .e => match oneI call (cI P ng nt all o) (restr s.tm (readsOf all o)) ⟨tabOf s.en es (mkOf tb k) s.m s.core al, s.n⟩ with
    | some (v, h) => some ⟨v, put o.dst v s.tm, h.n, Nat.succ s.m, h.t, s.en, h.t :: s.cs, s.rs⟩
    | none => none
noncomputable def runD (P : Program) (ng nt : Nat) (call : Caller) (all : List Oper) (tb : T Nat) (es al : List Nat) (l : List Oper) : Nat → DS → Option DS :=
  List.rec (motive := fun _ => Nat → DS → Option DS) (fun _ s => some s) (fun o _ ih k s => match stepD P ng nt call all tb es al o k s with
    | some s' => ih (Nat.succ k) s'
    | none => none) l
theorem runD_seq {P : Program} {ng nt : Nat} {call : Caller} {all : List Oper} {tb : T Nat} {es al : List Nat} : ∀ (l : List Oper) (k : Nat) (s sF : DS), runD P ng nt call all tb es al l k s = some sF →
    ∃ seq : Nat → DS, seq k = s ∧ seq (k + l.length) = sF ∧ ∀ j o, l[j]? = some o → stepD P ng nt call all tb es al o (k + j) (seq (k + j)) = some (seq (k + j + 1))
  | [], k, s, sF, h => by
    have h' : some s = some sF := h
    cases h'
    exact ⟨fun _ => s, rfl, rfl, fun j o hj => by simp at hj⟩
  | x :: l, k, s, sF, h => by
    have h' : (match stepD P ng nt call all tb es al x k s with
      | some s' => runD P ng nt call all tb es al l (k + 1) s'
      | none => none) = some sF := h
    cases hs : stepD P ng nt call all tb es al x k s with
    | none => rw [hs] at h'; cases h'
    | some s' =>
      rw [hs] at h'
      obtain ⟨seq, h1, h2, h3⟩ := runD_seq l (k + 1) s' sF h'
      refine ⟨fun i => if i = k then s else seq i, if_pos rfl, ?_, ?_⟩
      · show (if k + (l.length + 1) = k then s else seq (k + (l.length + 1))) = sF
        rw [if_neg (by omega), ← h2]
        congr 1; omega
      · intro j o hj
        cases j with
        | zero =>
          simp at hj
          subst hj
          show stepD P ng nt call all tb es al x (k + 0) (if k + 0 = k then s else seq (k + 0)) = some (if k + 0 + 1 = k then s else seq (k + 0 + 1))
          rw [if_pos (by omega), if_neg (by omega)]
          rw [show k + 0 = k by omega, h1]
          exact hs
        | succ j =>
          have := h3 j o (by simpa using hj)
          show stepD P ng nt call all tb es al o (k + (j + 1)) (if k + (j + 1) = k then s else seq (k + (j + 1))) = some (if k + (j + 1) + 1 = k then s else seq (k + (j + 1) + 1))
          rw [if_neg (by omega), if_neg (by omega), show k + (j + 1) = k + 1 + j by omega]
          exact this
noncomputable def cAt (cs : List (T Ent)) (m : Nat) : T Ent :=
  List.rec (motive := fun _ => T Ent) .leaf (fun c r ih => match Nat.beq (llen r) m with
    | true => c
    | false => ih) cs
theorem cAt_head (c : T Ent) (r : List (T Ent)) {m : Nat} (h : r.length = m) : cAt (c :: r) m = c := by
  show (match Nat.beq (llen r) m with
    | true => c
    | false => cAt r m) = c
  rw [llen_eq, h]
  have : Nat.beq m m = true := Nat.beq_refl m
  rw [this]
theorem cAt_tail (c : T Ent) (r : List (T Ent)) {m : Nat} (h : m < r.length) : cAt (c :: r) m = cAt r m := by
  show (match Nat.beq (llen r) m with
    | true => c
    | false => cAt r m) = cAt r m
  cases hb : Nat.beq (llen r) m with
  | false => rfl
  | true =>
    have := Nat.eq_of_beq_eq_true hb
    rw [llen_eq] at this
    omega
noncomputable def wOne (call : Caller) (en : T (Nat × Ent)) (es ei al : List Nat) (r : RR) (c : T Ent) (m : Nat) : Bool := match Nat.beq m r.m with
  | true => true
  | false => match loOk r.p m ei 0 with
    | true => match freeAt m r.k es 0 with
      | true => match oneI call r.i r.fr ⟨tabOf en es r.p m c al, r.n⟩ with
        | some (v, _) => veq 20 v r.v
        | none => false
      | false => true
    | false => true
noncomputable def wCores (call : Caller) (en : T (Nat × Ent)) (es ei al : List Nat) (r : RR) (cs : List (T Ent)) : Bool :=
  List.rec (motive := fun _ => Bool) true (fun c rest ih => match wOne call en es ei al r c (llen rest) with
    | true => ih
    | false => false) cs
noncomputable def wAll (call : Caller) (en : T (Nat × Ent)) (es ei al : List Nat) (cs : List (T Ent)) (rs : List RR) : Bool :=
  List.rec (motive := fun _ => Bool) true (fun r _ ih => match wCores call en es ei al r cs with
    | true => ih
    | false => false) rs
theorem wCores_ok {call : Caller} {en : T (Nat × Ent)} {es ei al : List Nat} {r : RR} : ∀ (cs : List (T Ent)), wCores call en es ei al r cs = true → ∀ m, m < cs.length → wOne call en es ei al r (cAt cs m) m = true
  | [], _, m, h => by simp at h
  | c :: cs, h, m, hm => by
    have h' : (match wOne call en es ei al r c (llen cs) with
      | true => wCores call en es ei al r cs
      | false => false) = true := h
    cases h1 : wOne call en es ei al r c (llen cs) with
    | false => rw [h1] at h'; cases h'
    | true =>
      rw [h1] at h'
      by_cases hmc : m = cs.length
      · rw [cAt_head c cs hmc.symm, hmc, ← llen_eq]; exact h1
      · have hlt : m < cs.length := by
          rw [List.length_cons] at hm
          omega
        rw [cAt_tail c cs hlt]
        exact wCores_ok cs h' m hlt
theorem wAll_ok {call : Caller} {en : T (Nat × Ent)} {es ei al : List Nat} {cs : List (T Ent)} : ∀ (rs : List RR), wAll call en es ei al cs rs = true → ∀ r, r ∈ rs → wCores call en es ei al r cs = true
  | [], _, r, h => by cases h
  | x :: rs, h, r, hr => by
    have h' : (match wCores call en es ei al x cs with
      | true => wAll call en es ei al cs rs
      | false => false) = true := h
    cases h1 : wCores call en es ei al x cs with
    | false => rw [h1] at h'; cases h'
    | true =>
      rw [h1] at h'
      rcases List.mem_cons.1 hr with hr | hr
      · rw [hr]; exact h1
      · exact wAll_ok rs h' r hr
noncomputable def lays (o : Oper) : Bool := match o.op with
  | .alloc _ => true
  | .box .. => true
  | .build .. => true
  | .buildSlice .. => true
  | .convert .. => true
  | .makeMap .. => true
  | .makeSlice .. => true
  | _ => false
noncomputable def alOf (l : List Oper) : Nat → List Nat :=
  List.rec (motive := fun _ => Nat → List Nat) (fun _ => []) (fun o _ ih k => match lays o with
    | true => k :: ih (Nat.succ k)
    | false => ih (Nat.succ k)) l
noncomputable def runR (P : Program) (ng nt : Nat) (call : Caller) (l : List Oper) (tm : Fr) (h : H) : Option (Fr × H) :=
  match scheck l (masks l 0 .leaf) l 0 0 .leaf .leaf with
  | true => match runD P ng nt call l (masks l 0 .leaf) (eLs (mkOf (masks l 0 .leaf)) l 0) (alOf l 0) l 0 ⟨undef, tm, h.n, 0, h.t, .leaf, [h.t], []⟩ with
    | some s => match wAll call s.en (eLs (mkOf (masks l 0 .leaf)) l 0) (eLs (fun k => k) l 0) (alOf l 0) s.cs s.rs with
      | true => some (s.tm, ⟨tabOf s.en (eLs (mkOf (masks l 0 .leaf)) l 0) (Nat.sub (Nat.shiftLeft 1 (llen l)) 1) s.m s.core (alOf l 0), s.n⟩)
      | false => none
    | none => none
  | false => none
theorem stepD_any {P : Program} {ng nt : Nat} {call : Caller} {all : List Oper} {tb : T Nat} {es al : List Nat} {o : Oper} {k : Nat} {s s' : DS} (h : stepD P ng nt call all tb es al o k s = some s') :
    s'.tm = put o.dst s'.v s.tm ∧ dstOk nt o.dst = true ∧ (∀ j, j ≠ k → s'.en.get j = s.en.get j) ∧ (∀ r, r ∈ s.rs → r ∈ s'.rs) ∧ (kdOf o ≠ .e → s'.m = s.m ∧ s'.core = s.core ∧ s'.cs = s.cs) ∧ (kdOf o ≠ .p → s'.en = s.en) := by
  unfold stepD at h
  cases hk : kdOf o with
  | p =>
    rw [hk] at h
    dsimp only at h
    split at h
    · rename_i v h2 h1
      cases h
      refine ⟨rfl, oneI_dst h1, fun j hj => ?_, fun r hr => hr, fun _ => ⟨rfl, rfl, rfl⟩, fun h => absurd rfl h⟩
      show (laid s.en k s.n h2).get j = _
      unfold laid
      split
      · split
        · rw [T.get_set, if_neg hj]
        · rfl
      · rfl
    · cases h
  | r =>
    rw [hk] at h
    dsimp only at h
    split at h
    · rename_i v h2 h1
      cases h
      exact ⟨rfl, oneI_dst h1, fun j hj => rfl, fun r hr => List.mem_cons_of_mem _ hr, fun _ => ⟨rfl, rfl, rfl⟩, fun _ => rfl⟩
    · cases h
  | e =>
    rw [hk] at h
    dsimp only at h
    split at h
    · rename_i v h2 h1
      cases h
      exact ⟨rfl, oneI_dst h1, fun j hj => rfl, fun r hr => hr, fun h => absurd rfl h, fun _ => rfl⟩
    · cases h
theorem stepD_p {P : Program} {ng nt : Nat} {call : Caller} {all : List Oper} {tb : T Nat} {es al : List Nat} {o : Oper} {k : Nat} {s s' : DS} (h : stepD P ng nt call all tb es al o k s = some s') (hk : kdOf o = .p) :
    ∃ t, oneI call (cI P ng nt all o) (restr s.tm (readsOf all o)) ⟨.leaf, s.n⟩ = some (s'.v, ⟨t, s'.n⟩) ∧ s'.en = laid s.en k s.n ⟨t, s'.n⟩ := by
  unfold stepD at h
  rw [hk] at h
  dsimp only at h
  split at h
  · rename_i v h2 h1
    obtain ⟨t, n⟩ := h2
    cases h
    exact ⟨t, h1, rfl⟩
  · cases h
theorem stepD_r {P : Program} {ng nt : Nat} {call : Caller} {all : List Oper} {tb : T Nat} {es al : List Nat} {o : Oper} {k : Nat} {s s' : DS} (h : stepD P ng nt call all tb es al o k s = some s') (hk : kdOf o = .r) :
    oneI call (cI P ng nt all o) (restr s.tm (readsOf all o)) ⟨tabOf s.en es (mkOf tb k) s.m s.core al, s.n⟩ = some (s'.v, ⟨tabOf s.en es (mkOf tb k) s.m s.core al, s'.n⟩) ∧ s'.n = s.n ∧ (⟨k, cI P ng nt all o, mkOf tb k, restr s.tm (readsOf all o), s'.v, s.n, s.m⟩ : RR) ∈ s'.rs := by
  unfold stepD at h
  rw [hk] at h
  dsimp only at h
  split at h
  · rename_i v h2 h1
    have h3 := oneI_rd hk h1
    subst h3
    cases h
    exact ⟨h1, rfl, List.mem_cons_self⟩
  · cases h
theorem stepD_e {P : Program} {ng nt : Nat} {call : Caller} {all : List Oper} {tb : T Nat} {es al : List Nat} {o : Oper} {k : Nat} {s s' : DS} (h : stepD P ng nt call all tb es al o k s = some s') (hk : kdOf o = .e) :
    oneI call (cI P ng nt all o) (restr s.tm (readsOf all o)) ⟨tabOf s.en es (mkOf tb k) s.m s.core al, s.n⟩ = some (s'.v, ⟨s'.core, s'.n⟩) ∧ s'.m = s.m + 1 ∧ s'.cs = s'.core :: s.cs := by
  unfold stepD at h
  rw [hk] at h
  dsimp only at h
  split at h
  · rename_i v h2 h1
    obtain ⟨t, n⟩ := h2
    cases h
    exact ⟨h1, rfl, rfl⟩
  · cases h
end Go.Proofs.YtbhkfifmgbcknaaGreatDoor.Ex
