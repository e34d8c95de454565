/-
  Plain: the weight that a text is, or what is wrong with it, and where; what a path costs.
-/
import Derived.Test.YtogbocgjijhmgaaGreatDoorScanC
import Derived.Test.YtogbocgjijhmgaaGreatDoorScanH
import Derived.Test.YtogbocgjijhmgaaGreatDoorAmtD
namespace Go.Proofs.YtogbocgjijhmgaaGreatDoor
open Go.RowKit Go.Extern.Stop Go.Stop Go.Extern

/-! ### What a path costs -/
def costI (h d p a b c : Int) : Int := addI (addI (mulI h a) (mulI d b)) (mulI p c)
theorem mulI_le (a b : Int) : mulI a b ≤ 9223372036854775807 := capI_le _
theorem mulI_nn {a b : Int} (ha : 0 ≤ a) (hb : 0 ≤ b) : 0 ≤ mulI a b := (mulI_bd a b ha hb).1
theorem addI_nn {a b : Int} (ha : 0 ≤ a) (hb : 0 ≤ b) : 0 ≤ addI a b := (addI_bd a b ha hb).1
theorem addI_nought (a : Int) (h : a ≤ 9223372036854775807) : addI 0 a = a := by rw [addI_comm, addI_zero, capI_small h]
theorem addI_eq {a b : Int} (ha : 0 ≤ a) (hb : 0 ≤ b) : addI a b = capI (a + b) := by
  unfold addI
  rw [cap_add' a (capI b) (capI_nonneg hb), cap_add a b ha]
theorem addI_caps {a b : Int} (ha : 0 ≤ a) (hb : 0 ≤ b) : addI (capI a) (capI b) = capI (a + b) := by
  rw [addI_cap, addI_cap', addI_eq ha hb]
/-- Costs of paths one behind the other come to both. -/
theorem costI_add (h d p a b c a' b' c' : Int) (hh : 0 ≤ h) (hd : 0 ≤ d) (hp : 0 ≤ p) (ha : 0 ≤ a) (hb : 0 ≤ b) (hc : 0 ≤ c) (ha' : 0 ≤ a') (hb' : 0 ≤ b') (hc' : 0 ≤ c') :
    costI h d p (addI a a') (addI b b') (addI c c') = addI (costI h d p a b c) (costI h d p a' b' c') := by
  unfold costI
  rw [mulI_addI h a a' hh ha ha', mulI_addI d b b' hd hb hb', mulI_addI p c c' hp hc hc']
  have m1 := mulI_nn hh ha
  have m2 := mulI_nn hh ha'
  have m3 := mulI_nn hd hb
  have m4 := mulI_nn hd hb'
  have m5 := mulI_nn hp hc
  have m6 := mulI_nn hp hc'
  generalize mulI h a = x1 at *
  generalize mulI h a' = x2 at *
  generalize mulI d b = y1 at *
  generalize mulI d b' = y2 at *
  generalize mulI p c = z1 at *
  generalize mulI p c' = z2 at *
  rw [addI_eq m1 m2, addI_eq m3 m4, addI_eq m5 m6, addI_eq m1 m3, addI_eq m2 m4, addI_caps (by omega) (by omega), addI_caps (by omega) (by omega), addI_cap (x1 + y1) z1, addI_eq (by omega : 0 ≤ x1 + y1) m5, addI_cap (x2 + y2) z2, addI_eq (by omega : 0 ≤ x2 + y2) m6, addI_caps (by omega) (by omega)]
  skip
  congr 1
  omega

/-! ### Its text, read -/
/-- The words of the three. -/
def wordB : Nat → ByteArray
  | 0 => ⟨#[104, 111, 112, 115]⟩
  | 1 => ⟨#[100, 105, 115, 116]⟩
  | _ => ⟨#[112, 117, 115, 104, 101, 115]⟩
/-- Whose word a text is; 3: no one's. -/
def wIdx (t : ByteArray) : Nat := if (wordB 0).toList == t.toList then 0 else if (wordB 1).toList == t.toList then 1 else if (wordB 2).toList == t.toList then 2 else 3
theorem wIdx_le (t : ByteArray) : wIdx t ≤ 3 := by unfold wIdx; split <;> (try split) <;> (try split) <;> omega
/-- How much, and behind the star. -/
inductive FcO where
  | er (c : Int) (a : Nat)
  | ok (m : Int) (k : Nat)
/-- A number ahead of a star, if one stands there. -/
def fcR (s : ByteArray) (k : Nat) : FcO :=
  if isDig (byteI s (skp s k)) then
    if numC s (skp s k) ≠ 0 then .er (numC s (skp s k)) (skp s k)
    else if 1000000 < numN s (skp s k) then .er 7 (skp s k)
    else if byteI s (skp s (numK s (skp s k))) = 42 then .ok (numN s (skp s k)) (skp s (numK s (skp s k)) + 1)
    else .er (missC s (skp s (numK s (skp s k)))) (skp s (numK s (skp s k)))
  else .ok 1 k
/-- Which part, how much, and behind it. -/
inductive TmO where
  | er (c : Int) (a : Nat)
  | ok (i : Nat) (m : Int) (k : Nat)
def wdR (s : ByteArray) (k : Nat) (m : Int) (q : Nat → Bool) : TmO :=
  if nameC s (skp s k) ≠ 0 then .er (nameC s (skp s k)) (skp s k)
  else if wIdx (nameT s (skp s k)) = 3 then .er 18 (skp s k)
  else if q (wIdx (nameT s (skp s k))) then .er 10 (skp s k)
  else .ok (wIdx (nameT s (skp s k))) m (nameK s (skp s k))
def tmR (s : ByteArray) (k : Nat) (q : Nat → Bool) : TmO :=
  match fcR s k with
  | .er c a => .er c a
  | .ok m k1 => wdR s k1 m q
def upd {α : Type} (p : Nat → α) (i : Nat) (m : α) : Nat → α := fun j => if j = i then m else p j
inductive WO where
  | er (c : Int) (a : Nat)
  | ok (p : Nat → Int)
/-- Terms with + between, from a place on. -/
def wgR (s : ByteArray) : Nat → Nat → (Nat → Int) → (Nat → Bool) → WO
  | 0, _, _, _ => .er 0 0
  | f + 1, k, p, q =>
    match tmR s k q with
    | .er c a => .er c a
    | .ok i m k' =>
      if skp s k' = s.size then .ok (upd p i m)
      else if byteI s (skp s k') = 43 then wgR s f (skp s k' + 1) (upd p i m) (upd q i true)
      else .er (missC s (skp s k')) (skp s k')
/-- Is 0 all that stands there? -/
def noughtB (s : ByteArray) : Bool := decide (byteI s (skp s 0) = 48) && decide (skp s (skp s 0 + 1) = s.size)
def wgP (s : ByteArray) : WO := if noughtB s then .ok (fun _ => 0) else wgR s (s.size + 1) 0 (fun _ => 0) (fun _ => false)

/-! ### Places -/
theorem isDig_in {s : ByteArray} {k : Nat} (h : isDig (byteI s k) = true) : k < s.size := by
  by_cases hk : k < s.size
  · exact hk
  · rw [byteI_ge hk] at h; exact absurd h (by decide)
theorem isLet_in {s : ByteArray} {k : Nat} (h : isLet (byteI s k) = true) : k < s.size := by
  by_cases hk : k < s.size
  · exact hk
  · rw [byteI_ge hk] at h; exact absurd h (by decide)
theorem numK_ge (s : ByteArray) (k : Nat) (hk : k ≤ s.size) : k ≤ numK s k := by
  unfold numK
  split
  · exact Nat.le_refl _
  · split
    · exact le_runTo _ s k hk
    · exact Nat.le_refl _
theorem nameK_lt {s : ByteArray} {k : Nat} (h : nameC s k = 0) : k < nameK s k := by
  unfold nameC at h
  unfold nameK
  by_cases h1 : isLet (byteI s k) = true
  · have hk := isLet_in h1
    rw [if_pos h1] at h
    by_cases h2 : runTo isIn s k - k ≤ 32
    · rw [if_pos ⟨h1, h2⟩]
      have h3 : isIn (s[k].toNat : Int) = true := by rw [← byteI_lt hk]; exact (isIn_iff _).2 (.inl h1)
      rw [runTo_go hk h3]
      exact le_runTo _ s (k + 1) hk
    · rw [if_neg h2] at h; exact absurd h (by decide)
  · rw [if_neg h1] at h
    exact absurd h (missC_ne s k)
theorem fcR_le {s : ByteArray} {k : Nat} (hk : k ≤ s.size) {m : Int} {k1 : Nat} (h : fcR s k = .ok m k1) : k ≤ k1 ∧ k1 ≤ s.size ∧ (m = 1 ∨ m ≤ 1000000) := by
  have h0 := skp_le hk
  unfold fcR at h
  split at h
  · split at h
    · cases h
    · split at h
      · cases h
      · split at h
        · have h1 := numK_ge s _ h0.2
          have h2 := skp_le (numK_le s _ h0.2)
          have h3 := byteI_in (by assumption) (by decide : (42 : Int) ≠ 0)
          injection h with e1 e2
          omega
        · cases h
  · injection h with e1 e2
    omega
theorem tmR_le {s : ByteArray} {k : Nat} (hk : k ≤ s.size) {q : Nat → Bool} {i : Nat} {m : Int} {k' : Nat} (h : tmR s k q = .ok i m k') : k < k' ∧ k' ≤ s.size ∧ i < 3 ∧ q i = false ∧ (m = 1 ∨ m ≤ 1000000) := by
  unfold tmR at h
  split at h
  · cases h
  · rename_i m1 k1 e1
    obtain ⟨h1, h2, h3⟩ := fcR_le hk e1
    have h4 := skp_le h2
    unfold wdR at h
    split at h
    · cases h
    · rename_i hc
      split at h
      · cases h
      · rename_i hw
        split at h
        · cases h
        · rename_i hq
          have hc' : nameC s (skp s k1) = 0 := by omega
          have h5 := nameK_lt hc'
          have h6 := nameK_le s _ h4.2
          have h7 := wIdx_le (nameT s (skp s k1))
          injection h with e1 e2 e3
          subst e1 e2 e3
          exact ⟨by omega, h6, by omega, by simpa using hq, h3⟩
theorem numN_nn (s : ByteArray) (k : Nat) (h : numC s k = 0) : 0 ≤ numN s k := by
  unfold numC at h
  unfold numN
  by_cases h1 : runTo isDig s k = k
  · rw [if_pos h1]; decide
  · rw [if_neg h1] at h
    rw [if_neg h1, if_pos h]
    exact (back _ h).2
theorem fcR_nn {s : ByteArray} {k : Nat} {m : Int} {k1 : Nat} (h : fcR s k = .ok m k1) : 0 ≤ m := by
  unfold fcR at h
  split at h
  · split at h
    · cases h
    · rename_i hc
      have h0 := numN_nn s (skp s k) (by simpa using hc)
      split at h
      · cases h
      · split at h
        · injection h with e1 e2
          omega
        · cases h
  · injection h with e1 e2
    omega
theorem tmR_nn {s : ByteArray} {k : Nat} {q : Nat → Bool} {i : Nat} {m : Int} {k' : Nat} (h : tmR s k q = .ok i m k') : 0 ≤ m := by
  unfold tmR at h
  split at h
  · cases h
  · rename_i m1 k1 e1
    have h1 := fcR_nn e1
    unfold wdR at h
    split at h
    · cases h
    · split at h
      · cases h
      · split at h
        · cases h
        · injection h with e1 e2 e3
          omega
theorem wgR_bd {s : ByteArray} : ∀ (f k : Nat) (p : Nat → Int) (q : Nat → Bool) (p' : Nat → Int), k ≤ s.size → (∀ i, 0 ≤ p i ∧ p i ≤ 1000000) → wgR s f k p q = .ok p' → ∀ i, 0 ≤ p' i ∧ p' i ≤ 1000000
  | 0, _, _, _, _, _, _, h => by cases h
  | f + 1, k, p, q, p', hk, hp, h => by
    rw [wgR] at h
    split at h
    · cases h
    · rename_i i m k' e1
      have h1 := tmR_le hk e1
      have h2 := tmR_nn e1
      have h3 := skp_le h1.2.1
      have hu : ∀ j, 0 ≤ upd p i m j ∧ upd p i m j ≤ 1000000 := fun j => by
        unfold upd
        split
        · omega
        · exact hp j
      split at h
      · injection h with h; subst h; exact hu
      · split at h
        · have := byteI_in (by assumption) (by decide : (43 : Int) ≠ 0)
          exact wgR_bd f _ _ _ _ (by omega) hu h
        · cases h
theorem wgP_bd {s : ByteArray} {p : Nat → Int} (h : wgP s = .ok p) : ∀ i, 0 ≤ p i ∧ p i ≤ 1000000 := by
  unfold wgP at h
  split at h
  · injection h with h; subst h; intro i; exact ⟨Int.le_refl 0, show (0 : Int) ≤ 1000000 by decide⟩
  · exact wgR_bd _ _ _ _ _ (Nat.zero_le _) (fun i => ⟨Int.le_refl 0, show (0 : Int) ≤ 1000000 by decide⟩) h
theorem fcR_ne {s : ByteArray} {k : Nat} {c : Int} {a : Nat} (h : fcR s k = .er c a) : c ≠ 0 := by
  unfold fcR at h
  split at h
  · split at h
    · injection h with e1 e2; subst e1; assumption
    · split at h
      · injection h with e1 e2; omega
      · split at h
        · cases h
        · injection h with e1 e2; subst e1; exact missC_ne _ _
  · cases h
theorem tmR_ne {s : ByteArray} {k : Nat} {q : Nat → Bool} {c : Int} {a : Nat} (h : tmR s k q = .er c a) : c ≠ 0 := by
  unfold tmR at h
  split at h
  · rename_i c1 a1 e1
    injection h with e2 e3
    subst e2
    exact fcR_ne e1
  · unfold wdR at h
    split at h
    · injection h with e1 e2; subst e1; assumption
    · split at h
      · injection h with e1 e2; omega
      · split at h
        · injection h with e1 e2; omega
        · cases h
end Go.Proofs.YtogbocgjijhmgaaGreatDoor
