/-
  Layer 5, plain: what a text says as a value, or where it goes wrong: signs, texts, words, leaves; and the relation 'V' (what stands at a place), 'I' (what stands between brackets). No program in it.
-/
import Derived.Test.YtajmlkephefapaaGreatDoorScanC
namespace Go.Proofs.YtajmlkephefapaaGreatDoor
open Go.RowKit Go.Extern.Stop Go.Stop Go.Extern

/-- The byte at a place; 0 where the text has ended. -/
def byteU (s : ByteArray) (k : Nat) : UInt8 := if h : k < s.size then s[k] else 0
theorem byteU_I (s : ByteArray) (k : Nat) : ((byteU s k).toNat : Int) = byteI s k := by
  unfold byteU byteI; split <;> rfl
theorem byteI_pos {s : ByteArray} {k : Nat} (h : byteI s k ≠ 0) : k < s.size := by
  by_cases hk : k < s.size
  · exact hk
  · exact absurd (byteI_ge hk) h
theorem byteI_bd (s : ByteArray) (k : Nat) : 0 ≤ byteI s k ∧ byteI s k ≤ 255 := by
  unfold byteI; split
  · have := (s[k]).toNat_lt; omega
  · omega

/-! ### Signs and texts -/
/-- One sign within a text: what is behind it, the byte that it tells; else the error and its place. -/
structure Sg where
  k : Nat
  b : UInt8
  c : Int
  a : Nat
def signR (s : ByteArray) (k : Nat) : Sg :=
  if byteI s k = 92 then
    if byteI s (k + 1) = 34 ∨ byteI s (k + 1) = 92 then ⟨k + 2, byteU s (k + 1), 0, 0⟩
    else if byteI s (k + 1) = 110 then ⟨k + 2, 10, 0, 0⟩
    else if k + 1 < s.size then ⟨k, 0, 4, k⟩ else ⟨k, 0, 3, k + 1⟩
  else if 32 ≤ byteI s k ∧ byteI s k ≤ 126 then ⟨k + 1, byteU s k, 0, 0⟩
  else ⟨k, 0, missC s k, k⟩
theorem signR_ok {s : ByteArray} {k : Nat} (h : (signR s k).c = 0) : k < (signR s k).k ∧ (signR s k).k ≤ s.size := by
  unfold signR at *
  by_cases h0 : byteI s k = 92
  · rw [if_pos h0] at *
    have := byteI_pos (s := s) (k := k) (by rw [h0]; decide)
    by_cases h1 : byteI s (k + 1) = 34 ∨ byteI s (k + 1) = 92
    · rw [if_pos h1]
      have := byteI_pos (s := s) (k := k + 1) (by rcases h1 with h1 | h1 <;> rw [h1] <;> decide)
      exact ⟨by show k < k + 2; omega, by show k + 2 ≤ s.size; omega⟩
    · rw [if_neg h1] at *
      by_cases h2 : byteI s (k + 1) = 110
      · rw [if_pos h2]
        have := byteI_pos (s := s) (k := k + 1) (by rw [h2]; decide)
        exact ⟨by show k < k + 2; omega, by show k + 2 ≤ s.size; omega⟩
      · rw [if_neg h2] at h
        split at h <;> cases h
  · rw [if_neg h0] at *
    by_cases h1 : 32 ≤ byteI s k ∧ byteI s k ≤ 126
    · rw [if_pos h1]
      have := byteI_pos (s := s) (k := k) (by omega)
      exact ⟨by show k < k + 1; omega, by show k + 1 ≤ s.size; omega⟩
    · rw [if_neg h1] at h
      exact absurd h (missC_ne s k)
theorem signR_er {s : ByteArray} {k : Nat} (hk : k ≤ s.size) (h : (signR s k).c ≠ 0) : (signR s k).k = k ∧ (signR s k).a ≤ s.size := by
  unfold signR at *
  split at h
  · rename_i h0
    rw [if_pos h0]
    have := byteI_pos (s := s) (k := k) (by rw [h0]; decide)
    split at h
    · exact absurd rfl h
    · rename_i h1
      rw [if_neg h1]
      split at h
      · exact absurd rfl h
      · rename_i h2
        rw [if_neg h2]
        split
        · exact ⟨rfl, hk⟩
        · exact ⟨rfl, by show k + 1 ≤ s.size; omega⟩
  · rename_i h0
    rw [if_neg h0]
    split at h
    · exact absurd rfl h
    · rename_i h1
      rw [if_neg h1]
      exact ⟨rfl, hk⟩

/-- A text from behind its quote on. -/
structure Tx where
  c : Int
  a : Nat
  k : Nat
  t : List UInt8
def txtR (s : ByteArray) (k : Nat) : Tx :=
  if byteI s k = 34 then ⟨0, 0, k + 1, []⟩
  else if h : (signR s k).c = 0 then
    have : s.size - (signR s k).k < s.size - k := by have := signR_ok h; omega
    { txtR s (signR s k).k with t := (signR s k).b :: (txtR s (signR s k).k).t }
  else ⟨(signR s k).c, (signR s k).a, k, []⟩
termination_by s.size - k
theorem txtR_end {s : ByteArray} {k : Nat} (h : byteI s k = 34) : txtR s k = ⟨0, 0, k + 1, []⟩ := by rw [txtR, if_pos h]
theorem txtR_go {s : ByteArray} {k : Nat} (h : byteI s k ≠ 34) (h' : (signR s k).c = 0) : txtR s k = { txtR s (signR s k).k with t := (signR s k).b :: (txtR s (signR s k).k).t } := by
  rw [txtR, if_neg h, dif_pos h']
theorem txtR_er {s : ByteArray} {k : Nat} (h : byteI s k ≠ 34) (h' : (signR s k).c ≠ 0) : txtR s k = ⟨(signR s k).c, (signR s k).a, k, []⟩ := by
  rw [txtR, if_neg h, dif_neg h']
theorem txtR_ok (s : ByteArray) : ∀ (n k : Nat), s.size - k = n → (txtR s k).c = 0 → k < (txtR s k).k ∧ (txtR s k).k ≤ s.size := by
  intro n
  induction n using Nat.strongRecOn with
  | ind n ih =>
    intro k hn h
    by_cases h34 : byteI s k = 34
    · have := byteI_pos (s := s) (k := k) (by rw [h34]; decide)
      rw [txtR_end h34]
      exact ⟨by show k < k + 1; omega, by show k + 1 ≤ s.size; omega⟩
    · by_cases hc : (signR s k).c = 0
      · rw [txtR_go h34 hc] at *
        have h1 := signR_ok hc
        have := ih (s.size - (signR s k).k) (by omega) (signR s k).k rfl h
        exact ⟨by show k < (txtR s (signR s k).k).k; omega, this.2⟩
      · rw [txtR_er h34 hc] at h
        exact absurd h hc

/-- A text from its quote on. -/
def quoR (s : ByteArray) (k : Nat) : Tx := if byteI s k = 34 then txtR s (k + 1) else ⟨missC s k, k, k, []⟩
theorem quoR_ok {s : ByteArray} {k : Nat} (h : (quoR s k).c = 0) : k < (quoR s k).k ∧ (quoR s k).k ≤ s.size := by
  unfold quoR at *
  split at h
  · rename_i h0
    rw [if_pos h0]
    have := txtR_ok s _ (k + 1) rfl h
    omega
  · exact absurd h (missC_ne s k)

/-! ### Words -/
/-- As far as a word's bytes stand there. -/
def wordR (s : ByteArray) : Nat → List UInt8 → Nat × Int
  | k, [] => (k, 0)
  | k, b :: r => if byteI s k = (b.toNat : Int) ∧ k < s.size then wordR s (k + 1) r else (k, missC s k)
theorem wordR_le (s : ByteArray) : ∀ (l : List UInt8) (k : Nat), k ≤ s.size → k ≤ (wordR s k l).1 ∧ (wordR s k l).1 ≤ s.size
  | [], k, hk => ⟨Nat.le_refl _, hk⟩
  | b :: r, k, hk => by
    unfold wordR
    split
    · rename_i h
      have := wordR_le s r (k + 1) h.2
      omega
    · exact ⟨Nat.le_refl _, hk⟩
theorem wordR_ok (s : ByteArray) : ∀ (l : List UInt8) (k : Nat), (wordR s k l).2 = 0 → (wordR s k l).1 = k + l.length
  | [], k, _ => by simp [wordR]
  | b :: r, k, h => by
    unfold wordR at *
    split at h
    · rename_i h'
      rw [if_pos h', wordR_ok s r (k + 1) h]
      simp; omega
    · exact absurd h (missC_ne s k)

/-! ### Values -/
inductive Val where
  | mk (kind : Int) (text : ByteArray) (num : Int) (list : List Val) (keys : List ByteArray) (at' : Int)

/-- A value, and what is behind it; or an error and its place. -/
inductive Out where
  | ok (j : Nat) (v : Val)
  | er (c : Int) (a : Nat)

def kindT (n : Int) : Int := if n = 110 then 0 else if n = 102 then 1 else if n = 116 then 2 else if n = 34 then 4 else if n = 91 then 5 else if n = 123 then 6 else 3
def opens (n : Int) : Prop := n = 91 ∨ n = 123
instance (n : Int) : Decidable (opens n) := inferInstanceAs (Decidable (_ ∨ _))
/-- What shuts, of what opens. -/
def shutI (n : Int) : Int := if n = 91 then 93 else 125

def wordO (s : ByteArray) (k : Nat) (kind : Int) (l : List UInt8) : Out :=
  if (wordR s k l).2 = 0 then .ok (wordR s k l).1 (.mk kind ⟨#[]⟩ 0 [] [] k) else .er (wordR s k l).2 (wordR s k l).1
/-- What stands at a place where no bracket opens. -/
def leafR (s : ByteArray) (k : Nat) : Out :=
  if byteI s k = 110 then wordO s k 0 [110, 117, 108, 108]
  else if byteI s k = 102 then wordO s k 1 [102, 97, 108, 115, 101]
  else if byteI s k = 116 then wordO s k 2 [116, 114, 117, 101]
  else if byteI s k = 34 then (if (quoR s k).c = 0 then .ok (quoR s k).k (.mk 4 ⟨(quoR s k).t.toArray⟩ 0 [] [] k) else .er (quoR s k).c (quoR s k).a)
  else if numC s k = 0 then .ok (numK s k) (.mk 3 ⟨#[]⟩ (numN s k) [] [] k) else .er (numC s k) k

/-- Behind blanks. -/
def sk (s : ByteArray) (k : Nat) : Nat := runTo isBl s k
theorem sk_le (s : ByteArray) (k : Nat) (hk : k ≤ s.size) : k ≤ sk s k ∧ sk s k ≤ s.size := ⟨le_runTo _ _ _ hk, runTo_le _ _ _ hk⟩
theorem runTo_idem (p : Int → Bool) (s : ByteArray) : ∀ (n k : Nat), s.size - k = n → runTo p s (runTo p s k) = runTo p s k := by
  intro n
  induction n with
  | zero => intro k h; rw [runTo_end (s := s) (k := k) (by omega), runTo_end (by omega)]
  | succ n ih =>
    intro k h
    by_cases hp : p (s[k]'(by omega)).toNat = true
    · rw [runTo_go (by omega) hp]; exact ih (k + 1) (by omega)
    · have e := runTo_stop (s := s) (k := k) (p := p) (by omega) (by simpa using hp)
      rw [e, e]
theorem sk_sk (s : ByteArray) (k : Nat) : sk s (sk s k) = sk s k := runTo_idem _ _ _ _ rfl

/-- A member's key with its colon, among those that are there; what is behind it, and it; of an array nothing. -/
inductive KOut where
  | ok (q : Nat) (key : ByteArray)
  | er (c : Int) (a : Nat)
def hasKey (ks : List ByteArray) (key : ByteArray) : Bool := ks.any fun t => decide (t = key)
theorem hasKey_iff (ks : List ByteArray) (key : ByteArray) : hasKey ks key = true ↔ key ∈ ks := by
  unfold hasKey; simp
def keyR (s : ByteArray) (b : Int) (p : Nat) (ks : List ByteArray) : KOut :=
  if b = 91 then .ok p ⟨#[]⟩
  else if (quoR s p).c ≠ 0 then .er (quoR s p).c (quoR s p).a
  else if hasKey ks ⟨(quoR s p).t.toArray⟩ = true then .er 10 p
  else if byteI s (sk s (quoR s p).k) = 58 then .ok (sk s (sk s (quoR s p).k + 1)) ⟨(quoR s p).t.toArray⟩
  else .er (missC s (sk s (quoR s p).k)) (sk s (quoR s p).k)

/-- What stands between brackets from an item on: the place behind what shuts, the values, their keys. -/
inductive Outs where
  | ok (j : Nat) (vs : List Val) (ks : List ByteArray)
  | er (c : Int) (a : Nat)
def Outs.cons (v : Val) (key : ByteArray) : Outs → Outs
  | .ok j vs ks => .ok j (v :: vs) (key :: ks)
  | .er c a => .er c a
def Outs.wrap (b : Int) (k : Nat) : Outs → Out
  | .ok j vs ks => .ok j (.mk (kindT b) ⟨#[]⟩ 0 vs (if b = 91 then [] else ks) k)
  | .er c a => .er c a

/-- What is said: of a place, within so many; of what stands between brackets from an item on, behind such keys. -/
inductive Say where
  | v (d k : Nat) (o : Out)
  | i (d : Nat) (b : Int) (p : Nat) (ks : List ByteArray) (o : Outs)
inductive W (s : ByteArray) : Say → Prop
  | leaf (d k : Nat) : ¬ opens (byteI s k) → W s (.v d k (leafR s k))
  | deep (d k : Nat) : opens (byteI s k) → 64 ≤ d → W s (.v d k (.er 8 k))
  | none (d k : Nat) : opens (byteI s k) → d < 64 → byteI s (sk s (k + 1)) = shutI (byteI s k) → W s (.v d k ((Outs.ok (sk s (k + 1) + 1) [] []).wrap (byteI s k) k))
  | some (d k : Nat) (o : Outs) : opens (byteI s k) → d < 64 → byteI s (sk s (k + 1)) ≠ shutI (byteI s k) → W s (.i (d + 1) (byteI s k) (sk s (k + 1)) [] o) → W s (.v d k (o.wrap (byteI s k) k))
  | key (d : Nat) (b : Int) (p : Nat) (ks : List ByteArray) (c : Int) (a : Nat) : keyR s b p ks = .er c a → W s (.i d b p ks (.er c a))
  | val (d : Nat) (b : Int) (p : Nat) (ks : List ByteArray) (q : Nat) (key : ByteArray) (c : Int) (a : Nat) : keyR s b p ks = .ok q key → W s (.v d q (.er c a)) → W s (.i d b p ks (.er c a))
  | last (d : Nat) (b : Int) (p : Nat) (ks : List ByteArray) (q : Nat) (key : ByteArray) (j : Nat) (v : Val) : keyR s b p ks = .ok q key → W s (.v d q (.ok j v)) → byteI s (sk s j) = shutI b →
      W s (.i d b p ks (.ok (sk s j + 1) [v] [key]))
  | sep (d : Nat) (b : Int) (p : Nat) (ks : List ByteArray) (q : Nat) (key : ByteArray) (j : Nat) (v : Val) : keyR s b p ks = .ok q key → W s (.v d q (.ok j v)) → byteI s (sk s j) ≠ shutI b → byteI s (sk s j) ≠ 44 →
      W s (.i d b p ks (.er (missC s (sk s j)) (sk s j)))
  | more (d : Nat) (b : Int) (p : Nat) (ks : List ByteArray) (q : Nat) (key : ByteArray) (j : Nat) (v : Val) (o : Outs) : keyR s b p ks = .ok q key → W s (.v d q (.ok j v)) → byteI s (sk s j) = 44 →
      W s (.i d b (sk s (sk s j + 1)) (ks ++ [key]) o) → W s (.i d b p ks (o.cons v key))
abbrev V (s : ByteArray) (d k : Nat) (o : Out) : Prop := W s (.v d k o)
abbrev I (s : ByteArray) (d : Nat) (b : Int) (p : Nat) (ks : List ByteArray) (o : Outs) : Prop := W s (.i d b p ks o)

theorem shutI_ne (n : Int) : shutI n ≠ 44 := by unfold shutI; split <;> decide

/-- One thing stands at a place. -/
def Say.One (s : ByteArray) : Say → Prop
  | .v d k o => ∀ o', V s d k o' → o' = o
  | .i d b p ks o => ∀ o', I s d b p ks o' → o' = o
theorem KOut.ok_inj {x : KOut} {q q' : Nat} {key key' : ByteArray} (h : x = .ok q key) (h' : x = .ok q' key') : q' = q ∧ key' = key := by
  subst h; injection h' with e1 e2; exact ⟨e1.symm, e2.symm⟩
theorem KOut.er_ok {x : KOut} {q : Nat} {key : ByteArray} {c : Int} {a : Nat} (h : x = .er c a) (h' : x = .ok q key) : False := by
  subst h; cases h'
theorem W.one {s : ByteArray} {g : Say} (h : W s g) : g.One s := by
  induction h with
  | leaf d k h0 =>
    intro o' h'
    cases h' with
    | leaf => rfl
    | deep _ _ h1 => exact absurd h1 h0
    | none _ _ h1 => exact absurd h1 h0
    | some _ _ _ h1 => exact absurd h1 h0
  | deep d k h0 h1 =>
    intro o' h'
    cases h' with
    | leaf _ _ h2 => exact absurd h0 h2
    | deep => rfl
    | none _ _ _ h2 => omega
    | some _ _ _ _ h2 => omega
  | none d k h0 h1 h2 =>
    intro o' h'
    cases h' with
    | leaf _ _ h3 => exact absurd h0 h3
    | deep => omega
    | none => rfl
    | some _ _ _ _ _ h3 => exact absurd h2 h3
  | some d k o h0 h1 h2 hI ih =>
    intro o' h'
    cases h' with
    | leaf _ _ h3 => exact absurd h0 h3
    | deep => omega
    | none _ _ _ _ h3 => exact absurd h3 h2
    | some _ _ o' _ _ _ hI' => rw [ih _ hI']
  | key d b p ks c a h0 =>
    intro o' h'
    cases h' with
    | key _ _ _ _ c' a' h0' => rw [h0] at h0'; injection h0' with e1 e2; rw [e1, e2]
    | val _ _ _ _ _ _ _ _ h0' => exact (KOut.er_ok h0 h0').elim
    | last _ _ _ _ _ _ _ _ h0' => exact (KOut.er_ok h0 h0').elim
    | sep _ _ _ _ _ _ _ _ h0' => exact (KOut.er_ok h0 h0').elim
    | more _ _ _ _ _ _ _ _ _ h0' => exact (KOut.er_ok h0 h0').elim
  | val d b p ks q key c a h0 hV ih =>
    intro o' h'
    cases h' with
    | key _ _ _ _ _ _ h0' => exact (KOut.er_ok h0' h0).elim
    | val _ _ _ _ _ _ _ _ h0' hV' =>
      obtain ⟨rfl, rfl⟩ := KOut.ok_inj h0 h0'
      have e := ih _ hV'
      injection e with e1 e2; rw [e1, e2]
    | last _ _ _ _ _ _ _ _ h0' hV' => obtain ⟨rfl, rfl⟩ := KOut.ok_inj h0 h0'; have e := ih _ hV'; cases e
    | sep _ _ _ _ _ _ _ _ h0' hV' => obtain ⟨rfl, rfl⟩ := KOut.ok_inj h0 h0'; have e := ih _ hV'; cases e
    | more _ _ _ _ _ _ _ _ _ h0' hV' => obtain ⟨rfl, rfl⟩ := KOut.ok_inj h0 h0'; have e := ih _ hV'; cases e
  | last d b p ks q key j v h0 hV h1 ih =>
    intro o' h'
    cases h' with
    | key _ _ _ _ _ _ h0' => exact (KOut.er_ok h0' h0).elim
    | val _ _ _ _ _ _ _ _ h0' hV' => obtain ⟨rfl, rfl⟩ := KOut.ok_inj h0 h0'; have e := ih _ hV'; cases e
    | last _ _ _ _ _ _ _ _ h0' hV' => obtain ⟨rfl, rfl⟩ := KOut.ok_inj h0 h0'; have e := ih _ hV'; injection e with e1 e2; rw [e1, e2]
    | sep _ _ _ _ _ _ _ _ h0' hV' h1' => obtain ⟨rfl, rfl⟩ := KOut.ok_inj h0 h0'; have e := ih _ hV'; injection e with e1 e2; subst e1; exact absurd h1 h1'
    | more _ _ _ _ _ _ _ _ _ h0' hV' h1' => obtain ⟨rfl, rfl⟩ := KOut.ok_inj h0 h0'; have e := ih _ hV'; injection e with e1 e2; subst e1; exact absurd (h1.symm.trans h1') (shutI_ne _)
  | sep d b p ks q key j v h0 hV h1 h2 ih =>
    intro o' h'
    cases h' with
    | key _ _ _ _ _ _ h0' => exact (KOut.er_ok h0' h0).elim
    | val _ _ _ _ _ _ _ _ h0' hV' => obtain ⟨rfl, rfl⟩ := KOut.ok_inj h0 h0'; have e := ih _ hV'; cases e
    | last _ _ _ _ _ _ _ _ h0' hV' h1' => obtain ⟨rfl, rfl⟩ := KOut.ok_inj h0 h0'; have e := ih _ hV'; injection e with e1 e2; subst e1; exact absurd h1' h1
    | sep _ _ _ _ _ _ _ _ h0' hV' h1' => obtain ⟨rfl, rfl⟩ := KOut.ok_inj h0 h0'; have e := ih _ hV'; injection e with e1 e2; rw [e1]
    | more _ _ _ _ _ _ _ _ _ h0' hV' h1' => obtain ⟨rfl, rfl⟩ := KOut.ok_inj h0 h0'; have e := ih _ hV'; injection e with e1 e2; subst e1; exact absurd h1' h2
  | more d b p ks q key j v o h0 hV h1 hI ihV ihI =>
    intro o' h'
    cases h' with
    | key _ _ _ _ _ _ h0' => exact (KOut.er_ok h0' h0).elim
    | val _ _ _ _ _ _ _ _ h0' hV' => obtain ⟨rfl, rfl⟩ := KOut.ok_inj h0 h0'; have e := ihV _ hV'; cases e
    | last _ _ _ _ _ _ _ _ h0' hV' h1' => obtain ⟨rfl, rfl⟩ := KOut.ok_inj h0 h0'; have e := ihV _ hV'; injection e with e1 e2; subst e1; exact absurd (h1'.symm.trans h1) (shutI_ne _)
    | sep _ _ _ _ _ _ _ _ h0' hV' h1' h2' => obtain ⟨rfl, rfl⟩ := KOut.ok_inj h0 h0'; have e := ihV _ hV'; injection e with e1 e2; subst e1; exact absurd h1 h2'
    | more _ _ _ _ _ _ _ _ _ h0' hV' h1' hI' =>
      obtain ⟨rfl, rfl⟩ := KOut.ok_inj h0 h0'
      have e := ihV _ hV'
      injection e with e1 e2
      subst e1; subst e2
      rw [ihI _ hI']
theorem V.one {s : ByteArray} {d k : Nat} {o o' : Out} (h : V s d k o) (h' : V s d k o') : o' = o := W.one h _ h'

/-! ### Places -/
def Out.Fits (s : ByteArray) (k : Nat) : Out → Prop
  | .ok j _ => k < j ∧ j ≤ s.size
  | .er c a => c ≠ 0 ∧ a ≤ s.size
def Outs.Fits (s : ByteArray) (k : Nat) : Outs → Prop
  | .ok j _ _ => k < j ∧ j ≤ s.size
  | .er c a => c ≠ 0 ∧ a ≤ s.size
theorem numC_ok {s : ByteArray} {k : Nat} (hk : k ≤ s.size) (h : numC s k = 0) : k < numK s k ∧ numK s k ≤ s.size := by
  have hle := numK_le s k hk
  have h1 := le_runTo isDig s k hk
  unfold numC at h
  split at h
  · exact absurd h (missC_ne s k)
  · rename_i hne
    refine ⟨?_, hle⟩
    unfold numK
    rw [if_neg hne, if_pos h]
    omega
theorem wordO_fits {s : ByteArray} {k : Nat} (hk : k ≤ s.size) (kind : Int) (l : List UInt8) (hl : 0 < l.length) : (wordO s k kind l).Fits s k := by
  have h1 := wordR_le s l k hk
  unfold wordO
  split
  · have := wordR_ok s l k ‹_›
    exact ⟨by omega, h1.2⟩
  · exact ⟨‹_›, h1.2⟩
theorem txtR_a (s : ByteArray) : ∀ (n k : Nat), s.size - k = n → k ≤ s.size → (txtR s k).a ≤ s.size := by
  intro n
  induction n using Nat.strongRecOn with
  | ind n ih =>
    intro k hn hk
    by_cases h34 : byteI s k = 34
    · rw [txtR_end h34]; exact Nat.zero_le _
    · by_cases hc : (signR s k).c = 0
      · rw [txtR_go h34 hc]
        have h1 := signR_ok hc
        exact ih (s.size - (signR s k).k) (by omega) (signR s k).k rfl h1.2
      · rw [txtR_er h34 hc]
        exact (signR_er hk hc).2
theorem quoR_a {s : ByteArray} {k : Nat} (hk : k ≤ s.size) : (quoR s k).a ≤ s.size := by
  unfold quoR
  split
  · rename_i h
    have := byteI_pos (s := s) (k := k) (by rw [h]; decide)
    exact txtR_a s _ _ rfl (by omega)
  · exact hk
theorem leafR_fits {s : ByteArray} {k : Nat} (hk : k ≤ s.size) : (leafR s k).Fits s k := by
  unfold leafR
  split
  · exact wordO_fits hk _ _ (by decide)
  · split
    · exact wordO_fits hk _ _ (by decide)
    · split
      · exact wordO_fits hk _ _ (by decide)
      · split
        · split
          · exact quoR_ok ‹_›
          · exact ⟨‹_›, quoR_a hk⟩
        · split
          · exact numC_ok hk ‹_›
          · exact ⟨‹_›, hk⟩
theorem opens_lt {s : ByteArray} {k : Nat} (h : opens (byteI s k)) : k < s.size := byteI_pos (by rcases h with h | h <;> rw [h] <;> decide)
theorem keyR_ok {s : ByteArray} {b : Int} {p : Nat} {ks : List ByteArray} {q : Nat} {key : ByteArray} (hp : p ≤ s.size) (h : keyR s b p ks = .ok q key) : p ≤ q ∧ q ≤ s.size := by
  unfold keyR at h
  split at h
  · injection h with e; subst e; exact ⟨Nat.le_refl _, hp⟩
  · split at h
    · cases h
    · split at h
      · cases h
      · split at h
        · rename_i h0 _ h1
          injection h with e
          subst e
          have a1 := quoR_ok (Classical.not_not.1 h0)
          have a2 := sk_le s _ a1.2
          have a3 := byteI_pos (s := s) (k := sk s (quoR s p).k) (by rw [h1]; decide)
          have a4 := sk_le s (sk s (quoR s p).k + 1) (by omega)
          omega
        · cases h
theorem keyR_er {s : ByteArray} {b : Int} {p : Nat} {ks : List ByteArray} {c : Int} {a : Nat} (hp : p ≤ s.size) (h : keyR s b p ks = .er c a) : c ≠ 0 ∧ a ≤ s.size := by
  unfold keyR at h
  split at h
  · cases h
  · split at h
    · injection h with e1 e2; subst e1; subst e2; exact ⟨‹_›, quoR_a hp⟩
    · split at h
      · injection h with e1 e2; subst e1; subst e2; exact ⟨by decide, hp⟩
      · split at h
        · cases h
        · rename_i h0 _ _
          injection h with e1 e2; subst e1; subst e2
          have a1 := quoR_ok (Classical.not_not.1 h0)
          exact ⟨missC_ne _ _, (sk_le s _ a1.2).2⟩
theorem Outs.wrap_fits {s : ByteArray} {b : Int} {k p : Nat} {o : Outs} (hp : k ≤ p) (h : o.Fits s p) : (o.wrap b k).Fits s k := by
  cases o with
  | ok j vs ks => exact ⟨by have := h.1; omega, h.2⟩
  | er c a => exact h
theorem Outs.cons_fits {s : ByteArray} {v : Val} {key : ByteArray} {k p : Nat} {o : Outs} (hp : k ≤ p) (h : o.Fits s p) : (o.cons v key).Fits s k := by
  cases o with
  | ok j vs ks => exact ⟨by have := h.1; omega, h.2⟩
  | er c a => exact h
def Say.Fits (s : ByteArray) : Say → Prop
  | .v _ k o => k ≤ s.size → o.Fits s k
  | .i _ _ p _ o => p ≤ s.size → o.Fits s p
theorem W.fits {s : ByteArray} {g : Say} (h : W s g) : g.Fits s := by
  induction h with
  | leaf => exact leafR_fits
  | deep => intro hk; exact ⟨by decide, hk⟩
  | none d k h0 h1 h2 =>
    intro hk
    have a0 := opens_lt h0
    have a1 := sk_le s (k + 1) (by omega)
    have a2 := byteI_pos (s := s) (k := sk s (k + 1)) (by rw [h2]; unfold shutI; split <;> decide)
    exact ⟨by omega, by omega⟩
  | some d k o h0 h1 h2 hI ih =>
    intro hk
    have a0 := opens_lt h0
    have a1 := sk_le s (k + 1) (by omega)
    exact Outs.wrap_fits (by omega) (ih a1.2)
  | key d b p ks c a h0 => intro hp; exact keyR_er hp h0
  | val d b p ks q key c a h0 hV ih =>
    intro hp
    have a1 := keyR_ok hp h0
    exact ih a1.2
  | last d b p ks q key j v h0 hV h1 ih =>
    intro hp
    have a1 := keyR_ok hp h0
    have a2 := ih a1.2
    have a3 := sk_le s j a2.2
    have a4 := byteI_pos (s := s) (k := sk s j) (by rw [h1]; unfold shutI; split <;> decide)
    have := a2.1
    exact ⟨by omega, by omega⟩
  | sep d b p ks q key j v h0 hV h1 h2 ih =>
    intro hp
    have a1 := keyR_ok hp h0
    have a2 := ih a1.2
    exact ⟨missC_ne _ _, (sk_le s j a2.2).2⟩
  | more d b p ks q key j v o h0 hV h1 hI ihV ihI =>
    intro hp
    have a1 := keyR_ok hp h0
    have a2 := ihV a1.2
    have a3 := sk_le s j a2.2
    have a4 := byteI_pos (s := s) (k := sk s j) (by rw [h1]; decide)
    have a5 := sk_le s (sk s j + 1) (by omega)
    have := a2.1
    exact Outs.cons_fits (by omega) (ihI a5.2)
theorem V.fits {s : ByteArray} {d k : Nat} {o : Out} (hk : k ≤ s.size) (h : V s d k o) : o.Fits s k := W.fits h hk

/-- What a whole text is. -/
def Whole (s : ByteArray) (o : Out) : Prop :=
  (65536 < s.size ∧ o = .er 5 65536) ∨ (s.size ≤ 65536 ∧ ∃ o1, V s 0 (sk s 0) o1 ∧
    ((∃ c a, o1 = .er c a ∧ o = .er c a) ∨ ∃ j v, o1 = .ok j v ∧ (sk s j = s.size ∧ o = .ok s.size v ∨ sk s j ≠ s.size ∧ o = .er 4 (sk s j))))
theorem Whole.one {s : ByteArray} {o o' : Out} (h : Whole s o) (h' : Whole s o') : o' = o := by
  rcases h with ⟨h0, rfl⟩ | ⟨h0, o1, hV, h⟩
  · rcases h' with ⟨_, rfl⟩ | ⟨h1, _⟩
    · rfl
    · omega
  · rcases h' with ⟨h1, _⟩ | ⟨_, o2, hV', h'⟩
    · omega
    · have := V.one hV hV'
      subst this
      rcases h with ⟨c, a, rfl, rfl⟩ | ⟨j, v, rfl, h⟩
      · rcases h' with ⟨c', a', e, rfl⟩ | ⟨j, v, e, _⟩
        · injection e with e1 e2; subst e1; subst e2; rfl
        · cases e
      · rcases h' with ⟨c', a', e, _⟩ | ⟨j', v', e, h'⟩
        · cases e
        · injection e with e1 e2; subst e1; subst e2
          rcases h with ⟨h, rfl⟩ | ⟨h, rfl⟩ <;> rcases h' with ⟨h', rfl⟩ | ⟨h', rfl⟩
          · rfl
          · exact absurd h h'
          · exact absurd h' h
          · rfl
end Go.Proofs.YtajmlkephefapaaGreatDoor
