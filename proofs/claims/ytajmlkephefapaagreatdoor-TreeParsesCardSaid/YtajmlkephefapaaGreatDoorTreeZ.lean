/-
  Layer 5, plain: a text with blanks ahead of and behind it.
-/
import Derived.Test.YtajmlkephefapaaGreatDoorTreeV
namespace Go.Proofs.YtajmlkephefapaaGreatDoor
open Go.RowKit Go.Extern.Stop Go.Stop Go.Extern

/-- A text with n blanks ahead of it, and tabs behind it. -/
structure Pad (s T : ByteArray) (n : Nat) : Prop where
  size : s.size + n ≤ T.size
  get : ∀ i (h : i < s.size), T[i + n]'(by omega) = s[i]
  front : ∀ i, i < n → isBl (byteI T i) = true
  back : ∀ i, s.size + n ≤ i → i < T.size → byteI T i = 9
theorem Pad.I {s T : ByteArray} {n : Nat} (h : Pad s T n) {i : Nat} (hi : i < s.size) : byteI T (i + n) = byteI s i := by
  have := h.size
  rw [byteI_lt (show i + n < T.size by omega), byteI_lt hi, h.get i hi]
theorem Pad.U {s T : ByteArray} {n : Nat} (h : Pad s T n) {i : Nat} (hi : i < s.size) : byteU T (i + n) = byteU s i := by
  have := h.size
  unfold byteU
  rw [dif_pos (show i + n < T.size by omega), dif_pos hi, h.get i hi]
/-- Behind the text: a tab, or the end. -/
theorem Pad.behind {s T : ByteArray} {n : Nat} (h : Pad s T n) {i : Nat} (hi : s.size ≤ i) : byteI T (i + n) = 9 ∨ byteI T (i + n) = 0 := by
  by_cases hT : i + n < T.size
  · exact .inl (h.back _ (by omega) hT)
  · exact .inr (byteI_ge hT)
theorem Pad.run {s T : ByteArray} {n : Nat} (h : Pad s T n) (p : Int → Bool) : ∀ (m k : Nat), s.size - k = m → k ≤ s.size → runTo p T (k + n) = if runTo p s k < s.size then runTo p s k + n else runTo p T (s.size + n) := by
  intro m
  induction m with
  | zero =>
    intro k hm hk
    obtain rfl : k = s.size := by omega
    rw [runTo_end (s := s) (by omega), if_neg (by omega)]
  | succ m ih =>
    intro k hm hk
    have hks : k < s.size := by omega
    have := h.size
    have hkT : k + n < T.size := by omega
    have e := h.get k hks
    by_cases hp : p (s[k].toNat : Int) = true
    · rw [runTo_go hks hp, runTo_go hkT (by rw [e]; exact hp), show k + n + 1 = k + 1 + n by omega]
      exact ih (k + 1) (by omega) (by omega)
    · have hp' : p (s[k].toNat : Int) = false := by simpa using hp
      rw [runTo_stop hks hp', runTo_stop hkT (by rw [e]; exact hp'), if_pos hks]
theorem Pad.digs {s T : ByteArray} {n k : Nat} (h : Pad s T n) (hk : k ≤ s.size) : runTo isDig T (k + n) = runTo isDig s k + n := by
  rw [h.run isDig _ k rfl hk]
  split
  · rfl
  · have h1 := runTo_le isDig s k hk
    have e : runTo isDig s k = s.size := by omega
    rw [e]
    by_cases hT : s.size + n < T.size
    · have := h.back _ (Nat.le_refl _) hT
      rw [byteI_lt hT] at this
      rw [runTo_stop hT (by rw [this]; decide)]
    · exact runTo_end hT
theorem blanks_to (T : ByteArray) : ∀ (m k : Nat), T.size - k = m → k ≤ T.size → (∀ i, k ≤ i → i < T.size → isBl (byteI T i) = true) → runTo isBl T k = T.size := by
  intro m
  induction m with
  | zero => intro k hm hk _; rw [runTo_end (by omega)]; omega
  | succ m ih =>
    intro k hm hk hb
    have hlt : k < T.size := by omega
    have := hb k (Nat.le_refl _) hlt
    rw [byteI_lt hlt] at this
    rw [runTo_go hlt this]
    exact ih (k + 1) (by omega) (by omega) fun i h1 h2 => hb i (by omega) h2
/-- Where a place stands that blanks lead to. -/
def mu (s T : ByteArray) (n p : Nat) : Nat := if p < s.size then p + n else T.size
theorem Pad.sk {s T : ByteArray} {n k : Nat} (h : Pad s T n) (hk : k ≤ s.size) : sk T (k + n) = mu s T n (sk s k) := by
  unfold Go.Proofs.YtajmlkephefapaaGreatDoor.sk mu
  rw [h.run isBl _ k rfl hk]
  split
  · rfl
  · exact blanks_to T _ _ rfl h.size fun i h1 h2 => by rw [h.back i h1 h2]; decide
theorem mu_lt {s T : ByteArray} {n p : Nat} (h : p < s.size) : mu s T n p = p + n := if_pos h
theorem mu_ge {s T : ByteArray} {n p : Nat} (h : ¬ p < s.size) : mu s T n p = T.size := if_neg h
theorem Pad.mI {s T : ByteArray} {n : Nat} (h : Pad s T n) (p : Nat) : byteI T (mu s T n p) = byteI s p := by
  by_cases hp : p < s.size
  · rw [mu_lt hp, h.I hp]
  · rw [mu_ge hp, byteI_ge (by omega), byteI_ge hp]
/-! ### Words -/
theorem Pad.word {s T : ByteArray} {n : Nat} (h : Pad s T n) : ∀ (l : List UInt8) (k : Nat), k ≤ s.size → (∀ b ∈ l, b.toNat ≠ 9) → ((wordR s k l).2 = 0 → wordR T (k + n) l = ((wordR s k l).1 + n, 0)) ∧ ((wordR s k l).2 ≠ 0 → (wordR T (k + n) l).2 ≠ 0)
  | [], k, _, _ => ⟨fun _ => rfl, fun h => absurd rfl h⟩
  | b :: r, k, hk, hl => by
    have hb9 := hl b (by simp)
    have := h.size
    by_cases hks : k < s.size
    · have e := h.I hks
      by_cases hb : byteI s k = (b.toNat : Int)
      · have e1 : wordR s k (b :: r) = wordR s (k + 1) r := by rw [wordR]; exact if_pos ⟨hb, hks⟩
        have e2 : wordR T (k + n) (b :: r) = wordR T (k + 1 + n) r := by rw [wordR, if_pos ⟨by rw [e]; exact hb, by omega⟩, show k + n + 1 = k + 1 + n by omega]
        rw [e1, e2]
        exact Pad.word h r (k + 1) hks (fun c hc => hl c (by simp [hc]))
      · have e1 : (wordR s k (b :: r)).2 ≠ 0 := by rw [wordR, if_neg (fun h => hb h.1)]; exact missC_ne s k
        refine ⟨fun h0 => absurd h0 e1, fun _ => ?_⟩
        rw [wordR, if_neg (fun h => hb (by rw [← e]; exact h.1))]
        exact missC_ne _ _
    · have e1 : (wordR s k (b :: r)).2 ≠ 0 := by rw [wordR, if_neg (fun h => hks h.2)]; exact missC_ne s k
      refine ⟨fun h0 => absurd h0 e1, fun _ => ?_⟩
      rw [wordR, if_neg]
      · exact missC_ne _ _
      · rintro ⟨h1, h2⟩
        have := h.back _ (by omega) h2
        rw [this] at h1
        exact hb9 (by omega)
/-! ### Texts -/
theorem Pad.sign {s T : ByteArray} {n k : Nat} (h : Pad s T n) (hk : k ≤ s.size) : ((signR s k).c = 0 → signR T (k + n) = ⟨(signR s k).k + n, (signR s k).b, 0, 0⟩) ∧ ((signR s k).c ≠ 0 → (signR T (k + n)).c ≠ 0) := by
  by_cases hks : k < s.size
  · have e := h.I hks
    have eU := h.U hks
    by_cases hb : byteI s k = 92
    · have hT : byteI T (k + n) = 92 := e.trans hb
      by_cases hk1 : k + 1 < s.size
      · have e1 : byteI T (k + n + 1) = byteI s (k + 1) := by rw [show k + n + 1 = k + 1 + n by omega]; exact h.I hk1
        have eU1 : byteU T (k + n + 1) = byteU s (k + 1) := by rw [show k + n + 1 = k + 1 + n by omega]; exact h.U hk1
        unfold signR
        rw [if_pos hb, if_pos hT, e1, eU1]
        by_cases h1 : byteI s (k + 1) = 34 ∨ byteI s (k + 1) = 92
        · rw [if_pos h1, if_pos h1]
          exact ⟨fun _ => by show (⟨k + n + 2, _, 0, 0⟩ : Sg) = ⟨k + 2 + n, _, 0, 0⟩; rw [show k + n + 2 = k + 2 + n by omega], fun h => absurd rfl h⟩
        · rw [if_neg h1, if_neg h1]
          by_cases h2 : byteI s (k + 1) = 110
          · rw [if_pos h2, if_pos h2]
            exact ⟨fun _ => by show (⟨k + n + 2, _, 0, 0⟩ : Sg) = ⟨k + 2 + n, _, 0, 0⟩; rw [show k + n + 2 = k + 2 + n by omega], fun h => absurd rfl h⟩
          · rw [if_neg h2, if_neg h2]
            refine ⟨fun h0 => ?_, fun _ h0 => ?_⟩
            · split at h0 <;> cases h0
            · split at h0 <;> cases h0
      · have e1 : byteI s (k + 1) = 0 := byteI_ge hk1
        have e2 := h.behind (show s.size ≤ k + 1 by omega)
        rw [show k + 1 + n = k + n + 1 by omega] at e2
        unfold signR
        rw [if_pos hb, if_pos hT, e1, if_neg (by decide), if_neg (by decide)]
        refine ⟨fun h0 => ?_, fun _ h0 => ?_⟩
        · split at h0 <;> cases h0
        · have n1 : ¬ (byteI T (k + n + 1) = 34 ∨ byteI T (k + n + 1) = 92) := by rcases e2 with e2 | e2 <;> rw [e2] <;> decide
          have n2 : ¬ byteI T (k + n + 1) = 110 := by rcases e2 with e2 | e2 <;> rw [e2] <;> decide
          rw [if_neg n1, if_neg n2] at h0
          split at h0 <;> cases h0
    · have hbT : ¬ byteI T (k + n) = 92 := by rw [e]; exact hb
      unfold signR
      rw [if_neg hb, if_neg hbT, e, eU]
      by_cases h1 : 32 ≤ byteI s k ∧ byteI s k ≤ 126
      · rw [if_pos h1, if_pos h1]
        exact ⟨fun _ => by show (⟨k + n + 1, _, 0, 0⟩ : Sg) = ⟨k + 1 + n, _, 0, 0⟩; rw [show k + n + 1 = k + 1 + n by omega], fun h => absurd rfl h⟩
      · rw [if_neg h1, if_neg h1]
        exact ⟨fun h0 => absurd h0 (missC_ne s k), fun _ => missC_ne _ _⟩
  · have e1 : byteI s k = 0 := byteI_ge hks
    have e2 := h.behind (show s.size ≤ k by omega)
    have n1 : ¬ byteI T (k + n) = 92 := by rcases e2 with e2 | e2 <;> rw [e2] <;> decide
    have n2 : ¬ (32 ≤ byteI T (k + n) ∧ byteI T (k + n) ≤ 126) := by rcases e2 with e2 | e2 <;> rw [e2] <;> decide
    unfold signR
    rw [e1, if_neg (by decide), if_neg (by decide), if_neg n1, if_neg n2]
    exact ⟨fun h0 => absurd h0 (missC_ne s k), fun _ => missC_ne _ _⟩
theorem Pad.txt {s T : ByteArray} {n : Nat} (h : Pad s T n) : ∀ (m k : Nat), s.size - k = m → k ≤ s.size → ((txtR s k).c = 0 → (txtR T (k + n)).c = 0 ∧ (txtR T (k + n)).k = (txtR s k).k + n ∧ (txtR T (k + n)).t = (txtR s k).t) ∧ ((txtR s k).c ≠ 0 → (txtR T (k + n)).c ≠ 0) := by
  intro m
  induction m using Nat.strongRecOn with
  | ind m ih =>
    intro k hm hk
    by_cases h34 : byteI s k = 34
    · have hks := byteI_pos (s := s) (k := k) (by rw [h34]; decide)
      have hT : byteI T (k + n) = 34 := by rw [h.I hks]; exact h34
      rw [txtR_end h34, txtR_end hT]
      exact ⟨fun _ => ⟨rfl, by show k + n + 1 = k + 1 + n; omega, rfl⟩, fun h => absurd rfl h⟩
    · have hT : byteI T (k + n) ≠ 34 := by
        by_cases hks : k < s.size
        · rw [h.I hks]; exact h34
        · rcases h.behind (show s.size ≤ k by omega) with e | e <;> rw [e] <;> decide
      obtain ⟨g1, g2⟩ := h.sign hk
      by_cases hc : (signR s k).c = 0
      · have hT2 := g1 hc
        have hcT : (signR T (k + n)).c = 0 := by rw [hT2]
        have h1 := signR_ok hc
        rw [txtR_go h34 hc, txtR_go hT hcT, hT2]
        obtain ⟨i1, i2⟩ := ih (s.size - (signR s k).k) (by omega) (signR s k).k rfl h1.2
        refine ⟨fun h0 => ?_, i2⟩
        obtain ⟨j1, j2, j3⟩ := i1 h0
        exact ⟨j1, j2, by show _ :: _ = _ :: _; rw [j3]⟩
      · have hcT := g2 hc
        rw [txtR_er h34 hc, txtR_er hT hcT]
        exact ⟨fun h0 => absurd h0 hc, fun _ => hcT⟩
theorem Pad.quo {s T : ByteArray} {n k : Nat} (h : Pad s T n) (hk : k < s.size) : ((quoR s k).c = 0 → (quoR T (k + n)).c = 0 ∧ (quoR T (k + n)).k = (quoR s k).k + n ∧ (quoR T (k + n)).t = (quoR s k).t) ∧ ((quoR s k).c ≠ 0 → (quoR T (k + n)).c ≠ 0) := by
  unfold quoR
  rw [h.I hk]
  by_cases h34 : byteI s k = 34
  · rw [if_pos h34, if_pos h34, show k + n + 1 = k + 1 + n by omega]
    exact h.txt _ (k + 1) rfl hk
  · rw [if_neg h34, if_neg h34]
    exact ⟨fun h0 => absurd h0 (missC_ne s k), fun _ => missC_ne _ _⟩
/-! ### Numbers -/
theorem Pad.extract {s T : ByteArray} {n k r : Nat} (h : Pad s T n) (hr : r ≤ s.size) : T.extract (k + n) (r + n) = s.extract k r := by
  have := h.size
  apply ByteArray.ext_getElem
  · rw [ByteArray.size_extract, ByteArray.size_extract]; omega
  · intro i h1 h2
    rw [ByteArray.size_extract] at h2
    rw [ByteArray.getElem_extract, ByteArray.getElem_extract]
    have e := h.get (k + i) (by omega)
    rw [← e]
    congr 1
    omega
theorem Pad.num {s T : ByteArray} {n k : Nat} (h : Pad s T n) (hk : k < s.size) : (numC s k = 0 → numC T (k + n) = 0 ∧ numK T (k + n) = numK s k + n ∧ numN T (k + n) = numN s k) ∧ (numC s k ≠ 0 → numC T (k + n) ≠ 0) := by
  have hr := h.digs (Nat.le_of_lt hk)
  have hle := runTo_le isDig s k (Nat.le_of_lt hk)
  have hd : digsR T (k + n) = digsR s k := by unfold digsR; rw [hr, h.extract hle]
  unfold numC numK numN
  rw [hr, hd]
  by_cases h0 : runTo isDig s k = k
  · have h0' : runTo isDig s k + n = k + n := by omega
    rw [if_pos h0, if_pos h0']
    exact ⟨fun h => absurd h (missC_ne s k), fun _ => missC_ne _ _⟩
  · have h0' : ¬ runTo isDig s k + n = k + n := by omega
    simp only [if_neg h0, if_neg h0']
    refine ⟨fun hc => ⟨hc, ?_, ?_⟩, fun hc => hc⟩
    · simp [hc]
    · first | rfl | simp [hc]
end Go.Proofs.YtajmlkephefapaaGreatDoor
