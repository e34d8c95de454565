/-
  Package tree by contracts, seventeenth part: values within one another, so many.
-/
import Derived.Test.YtbaglmjbncalpaaDoorTreeR
namespace Go.Proofs.YtbaglmjbncalpaaDoor
open Go.RowKit Go.Extern.Stop Go.Stop Go.Extern Go.WideMaps

/-- A text that opens so many, holds a 7, and shuts as many. -/
structure Nest (s : ByteArray) (b : Int) (L n : Nat) : Prop where
  isb : b = 91 ∨ b = 123
  hb : ∀ i, i < n → byteI s (L * i) = b
  mid : byteI s (L * n) = 55
  num : numC s (L * n) = 0 ∧ numK s (L * n) = L * n + 1 ∧ numN s (L * n) = 7
  ends : ∀ m, m < n → byteI s (L * n + 1 + m) = shutI b
  size : s.size = L * n + 1 + n
  item : ∀ i, i < n → byteI s (sk s (L * i + 1)) ≠ shutI b ∧ ∃ key, keyR s b (sk s (L * i + 1)) [] = .ok (L * (i + 1)) key
theorem sk_byte {s : ByteArray} {k : Nat} (h : k < s.size) (hb : isBl (byteI s k) = false) : sk s k = k := by
  rw [byteI_lt h] at hb
  exact sk_here h hb
theorem Nest.opens {s : ByteArray} {b : Int} {L n : Nat} (h : Nest s b L n) {i : Nat} (hi : i < n) : opens (byteI s (L * i)) := by
  rw [h.hb i hi]
  exact h.isb
theorem Nest.skEnd {s : ByteArray} {b : Int} {L n : Nat} (h : Nest s b L n) {m : Nat} (hm : m < n) : sk s (L * n + 1 + m) = L * n + 1 + m := by
  refine sk_byte (by rw [h.size]; omega) ?_
  rw [h.ends m hm]
  rcases h.isb with e | e <;> rw [e] <;> decide
theorem Nest.ok {s : ByteArray} {b : Int} {L n : Nat} (h : Nest s b L n) (hn : n ≤ 64) : ∀ m, m ≤ n → ∃ x, vsize x = m + 1 ∧ vdeep x = m ∧ V s (n - m) (L * (n - m)) (.ok (L * n + 1 + m) x) := by
  intro m
  induction m with
  | zero =>
    intro _
    refine ⟨.mk 3 ⟨#[]⟩ 7 [] [] (L * n : Nat), by simp [vsize], by simp [vdeep], ?_⟩
    have := W.leaf (s := s) n (L * n) (by rw [h.mid]; decide)
    rwa [leaf_num (by rw [h.mid]; decide) h.num] at this
  | succ m ih =>
    intro hm
    obtain ⟨x, h1, h2, h3⟩ := ih (by omega)
    have hi : n - (m + 1) < n := by omega
    have hi1 : n - (m + 1) + 1 = n - m := by omega
    obtain ⟨hne, key, hkey⟩ := h.item _ hi
    have hI : I s (n - (m + 1) + 1) b (sk s (L * (n - (m + 1)) + 1)) [] (.ok (L * n + 1 + m + 1) [x] [key]) := by
      have := W.last (s := s) (n - (m + 1) + 1) b (sk s (L * (n - (m + 1)) + 1)) [] _ key _ x hkey (by rw [hi1]; exact h3) (by rw [h.skEnd (by omega)]; exact h.ends m (by omega))
      rwa [h.skEnd (by omega)] at this
    have hV := W.some (s := s) (n - (m + 1)) (L * (n - (m + 1))) _ (h.opens hi) (by omega) (by rw [h.hb _ hi]; exact hne) (by rw [h.hb _ hi]; exact hI)
    rw [h.hb _ hi] at hV
    have hk : kindI b = 5 ∨ kindI b = 6 := by rcases h.isb with e | e <;> rw [e] <;> decide
    refine ⟨_, ?_, ?_, hV⟩
    · rw [vsize, if_pos hk, lsize, lsize, h1]
      omega
    · rw [vdeep, if_pos hk, ldeep, ldeep, h2]
      omega
theorem Nest.whole {s : ByteArray} {b : Int} {L n : Nat} (h : Nest s b L n) (hn : n ≤ 64) (hs : s.size ≤ 65536) : ∃ x, vsize x = n + 1 ∧ vdeep x = n ∧ Whole s (.ok s.size x) := by
  obtain ⟨x, h1, h2, h3⟩ := h.ok hn n (Nat.le_refl _)
  rw [Nat.sub_self, Nat.mul_zero] at h3
  have h0 : byteI s 0 = b ∨ byteI s 0 = 55 := by
    rcases Nat.eq_zero_or_pos n with e | e
    · have := h.mid; rw [e] at this; exact .inr this
    · have := h.hb 0 e; exact .inl this
  have s0 : sk s 0 = 0 := by
    refine sk_byte (by rw [h.size]; omega) ?_
    rcases h0 with e | e
    · rw [e]; rcases h.isb with e | e <;> rw [e] <;> decide
    · rw [e]; decide
  refine ⟨x, h1, h2, .inr ⟨hs, _, by rw [s0]; exact h3, .inr ⟨_, x, rfl, .inl ⟨?_, rfl⟩⟩⟩⟩
  rw [← h.size]
  exact runTo_end (by omega)
theorem Nest.far {s : ByteArray} {b : Int} {L n : Nat} (h : Nest s b L n) (hn : 64 < n) : ∀ m, m ≤ 64 → V s (64 - m) (L * (64 - m)) (.er 8 (L * 64)) := by
  intro m
  induction m with
  | zero => intro _; exact W.deep 64 (L * 64) (h.opens (by omega)) (Nat.le_refl _)
  | succ m ih =>
    intro hm
    have hi : 64 - (m + 1) < n := by omega
    have hi1 : 64 - (m + 1) + 1 = 64 - m := by omega
    obtain ⟨hne, key, hkey⟩ := h.item _ hi
    have hI : I s (64 - (m + 1) + 1) b (sk s (L * (64 - (m + 1)) + 1)) [] (.er 8 (L * 64)) := W.val (s := s) _ _ _ _ _ key _ _ hkey (by rw [hi1]; exact ih (by omega))
    have hV := W.some (s := s) (64 - (m + 1)) (L * (64 - (m + 1))) _ (h.opens hi) (by omega) (by rw [h.hb _ hi]; exact hne) (by rw [h.hb _ hi]; exact hI)
    exact hV
theorem Nest.deep {s : ByteArray} {b : Int} {L n : Nat} (h : Nest s b L n) (hn : 64 < n) (hs : s.size ≤ 65536) : Whole s (.er 8 (L * 64)) := by
  have h3 := h.far hn 64 (Nat.le_refl _)
  rw [Nat.sub_self, Nat.mul_zero] at h3
  have h0 : byteI s 0 = b := h.hb 0 (by omega)
  have s0 : sk s 0 = 0 := by
    refine sk_byte (by rw [h.size]; omega) ?_
    rw [h0]; rcases h.isb with e | e <;> rw [e] <;> decide
  exact .inr ⟨hs, _, by rw [s0]; exact h3, .inl ⟨_, _, rfl, rfl⟩⟩
end Go.Proofs.YtbaglmjbncalpaaDoor
