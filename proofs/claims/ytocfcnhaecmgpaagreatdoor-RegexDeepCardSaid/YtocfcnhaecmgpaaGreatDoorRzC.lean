/-
  Plain: what is read has no more expressions, words and bytes than were gone by; how many ( a text has, told twice; texts of brackets.
-/
import Derived.Test.YtocfcnhaecmgpaaGreatDoorRzA
import Derived.Lib.Repeat
namespace Go.Proofs.YtocfcnhaecmgpaaGreatDoor
open Go.RowKit Go.Extern.Stop Go.Stop Go.Extern

theorem wordsWt_append : ∀ (l r : List ByteArray), wordsWt (l ++ r) = wordsWt l + wordsWt r
  | [], r => by rw [List.nil_append, wordsWt]; omega
  | w :: l, r => by
    rw [List.cons_append, wordsWt, wordsWt, wordsWt_append l r]
    omega
theorem wordsWt_perm {l r : List ByteArray} (h : l.Perm r) : wordsWt l = wordsWt r := by
  induction h with
  | nil => rfl
  | cons x _ ih => rw [wordsWt, wordsWt, ih]
  | swap x y l => rw [wordsWt, wordsWt, wordsWt, wordsWt]; omega
  | trans _ _ ih1 ih2 => exact ih1.trans ih2
theorem srt_perm (l : List ByteArray) : (srt l).Perm l := by
  have h1 := (srtL_go (l.map (fun b => b.data.toList)) [] List.Pairwise.nil).2
  rw [List.nil_append] at h1
  have h2 := h1.map (fun b => (⟨b.toArray⟩ : ByteArray))
  rw [List.map_map] at h2
  have e : ((fun b : List UInt8 => (⟨b.toArray⟩ : ByteArray)) ∘ fun b : ByteArray => b.data.toList) = id := by
    funext b; simp
  rw [e, List.map_id] at h2
  exact h2
theorem rxsWt_append : ∀ (l r : List Rx), rxsWt (l ++ r) = rxsWt l + rxsWt r
  | [], r => by rw [List.nil_append, rxsWt]; omega
  | x :: l, r => by
    rw [List.cons_append, rxsWt, rxsWt, rxsWt_append l r]
    omega
/-- What a reading leaves: its place is farther on, and what was read has no more than was gone by. -/
def WtR (s : ByteArray) (f : Nat → Nat → RO Rx) : Prop := ∀ k n k' n' x, k ≤ s.size → f k n = .ok k' n' x → k ≤ k' ∧ k' ≤ s.size ∧ n ≤ n' ∧ rxWt x + 2 * n + k ≤ 2 * n' + k'
theorem chR_wt {s : ByteArray} : ∀ (f k : Nat) (seen : List ByteArray) (k' n' : Nat) (ws : List ByteArray), k ≤ s.size → chR s f k seen = .ok k' n' ws → k ≤ k' ∧ k' ≤ s.size ∧ wordsWt ws + k ≤ wordsWt seen + k'
  | 0, _, _, _, _, _, _, h => by simp [chR] at h
  | f + 1, k, seen, k', n', ws, hk, h => by
    have hj := skp_le hk
    have hw := wdK_le hj.2
    have hj2 := skp_le hw.2
    have hsz := size_ext s (skp s k) (wdK s (skp s k)) hw.2
    rw [chR] at h
    split at h
    · cases h
    · split at h
      · cases h
      · split at h
        · have h1 := byteI_in (by assumption) (by decide : (44 : Int) ≠ 0)
          have := chR_wt f _ _ _ _ _ (by omega) h
          rw [wordsWt_append, wordsWt, wordsWt, hsz] at this
          omega
        · split at h
          · have h1 := byteI_in (by assumption) (by decide : (93 : Int) ≠ 0)
            injection h with h2 h3 h4
            subst h2 h4
            rw [wordsWt_append, wordsWt, wordsWt, hsz]
            omega
          · cases h
theorem bsR_wt {s : ByteArray} {sub : Option (Nat → Nat → RO Rx)} (hsub : ∀ f, sub = some f → WtR s f) : WtR s (bsR s sub) := by
  intro k n k' n' x hk h
  have hj := skp_le hk
  unfold bsR at h
  split at h
  · have hlt := byteI_in (by assumption) (by decide : (40 : Int) ≠ 0)
    cases sub with
    | none => cases h
    | some f =>
      simp only at h
      split at h
      · have h1 := byteI_in (by assumption) (by decide : (41 : Int) ≠ 0)
        have h2 := skp_le (s := s) (k := skp s k + 1) (by omega)
        obtain ⟨rfl, rfl, h3, rfl⟩ := cnt_ok h
        rw [rxWt, wordsWt, rxsWt]
        omega
      · split at h
        · cases h
        · rename_i k1 n1 x1 e1
          have hg := hsub f rfl (skp s k + 1) n k1 n1 x1 (by omega) e1
          have h2 := skp_le hg.2.1
          split at h
          · have h1 := byteI_in (by assumption) (by decide : (41 : Int) ≠ 0)
            injection h with h3 h4 h5
            subst h3 h4 h5
            omega
          · cases h
  · split at h
    · have hlt := byteI_in (by assumption) (by decide : (46 : Int) ≠ 0)
      obtain ⟨rfl, rfl, h3, rfl⟩ := cnt_ok h
      rw [rxWt, wordsWt, rxsWt]
      omega
    · split at h
      · have hlt := byteI_in (by assumption) (by decide : (91 : Int) ≠ 0)
        split at h
        · cases h
        · rename_i k1 n1 ws e1
          have hnk := notK_le (s := s) (k := skp s k + 1) (by omega)
          have hc := chR_wt _ _ _ _ _ _ hnk.2 e1
          obtain ⟨rfl, rfl, h3, rfl⟩ := cnt_ok h
          rw [rxWt, rxsWt, wordsWt_perm (srt_perm ws)]
          rw [wordsWt] at hc
          omega
      · split at h
        · cases h
        · have hw := wdK_le hj.2
          have hsz := size_ext s (skp s k) (wdK s (skp s k)) hw.2
          obtain ⟨rfl, rfl, h3, rfl⟩ := cnt_ok h
          rw [rxWt, rxsWt, wordsWt, wordsWt, hsz]
          omega
theorem sgR_wt {s : ByteArray} : ∀ (f k n : Nat) (x : Rx) (k' n' : Nat) (y : Rx), k ≤ s.size → sgR s f k n x = .ok k' n' y → k ≤ k' ∧ k' ≤ s.size ∧ n ≤ n' ∧ rxWt y + 2 * n + k ≤ rxWt x + 2 * n' + k'
  | 0, _, _, _, _, _, _, _, h => by cases h
  | f + 1, k, n, x, k', n', y, hk, h => by
    have hj := skp_le hk
    rw [sgR] at h
    split at h
    · injection h with h1 h2 h3
      subst h1 h2 h3
      omega
    · rename_i i hi
      split at h
      · cases h
      · have hlt : skp s k < s.size := by
          have h0 : byteI s (skp s k) ≠ 0 := by
            intro h0
            rw [h0] at hi
            simp [sgn] at hi
          exact byteI_in rfl h0
        have := sgR_wt f _ _ _ _ _ _ (by omega) h
        rw [rxWt, wordsWt, rxsWt, rxsWt] at this
        omega
theorem ptR_wt {s : ByteArray} {sub : Option (Nat → Nat → RO Rx)} (hsub : ∀ f, sub = some f → WtR s f) : WtR s (ptR s sub) := by
  intro k n k' n' x hk h
  unfold ptR at h
  split at h
  · cases h
  · rename_i k1 n1 x1 e1
    have h1 := bsR_wt hsub k n k1 n1 x1 hk e1
    have := sgR_wt 101 k1 n1 x1 k' n' x h1.2.1 h
    omega
def WtM (s : ByteArray) (m : Nat → Option Nat) : Prop := ∀ k k', k ≤ s.size → m k = some k' → k ≤ k' ∧ k' ≤ s.size
theorem rwM_wt {s : ByteArray} : WtM s (rwM s) := by
  intro k k' hk h
  unfold rwM at h
  split at h
  · injection h with h; omega
  · cases h
theorem alM_wt {s : ByteArray} : WtM s (alM s) := by
  intro k k' hk h
  have hj := skp_le hk
  unfold alM at h
  split at h
  · have := byteI_in (by assumption) (by decide : (124 : Int) ≠ 0)
    injection h with h; omega
  · cases h
theorem jnL_wt {s : ByteArray} {kind : Int} {next : Nat → Nat → RO Rx} {more : Nat → Option Nat} (hn : WtR s next) (hm : WtM s more) : ∀ (f k n : Nat) (l : List Rx) (k' n' : Nat) (x : Rx), k ≤ s.size → jnL kind next more f k n l = .ok k' n' x → k ≤ k' ∧ k' ≤ s.size ∧ n ≤ n' ∧ rxWt x + 2 * n + k ≤ 1 + rxsWt l + 2 * n' + k'
  | 0, _, _, _, _, _, _, _, h => by cases h
  | f + 1, k, n, l, k', n', x, hk, h => by
    rw [jnL] at h
    split at h
    · cases h
    · rename_i k1 n1 x1 e1
      have h1 := hn k n k1 n1 x1 hk e1
      split at h
      · rename_i k2 e2
        have h2 := hm k1 k2 h1.2.1 e2
        have := jnL_wt hn hm f k2 n1 _ k' n' x h2.2 h
        rw [rxsWt_append, rxsWt, rxsWt] at this
        omega
      · injection h with h3 h4 h5
        subst h3 h4 h5
        rw [rxWt, wordsWt, rxsWt_append, rxsWt, rxsWt]
        omega
theorem jnR_wt {s : ByteArray} {kind : Int} {next : Nat → Nat → RO Rx} {more : Nat → Option Nat} (hn : WtR s next) (hm : WtM s more) : WtR s (jnR s kind next more) := by
  intro k n k' n' x hk h
  unfold jnR at h
  split at h
  · cases h
  · rename_i k1 n1 x1 e1
    have h1 := hn k n k1 n1 x1 hk e1
    split at h
    · injection h with h3 h4 h5
      subst h3 h4 h5
      exact h1
    · rename_i k2 e2
      have h2 := hm k1 k2 h1.2.1 e2
      split at h
      · cases h
      · have := jnL_wt hn hm 101 k2 (n1 + 1) _ k' n' x h2.2 h
        rw [rxsWt, rxsWt] at this
        omega
theorem alR_wt {s : ByteArray} : ∀ e : Nat, WtR s (alR s e)
  | 0 => jnR_wt (jnR_wt (ptR_wt (fun f h => by cases h)) rwM_wt) alM_wt
  | e + 1 => jnR_wt (jnR_wt (ptR_wt (fun f h => by injection h with h; rw [← h]; exact alR_wt e)) rwM_wt) alM_wt
/-- A short text's expression is small. -/
theorem alR_small {s : ByteArray} {e k n : Nat} {x : Rx} (h : alR s e 0 0 = .ok k n x) (hs : s.size ≤ 500) : rxWt x ≤ 1000 := by
  have h1 := alR_wt e 0 0 k n x (Nat.zero_le _) h
  have h2 := (alR_good e 0 0 k n x (Nat.zero_le _) h).2.1
  omega
end Go.Proofs.YtocfcnhaecmgpaaGreatDoor
