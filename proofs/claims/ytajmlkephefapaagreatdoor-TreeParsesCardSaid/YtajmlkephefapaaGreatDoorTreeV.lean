/-
  Layer 5, plain: what a text cut short comes to: leaves.
-/
import Derived.Test.YtajmlkephefapaaGreatDoorTreeA
namespace Go.Proofs.YtajmlkephefapaaGreatDoor
open Go.RowKit Go.Extern.Stop Go.Stop Go.Extern

def cut (s : ByteArray) (n : Nat) : ByteArray := s.extract 0 n
theorem cut_size {s : ByteArray} {n : Nat} (h : n ≤ s.size) : (cut s n).size = n := by unfold cut; rw [ByteArray.size_extract]; omega
theorem cut_get {s : ByteArray} {n k : Nat} (h : n ≤ s.size) (hk : k < n) : (cut s n)[k]'(by rw [cut_size h]; exact hk) = s[k]'(by omega) := by
  unfold cut
  rw [ByteArray.getElem_extract]
  simp
theorem cut_I {s : ByteArray} {n k : Nat} (h : n ≤ s.size) (hk : k < n) : byteI (cut s n) k = byteI s k := by
  rw [byteI_lt (show k < (cut s n).size by rw [cut_size h]; exact hk), byteI_lt (show k < s.size by omega), cut_get h hk]
theorem cut_U {s : ByteArray} {n k : Nat} (h : n ≤ s.size) (hk : k < n) : byteU (cut s n) k = byteU s k := by
  unfold byteU
  rw [dif_pos (show k < (cut s n).size by rw [cut_size h]; exact hk), dif_pos (show k < s.size by omega), cut_get h hk]
theorem cut_end {s : ByteArray} {n k : Nat} (h : n ≤ s.size) (hk : n ≤ k) : byteI (cut s n) k = 0 := byteI_ge (by rw [cut_size h]; omega)
theorem cut_miss {s : ByteArray} {n : Nat} (h : n ≤ s.size) : missC (cut s n) n = 3 := by unfold missC; rw [if_neg (by rw [cut_size h]; omega)]
theorem cut_run (p : Int → Bool) {s : ByteArray} {n : Nat} (h : n ≤ s.size) : ∀ (m k : Nat), n - k = m → k ≤ n → runTo p (cut s n) k = min n (runTo p s k) := by
  intro m
  induction m with
  | zero =>
    intro k hm hk
    obtain rfl : k = n := by omega
    rw [runTo_end (by rw [cut_size h]; omega)]
    have := le_runTo p s k h
    omega
  | succ m ih =>
    intro k hm hk
    have hkn : k < n := by omega
    by_cases hp : p ((s[k]'(by omega)).toNat : Int) = true
    · rw [runTo_go (s := s) (by omega) hp, runTo_go (s := cut s n) (by rw [cut_size h]; omega) (by rw [cut_get h hkn]; exact hp)]
      exact ih (k + 1) (by omega) (by omega)
    · have hp' : p ((s[k]'(by omega)).toNat : Int) = false := by simpa using hp
      rw [runTo_stop (s := s) (by omega) hp', runTo_stop (s := cut s n) (by rw [cut_size h]; omega) (by rw [cut_get h hkn]; exact hp')]
      omega
theorem cut_sk {s : ByteArray} {n k : Nat} (h : n ≤ s.size) (hk : k ≤ n) : sk (cut s n) k = min n (sk s k) := cut_run _ h _ k rfl hk

/-! ### Words -/
theorem cut_word {s : ByteArray} {n : Nat} (h : n ≤ s.size) : ∀ (l : List UInt8) (k : Nat), k ≤ n → (wordR s k l).2 = 0 → if k + l.length ≤ n then wordR (cut s n) k l = wordR s k l else wordR (cut s n) k l = (n, 3)
  | [], k, hk, _ => by rw [if_pos (by simpa using hk)]; rfl
  | b :: r, k, hk, h0 => by
    unfold wordR at *
    split at h0
    · rename_i h1
      rw [if_pos h1]
      rcases Nat.lt_or_ge k n with hkn | hkn
      · have h2 : byteI (cut s n) k = (b.toNat : Int) ∧ k < (cut s n).size := ⟨by rw [cut_I h hkn]; exact h1.1, by rw [cut_size h]; exact hkn⟩
        have ih := cut_word h r (k + 1) (by omega) h0
        simp only [List.length_cons]
        rw [if_pos h2]
        by_cases hle : k + (r.length + 1) ≤ n
        · rw [if_pos (by omega)] at ih
          rw [if_pos hle]
          exact ih
        · rw [if_neg (by omega)] at ih
          rw [if_neg hle]
          exact ih
      · obtain rfl : k = n := by omega
        rw [if_neg (by simp), if_neg (by rw [cut_size h]; omega), cut_miss h]
    · exact absurd h0 (missC_ne s k)
/-! ### Texts -/
theorem cut_sign {s : ByteArray} {n k : Nat} (h : n ≤ s.size) (hk : k ≤ n) (h0 : (signR s k).c = 0) : if (signR s k).k ≤ n then signR (cut s n) k = signR s k else (signR (cut s n) k).c = 3 ∧ (signR (cut s n) k).a = n := by
  rcases Nat.lt_or_ge k n with hkn | hkn
  · unfold signR at *
    rw [cut_I h hkn, cut_U h hkn]
    by_cases hb : byteI s k = 92
    · rw [if_pos hb] at *
      rw [if_pos hb]
      rcases Nat.lt_or_ge (k + 1) n with hk1 | hk1
      · rw [cut_I h hk1, cut_U h hk1]
        have hlt : (k + 1 < (cut s n).size) = (k + 1 < s.size) := by rw [cut_size h]; exact propext ⟨fun _ => by omega, fun _ => hk1⟩
        split at h0
        · rename_i h1
          rw [if_pos h1, if_pos (by show k + 2 ≤ n; omega), if_pos h1]
        · rename_i h1
          split at h0
          · rename_i h2
            rw [if_neg h1, if_pos h2, if_pos (by show k + 2 ≤ n; omega), if_neg h1, if_pos h2]
          · rename_i h2
            split at h0 <;> cases h0
      · have e1 : byteI (cut s n) (k + 1) = 0 := cut_end h hk1
        have hn : ¬ (k + 1 < (cut s n).size) := by rw [cut_size h]; omega
        have ek : (if byteI s (k + 1) = 34 ∨ byteI s (k + 1) = 92 then (⟨k + 2, byteU s (k + 1), 0, 0⟩ : Sg) else if byteI s (k + 1) = 110 then ⟨k + 2, 10, 0, 0⟩ else if k + 1 < s.size then ⟨k, 0, 4, k⟩ else ⟨k, 0, 3, k + 1⟩).k = k + 2 := by
          split at h0
          · rename_i h1; rw [if_pos h1]
          · rename_i h1
            split at h0
            · rename_i h2; rw [if_neg h1, if_pos h2]
            · split at h0 <;> cases h0
        rw [if_neg (by rw [ek]; omega), e1, if_neg (by decide), if_neg (by decide), if_neg hn]
        exact ⟨rfl, by show k + 1 = n; omega⟩
    · rw [if_neg hb] at *
      rw [if_neg hb]
      split at h0
      · rename_i h1
        rw [if_pos h1, if_pos (by show k + 1 ≤ n; omega), if_pos h1]
      · exact absurd h0 (missC_ne s k)
  · obtain rfl : k = n := by omega
    have hlt := (signR_ok h0).1
    rw [if_neg (by omega)]
    unfold signR
    rw [cut_end h (Nat.le_refl _), if_neg (by decide), if_neg (by decide)]
    exact ⟨cut_miss h, rfl⟩
theorem cut_txt {s : ByteArray} {n : Nat} (h : n ≤ s.size) : ∀ (m k : Nat), s.size - k = m → k ≤ n → (txtR s k).c = 0 → if (txtR s k).k ≤ n then txtR (cut s n) k = txtR s k else (txtR (cut s n) k).c = 3 ∧ (txtR (cut s n) k).a = n := by
  intro m
  induction m using Nat.strongRecOn with
  | ind m ih =>
    intro k hm hk h0
    rcases Nat.lt_or_ge k n with hkn | hkn
    · by_cases h34 : byteI s k = 34
      · have h34' : byteI (cut s n) k = 34 := by rw [cut_I h hkn]; exact h34
        rw [txtR_end h34, txtR_end h34', if_pos (by show k + 1 ≤ n; omega)]
      · have h34' : byteI (cut s n) k ≠ 34 := by rw [cut_I h hkn]; exact h34
        by_cases hc : (signR s k).c = 0
        · have hs := cut_sign h hk hc
          have hlt := signR_ok hc
          rw [txtR_go h34 hc] at h0 ⊢
          have hle := (txtR_ok s _ _ rfl h0).1
          by_cases hin : (signR s k).k ≤ n
          · rw [if_pos hin] at hs
            have i2 := ih (s.size - (signR s k).k) (by omega) (signR s k).k rfl hin h0
            rw [txtR_go h34' (by rw [hs]; exact hc), hs]
            by_cases h2 : (txtR s (signR s k).k).k ≤ n
            · rw [if_pos h2] at i2
              rw [if_pos h2, i2]
            · rw [if_neg h2] at i2
              rw [if_neg h2]
              exact i2
          · rw [if_neg hin] at hs
            rw [if_neg (show ¬ (txtR s (signR s k).k).k ≤ n by omega), txtR_er h34' (by rw [hs.1]; decide)]
            exact hs
        · rw [txtR_er h34 hc] at h0
          exact absurd h0 hc
    · obtain rfl : k = n := by omega
      have hlt := (txtR_ok s _ _ rfl h0).1
      have e := cut_end h (Nat.le_refl k)
      rw [if_neg (by omega), txtR_er (by rw [e]; decide) (by unfold signR; rw [e, if_neg (by decide), if_neg (by decide)]; exact missC_ne _ _)]
      unfold signR
      rw [e, if_neg (by decide), if_neg (by decide)]
      exact ⟨cut_miss h, rfl⟩
theorem cut_quo {s : ByteArray} {n k : Nat} (h : n ≤ s.size) (hk : k ≤ n) (h0 : (quoR s k).c = 0) : if (quoR s k).k ≤ n then quoR (cut s n) k = quoR s k else (quoR (cut s n) k).c = 3 ∧ (quoR (cut s n) k).a = n := by
  have hlt := (quoR_ok h0).1
  by_cases h34 : byteI s k = 34
  · have e0 : quoR s k = txtR s (k + 1) := by unfold quoR; rw [if_pos h34]
    rw [e0] at h0 hlt ⊢
    rcases Nat.lt_or_ge k n with hkn | hkn
    · have e1 : quoR (cut s n) k = txtR (cut s n) (k + 1) := by unfold quoR; rw [if_pos (by rw [cut_I h hkn]; exact h34)]
      rw [e1]
      exact cut_txt h _ (k + 1) rfl (by omega) h0
    · obtain rfl : k = n := by omega
      have e1 : quoR (cut s k) k = ⟨missC (cut s k) k, k, k, []⟩ := by unfold quoR; rw [if_neg (by rw [cut_end h (Nat.le_refl _)]; decide)]
      rw [if_neg (by omega), e1]
      exact ⟨cut_miss h, rfl⟩
  · unfold quoR at h0
    rw [if_neg h34] at h0
    exact absurd h0 (missC_ne s k)
/-! ### Numbers -/
theorem parseR_ok {l : List UInt8} (h : (parseR l).2.1 = 0) : (∀ c ∈ l, isD c = true) ∧ ¬ (1 < l.length ∧ l.head? = some 48) ∧ ¬ most < valI l := by
  unfold parseR at h
  split at h
  · cases h
  · split at h
    · cases h
    · split at h
      · cases h
      · split at h
        · cases h
        · rename_i h1 h2 h3 h4
          refine ⟨?_, h3, h4⟩
          have e : firstBad l = l.length := Nat.le_antisymm List.findIdx_le_length (by omega)
          intro c hc
          have := (List.findIdx_eq_length.1 e) c hc
          simpa using this
theorem parseR_take {l : List UInt8} (h : (parseR l).2.1 = 0) {m : Nat} (h0 : 0 < m) (hm : m ≤ l.length) : (parseR (l.take m)).2.1 = 0 := by
  obtain ⟨h1, h2, h3⟩ := parseR_ok h
  have hl : (l.take m).length = m := by rw [List.length_take]; omega
  have h1' : ∀ c ∈ l.take m, isD c = true := fun c hc => h1 c (List.mem_of_mem_take hc)
  have hv := valI_take_le l h1 m
  unfold parseR
  rw [if_neg (by intro e; rw [e] at hl; simp at hl; omega), if_neg (by rw [firstBad_all _ h1']; omega), if_neg (by
    rintro ⟨g1, g2⟩
    rw [hl] at g1
    refine h2 ⟨by omega, ?_⟩
    rw [List.head?_take] at g2
    simpa [show ¬ m = 0 by omega] using g2), if_neg (by omega)]
theorem cut_num {s : ByteArray} {n k : Nat} (h : n ≤ s.size) (hk : k < n) (h0 : numC s k = 0) : numC (cut s n) k = 0 ∧ numK (cut s n) k = min n (numK s k) ∧ (numK s k ≤ n → numN (cut s n) k = numN s k) := by
  have hr := cut_run isDig h _ k rfl (by omega)
  have hks : k < s.size := by omega
  have hle := le_runTo isDig s k (by omega)
  have hle2 := runTo_le isDig s k (by omega)
  unfold numC at h0
  split at h0
  · exact absurd h0 (missC_ne s k)
  · rename_i hne
    have hne' : runTo isDig (cut s n) k ≠ k := by rw [hr]; omega
    have ed : digsR (cut s n) k = parseR ((s.extract k (runTo isDig s k)).data.toList.take (min n (runTo isDig s k) - k)) := by
      unfold digsR
      rw [hr]
      congr 1
      unfold cut
      simp only [ByteArray.data_extract, Array.toList_extract]
      simp [List.drop_take, List.take_take]
      omega
    have hlen : (s.extract k (runTo isDig s k)).data.toList.length = runTo isDig s k - k := by
      rw [Array.length_toList]
      show (s.extract k (runTo isDig s k)).size = _
      rw [ByteArray.size_extract]
      omega
    have hd : (digsR (cut s n) k).2.1 = 0 := by
      rw [ed]
      exact parseR_take h0 (by omega) (by rw [hlen]; omega)
    refine ⟨by unfold numC; rw [if_neg hne', hd], by unfold numK; rw [if_neg hne', if_neg hne, if_pos hd, if_pos h0, hr], ?_⟩
    intro hn
    have hn' : runTo isDig s k ≤ n := by
      unfold numK at hn
      rwa [if_neg hne, if_pos h0] at hn
    have ed' : digsR (cut s n) k = digsR s k := by
      rw [ed]
      unfold digsR
      rw [List.take_of_length_le (by rw [hlen]; omega)]
    unfold numN
    rw [if_neg hne', if_neg hne, ed']
end Go.Proofs.YtajmlkephefapaaGreatDoor
