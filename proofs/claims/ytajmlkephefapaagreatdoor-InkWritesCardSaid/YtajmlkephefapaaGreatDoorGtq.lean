/-
  Layer 5, plain: what a text cut short comes to: leaves.
  Layer 5, plain: a text with blanks ahead of and behind it.
  Layer 5, plain: a text with blanks ahead of and behind it: the same value, as much farther; or none.
  Layer 5, plain: what a text cut short comes to: values.
  Layer 5, plain: a value's text cut short, by induction; and a whole text cut within its value.
  The document's 'the same' of two values, places aside, by contract: a value and the same value as much farther.
  Rows of a call's own: as they were in a later world, and as rows that are read.
  append(keys, ks...), ks any row of texts: nil, empty, or at an address.
  Layer 5, plain: what a text's value comes to is no more than the text; no row of keys is longer.
-/
import Derived.Test.YtajmlkephefapaaGreatDoorTreeA
import Derived.Test.YtajmlkephefapaaGreatDoorTreeP
import Derived.Deep.QuietTactic
import Derived.BigQuiet
import Derived.Test.YtajmlkephefapaaGreatDoorTreeF
import Derived.Deep.AppendSrc
namespace Go.Proofs.YtajmlkephefapaaGreatDoor
open Go.RowKit Go.Extern.Stop Go.Stop Go.Extern

def cut (s : ByteArray) (n : Nat) : ByteArray := s.extract 0 n
theorem cut_size {s : ByteArray} {n : Nat} (h : n ≤ s.size) : (cut s n).size = n := by unfold cut; rw [ByteArray.size_extract]; omega
theorem cut_get {s : ByteArray} {n k : Nat} (h : n ≤ s.size) (hk : k < n) : (cut s n)[k]'(by rw [cut_size h]; exact hk) = s[k]'(by omega) := by
  unfold cut
  rw [ByteArray.getElem_extract]
  simp
theorem cut_I {s : ByteArray} {n k : Nat} (h : n ≤ s.size) (hk : k < n) : byteI (cut s n) k = byteI s k := by
  rw [byteI_lt (show k < (cut s n).size by rw [cut_size h]; exact hk), byteI_lt (show k < s.size by omega), cut_get h hk]
theorem cut_U {s : ByteArray} {n k : Nat} (h : n ≤ s.size) (hk : k < n) : byteU (cut s n) k = byteU s k := by
  unfold byteU
  rw [dif_pos (show k < (cut s n).size by rw [cut_size h]; exact hk), dif_pos (show k < s.size by omega), cut_get h hk]
theorem cut_end {s : ByteArray} {n k : Nat} (h : n ≤ s.size) (hk : n ≤ k) : byteI (cut s n) k = 0 := byteI_ge (by rw [cut_size h]; omega)
theorem cut_miss {s : ByteArray} {n : Nat} (h : n ≤ s.size) : missC (cut s n) n = 3 := by unfold missC; rw [if_neg (by rw [cut_size h]; omega)]
theorem cut_run (p : Int → Bool) {s : ByteArray} {n : Nat} (h : n ≤ s.size) : ∀ (m k : Nat), n - k = m → k ≤ n → runTo p (cut s n) k = min n (runTo p s k) := by
  intro m
  induction m with
  | zero =>
    intro k hm hk
    obtain rfl : k = n := by omega
    rw [runTo_end (by rw [cut_size h]; omega)]
    have := le_runTo p s k h
    omega
  | succ m ih =>
    intro k hm hk
    have hkn : k < n := by omega
    by_cases hp : p ((s[k]'(by omega)).toNat : Int) = true
    · rw [runTo_go (s := s) (by omega) hp, runTo_go (s := cut s n) (by rw [cut_size h]; omega) (by rw [cut_get h hkn]; exact hp)]
      exact ih (k + 1) (by omega) (by omega)
    · have hp' : p ((s[k]'(by omega)).toNat : Int) = false := by simpa using hp
      rw [runTo_stop (s := s) (by omega) hp', runTo_stop (s := cut s n) (by rw [cut_size h]; omega) (by rw [cut_get h hkn]; exact hp')]
      omega
theorem cut_sk {s : ByteArray} {n k : Nat} (h : n ≤ s.size) (hk : k ≤ n) : sk (cut s n) k = min n (sk s k) := cut_run _ h _ k rfl hk

/-! ### Words -/
theorem cut_word {s : ByteArray} {n : Nat} (h : n ≤ s.size) : ∀ (l : List UInt8) (k : Nat), k ≤ n → (wordR s k l).2 = 0 → if k + l.length ≤ n then wordR (cut s n) k l = wordR s k l else wordR (cut s n) k l = (n, 3)
  | [], k, hk, _ => by rw [if_pos (by simpa using hk)]; rfl
  | b :: r, k, hk, h0 => by
    unfold wordR at *
    split at h0
    · rename_i h1
      rw [if_pos h1]
      rcases Nat.lt_or_ge k n with hkn | hkn
      · have h2 : byteI (cut s n) k = (b.toNat : Int) ∧ k < (cut s n).size := ⟨by rw [cut_I h hkn]; exact h1.1, by rw [cut_size h]; exact hkn⟩
        have ih := cut_word h r (k + 1) (by omega) h0
        simp only [List.length_cons]
        rw [if_pos h2]
        by_cases hle : k + (r.length + 1) ≤ n
        · rw [if_pos (by omega)] at ih
          rw [if_pos hle]
          exact ih
        · rw [if_neg (by omega)] at ih
          rw [if_neg hle]
          exact ih
      · obtain rfl : k = n := by omega
        rw [if_neg (by simp), if_neg (by rw [cut_size h]; omega), cut_miss h]
    · exact absurd h0 (missC_ne s k)
/-! ### Texts -/
theorem cut_sign {s : ByteArray} {n k : Nat} (h : n ≤ s.size) (hk : k ≤ n) (h0 : (signR s k).c = 0) : if (signR s k).k ≤ n then signR (cut s n) k = signR s k else (signR (cut s n) k).c = 3 ∧ (signR (cut s n) k).a = n := by
  rcases Nat.lt_or_ge k n with hkn | hkn
  · unfold signR at *
    rw [cut_I h hkn, cut_U h hkn]
    by_cases hb : byteI s k = 92
    · rw [if_pos hb] at *
      rw [if_pos hb]
      rcases Nat.lt_or_ge (k + 1) n with hk1 | hk1
      · rw [cut_I h hk1, cut_U h hk1]
        have hlt : (k + 1 < (cut s n).size) = (k + 1 < s.size) := by rw [cut_size h]; exact propext ⟨fun _ => by omega, fun _ => hk1⟩
        split at h0
        · rename_i h1
          rw [if_pos h1, if_pos (by show k + 2 ≤ n; omega), if_pos h1]
        · rename_i h1
          split at h0
          · rename_i h2
            rw [if_neg h1, if_pos h2, if_pos (by show k + 2 ≤ n; omega), if_neg h1, if_pos h2]
          · rename_i h2
            split at h0 <;> cases h0
      · have e1 : byteI (cut s n) (k + 1) = 0 := cut_end h hk1
        have hn : ¬ (k + 1 < (cut s n).size) := by rw [cut_size h]; omega
        have ek : (if byteI s (k + 1) = 34 ∨ byteI s (k + 1) = 92 then (⟨k + 2, byteU s (k + 1), 0, 0⟩ : Sg) else if byteI s (k + 1) = 110 then ⟨k + 2, 10, 0, 0⟩ else if k + 1 < s.size then ⟨k, 0, 4, k⟩ else ⟨k, 0, 3, k + 1⟩).k = k + 2 := by
          split at h0
          · rename_i h1; rw [if_pos h1]
          · rename_i h1
            split at h0
            · rename_i h2; rw [if_neg h1, if_pos h2]
            · split at h0 <;> cases h0
        rw [if_neg (by rw [ek]; omega), e1, if_neg (by decide), if_neg (by decide), if_neg hn]
        exact ⟨rfl, by show k + 1 = n; omega⟩
    · rw [if_neg hb] at *
      rw [if_neg hb]
      split at h0
      · rename_i h1
        rw [if_pos h1, if_pos (by show k + 1 ≤ n; omega), if_pos h1]
      · exact absurd h0 (missC_ne s k)
  · obtain rfl : k = n := by omega
    have hlt := (signR_ok h0).1
    rw [if_neg (by omega)]
    unfold signR
    rw [cut_end h (Nat.le_refl _), if_neg (by decide), if_neg (by decide)]
    exact ⟨cut_miss h, rfl⟩
theorem cut_txt {s : ByteArray} {n : Nat} (h : n ≤ s.size) : ∀ (m k : Nat), s.size - k = m → k ≤ n → (txtR s k).c = 0 → if (txtR s k).k ≤ n then txtR (cut s n) k = txtR s k else (txtR (cut s n) k).c = 3 ∧ (txtR (cut s n) k).a = n := by
  intro m
  induction m using Nat.strongRecOn with
  | ind m ih =>
    intro k hm hk h0
    rcases Nat.lt_or_ge k n with hkn | hkn
    · by_cases h34 : byteI s k = 34
      · have h34' : byteI (cut s n) k = 34 := by rw [cut_I h hkn]; exact h34
        rw [txtR_end h34, txtR_end h34', if_pos (by show k + 1 ≤ n; omega)]
      · have h34' : byteI (cut s n) k ≠ 34 := by rw [cut_I h hkn]; exact h34
        by_cases hc : (signR s k).c = 0
        · have hs := cut_sign h hk hc
          have hlt := signR_ok hc
          rw [txtR_go h34 hc] at h0 ⊢
          have hle := (txtR_ok s _ _ rfl h0).1
          by_cases hin : (signR s k).k ≤ n
          · rw [if_pos hin] at hs
            have i2 := ih (s.size - (signR s k).k) (by omega) (signR s k).k rfl hin h0
            rw [txtR_go h34' (by rw [hs]; exact hc), hs]
            by_cases h2 : (txtR s (signR s k).k).k ≤ n
            · rw [if_pos h2] at i2
              rw [if_pos h2, i2]
            · rw [if_neg h2] at i2
              rw [if_neg h2]
              exact i2
          · rw [if_neg hin] at hs
            rw [if_neg (show ¬ (txtR s (signR s k).k).k ≤ n by omega), txtR_er h34' (by rw [hs.1]; decide)]
            exact hs
        · rw [txtR_er h34 hc] at h0
          exact absurd h0 hc
    · obtain rfl : k = n := by omega
      have hlt := (txtR_ok s _ _ rfl h0).1
      have e := cut_end h (Nat.le_refl k)
      rw [if_neg (by omega), txtR_er (by rw [e]; decide) (by unfold signR; rw [e, if_neg (by decide), if_neg (by decide)]; exact missC_ne _ _)]
      unfold signR
      rw [e, if_neg (by decide), if_neg (by decide)]
      exact ⟨cut_miss h, rfl⟩
theorem cut_quo {s : ByteArray} {n k : Nat} (h : n ≤ s.size) (hk : k ≤ n) (h0 : (quoR s k).c = 0) : if (quoR s k).k ≤ n then quoR (cut s n) k = quoR s k else (quoR (cut s n) k).c = 3 ∧ (quoR (cut s n) k).a = n := by
  have hlt := (quoR_ok h0).1
  by_cases h34 : byteI s k = 34
  · have e0 : quoR s k = txtR s (k + 1) := by unfold quoR; rw [if_pos h34]
    rw [e0] at h0 hlt ⊢
    rcases Nat.lt_or_ge k n with hkn | hkn
    · have e1 : quoR (cut s n) k = txtR (cut s n) (k + 1) := by unfold quoR; rw [if_pos (by rw [cut_I h hkn]; exact h34)]
      rw [e1]
      exact cut_txt h _ (k + 1) rfl (by omega) h0
    · obtain rfl : k = n := by omega
      have e1 : quoR (cut s k) k = ⟨missC (cut s k) k, k, k, []⟩ := by unfold quoR; rw [if_neg (by rw [cut_end h (Nat.le_refl _)]; decide)]
      rw [if_neg (by omega), e1]
      exact ⟨cut_miss h, rfl⟩
  · unfold quoR at h0
    rw [if_neg h34] at h0
    exact absurd h0 (missC_ne s k)
/-! ### Numbers -/
theorem parseR_ok {l : List UInt8} (h : (parseR l).2.1 = 0) : (∀ c ∈ l, isD c = true) ∧ ¬ (1 < l.length ∧ l.head? = some 48) ∧ ¬ most < valI l := by
  unfold parseR at h
  split at h
  · cases h
  · split at h
    · cases h
    · split at h
      · cases h
      · split at h
        · cases h
        · rename_i h1 h2 h3 h4
          refine ⟨?_, h3, h4⟩
          have e : firstBad l = l.length := Nat.le_antisymm List.findIdx_le_length (by omega)
          intro c hc
          have := (List.findIdx_eq_length.1 e) c hc
          simpa using this
theorem parseR_take {l : List UInt8} (h : (parseR l).2.1 = 0) {m : Nat} (h0 : 0 < m) (hm : m ≤ l.length) : (parseR (l.take m)).2.1 = 0 := by
  obtain ⟨h1, h2, h3⟩ := parseR_ok h
  have hl : (l.take m).length = m := by rw [List.length_take]; omega
  have h1' : ∀ c ∈ l.take m, isD c = true := fun c hc => h1 c (List.mem_of_mem_take hc)
  have hv := valI_take_le l h1 m
  unfold parseR
  rw [if_neg (by intro e; rw [e] at hl; simp at hl; omega), if_neg (by rw [firstBad_all _ h1']; omega), if_neg (by
    rintro ⟨g1, g2⟩
    rw [hl] at g1
    refine h2 ⟨by omega, ?_⟩
    rw [List.head?_take] at g2
    simpa [show ¬ m = 0 by omega] using g2), if_neg (by omega)]
theorem cut_num {s : ByteArray} {n k : Nat} (h : n ≤ s.size) (hk : k < n) (h0 : numC s k = 0) : numC (cut s n) k = 0 ∧ numK (cut s n) k = min n (numK s k) ∧ (numK s k ≤ n → numN (cut s n) k = numN s k) := by
  have hr := cut_run isDig h _ k rfl (by omega)
  have hks : k < s.size := by omega
  have hle := le_runTo isDig s k (by omega)
  have hle2 := runTo_le isDig s k (by omega)
  unfold numC at h0
  split at h0
  · exact absurd h0 (missC_ne s k)
  · rename_i hne
    have hne' : runTo isDig (cut s n) k ≠ k := by rw [hr]; omega
    have ed : digsR (cut s n) k = parseR ((s.extract k (runTo isDig s k)).data.toList.take (min n (runTo isDig s k) - k)) := by
      unfold digsR
      rw [hr]
      congr 1
      unfold cut
      simp only [ByteArray.data_extract, Array.toList_extract]
      simp [List.drop_take, List.take_take]
      omega
    have hlen : (s.extract k (runTo isDig s k)).data.toList.length = runTo isDig s k - k := by
      rw [Array.length_toList]
      show (s.extract k (runTo isDig s k)).size = _
      rw [ByteArray.size_extract]
      omega
    have hd : (digsR (cut s n) k).2.1 = 0 := by
      rw [ed]
      exact parseR_take h0 (by omega) (by rw [hlen]; omega)
    refine ⟨by unfold numC; rw [if_neg hne', hd], by unfold numK; rw [if_neg hne', if_neg hne, if_pos hd, if_pos h0, hr], ?_⟩
    intro hn
    have hn' : runTo isDig s k ≤ n := by
      unfold numK at hn
      rwa [if_neg hne, if_pos h0] at hn
    have ed' : digsR (cut s n) k = digsR s k := by
      rw [ed]
      unfold digsR
      rw [List.take_of_length_le (by rw [hlen]; omega)]
    unfold numN
    rw [if_neg hne', if_neg hne, ed']
end Go.Proofs.YtajmlkephefapaaGreatDoor

namespace Go.Proofs.YtajmlkephefapaaGreatDoor
open Go.RowKit Go.Extern.Stop Go.Stop Go.Extern

/-- A text with n blanks ahead of it, and tabs behind it. -/
structure Pad (s T : ByteArray) (n : Nat) : Prop where
  size : s.size + n ≤ T.size
  get : ∀ i (h : i < s.size), T[i + n]'(by omega) = s[i]
  front : ∀ i, i < n → isBl (byteI T i) = true
  back : ∀ i, s.size + n ≤ i → i < T.size → byteI T i = 9
theorem Pad.I {s T : ByteArray} {n : Nat} (h : Pad s T n) {i : Nat} (hi : i < s.size) : byteI T (i + n) = byteI s i := by
  have := h.size
  rw [byteI_lt (show i + n < T.size by omega), byteI_lt hi, h.get i hi]
theorem Pad.U {s T : ByteArray} {n : Nat} (h : Pad s T n) {i : Nat} (hi : i < s.size) : byteU T (i + n) = byteU s i := by
  have := h.size
  unfold byteU
  rw [dif_pos (show i + n < T.size by omega), dif_pos hi, h.get i hi]
/-- Behind the text: a tab, or the end. -/
theorem Pad.behind {s T : ByteArray} {n : Nat} (h : Pad s T n) {i : Nat} (hi : s.size ≤ i) : byteI T (i + n) = 9 ∨ byteI T (i + n) = 0 := by
  by_cases hT : i + n < T.size
  · exact .inl (h.back _ (by omega) hT)
  · exact .inr (byteI_ge hT)
theorem Pad.run {s T : ByteArray} {n : Nat} (h : Pad s T n) (p : Int → Bool) : ∀ (m k : Nat), s.size - k = m → k ≤ s.size → runTo p T (k + n) = if runTo p s k < s.size then runTo p s k + n else runTo p T (s.size + n) := by
  intro m
  induction m with
  | zero =>
    intro k hm hk
    obtain rfl : k = s.size := by omega
    rw [runTo_end (s := s) (by omega), if_neg (by omega)]
  | succ m ih =>
    intro k hm hk
    have hks : k < s.size := by omega
    have := h.size
    have hkT : k + n < T.size := by omega
    have e := h.get k hks
    by_cases hp : p (s[k].toNat : Int) = true
    · rw [runTo_go hks hp, runTo_go hkT (by rw [e]; exact hp), show k + n + 1 = k + 1 + n by omega]
      exact ih (k + 1) (by omega) (by omega)
    · have hp' : p (s[k].toNat : Int) = false := by simpa using hp
      rw [runTo_stop hks hp', runTo_stop hkT (by rw [e]; exact hp'), if_pos hks]
theorem Pad.digs {s T : ByteArray} {n k : Nat} (h : Pad s T n) (hk : k ≤ s.size) : runTo isDig T (k + n) = runTo isDig s k + n := by
  rw [h.run isDig _ k rfl hk]
  split
  · rfl
  · have h1 := runTo_le isDig s k hk
    have e : runTo isDig s k = s.size := by omega
    rw [e]
    by_cases hT : s.size + n < T.size
    · have := h.back _ (Nat.le_refl _) hT
      rw [byteI_lt hT] at this
      rw [runTo_stop hT (by rw [this]; decide)]
    · exact runTo_end hT
theorem blanks_to (T : ByteArray) : ∀ (m k : Nat), T.size - k = m → k ≤ T.size → (∀ i, k ≤ i → i < T.size → isBl (byteI T i) = true) → runTo isBl T k = T.size := by
  intro m
  induction m with
  | zero => intro k hm hk _; rw [runTo_end (by omega)]; omega
  | succ m ih =>
    intro k hm hk hb
    have hlt : k < T.size := by omega
    have := hb k (Nat.le_refl _) hlt
    rw [byteI_lt hlt] at this
    rw [runTo_go hlt this]
    exact ih (k + 1) (by omega) (by omega) fun i h1 h2 => hb i (by omega) h2
/-- Where a place stands that blanks lead to. -/
def mu (s T : ByteArray) (n p : Nat) : Nat := if p < s.size then p + n else T.size
theorem Pad.sk {s T : ByteArray} {n k : Nat} (h : Pad s T n) (hk : k ≤ s.size) : sk T (k + n) = mu s T n (sk s k) := by
  unfold Go.Proofs.YtajmlkephefapaaGreatDoor.sk mu
  rw [h.run isBl _ k rfl hk]
  split
  · rfl
  · exact blanks_to T _ _ rfl h.size fun i h1 h2 => by rw [h.back i h1 h2]; decide
theorem mu_lt {s T : ByteArray} {n p : Nat} (h : p < s.size) : mu s T n p = p + n := if_pos h
theorem mu_ge {s T : ByteArray} {n p : Nat} (h : ¬ p < s.size) : mu s T n p = T.size := if_neg h
theorem Pad.mI {s T : ByteArray} {n : Nat} (h : Pad s T n) (p : Nat) : byteI T (mu s T n p) = byteI s p := by
  by_cases hp : p < s.size
  · rw [mu_lt hp, h.I hp]
  · rw [mu_ge hp, byteI_ge (by omega), byteI_ge hp]
/-! ### Words -/
theorem Pad.word {s T : ByteArray} {n : Nat} (h : Pad s T n) : ∀ (l : List UInt8) (k : Nat), k ≤ s.size → (∀ b ∈ l, b.toNat ≠ 9) → ((wordR s k l).2 = 0 → wordR T (k + n) l = ((wordR s k l).1 + n, 0)) ∧ ((wordR s k l).2 ≠ 0 → (wordR T (k + n) l).2 ≠ 0)
  | [], k, _, _ => ⟨fun _ => rfl, fun h => absurd rfl h⟩
  | b :: r, k, hk, hl => by
    have hb9 := hl b (by simp)
    have := h.size
    by_cases hks : k < s.size
    · have e := h.I hks
      by_cases hb : byteI s k = (b.toNat : Int)
      · have e1 : wordR s k (b :: r) = wordR s (k + 1) r := by rw [wordR]; exact if_pos ⟨hb, hks⟩
        have e2 : wordR T (k + n) (b :: r) = wordR T (k + 1 + n) r := by rw [wordR, if_pos ⟨by rw [e]; exact hb, by omega⟩, show k + n + 1 = k + 1 + n by omega]
        rw [e1, e2]
        exact Pad.word h r (k + 1) hks (fun c hc => hl c (by simp [hc]))
      · have e1 : (wordR s k (b :: r)).2 ≠ 0 := by rw [wordR, if_neg (fun h => hb h.1)]; exact missC_ne s k
        refine ⟨fun h0 => absurd h0 e1, fun _ => ?_⟩
        rw [wordR, if_neg (fun h => hb (by rw [← e]; exact h.1))]
        exact missC_ne _ _
    · have e1 : (wordR s k (b :: r)).2 ≠ 0 := by rw [wordR, if_neg (fun h => hks h.2)]; exact missC_ne s k
      refine ⟨fun h0 => absurd h0 e1, fun _ => ?_⟩
      rw [wordR, if_neg]
      · exact missC_ne _ _
      · rintro ⟨h1, h2⟩
        have := h.back _ (by omega) h2
        rw [this] at h1
        exact hb9 (by omega)
/-! ### Texts -/
theorem Pad.sign {s T : ByteArray} {n k : Nat} (h : Pad s T n) (hk : k ≤ s.size) : ((signR s k).c = 0 → signR T (k + n) = ⟨(signR s k).k + n, (signR s k).b, 0, 0⟩) ∧ ((signR s k).c ≠ 0 → (signR T (k + n)).c ≠ 0) := by
  by_cases hks : k < s.size
  · have e := h.I hks
    have eU := h.U hks
    by_cases hb : byteI s k = 92
    · have hT : byteI T (k + n) = 92 := e.trans hb
      by_cases hk1 : k + 1 < s.size
      · have e1 : byteI T (k + n + 1) = byteI s (k + 1) := by rw [show k + n + 1 = k + 1 + n by omega]; exact h.I hk1
        have eU1 : byteU T (k + n + 1) = byteU s (k + 1) := by rw [show k + n + 1 = k + 1 + n by omega]; exact h.U hk1
        unfold signR
        rw [if_pos hb, if_pos hT, e1, eU1]
        by_cases h1 : byteI s (k + 1) = 34 ∨ byteI s (k + 1) = 92
        · rw [if_pos h1, if_pos h1]
          exact ⟨fun _ => by show (⟨k + n + 2, _, 0, 0⟩ : Sg) = ⟨k + 2 + n, _, 0, 0⟩; rw [show k + n + 2 = k + 2 + n by omega], fun h => absurd rfl h⟩
        · rw [if_neg h1, if_neg h1]
          by_cases h2 : byteI s (k + 1) = 110
          · rw [if_pos h2, if_pos h2]
            exact ⟨fun _ => by show (⟨k + n + 2, _, 0, 0⟩ : Sg) = ⟨k + 2 + n, _, 0, 0⟩; rw [show k + n + 2 = k + 2 + n by omega], fun h => absurd rfl h⟩
          · rw [if_neg h2, if_neg h2]
            refine ⟨fun h0 => ?_, fun _ h0 => ?_⟩
            · split at h0 <;> cases h0
            · split at h0 <;> cases h0
      · have e1 : byteI s (k + 1) = 0 := byteI_ge hk1
        have e2 := h.behind (show s.size ≤ k + 1 by omega)
        rw [show k + 1 + n = k + n + 1 by omega] at e2
        unfold signR
        rw [if_pos hb, if_pos hT, e1, if_neg (by decide), if_neg (by decide)]
        refine ⟨fun h0 => ?_, fun _ h0 => ?_⟩
        · split at h0 <;> cases h0
        · have n1 : ¬ (byteI T (k + n + 1) = 34 ∨ byteI T (k + n + 1) = 92) := by rcases e2 with e2 | e2 <;> rw [e2] <;> decide
          have n2 : ¬ byteI T (k + n + 1) = 110 := by rcases e2 with e2 | e2 <;> rw [e2] <;> decide
          rw [if_neg n1, if_neg n2] at h0
          split at h0 <;> cases h0
    · have hbT : ¬ byteI T (k + n) = 92 := by rw [e]; exact hb
      unfold signR
      rw [if_neg hb, if_neg hbT, e, eU]
      by_cases h1 : 32 ≤ byteI s k ∧ byteI s k ≤ 126
      · rw [if_pos h1, if_pos h1]
        exact ⟨fun _ => by show (⟨k + n + 1, _, 0, 0⟩ : Sg) = ⟨k + 1 + n, _, 0, 0⟩; rw [show k + n + 1 = k + 1 + n by omega], fun h => absurd rfl h⟩
      · rw [if_neg h1, if_neg h1]
        exact ⟨fun h0 => absurd h0 (missC_ne s k), fun _ => missC_ne _ _⟩
  · have e1 : byteI s k = 0 := byteI_ge hks
    have e2 := h.behind (show s.size ≤ k by omega)
    have n1 : ¬ byteI T (k + n) = 92 := by rcases e2 with e2 | e2 <;> rw [e2] <;> decide
    have n2 : ¬ (32 ≤ byteI T (k + n) ∧ byteI T (k + n) ≤ 126) := by rcases e2 with e2 | e2 <;> rw [e2] <;> decide
    unfold signR
    rw [e1, if_neg (by decide), if_neg (by decide), if_neg n1, if_neg n2]
    exact ⟨fun h0 => absurd h0 (missC_ne s k), fun _ => missC_ne _ _⟩
theorem Pad.txt {s T : ByteArray} {n : Nat} (h : Pad s T n) : ∀ (m k : Nat), s.size - k = m → k ≤ s.size → ((txtR s k).c = 0 → (txtR T (k + n)).c = 0 ∧ (txtR T (k + n)).k = (txtR s k).k + n ∧ (txtR T (k + n)).t = (txtR s k).t) ∧ ((txtR s k).c ≠ 0 → (txtR T (k + n)).c ≠ 0) := by
  intro m
  induction m using Nat.strongRecOn with
  | ind m ih =>
    intro k hm hk
    by_cases h34 : byteI s k = 34
    · have hks := byteI_pos (s := s) (k := k) (by rw [h34]; decide)
      have hT : byteI T (k + n) = 34 := by rw [h.I hks]; exact h34
      rw [txtR_end h34, txtR_end hT]
      exact ⟨fun _ => ⟨rfl, by show k + n + 1 = k + 1 + n; omega, rfl⟩, fun h => absurd rfl h⟩
    · have hT : byteI T (k + n) ≠ 34 := by
        by_cases hks : k < s.size
        · rw [h.I hks]; exact h34
        · rcases h.behind (show s.size ≤ k by omega) with e | e <;> rw [e] <;> decide
      obtain ⟨g1, g2⟩ := h.sign hk
      by_cases hc : (signR s k).c = 0
      · have hT2 := g1 hc
        have hcT : (signR T (k + n)).c = 0 := by rw [hT2]
        have h1 := signR_ok hc
        rw [txtR_go h34 hc, txtR_go hT hcT, hT2]
        obtain ⟨i1, i2⟩ := ih (s.size - (signR s k).k) (by omega) (signR s k).k rfl h1.2
        refine ⟨fun h0 => ?_, i2⟩
        obtain ⟨j1, j2, j3⟩ := i1 h0
        exact ⟨j1, j2, by show _ :: _ = _ :: _; rw [j3]⟩
      · have hcT := g2 hc
        rw [txtR_er h34 hc, txtR_er hT hcT]
        exact ⟨fun h0 => absurd h0 hc, fun _ => hcT⟩
theorem Pad.quo {s T : ByteArray} {n k : Nat} (h : Pad s T n) (hk : k < s.size) : ((quoR s k).c = 0 → (quoR T (k + n)).c = 0 ∧ (quoR T (k + n)).k = (quoR s k).k + n ∧ (quoR T (k + n)).t = (quoR s k).t) ∧ ((quoR s k).c ≠ 0 → (quoR T (k + n)).c ≠ 0) := by
  unfold quoR
  rw [h.I hk]
  by_cases h34 : byteI s k = 34
  · rw [if_pos h34, if_pos h34, show k + n + 1 = k + 1 + n by omega]
    exact h.txt _ (k + 1) rfl hk
  · rw [if_neg h34, if_neg h34]
    exact ⟨fun h0 => absurd h0 (missC_ne s k), fun _ => missC_ne _ _⟩
/-! ### Numbers -/
theorem Pad.extract {s T : ByteArray} {n k r : Nat} (h : Pad s T n) (hr : r ≤ s.size) : T.extract (k + n) (r + n) = s.extract k r := by
  have := h.size
  apply ByteArray.ext_getElem
  · rw [ByteArray.size_extract, ByteArray.size_extract]; omega
  · intro i h1 h2
    rw [ByteArray.size_extract] at h2
    rw [ByteArray.getElem_extract, ByteArray.getElem_extract]
    have e := h.get (k + i) (by omega)
    rw [← e]
    congr 1
    omega
theorem Pad.num {s T : ByteArray} {n k : Nat} (h : Pad s T n) (hk : k < s.size) : (numC s k = 0 → numC T (k + n) = 0 ∧ numK T (k + n) = numK s k + n ∧ numN T (k + n) = numN s k) ∧ (numC s k ≠ 0 → numC T (k + n) ≠ 0) := by
  have hr := h.digs (Nat.le_of_lt hk)
  have hle := runTo_le isDig s k (Nat.le_of_lt hk)
  have hd : digsR T (k + n) = digsR s k := by unfold digsR; rw [hr, h.extract hle]
  unfold numC numK numN
  rw [hr, hd]
  by_cases h0 : runTo isDig s k = k
  · have h0' : runTo isDig s k + n = k + n := by omega
    rw [if_pos h0, if_pos h0']
    exact ⟨fun h => absurd h (missC_ne s k), fun _ => missC_ne _ _⟩
  · have h0' : ¬ runTo isDig s k + n = k + n := by omega
    simp only [if_neg h0, if_neg h0']
    refine ⟨fun hc => ⟨hc, ?_, ?_⟩, fun hc => hc⟩
    · simp [hc]
    · first | rfl | simp [hc]
end Go.Proofs.YtajmlkephefapaaGreatDoor

namespace Go.Proofs.YtajmlkephefapaaGreatDoor
open Go.RowKit Go.Extern.Stop Go.Stop Go.Extern

mutual
/-- A value as much farther. -/
def farV (n : Nat) : Val → Val
  | .mk k t u l ks a => .mk k t u (farL n l) ks (a + n)
def farL (n : Nat) : List Val → List Val
  | [] => []
  | x :: r => farV n x :: farL n r
end
def Out.isEr : Out → Prop
  | .ok _ _ => False
  | .er _ _ => True
def Outs.isEr : Outs → Prop
  | .ok _ _ _ => False
  | .er _ _ => True
theorem Out.isEr_er {o : Out} (h : o.isEr) : ∃ c a, o = .er c a := by cases o with | ok => exact h.elim | er c a => exact ⟨c, a, rfl⟩
theorem Outs.isEr_er {o : Outs} (h : o.isEr) : ∃ c a, o = .er c a := by cases o with | ok => exact h.elim | er c a => exact ⟨c, a, rfl⟩
/-- What an answer of a text is, where it is padded. -/
def Out.Far (n : Nat) : Out → Out → Prop
  | .ok j x, o => o = .ok (j + n) (farV n x)
  | .er _ _, o => o.isEr
def Outs.Far (n : Nat) : Outs → Outs → Prop
  | .ok j xs ks, o => o = .ok (j + n) (farL n xs) ks
  | .er _ _, o => o.isEr
theorem Pad.wordO {s T : ByteArray} {n k : Nat} (h : Pad s T n) (hk : k ≤ s.size) (kind : Int) (l : List UInt8) (hl : ∀ b ∈ l, b.toNat ≠ 9) : (wordO s k kind l).Far n (wordO T (k + n) kind l) := by
  obtain ⟨g1, g2⟩ := h.word l k hk hl
  unfold Go.Proofs.YtajmlkephefapaaGreatDoor.wordO
  by_cases hc : (wordR s k l).2 = 0
  · rw [if_pos hc, g1 hc, if_pos rfl]
    show _ = _
    rw [farV, farL]
    congr 2
  · rw [if_neg hc, if_neg (g2 hc)]
    trivial
theorem leafR_none {T : ByteArray} {k : Nat} (h : ¬ k < T.size) : (leafR T k).isEr := by
  have e := byteI_ge h
  unfold leafR
  rw [e, if_neg (by decide), if_neg (by decide), if_neg (by decide), if_neg (by decide)]
  have hn : numC T k = missC T k := by unfold numC; rw [if_pos (runTo_end h)]
  rw [hn, if_neg (missC_ne _ _)]
  trivial
theorem Pad.leaf {s T : ByteArray} {n k : Nat} (h : Pad s T n) (hk : k < s.size) : (leafR s k).Far n (leafR T (k + n)) := by
  have e := h.I hk
  unfold leafR
  rw [e]
  split
  · exact h.wordO (Nat.le_of_lt hk) _ _ (by decide)
  · split
    · exact h.wordO (Nat.le_of_lt hk) _ _ (by decide)
    · split
      · exact h.wordO (Nat.le_of_lt hk) _ _ (by decide)
      · split
        · obtain ⟨g1, g2⟩ := h.quo hk
          by_cases hc : (quoR s k).c = 0
          · obtain ⟨j1, j2, j3⟩ := g1 hc
            rw [if_pos hc, if_pos j1, j2, j3]
            show _ = _
            rw [farV, farL]
            congr 2
          · rw [if_neg hc, if_neg (g2 hc)]
            trivial
        · obtain ⟨g1, g2⟩ := h.num hk
          by_cases hc : numC s k = 0
          · obtain ⟨j1, j2, j3⟩ := g1 hc
            rw [if_pos hc, if_pos j1, j2, j3]
            show _ = _
            rw [farV, farL]
            congr 2
          · rw [if_neg hc, if_neg (g2 hc)]
            trivial
def KOut.Far (s T : ByteArray) (n : Nat) : KOut → KOut → Prop
  | .ok q key, o => o = .ok (mu s T n q) key
  | .er _ _, o => ∃ c a, o = .er c a
theorem Pad.key {s T : ByteArray} {n p : Nat} (h : Pad s T n) (hp : p ≤ s.size) (b : Int) (ks : List ByteArray) : (keyR s b p ks).Far s T n (keyR T b (mu s T n p) ks) := by
  by_cases hb : b = 91
  · have e : ∀ (t : ByteArray) (p : Nat), keyR t b p ks = .ok p ⟨#[]⟩ := fun t p => by unfold keyR; rw [if_pos hb]
    rw [e, e]
    rfl
  by_cases hps : p < s.size
  · rw [mu_lt hps]
    obtain ⟨g1, g2⟩ := h.quo hps
    unfold keyR
    rw [if_neg hb, if_neg hb]
    by_cases hc : (quoR s p).c = 0
    · obtain ⟨j1, j2, j3⟩ := g1 hc
      have q1 := quoR_ok hc
      have hs := h.sk q1.2
      have ns : ¬ (quoR s p).c ≠ 0 := fun e => e hc
      have nT : ¬ (quoR T (p + n)).c ≠ 0 := fun e => e j1
      rw [if_neg ns, if_neg nT, j3, j2, hs, h.mI]
      by_cases hk : hasKey ks ⟨(quoR s p).t.toArray⟩ = true
      · rw [if_pos hk, if_pos hk]
        exact ⟨_, _, rfl⟩
      · rw [if_neg hk, if_neg hk]
        by_cases h58 : byteI s (Go.Proofs.YtajmlkephefapaaGreatDoor.sk s (quoR s p).k) = 58
        · have hlt := byteI_pos (s := s) (k := Go.Proofs.YtajmlkephefapaaGreatDoor.sk s (quoR s p).k) (by rw [h58]; decide)
          rw [if_pos h58, if_pos h58, mu_lt hlt, show Go.Proofs.YtajmlkephefapaaGreatDoor.sk s (quoR s p).k + n + 1 = Go.Proofs.YtajmlkephefapaaGreatDoor.sk s (quoR s p).k + 1 + n by omega, h.sk (by omega)]
          rfl
        · rw [if_neg h58, if_neg h58]
          exact ⟨_, _, rfl⟩
    · rw [if_pos hc, if_pos (g2 hc)]
      exact ⟨_, _, rfl⟩
  · have e1 : byteI s p = 0 := byteI_ge hps
    have e2 : byteI T (mu s T n p) = 0 := by rw [h.mI]; exact e1
    have q1 : quoR s p = ⟨missC s p, p, p, []⟩ := by unfold quoR; rw [if_neg (by rw [e1]; decide)]
    have q2 : quoR T (mu s T n p) = ⟨missC T (mu s T n p), mu s T n p, mu s T n p, []⟩ := by unfold quoR; rw [if_neg (by rw [e2]; decide)]
    unfold keyR
    rw [if_neg hb, if_neg hb, q1, q2, if_pos (missC_ne _ _), if_pos (missC_ne _ _)]
    exact ⟨_, _, rfl⟩
/-- What is said of a text, padded. -/
def Say.Padded (s T : ByteArray) (n : Nat) : Say → Prop
  | .v d k o => k ≤ s.size → ∃ o', V T d (mu s T n k) o' ∧ o.Far n o'
  | .i d b p ks o => p ≤ s.size → ∃ o', I T d b (mu s T n p) ks o' ∧ o.Far n o'
theorem W.padded {s T : ByteArray} {n : Nat} (h : Pad s T n) {g : Say} (hg : W s g) : g.Padded s T n := by
  induction hg with
  | leaf d k h0 =>
    intro hk
    have hno : ¬ opens (byteI T (mu s T n k)) := by rw [h.mI]; exact h0
    refine ⟨_, W.leaf d _ hno, ?_⟩
    by_cases hks : k < s.size
    · rw [mu_lt hks]; exact h.leaf hks
    · rw [mu_ge hks]
      obtain ⟨c, a, e⟩ := Out.isEr_er (leafR_none hks)
      rw [e]
      exact leafR_none (Nat.lt_irrefl _)
  | deep d k h0 h1 =>
    intro hk
    exact ⟨_, W.deep d _ (by rw [h.mI]; exact h0) h1, trivial⟩
  | none d k h0 h1 h2 =>
    intro hk
    have a0 := opens_lt h0
    have a1 := sk_le s (k + 1) (by omega)
    have a2 := byteI_pos (s := s) (k := Go.Proofs.YtajmlkephefapaaGreatDoor.sk s (k + 1)) (by rw [h2]; unfold shutI; split <;> decide)
    have e := h.sk (show k + 1 ≤ s.size by omega)
    rw [show k + 1 + n = k + n + 1 by omega, mu_lt a2] at e
    have hb := h.I a0
    have := W.none (s := T) d (k + n) (by rw [hb]; exact h0) h1 (by rw [e, h.I a2, hb]; exact h2)
    rw [mu_lt a0]
    refine ⟨_, this, ?_⟩
    rw [e, hb]
    show _ = _
    unfold Outs.wrap
    simp only [farV, farL]
    congr 1
    omega
  | some d k o h0 h1 h2 hI ih =>
    intro hk
    have a0 := opens_lt h0
    have a1 := sk_le s (k + 1) (by omega)
    have e := h.sk (show k + 1 ≤ s.size by omega)
    rw [show k + 1 + n = k + n + 1 by omega] at e
    have hb := h.I a0
    obtain ⟨o', ho', hf⟩ := ih a1.2
    have := W.some (s := T) d (k + n) o' (by rw [hb]; exact h0) h1 (by rw [e, h.mI, hb]; exact h2) (by rw [e, hb]; exact ho')
    rw [mu_lt a0]
    refine ⟨_, this, ?_⟩
    rw [hb]
    cases o with
    | er c a =>
      obtain ⟨c', a', rfl⟩ := Outs.isEr_er hf
      trivial
    | ok j xs kk =>
      obtain rfl := hf
      show _ = _
      unfold Outs.wrap
      simp only [farV]
      congr 2
  | key d b p ks c a h0 =>
    intro hp
    have := h.key hp b ks
    rw [h0] at this
    obtain ⟨c', a', e⟩ := this
    exact ⟨_, W.key d b _ ks c' a' e, trivial⟩
  | val d b p ks q key c a h0 hV ih =>
    intro hp
    have hk := h.key hp b ks
    rw [h0] at hk
    have a1 := keyR_ok hp h0
    obtain ⟨o', ho', hf⟩ := ih a1.2
    obtain ⟨c', a', rfl⟩ := Out.isEr_er hf
    exact ⟨_, W.val d b _ ks _ key c' a' hk ho', trivial⟩
  | last d b p ks q key j v h0 hV h1 ih =>
    intro hp
    have hk := h.key hp b ks
    rw [h0] at hk
    have a1 := keyR_ok hp h0
    have hfit : Out.Fits s q (.ok j v) := W.fits hV a1.2
    have a4 := byteI_pos (s := s) (k := Go.Proofs.YtajmlkephefapaaGreatDoor.sk s j) (by rw [h1]; unfold shutI; split <;> decide)
    obtain ⟨o', ho', hf⟩ := ih a1.2
    obtain rfl := hf
    have e := h.sk hfit.2
    rw [mu_lt a4] at e
    refine ⟨_, W.last d b _ ks _ key _ _ hk ho' (by rw [e, h.I a4]; exact h1), ?_⟩
    rw [e]
    show _ = _
    simp only [farL]
    congr 1
    omega
  | sep d b p ks q key j v h0 hV h1 h2 ih =>
    intro hp
    have hk := h.key hp b ks
    rw [h0] at hk
    have a1 := keyR_ok hp h0
    have hfit : Out.Fits s q (.ok j v) := W.fits hV a1.2
    obtain ⟨o', ho', hf⟩ := ih a1.2
    obtain rfl := hf
    have e := h.sk hfit.2
    exact ⟨_, W.sep d b _ ks _ key _ _ hk ho' (by rw [e, h.mI]; exact h1) (by rw [e, h.mI]; exact h2), trivial⟩
  | more d b p ks q key j v o h0 hV h1 hI ihV ihI =>
    intro hp
    have hk := h.key hp b ks
    rw [h0] at hk
    have a1 := keyR_ok hp h0
    have hfit : Out.Fits s q (.ok j v) := W.fits hV a1.2
    have a3 := sk_le s j hfit.2
    have a4 := byteI_pos (s := s) (k := Go.Proofs.YtajmlkephefapaaGreatDoor.sk s j) (by rw [h1]; decide)
    have a5 := sk_le s (Go.Proofs.YtajmlkephefapaaGreatDoor.sk s j + 1) (by omega)
    obtain ⟨o', ho', hf⟩ := ihV a1.2
    obtain rfl := hf
    obtain ⟨o2, ho2, hf2⟩ := ihI a5.2
    have e := h.sk hfit.2
    rw [mu_lt a4] at e
    have e2 := h.sk (show Go.Proofs.YtajmlkephefapaaGreatDoor.sk s j + 1 ≤ s.size by omega)
    rw [show Go.Proofs.YtajmlkephefapaaGreatDoor.sk s j + 1 + n = Go.Proofs.YtajmlkephefapaaGreatDoor.sk s j + n + 1 by omega] at e2
    refine ⟨_, W.more d b _ ks _ key _ _ o2 hk ho' (by rw [e, h.I a4]; exact h1) (by rw [e, e2]; exact ho2), ?_⟩
    cases o with
    | er c a =>
      obtain ⟨c', a', rfl⟩ := Outs.isEr_er hf2
      trivial
    | ok J xs kk =>
      obtain rfl := hf2
      show _ = _
      unfold Outs.cons
      simp only [farL]
/-- A whole text, padded: the same value as much farther; or none. -/
theorem whole_pad {s T : ByteArray} {n : Nat} (h : Pad s T n) (hT : T.size ≤ 65536) {o : Out} (hw : Whole s o) : match o with
    | .ok _ x => Whole T (.ok T.size (farV n x))
    | .er _ _ => ∃ c a, Whole T (.er c a) := by
  have hsz := h.size
  have a0 := sk_le s 0 (Nat.zero_le _)
  have e0 : Go.Proofs.YtajmlkephefapaaGreatDoor.sk T 0 = mu s T n (Go.Proofs.YtajmlkephefapaaGreatDoor.sk s 0) := by
    have e := h.sk (Nat.zero_le s.size)
    rw [Nat.zero_add] at e
    rw [← e]
    have : ∀ m i, n - i = m → i ≤ n → Go.Proofs.YtajmlkephefapaaGreatDoor.sk T i = Go.Proofs.YtajmlkephefapaaGreatDoor.sk T n := by
      intro m
      induction m with
      | zero => intro i hm hi; rw [show i = n by omega]
      | succ m ih =>
        intro i hm hi
        have hf := h.front i (by omega)
        have hlt : i < T.size := by omega
        rw [byteI_lt hlt] at hf
        unfold Go.Proofs.YtajmlkephefapaaGreatDoor.sk at ih ⊢
        rw [runTo_go hlt hf]
        exact ih (i + 1) (by omega) (by omega)
    exact this n 0 (by omega) (Nat.zero_le _)
  rcases hw with ⟨hbig, rfl⟩ | ⟨_, o1, hV, hrest⟩
  · omega
  obtain ⟨o', ho', hf⟩ := (W.padded h hV : (Say.v 0 (Go.Proofs.YtajmlkephefapaaGreatDoor.sk s 0) o1).Padded s T n) a0.2
  rw [← e0] at ho'
  rcases hrest with ⟨c, a, rfl, rfl⟩ | ⟨j, v, rfl, ⟨hj, rfl⟩ | ⟨hj, rfl⟩⟩
  · obtain ⟨c', a', rfl⟩ := Out.isEr_er hf
    exact ⟨c', a', .inr ⟨hT, _, ho', .inl ⟨c', a', rfl, rfl⟩⟩⟩
  · obtain rfl := hf
    have hfit : Out.Fits s (Go.Proofs.YtajmlkephefapaaGreatDoor.sk s 0) (.ok j v) := V.fits a0.2 hV
    exact .inr ⟨hT, _, ho', .inr ⟨_, _, rfl, .inl ⟨by rw [h.sk hfit.2, hj, mu_ge (Nat.lt_irrefl _)], rfl⟩⟩⟩
  · obtain rfl := hf
    have hfit : Out.Fits s (Go.Proofs.YtajmlkephefapaaGreatDoor.sk s 0) (.ok j v) := V.fits a0.2 hV
    have hj2 := sk_le s j hfit.2
    refine ⟨_, _, .inr ⟨hT, _, ho', .inr ⟨_, _, rfl, .inr ⟨?_, rfl⟩⟩⟩⟩
    rw [h.sk hfit.2, mu_lt (by omega)]
    omega
end Go.Proofs.YtajmlkephefapaaGreatDoor

namespace Go.Proofs.YtajmlkephefapaaGreatDoor
open Go.RowKit Go.Extern.Stop Go.Stop Go.Extern

/-- Of a text cut at a place within a value: too short there; or a value that ends there. -/
def Short (n : Nat) (o : Out) : Prop := o = .er 3 n ∨ ∃ v, o = .ok n v
theorem leaf_end {s : ByteArray} {n : Nat} (h : n ≤ s.size) : leafR (cut s n) n = .er 3 n ∧ ¬ opens (byteI (cut s n) n) := by
  have e := cut_end h (Nat.le_refl n)
  have hn : numC (cut s n) n = 3 := by
    unfold numC
    rw [if_pos (runTo_end (by rw [cut_size h]; omega)), cut_miss h]
  refine ⟨?_, by rw [e]; decide⟩
  unfold leafR
  rw [e, if_neg (by decide), if_neg (by decide), if_neg (by decide), if_neg (by decide), if_neg (by rw [hn]; decide), hn]
theorem V_end {s : ByteArray} {n : Nat} (h : n ≤ s.size) (d : Nat) : V (cut s n) d n (.er 3 n) := (leaf_end h).1 ▸ W.leaf d n (leaf_end h).2
theorem I_end {s : ByteArray} {n : Nat} (h : n ≤ s.size) (d : Nat) (b : Int) (ks : List ByteArray) : I (cut s n) d b n ks (.er 3 n) := by
  by_cases hb : b = 91
  · exact W.val d b n ks n ⟨#[]⟩ 3 n (by unfold keyR; rw [if_pos hb]) (V_end h d)
  · refine W.key d b n ks 3 n ?_
    have e : quoR (cut s n) n = ⟨3, n, n, []⟩ := by unfold quoR; rw [if_neg (by rw [cut_end h (Nat.le_refl _)]; decide), cut_miss h]
    unfold keyR
    rw [if_neg hb, e, if_pos (show (3 : Int) ≠ 0 by decide)]
theorem cut_wordO {s : ByteArray} {n k : Nat} (h : n ≤ s.size) (hk : k ≤ n) (kind : Int) (l : List UInt8) {j : Nat} {v : Val} (h0 : wordO s k kind l = .ok j v) :
    if j ≤ n then wordO (cut s n) k kind l = .ok j v else wordO (cut s n) k kind l = .er 3 n := by
  unfold wordO at *
  split at h0
  · rename_i h1
    have hw := cut_word h l k hk h1
    have he := wordR_ok s l k h1
    have hj : (wordR s k l).1 = j := by injection h0
    by_cases hn : k + l.length ≤ n
    · rw [if_pos hn] at hw
      rw [if_pos (by omega), hw, if_pos h1]
      exact h0
    · rw [if_neg hn] at hw
      rw [if_neg (by omega), hw, if_neg (show ¬ (3 : Int) = 0 by decide)]
  · cases h0
theorem cut_leaf {s : ByteArray} {n k : Nat} (h : n ≤ s.size) (hk : k < n) {j : Nat} {v : Val} (h0 : leafR s k = .ok j v) :
    if j ≤ n then leafR (cut s n) k = .ok j v else (Short n (leafR (cut s n) k) ∧ (byteI s k = 34 → leafR (cut s n) k = .er 3 n)) := by
  have eb := cut_I h hk
  have hw := fun kind l => cut_wordO h (Nat.le_of_lt hk) kind l (j := j) (v := v)
  by_cases b0 : byteI s k = 110
  · have e : ∀ t : ByteArray, byteI t k = 110 → leafR t k = wordO t k 0 [110, 117, 108, 108] := fun t ht => by unfold leafR; rw [if_pos ht]
    rw [e s b0] at h0
    have := hw _ _ h0
    rw [e _ (eb.trans b0)]
    split
    · rw [if_pos ‹_›] at this; exact this
    · rw [if_neg ‹_›] at this; exact ⟨.inl this, fun hb => by rw [b0] at hb; exact absurd hb (by decide)⟩
  by_cases b1 : byteI s k = 102
  · have e : ∀ t : ByteArray, byteI t k = 102 → leafR t k = wordO t k 1 [102, 97, 108, 115, 101] := fun t ht => by unfold leafR; rw [if_neg (by rw [ht]; decide), if_pos ht]
    rw [e s b1] at h0
    have := hw _ _ h0
    rw [e _ (eb.trans b1)]
    split
    · rw [if_pos ‹_›] at this; exact this
    · rw [if_neg ‹_›] at this; exact ⟨.inl this, fun hb => by rw [b1] at hb; exact absurd hb (by decide)⟩
  by_cases b2 : byteI s k = 116
  · have e : ∀ t : ByteArray, byteI t k = 116 → leafR t k = wordO t k 2 [116, 114, 117, 101] := fun t ht => by unfold leafR; rw [if_neg (by rw [ht]; decide), if_neg (by rw [ht]; decide), if_pos ht]
    rw [e s b2] at h0
    have := hw _ _ h0
    rw [e _ (eb.trans b2)]
    split
    · rw [if_pos ‹_›] at this; exact this
    · rw [if_neg ‹_›] at this; exact ⟨.inl this, fun hb => by rw [b2] at hb; exact absurd hb (by decide)⟩
  by_cases b4 : byteI s k = 34
  · have e : ∀ t : ByteArray, byteI t k = 34 → leafR t k = if (quoR t k).c = 0 then .ok (quoR t k).k (.mk 4 ⟨(quoR t k).t.toArray⟩ 0 [] [] k) else .er (quoR t k).c (quoR t k).a := fun t ht => by
      unfold leafR; rw [if_neg (by rw [ht]; decide), if_neg (by rw [ht]; decide), if_neg (by rw [ht]; decide), if_pos ht]
    rw [e s b4] at h0
    rw [e _ (eb.trans b4)]
    by_cases hc : (quoR s k).c = 0
    · rw [if_pos hc] at h0
      have hj : (quoR s k).k = j := by injection h0
      have hq := cut_quo h (Nat.le_of_lt hk) hc
      by_cases hn : j ≤ n
      · rw [if_pos (by omega)] at hq
        rw [if_pos hn, hq, if_pos hc]
        exact h0
      · rw [if_neg (by omega)] at hq
        rw [if_neg hn, if_neg (by rw [hq.1]; decide), hq.1, hq.2]
        exact ⟨.inl rfl, fun _ => rfl⟩
    · rw [if_neg hc] at h0; cases h0
  · have e : ∀ t : ByteArray, byteI t k = byteI s k → leafR t k = if numC t k = 0 then .ok (numK t k) (.mk 3 ⟨#[]⟩ (numN t k) [] [] k) else .er (numC t k) k := fun t ht => by
      unfold leafR; rw [if_neg (by rw [ht]; exact b0), if_neg (by rw [ht]; exact b1), if_neg (by rw [ht]; exact b2), if_neg (by rw [ht]; exact b4)]
    rw [e s rfl] at h0
    rw [e _ eb]
    by_cases hc : numC s k = 0
    · rw [if_pos hc] at h0
      have hj : numK s k = j := by injection h0
      obtain ⟨n1, n2, n3⟩ := cut_num h hk hc
      rw [if_pos n1]
      by_cases hn : j ≤ n
      · rw [if_pos hn, n2, n3 (by omega), show min n (numK s k) = numK s k by omega]
        exact h0
      · rw [if_neg hn, n2, show min n (numK s k) = n by omega]
        exact ⟨.inr ⟨_, rfl⟩, fun hb => absurd hb b4⟩
    · rw [if_neg hc] at h0; cases h0
theorem cut_key {s : ByteArray} {n p : Nat} (h : n ≤ s.size) (hp : p ≤ n) {b : Int} {ks : List ByteArray} {q : Nat} {key : ByteArray} (h0 : keyR s b p ks = .ok q key) :
    keyR (cut s n) b p ks = .ok (min n q) key ∨ (n < q ∧ keyR (cut s n) b p ks = .er 3 n) := by
  have hq := keyR_ok (by omega) h0
  by_cases hb : b = 91
  · have e : ∀ t : ByteArray, keyR t b p ks = .ok p ⟨#[]⟩ := fun t => by unfold keyR; rw [if_pos hb]
    rw [e] at h0
    injection h0 with e1 e2
    subst e1
    subst e2
    left
    rw [e, show min n p = p by omega]
  · unfold keyR at h0
    rw [if_neg hb] at h0
    split at h0
    · cases h0
    · rename_i hc
      have hc' : (quoR s p).c = 0 := by simpa using hc
      split at h0
      · cases h0
      · rename_i hk
        split at h0
        · rename_i hcol
          injection h0 with e1 e2
          have ck := cut_quo h hp hc'
          have qok := quoR_ok hc'
          have s1 := sk_le s (quoR s p).k qok.2
          have hlt := byteI_pos (s := s) (k := sk s (quoR s p).k) (by rw [hcol]; decide)
          have s2 := sk_le s (sk s (quoR s p).k + 1) (by omega)
          by_cases h1 : (quoR s p).k ≤ n
          · rw [if_pos h1] at ck
            have e3 := cut_sk h h1
            by_cases h2 : sk s (quoR s p).k < n
            · left
              unfold keyR
              rw [if_neg hb, ck, if_neg hc, if_neg hk, e3, show min n (sk s (quoR s p).k) = sk s (quoR s p).k by omega, cut_I h h2, if_pos hcol, cut_sk h (by omega), e1, e2]
            · right
              refine ⟨by omega, ?_⟩
              unfold keyR
              rw [if_neg hb, ck, if_neg hc, if_neg hk, e3, show min n (sk s (quoR s p).k) = n by omega, cut_end h (Nat.le_refl _), if_neg (by decide), cut_miss h]
          · rw [if_neg h1] at ck
            right
            refine ⟨by omega, ?_⟩
            unfold keyR
            rw [if_neg hb, if_pos (by rw [ck.1]; decide), ck.1, ck.2]
        · cases h0
/-- What is said of a text, where it is a value, cut at a place. -/
def Say.Cut (s : ByteArray) : Say → Prop
  | .v d k (.ok j x) => ∀ n, n ≤ s.size → k ≤ n → if j ≤ n then V (cut s n) d k (.ok j x) else ∃ o, V (cut s n) d k o ∧ Short n o ∧ (opens (byteI s k) ∨ byteI s k = 34 → o = .er 3 n)
  | .i d b p ks (.ok j xs kk) => ∀ n, n ≤ s.size → p ≤ n → if j ≤ n then I (cut s n) d b p ks (.ok j xs kk) else I (cut s n) d b p ks (.er 3 n)
  | _ => True
theorem missC_cut {s : ByteArray} {n : Nat} (h : n ≤ s.size) {x : Int} (hx : x ≠ 0) : byteI (cut s n) n ≠ x := by rw [cut_end h (Nat.le_refl _)]; exact fun e => hx e.symm
theorem shut_ne (b : Int) : shutI b ≠ 0 := by unfold shutI; split <;> decide
/-- Behind an item that is whole, or that ends with the cut: the row is too short. -/
theorem I_short {s : ByteArray} {n d p q : Nat} {b : Int} {ks : List ByteArray} {key : ByteArray} {j : Nat} {v : Val} (h : n ≤ s.size) (hk : keyR (cut s n) b p ks = .ok q key) (hv : V (cut s n) d q (.ok j v)) (hj : sk (cut s n) j = n) : I (cut s n) d b p ks (.er 3 n) := by
  have := W.sep d b p ks q key j v hk hv (by rw [hj]; exact missC_cut h (shut_ne b)) (by rw [hj]; exact missC_cut h (by decide))
  rwa [hj, cut_miss h] at this
theorem sk_cut_end {s : ByteArray} {n : Nat} (h : n ≤ s.size) : sk (cut s n) n = n := by
  rw [cut_sk h (Nat.le_refl _)]
  have := sk_le s n h
  omega
/-- Ahead of what stands behind a first item: the item's own ways to be too short. -/
theorem item_short {s : ByteArray} {n d p q : Nat} {b : Int} {ks : List ByteArray} {key : ByteArray} {j : Nat} {v : Val} (h : n ≤ s.size) (hp : p ≤ n) (h0 : keyR s b p ks = .ok q key) (hq : q ≤ s.size) (ih : (Say.v d q (.ok j v)).Cut s) (hV : j ≤ s.size)
    (hs : n ≤ sk s j) : I (cut s n) d b p ks (.er 3 n) := by
  rcases cut_key h hp h0 with hk | ⟨_, hk⟩
  · by_cases hqn : q ≤ n
    · rw [show min n q = q by omega] at hk
      have i1 := ih n h hqn
      by_cases hj : j ≤ n
      · rw [if_pos hj] at i1
        refine I_short h hk i1 ?_
        rw [cut_sk h hj]
        omega
      · rw [if_neg hj] at i1
        obtain ⟨o, ho, hsh, -⟩ := i1
        rcases hsh with rfl | ⟨v', rfl⟩
        · exact W.val d b p ks q key 3 n hk ho
        · exact I_short h hk ho (sk_cut_end h)
    · rw [show min n q = n by omega] at hk
      exact W.val d b p ks n key 3 n hk (V_end h d)
  · exact W.key d b p ks 3 n hk
theorem item_whole {s : ByteArray} {n d p q : Nat} {b : Int} {ks : List ByteArray} {key : ByteArray} {j : Nat} {v : Val} (h : n ≤ s.size) (hp : p ≤ n) (h0 : keyR s b p ks = .ok q key) (ih : (Say.v d q (.ok j v)).Cut s) (hqj : q ≤ j) (hj : j ≤ n) :
    keyR (cut s n) b p ks = .ok q key ∧ V (cut s n) d q (.ok j v) := by
  rcases cut_key h hp h0 with hk | ⟨hn, hk⟩
  · rw [show min n q = q by omega] at hk
    have i1 := ih n h (by omega)
    rw [if_pos hj] at i1
    exact ⟨hk, i1⟩
  · omega
end Go.Proofs.YtajmlkephefapaaGreatDoor

namespace Go.Proofs.YtajmlkephefapaaGreatDoor
open Go.RowKit Go.Extern.Stop Go.Stop Go.Extern

def Say.cutOk (s : ByteArray) : Say → Prop
  | .v d k o => k ≤ s.size → (Say.v d k o).Cut s
  | .i d b p ks o => p ≤ s.size → (Say.i d b p ks o).Cut s
theorem W.cutOk {s : ByteArray} {g : Say} (h : W s g) : g.cutOk s := by
  induction h with
  | leaf d k h0 =>
    intro hk
    cases ho : leafR s k with
    | er c a => trivial
    | ok j v =>
      intro n hn hkn
      rcases Nat.lt_or_ge k n with h1 | h1
      · have := cut_leaf hn h1 ho
        have hno : ¬ opens (byteI (cut s n) k) := by rw [cut_I hn h1]; exact h0
        split
        · rw [if_pos ‹_›] at this
          exact this ▸ W.leaf d k hno
        · rw [if_neg ‹_›] at this
          exact ⟨_, W.leaf d k hno, this.1, fun hb => hb.elim (fun hb => absurd hb h0) this.2⟩
      · obtain rfl : k = n := by omega
        have hf := leafR_fits hk
        rw [ho] at hf
        rw [if_neg (by have := hf.1; omega)]
        exact ⟨_, V_end hn d, .inl rfl, fun _ => rfl⟩
  | deep d k h0 h1 => intro _; trivial
  | none d k h0 h1 h2 =>
    intro hk n hn hkn
    have a0 := opens_lt h0
    have a1 := sk_le s (k + 1) (by omega)
    rcases Nat.lt_or_ge k n with hlt | hge
    · have hb := cut_I hn hlt
      have hs := cut_sk hn (show k + 1 ≤ n by omega)
      have ho : opens (byteI (cut s n) k) := by rw [hb]; exact h0
      by_cases hj : sk s (k + 1) + 1 ≤ n
      · rw [if_pos hj]
        have e : sk (cut s n) (k + 1) = sk s (k + 1) := by omega
        have := W.none (s := cut s n) d k ho h1 (by rw [e, cut_I hn (by omega), hb]; exact h2)
        rwa [e, hb] at this
      · rw [if_neg hj]
        have e : sk (cut s n) (k + 1) = n := by omega
        refine ⟨_, W.some (s := cut s n) d k (.er 3 n) ho h1 (by rw [e]; exact missC_cut hn (shut_ne _)) (by rw [e]; exact I_end hn _ _ _), .inl rfl, fun _ => rfl⟩
    · obtain rfl : k = n := by omega
      rw [if_neg (by omega)]
      exact ⟨_, V_end hn d, .inl rfl, fun _ => rfl⟩
  | some d k o h0 h1 h2 hI ih =>
    intro hk
    cases o with
    | er c a => trivial
    | ok j vs kk =>
      intro n hn hkn
      have a0 := opens_lt h0
      have a1 := sk_le s (k + 1) (by omega)
      have hf : Outs.Fits s (sk s (k + 1)) (.ok j vs kk) := W.fits hI a1.2
      rcases Nat.lt_or_ge k n with hlt | hge
      · have hb := cut_I hn hlt
        have hs := cut_sk hn (show k + 1 ≤ n by omega)
        have ho : opens (byteI (cut s n) k) := by rw [hb]; exact h0
        rcases Nat.lt_or_ge (sk s (k + 1)) n with hp | hp
        · have e : sk (cut s n) (k + 1) = sk s (k + 1) := by omega
          have i1 := ih a1.2 n hn (Nat.le_of_lt hp)
          have hne : byteI (cut s n) (sk (cut s n) (k + 1)) ≠ shutI (byteI (cut s n) k) := by rw [e, cut_I hn hp, hb]; exact h2
          by_cases hj : j ≤ n
          · rw [if_pos hj] at i1
            rw [if_pos hj]
            have := W.some (s := cut s n) d k _ ho h1 hne (by rw [e, hb]; exact i1)
            rwa [hb] at this
          · rw [if_neg hj] at i1
            rw [if_neg hj]
            exact ⟨_, W.some (s := cut s n) d k _ ho h1 hne (by rw [e, hb]; exact i1), .inl rfl, fun _ => rfl⟩
        · have e : sk (cut s n) (k + 1) = n := by omega
          rw [if_neg (by have := hf.1; omega)]
          refine ⟨_, W.some (s := cut s n) d k (.er 3 n) ho h1 (by rw [e]; exact missC_cut hn (shut_ne _)) (by rw [e]; exact I_end hn _ _ _), .inl rfl, fun _ => rfl⟩
      · obtain rfl : k = n := by omega
        rw [if_neg (by have := hf.1; omega)]
        exact ⟨_, V_end hn d, .inl rfl, fun _ => rfl⟩
  | key d b p ks c a h0 => intro _; trivial
  | val d b p ks q key c a h0 hV ih => intro _; trivial
  | last d b p ks q key j v h0 hV h1 ih =>
    intro hp n hn hpn
    have a1 := keyR_ok hp h0
    have hf : Out.Fits s q (.ok j v) := W.fits hV a1.2
    have a3 := sk_le s j hf.2
    have := hf.1
    by_cases hj : sk s j + 1 ≤ n
    · rw [if_pos hj]
      obtain ⟨hk, hv⟩ := item_whole hn hpn h0 (ih a1.2) (by omega) (show j ≤ n by omega)
      have e : sk (cut s n) j = sk s j := by rw [cut_sk hn (by omega)]; omega
      have := W.last d b p ks q key j v hk hv (by rw [e, cut_I hn (by omega)]; exact h1)
      rwa [e] at this
    · rw [if_neg hj]
      exact item_short hn hpn h0 a1.2 (ih a1.2) hf.2 (by omega)
  | sep d b p ks q key j v h0 hV h1 h2 ih => intro _; trivial
  | more d b p ks q key j v o h0 hV h1 hI ihV ihI =>
    intro hp
    cases o with
    | er c a => trivial
    | ok J vs kk =>
      intro n hn hpn
      have a1 := keyR_ok hp h0
      have hf : Out.Fits s q (.ok j v) := W.fits hV a1.2
      have a3 := sk_le s j hf.2
      have a4 := byteI_pos (s := s) (k := sk s j) (by rw [h1]; decide)
      have a5 := sk_le s (sk s j + 1) (by omega)
      have hf2 : Outs.Fits s (sk s (sk s j + 1)) (.ok J vs kk) := W.fits hI a5.2
      have f1 := hf.1
      have f2 := hf2.1
      by_cases hs : sk s j < n
      · obtain ⟨hk, hv⟩ := item_whole hn hpn h0 (ihV a1.2) (by omega) (show j ≤ n by omega)
        have e : sk (cut s n) j = sk s j := by rw [cut_sk hn (by omega)]; omega
        have hc : byteI (cut s n) (sk (cut s n) j) = 44 := by rw [e, cut_I hn hs]; exact h1
        have e2 := cut_sk hn (show sk s j + 1 ≤ n by omega)
        by_cases hp2 : sk s (sk s j + 1) ≤ n
        · have e3 : sk (cut s n) (sk (cut s n) j + 1) = sk s (sk s j + 1) := by rw [e]; omega
          have i1 := ihI a5.2 n hn hp2
          by_cases hj : J ≤ n
          · rw [if_pos hj] at i1
            rw [if_pos hj]
            exact W.more d b p ks q key j v _ hk hv hc (by rw [e3]; exact i1)
          · rw [if_neg hj] at i1
            rw [if_neg hj]
            exact W.more d b p ks q key j v _ hk hv hc (by rw [e3]; exact i1)
        · have e3 : sk (cut s n) (sk (cut s n) j + 1) = n := by rw [e]; omega
          rw [if_neg (by omega)]
          exact W.more d b p ks q key j v (.er 3 n) hk hv hc (by rw [e3]; exact I_end hn _ _ _)
      · rw [if_neg (by omega)]
        exact item_short hn hpn h0 a1.2 (ihV a1.2) hf.2 (by omega)

/-! ### Where a value ends -/
theorem txtR_last (s : ByteArray) : ∀ (n k : Nat), s.size - k = n → (txtR s k).c = 0 → byteI s ((txtR s k).k - 1) = 34 := by
  intro n
  induction n using Nat.strongRecOn with
  | ind n ih =>
    intro k hn h
    by_cases h34 : byteI s k = 34
    · rw [txtR_end h34]; exact h34
    · by_cases hc : (signR s k).c = 0
      · rw [txtR_go h34 hc] at h ⊢
        have h1 := signR_ok hc
        exact ih (s.size - (signR s k).k) (by omega) (signR s k).k rfl h
      · rw [txtR_er h34 hc] at h
        exact absurd h hc
def Val.kind' : Val → Int | .mk k _ _ _ _ _ => k
def Val.at'' : Val → Int | .mk _ _ _ _ _ a => a
def Say.Tail (s : ByteArray) : Say → Prop
  | .v _ k (.ok j x) => k ≤ s.size → x.at'' = (k : Int) ∧ (4 ≤ x.kind' → (opens (byteI s k) ∨ byteI s k = 34) ∧ k + 2 ≤ j ∧ isBl (byteI s (j - 1)) = false)
  | .i _ b p _ (.ok j _ _) => p ≤ s.size → p < j ∧ byteI s (j - 1) = shutI b
  | _ => True
theorem shut_bl (b : Int) : isBl (shutI b) = false := by unfold shutI; split <;> decide
theorem leaf_tail {s : ByteArray} {k j : Nat} {x : Val} (h0 : leafR s k = .ok j x) : x.at'' = (k : Int) ∧ (4 ≤ x.kind' → (opens (byteI s k) ∨ byteI s k = 34) ∧ k + 2 ≤ j ∧ isBl (byteI s (j - 1)) = false) := by
  have hw : ∀ (kind : Int) (l : List UInt8), wordO s k kind l = .ok j x → x.at'' = (k : Int) ∧ x.kind' = kind := by
    intro kind l h
    unfold wordO at h
    split at h
    · injection h with _ e; subst e; exact ⟨rfl, rfl⟩
    · cases h
  unfold leafR at h0
  split at h0
  · have := hw _ _ h0; exact ⟨this.1, fun h => by rw [this.2] at h; exact absurd h (by decide)⟩
  · split at h0
    · have := hw _ _ h0; exact ⟨this.1, fun h => by rw [this.2] at h; exact absurd h (by decide)⟩
    · split at h0
      · have := hw _ _ h0; exact ⟨this.1, fun h => by rw [this.2] at h; exact absurd h (by decide)⟩
      · split at h0
        · rename_i h34
          split at h0
          · rename_i hc
            have e0 : quoR s k = txtR s (k + 1) := by unfold quoR; rw [if_pos h34]
            rw [e0] at h0 hc
            have h1 := txtR_ok s _ _ rfl hc
            have h2 := txtR_last s _ _ rfl hc
            injection h0 with e1 e2
            subst e1; subst e2
            exact ⟨rfl, fun _ => ⟨.inr h34, by omega, by rw [h2]; decide⟩⟩
          · cases h0
        · split at h0
          · injection h0 with _ e; subst e; exact ⟨rfl, fun h => absurd h (by show ¬ (4 : Int) ≤ 3; decide)⟩
          · cases h0
theorem W.tail {s : ByteArray} {g : Say} (h : W s g) : g.Tail s := by
  induction h with
  | leaf d k h0 =>
    cases ho : leafR s k with
    | er c a => trivial
    | ok j x => intro _; exact leaf_tail ho
  | deep d k h0 h1 => trivial
  | none d k h0 h1 h2 =>
    intro hk
    have a0 := opens_lt h0
    have a1 := sk_le s (k + 1) (by omega)
    exact ⟨rfl, fun _ => ⟨.inl h0, by omega, by rw [Nat.add_sub_cancel, h2]; exact shut_bl _⟩⟩
  | some d k o h0 h1 h2 hI ih =>
    cases o with
    | er c a => trivial
    | ok j vs kk =>
      intro hk
      have a0 := opens_lt h0
      have a1 := sk_le s (k + 1) (by omega)
      obtain ⟨i1, i2⟩ := ih a1.2
      exact ⟨rfl, fun _ => ⟨.inl h0, by omega, by rw [i2]; exact shut_bl _⟩⟩
  | key d b p ks c a h0 => trivial
  | val d b p ks q key c a h0 hV ih => trivial
  | last d b p ks q key j v h0 hV h1 ih =>
    intro hp
    have a1 := keyR_ok hp h0
    have hf : Out.Fits s q (.ok j v) := W.fits hV a1.2
    have a3 := sk_le s j hf.2
    have := hf.1
    exact ⟨by omega, by rw [Nat.add_sub_cancel]; exact h1⟩
  | sep d b p ks q key j v h0 hV h1 h2 ih => trivial
  | more d b p ks q key j v o h0 hV h1 hI ihV ihI =>
    cases o with
    | er c a => trivial
    | ok J vs kk =>
      intro hp
      have a1 := keyR_ok hp h0
      have hf : Out.Fits s q (.ok j v) := W.fits hV a1.2
      have a3 := sk_le s j hf.2
      have a4 := byteI_pos (s := s) (k := sk s j) (by rw [h1]; decide)
      have a5 := sk_le s (sk s j + 1) (by omega)
      obtain ⟨i1, i2⟩ := ihI a5.2
      have := hf.1
      exact ⟨by omega, i2⟩
theorem run_all (p : Int → Bool) (s : ByteArray) : ∀ (m k : Nat), s.size - k = m → runTo p s k = s.size → ∀ i, k ≤ i → i < s.size → p (byteI s i) = true := by
  intro m
  induction m with
  | zero => intro k hm _ i h1 h2; omega
  | succ m ih =>
    intro k hm hr i h1 h2
    by_cases hp : p ((s[k]'(by omega)).toNat : Int) = true
    · rw [runTo_go (by omega) hp] at hr
      rcases Nat.eq_or_lt_of_le h1 with rfl | h3
      · rw [byteI_lt h2]; exact hp
      · exact ih (k + 1) (by omega) hr i h3 h2
    · rw [runTo_stop (by omega) (by simpa using hp)] at hr
      omega
/-- A whole text whose value is a text, an array or an object: where it begins and ends, and what it comes to if it is cut within. -/
theorem whole_short {s : ByteArray} {x : Val} (hw : Whole s (.ok s.size x)) (hk4 : 4 ≤ x.kind') : ∃ k j : Nat, x.at'' = (k : Int) ∧ k + 2 ≤ j ∧ j ≤ s.size ∧ isBl (byteI s (j - 1)) = false ∧ (∀ i, j ≤ i → i < s.size → isBl (byteI s i) = true) ∧
    ∀ m, k < m → m < j → Whole (cut s m) (.er 3 m) := by
  rcases hw with ⟨_, h⟩ | ⟨h0, o1, hV, h⟩
  · cases h
  rcases h with ⟨c, a, _, h⟩ | ⟨j, v, rfl, ⟨hj, h⟩ | ⟨_, h⟩⟩
  · cases h
  · obtain rfl : x = v := by injection h
    have a0 := sk_le s 0 (Nat.zero_le _)
    have hf : Out.Fits s (sk s 0) (.ok j x) := W.fits hV a0.2
    obtain ⟨t1, t2⟩ := (W.tail hV : (Say.v 0 (sk s 0) (.ok j x)).Tail s) a0.2
    obtain ⟨u1, u2, u3⟩ := t2 hk4
    refine ⟨sk s 0, j, t1, u2, hf.2, u3, run_all isBl s _ j rfl hj, fun m h1 h2 => ?_⟩
    have hm : m ≤ s.size := by have := hf.2; omega
    have hc := (W.cutOk hV : (Say.v 0 (sk s 0) (.ok j x)).cutOk s) a0.2 m hm (by omega)
    rw [if_neg (by omega)] at hc
    obtain ⟨o, ho, _, h34⟩ := hc
    obtain rfl := h34 u1
    have e := cut_sk hm (Nat.zero_le m)
    refine .inr ⟨by rw [cut_size hm]; omega, .er 3 m, ?_, .inl ⟨3, m, rfl, rfl⟩⟩
    rw [e, show min m (sk s 0) = sk s 0 by omega]
    exact ho
  · cases h
end Go.Proofs.YtajmlkephefapaaGreatDoor

namespace Go.Proofs.YtajmlkephefapaaGreatDoor
open Go.RowKit Go.Extern.Stop Go.Stop Go.Extern Go.WideMaps

theorem below_dr5 (w : World) (n : Nat) : Below w.heap.size w (w.drewN n) := by
  induction n with
  | zero => exact Below.refl _ _
  | succ n ih => exact ⟨ih.os, ih.tape, ih.output, ih.size, ih.block⟩
/-- Six cells from a place on. -/
def Six (w : World) (b o : Nat) (c0 c1 c2 c3 c4 c5 : Value) : Prop := b < w.heap.size ∧ w.cell? ⟨b, o, none⟩ = some c0 ∧ w.cell? ⟨b, o + 1, none⟩ = some c1 ∧ w.cell? ⟨b, o + 2, none⟩ = some c2 ∧ w.cell? ⟨b, o + 3, none⟩ = some c3 ∧ w.cell? ⟨b, o + 4, none⟩ = some c4 ∧ w.cell? ⟨b, o + 5, none⟩ = some c5
theorem Six.step {w w' : World} {b o : Nat} {c0 c1 c2 c3 c4 c5 : Value} (h : Six w b o c0 c1 c2 c3 c4 c5) (hb : Below w.heap.size w w') : Six w' b o c0 c1 c2 c3 c4 c5 := by
  obtain ⟨h0, h1, h2, h3, h4, h5, h6⟩ := h
  have e : ∀ i, w'.cell? ⟨b, i, none⟩ = w.cell? ⟨b, i, none⟩ := fun i => hb.cell (p := ⟨b, i, none⟩) h0
  refine ⟨Nat.lt_of_lt_of_le h0 hb.size, ?_, ?_, ?_, ?_, ?_, ?_⟩ <;> rw [e] <;> assumption
theorem six_nw (w : World) (ty : TypeId) (c0 c1 c2 c3 c4 c5 : Value) : Six (w.alloc (.cells #[c0, c1, c2, c3, c4, c5] ty)) w.heap.size 0 c0 c1 c2 c3 c4 c5 := by
  have h := heap_alloc_new w (.cells #[c0, c1, c2, c3, c4, c5] ty)
  refine ⟨by simp, ?_, ?_, ?_, ?_, ?_, ?_⟩ <;> (rw [Lib.cell_of_heap h]; rfl)
theorem farL_at (n : Nat) : ∀ {l : List Val} {i : Nat} {x : Val}, l[i]? = some x → (farL n l)[i]? = some (farV n x)
  | [], _, _, h => by simp at h
  | y :: r, 0, x, h => by
    obtain rfl : y = x := by simpa using h
    rw [farL]; rfl
  | y :: r, i + 1, x, h => by
    rw [farL]
    exact farL_at n (l := r) (by simpa using h)
theorem farL_len (n : Nat) : ∀ l : List Val, (farL n l).length = l.length
  | [] => by rw [farL]
  | y :: r => by rw [farL, List.length_cons, List.length_cons, farL_len n r]
/-- An element of a row of values, in a later world. -/
theorem el_at {P : Nat → Prop} {w wr : World} {a : Option Addr} {l c : Nat} {xs : List Value} {list : List Val} (hr : RowIn P w (.slice a l c) list.length xs) (hv : ValsC P w xs list) {i : Nat} {x : Val} (hx : list[i]? = some x) (hb : Below w.heap.size w wr) :
    ∃ b o k t n a2 l2 c2 a3 l3 c3 z, a = some ⟨b, o, none⟩ ∧ ValC P w [.int .i64 k, .string t, .int .u64 n, .slice a2 l2 c2, .slice a3 l3 c3, .int .i64 z] x ∧
      Six wr b (o + i * 6) (.int .i64 k) (.string t) (.int .u64 n) (.slice a2 l2 c2) (.slice a3 l3 c3) (.int .i64 z) := by
  obtain ⟨d0, d1, d2, d3, d4, d5, hvx, e0, e1, e2, e3, e4, e5⟩ := ValsC.at' hv hx
  obtain ⟨k2, t2, n2, a2, l2, c2, a3, l3, c3, z2, ed⟩ := hvx.form
  simp only [List.cons.injEq, and_true] at ed
  obtain ⟨rfl, rfl, rfl, rfl, rfl, rfl⟩ := ed
  have hlt := (List.getElem?_eq_some_iff.1 hx).1
  rcases hr with ⟨h0, -⟩ | ⟨b, o, c, e, -, hbl, hc⟩
  · omega
  injection e with e
  refine ⟨b, o, _, _, _, _, _, _, _, _, _, _, e, hvx, ?_⟩
  have hj : ∀ j u, xs[6 * i + j]? = some u → wr.cell? ⟨b, o + i * 6 + j, none⟩ = some u := fun j u hu => by
    rw [show o + i * 6 + j = o + (6 * i + j) by omega]
    exact (hb.cell (p := ⟨b, _, none⟩) hbl).trans (hc _ _ hu)
  exact ⟨Nat.lt_of_lt_of_le hbl hb.size, hj 0 _ e0, hj 1 _ e1, hj 2 _ e2, hj 3 _ e3, hj 4 _ e4, hj 5 _ e5⟩
/-- An element of a row of texts, in a later world. -/
theorem key_at {P : Nat → Prop} {w wr : World} {a : Option Addr} {l c : Nat} {keys : List ByteArray} (hr : RowIn P w (.slice a l c) keys.length (keys.map Value.string)) {i : Nat} {y : ByteArray} (hy : keys[i]? = some y) (hb : Below w.heap.size w wr) :
    ∃ b o, a = some ⟨b, o, none⟩ ∧ wr.cell? ⟨b, o + i, none⟩ = some (.string y) := by
  have hlt := (List.getElem?_eq_some_iff.1 hy).1
  rcases hr with ⟨h0, -⟩ | ⟨b, o, c, e, -, hbl, hc⟩
  · omega
  injection e with e
  exact ⟨b, o, e, (hb.cell (p := ⟨b, _, none⟩) hbl).trans (hc i _ (by simp [hy]))⟩
/-- On the way: the two boxes. -/
structure TwoV (w0 : World) (x0 x1 x2 x3 x4 x5 y0 y1 y2 y3 y4 y5 : Value) (w : World) : Prop where
  sa : Six w w0.heap.size 0 x0 x1 x2 x3 x4 x5
  sb : Six w (w0.heap.size + 1) 0 y0 y1 y2 y3 y4 y5
  below : Below w0.heap.size w0 w
theorem TwoV.step {w0 : World} {x0 x1 x2 x3 x4 x5 y0 y1 y2 y3 y4 y5 : Value} {w w' : World} (h : TwoV w0 x0 x1 x2 x3 x4 x5 y0 y1 y2 y3 y4 y5 w) (hb : Below w.heap.size w w') : TwoV w0 x0 x1 x2 x3 x4 x5 y0 y1 y2 y3 y4 y5 w' :=
  ⟨h.sa.step hb, h.sb.step hb, h.below.trans (hb.mono h.below.size)⟩
theorem TwoV.start (w : World) (ty : TypeId) (x0 x1 x2 x3 x4 x5 y0 y1 y2 y3 y4 y5 : Value) : TwoV w x0 x1 x2 x3 x4 x5 y0 y1 y2 y3 y4 y5 ((w.alloc (.cells #[x0, x1, x2, x3, x4, x5] ty)).alloc (.cells #[y0, y1, y2, y3, y4, y5] ty)) := by
  have h1 := six_nw w ty x0 x1 x2 x3 x4 x5
  have h2 := six_nw (w.alloc (.cells #[x0, x1, x2, x3, x4, x5] ty)) ty y0 y1 y2 y3 y4 y5
  rw [World.size_alloc] at h2
  have b1 := sbelow_new w (.cells #[x0, x1, x2, x3, x4, x5] ty)
  have b2 := sbelow_new (w.alloc (.cells #[x0, x1, x2, x3, x4, x5] ty)) (.cells #[y0, y1, y2, y3, y4, y5] ty)
  exact ⟨h1.step b2, h2, b1.trans (b2.mono b1.size)⟩
mutual
/-- No row of keys is long. -/
def keysOk : Val → Prop
  | .mk _ _ _ list keys _ => keys.length ≤ 1000000 ∧ keysOkL list
def keysOkL : List Val → Prop
  | [] => True
  | x :: r => keysOk x ∧ keysOkL r
end
theorem keysOkL_at : ∀ {l : List Val} {i : Nat} {x : Val}, keysOkL l → l[i]? = some x → keysOk x
  | [], _, _, _, h => by simp at h
  | y :: r, 0, x, h0, h => by
    obtain rfl : y = x := by simpa using h
    rw [keysOkL] at h0
    exact h0.1
  | y :: r, i + 1, x, h0, h => by
    rw [keysOkL] at h0
    exact keysOkL_at h0.2 (i := i) (by simpa using h)
def RunTo (w : World) (N : Nat) (g : Nat) (v : Value) (wr : World) : Prop := ∃ i : Nat, i ≤ N ∧ g = N - i ∧ v = .int .i64 i ∧ Below w.heap.size w wr
end Go.Proofs.YtajmlkephefapaaGreatDoor

namespace Go.Proofs.YtajmlkephefapaaGreatDoor
open Go.RowKit Go.Extern.Stop Go.Stop Go.Extern Go.WideMaps

theorem own_up {w w' : World} {base : Nat} {e : TypeId} {size : Nat} {v : Value} {n : Nat} {xs : List Value} (h : w.ownsRow base e size v n xs) (hb : Below w.heap.size w w') : w'.ownsRow base e size v n xs :=
  ⟨h.1, h.2.imp id fun ⟨g, cap, cur, e, hb', hg, r⟩ => ⟨g, cap, cur, e, hb', (hb.block g (Array.getElem?_eq_some_iff.1 hg).1).trans hg, r⟩⟩
theorem RowIn.of_own' {P : Nat → Prop} {w : World} {B : Nat} {e : TypeId} {sz : Nat} {v : Value} {n : Nat} {xs : List Value} (h : w.ownsRow B e sz v n xs) (hP : ∀ k, v.ownBlock = some k → P k) : RowIn P w v n xs := by
  rcases Nat.eq_zero_or_pos n with h1 | h1
  · have hx : xs = [] := List.eq_nil_of_length_eq_zero (by rw [h.1, h1]; simp)
    rcases h.2 with ⟨rfl, _⟩ | ⟨g, cap, cur, rfl, _⟩
    · exact .inl ⟨h1, hx, none, 0, rfl⟩
    · subst h1; exact .inl ⟨rfl, hx, _, _, rfl⟩
  · exact RowIn.of_own h hP (by omega)
end Go.Proofs.YtajmlkephefapaaGreatDoor

namespace Go.Proofs.YtajmlkephefapaaGreatDoor
open Go.RowKit Go.Extern.Stop Go.Stop Go.Extern

theorem infoStr5 : (Tryz.prog.info? 9).map (fun i => (i.zero, i.size, i.bytes)) = some (some (.string ByteArray.empty), 1, 16) := by kernel_rfl
theorem run_append_keys (P : Nat → Prop) (w : World) (base : Nat) (ty : TypeId) (v : Value) (n : Nat) (xs : List Value) (hown : w.ownsRow base 9 1 v n xs) (vx : Value) (l : List ByteArray) (hv : RowIn P w vx l.length (l.map Value.string)) (hn : n + l.length ≤ 10000000) (hbase : base ≤ w.heap.size) :
    ∃ v' w', (Builtin.append_ #[25, 25] ty #[v, vx]).run Tryz.prog w = .ok v' w' ∧ w'.ownsRow base 9 1 v' (n + l.length) (xs ++ l.map Value.string) ∧ w.grownBy w' v.ownBlock := by
  obtain ⟨i0, hi, hz0, hz1, hz2⟩ := info_parts infoStr5
  rcases hv with ⟨h0, -, a, cap, rfl⟩ | ⟨b, off, cap, rfl, -, hb, hc⟩
  · have hl : l = [] := List.eq_nil_of_length_eq_zero h0
    subst hl
    rcases a with _ | a
    · refine ⟨v, w, ?_, by simpa using hown, World.grownBy.refl w _⟩
      rcases hown.2 with ⟨rfl, -⟩ | ⟨g, cp, cur, rfl, -, -, hle, -⟩
      · simp [Builtin.append_, run_underlying Tryz.underlying25, sizeOf, typeInfo, hi, Builtin.lenOf, Builtin.firstCells]
      · simp [Builtin.append_, run_underlying Tryz.underlying25, sizeOf, typeInfo, hi, Builtin.lenOf, Builtin.firstCells, hle, storeCells]
    · obtain ⟨v', w', h1, h2, h3, -⟩ := run_append_own (P := Tryz.prog) w base 25 ty 9 i0 (.string ByteArray.empty) 1 16 Tryz.underlying25 hi hz0 hz1 hz2 rfl (by decide) v n xs hown a 0 cap [] rfl (by intro j u hu; cases hu) (by intro u hu; cases hu) (by unfold maxLen; simp at hn; omega) (by simp at hn; omega) hbase
      exact ⟨v', w', h1, by simpa using h2, h3⟩
  · obtain ⟨v', w', h1, h2, h3, -⟩ := run_append_own (P := Tryz.prog) w base 25 ty 9 i0 (.string ByteArray.empty) 1 16 Tryz.underlying25 hi hz0 hz1 hz2 rfl (by decide) v n xs hown ⟨b, off, none⟩ l.length cap (l.map Value.string) (by simp) (by
      intro j u hu
      have e0 : (⟨b, off, none⟩ : Addr).add j = ⟨b, off + j, none⟩ := by unfold Addr.add; split <;> simp_all
      rw [e0]
      exact hc j u hu) (by
      intro u hu
      obtain ⟨x, -, rfl⟩ := List.mem_map.1 hu
      rfl) (by unfold maxLen; omega) (by omega) hbase
    exact ⟨v', w', h1, h2, h3⟩
theorem wpList_append_keys {P : Nat → Prop} {ops : Array Oper} {rest : List Oper} {o : Oper} {a : Act} {Q : Exit → Act → World → Prop} (w : World) (hgd : o.guard = none) (s x : Operand) (ho : o.op = .call { callee := .builtin .append, args := #[s, x], argTypes := #[25, 25] })
    (base : Nat) (v : Value) (n : Nat) (xs : List Value) (hs : a.eval s = v) (hown : w.ownsRow base 9 1 v n xs) (vx : Value) (l : List ByteArray) (hx : a.eval x = vx) (hv : RowIn P w vx l.length (l.map Value.string)) (hn : n + l.length ≤ 10000000) (hbase : base ≤ w.heap.size)
    (h : ∀ v' w', w'.ownsRow base 9 1 v' (n + l.length) (xs ++ l.map Value.string) → w.grownBy w' v.ownBlock → wpList Tryz.prog ops Q rest (a.put o.dst v') w') : wpList Tryz.prog ops Q (o :: rest) a w := by
  refine wpList_plain hgd fun K hK => ?_
  obtain ⟨v', w', h1, h2, h3⟩ := run_append_keys P w base o.type v n xs hown vx l hv hn hbase
  unfold Oper.wp execOp
  simp only [ho, resolve, invoke, builtin, Sem.run_bind, Sem.run_pure, Result.andThen_ok, List.map_toArray, List.map_cons, List.map_nil, hs, hx, h1]
  exact hK _ _ (h v' w' h2 h3)
end Go.Proofs.YtajmlkephefapaaGreatDoor

namespace Go.Proofs.YtajmlkephefapaaGreatDoor
open Go.RowKit Go.Extern.Stop Go.Stop Go.Extern

def Say.Small (s : ByteArray) : Say → Prop
  | .v _ k (.ok j x) => k ≤ s.size → vsize x ≤ j - k ∧ keysOk x
  | .i _ _ p _ (.ok j xs kk) => p ≤ s.size → lsize xs ≤ j - p ∧ keysOkL xs ∧ kk.length = xs.length
  | _ => True
theorem leaf_small {s : ByteArray} {k j : Nat} {x : Val} (hk : k ≤ s.size) (h : leafR s k = .ok j x) : vsize x ≤ j - k ∧ keysOk x := by
  have hf := leafR_fits hk
  rw [h] at hf
  have hj := hf.1
  have key : ∀ (kind : Int) (t : ByteArray) (n z : Int), (kind ≠ 5 ∧ kind ≠ 6) → vsize (.mk kind t n [] [] z) ≤ j - k ∧ keysOk (.mk kind t n [] [] z) := by
    intro kind t n z hkind
    refine ⟨?_, ?_⟩
    · unfold vsize
      rw [if_neg (by omega)]
      omega
    · rw [keysOk, keysOkL]
      exact ⟨by simp, trivial⟩
  have hw : ∀ (kind : Int) (l : List UInt8), (kind ≠ 5 ∧ kind ≠ 6) → wordO s k kind l = .ok j x → vsize x ≤ j - k ∧ keysOk x := by
    intro kind l hkind h
    unfold wordO at h
    split at h
    · injection h with _ e; subst e; exact key _ _ _ _ hkind
    · cases h
  unfold leafR at h
  split at h
  · exact hw _ _ (by decide) h
  · split at h
    · exact hw _ _ (by decide) h
    · split at h
      · exact hw _ _ (by decide) h
      · split at h
        · split at h
          · injection h with _ e; subst e; exact key _ _ _ _ (by decide)
          · cases h
        · split at h
          · injection h with _ e; subst e; exact key _ _ _ _ (by decide)
          · cases h
theorem W.small {s : ByteArray} (hs : s.size ≤ 1000000) {g : Say} (h : W s g) : g.Small s := by
  induction h with
  | leaf d k h0 =>
    cases ho : leafR s k with
    | er c a => trivial
    | ok j x => intro hk; exact leaf_small hk ho
  | deep d k h0 h1 => trivial
  | none d k h0 h1 h2 =>
    intro hk
    have a0 := opens_lt h0
    have a1 := sk_le s (k + 1) (by omega)
    refine ⟨?_, ?_⟩
    · unfold vsize
      split
      · rw [lsize]; omega
      · omega
    · rw [keysOk, keysOkL]
      exact ⟨by split <;> simp, trivial⟩
  | some d k o h0 h1 h2 hI ih =>
    cases o with
    | er c a => trivial
    | ok j vs kk =>
      intro hk
      have a0 := opens_lt h0
      have a1 := sk_le s (k + 1) (by omega)
      have hf : Outs.Fits s (sk s (k + 1)) (.ok j vs kk) := W.fits hI a1.2
      have f1 := hf.1
      have f2 := hf.2
      obtain ⟨i1, i2, i3⟩ := ih a1.2
      have hl := length_le_lsize vs
      refine ⟨?_, ?_⟩
      · unfold vsize
        split
        · omega
        · omega
      · rw [keysOk]
        refine ⟨?_, i2⟩
        split
        · simp
        · omega
  | key d b p ks c a h0 => trivial
  | val d b p ks q key c a h0 hV ih => trivial
  | last d b p ks q key j v h0 hV h1 ih =>
    intro hp
    have a1 := keyR_ok hp h0
    have hf : Out.Fits s q (.ok j v) := W.fits hV a1.2
    have a3 := sk_le s j hf.2
    have f1 := hf.1
    obtain ⟨i1, i2⟩ := ih a1.2
    refine ⟨?_, ?_, rfl⟩
    · rw [lsize, lsize]; omega
    · rw [keysOkL, keysOkL]; exact ⟨i2, trivial⟩
  | sep d b p ks q key j v h0 hV h1 h2 ih => trivial
  | more d b p ks q key j v o h0 hV h1 hI ihV ihI =>
    cases o with
    | er c a => trivial
    | ok J vs kk =>
      intro hp
      have a1 := keyR_ok hp h0
      have hf : Out.Fits s q (.ok j v) := W.fits hV a1.2
      have a3 := sk_le s j hf.2
      have a4 := byteI_pos (s := s) (k := sk s j) (by rw [h1]; decide)
      have a5 := sk_le s (sk s j + 1) (by omega)
      have hf2 : Outs.Fits s (sk s (sk s j + 1)) (.ok J vs kk) := W.fits hI a5.2
      have f1 := hf.1
      have f2 := hf2.1
      obtain ⟨i1, i2⟩ := ihV a1.2
      obtain ⟨j1, j2, j3⟩ := ihI a5.2
      refine ⟨?_, ?_, ?_⟩
      · rw [lsize]; omega
      · rw [keysOkL]; exact ⟨i2, j2⟩
      · rw [List.length_cons, List.length_cons, j3]
/-- What a whole text's value comes to. -/
theorem whole_small {s : ByteArray} (hs : s.size ≤ 1000000) {x : Val} (h : Whole s (.ok s.size x)) : vsize x ≤ s.size ∧ keysOk x ∧ x.at'' = (sk s 0 : Int) := by
  rcases h with ⟨_, h⟩ | ⟨h0, o1, hV, h⟩
  · cases h
  rcases h with ⟨c, a, _, h⟩ | ⟨j, v, rfl, ⟨hj, h⟩ | ⟨_, h⟩⟩
  · cases h
  · obtain rfl : x = v := by injection h
    have a0 := sk_le s 0 (Nat.zero_le _)
    have hf : Out.Fits s (sk s 0) (.ok j x) := W.fits hV a0.2
    obtain ⟨t1, t2⟩ := (W.small hs hV : (Say.v 0 (sk s 0) (.ok j x)).Small s) a0.2
    have f2 := hf.2
    exact ⟨by omega, t2, ((W.tail hV : (Say.v 0 (sk s 0) (.ok j x)).Tail s) a0.2).1⟩
  · cases h
end Go.Proofs.YtajmlkephefapaaGreatDoor
