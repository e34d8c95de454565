/-
  Layer 5, plain: what a text cut short comes to: values.
-/
import Derived.Test.YtbaglmjbncalpaaDoorTreeV
namespace Go.Proofs.YtbaglmjbncalpaaDoor
open Go.RowKit Go.Extern.Stop Go.Stop Go.Extern

/-- Of a text cut at a place within a value: too short there; or a value that ends there. -/
def Short (n : Nat) (o : Out) : Prop := o = .er 3 n ∨ ∃ v, o = .ok n v
theorem leaf_end {s : ByteArray} {n : Nat} (h : n ≤ s.size) : leafR (cut s n) n = .er 3 n ∧ ¬ opens (byteI (cut s n) n) := by
  have e := cut_end h (Nat.le_refl n)
  have hn : numC (cut s n) n = 3 := by
    unfold numC
    rw [if_pos (runTo_end (by rw [cut_size h]; omega)), cut_miss h]
  refine ⟨?_, by rw [e]; decide⟩
  unfold leafR
  rw [e, if_neg (by decide), if_neg (by decide), if_neg (by decide), if_neg (by decide), if_neg (by rw [hn]; decide), hn]
theorem V_end {s : ByteArray} {n : Nat} (h : n ≤ s.size) (d : Nat) : V (cut s n) d n (.er 3 n) := (leaf_end h).1 ▸ W.leaf d n (leaf_end h).2
theorem I_end {s : ByteArray} {n : Nat} (h : n ≤ s.size) (d : Nat) (b : Int) (ks : List ByteArray) : I (cut s n) d b n ks (.er 3 n) := by
  by_cases hb : b = 91
  · exact W.val d b n ks n ⟨#[]⟩ 3 n (by unfold keyR; rw [if_pos hb]) (V_end h d)
  · refine W.key d b n ks 3 n ?_
    have e : quoR (cut s n) n = ⟨3, n, n, []⟩ := by unfold quoR; rw [if_neg (by rw [cut_end h (Nat.le_refl _)]; decide), cut_miss h]
    unfold keyR
    rw [if_neg hb, e, if_pos (show (3 : Int) ≠ 0 by decide)]
theorem cut_wordO {s : ByteArray} {n k : Nat} (h : n ≤ s.size) (hk : k ≤ n) (kind : Int) (l : List UInt8) {j : Nat} {v : Val} (h0 : wordO s k kind l = .ok j v) :
    if j ≤ n then wordO (cut s n) k kind l = .ok j v else wordO (cut s n) k kind l = .er 3 n := by
  unfold wordO at *
  split at h0
  · rename_i h1
    have hw := cut_word h l k hk h1
    have he := wordR_ok s l k h1
    have hj : (wordR s k l).1 = j := by injection h0
    by_cases hn : k + l.length ≤ n
    · rw [if_pos hn] at hw
      rw [if_pos (by omega), hw, if_pos h1]
      exact h0
    · rw [if_neg hn] at hw
      rw [if_neg (by omega), hw, if_neg (show ¬ (3 : Int) = 0 by decide)]
  · cases h0
theorem cut_leaf {s : ByteArray} {n k : Nat} (h : n ≤ s.size) (hk : k < n) {j : Nat} {v : Val} (h0 : leafR s k = .ok j v) :
    if j ≤ n then leafR (cut s n) k = .ok j v else (Short n (leafR (cut s n) k) ∧ (byteI s k = 34 → leafR (cut s n) k = .er 3 n)) := by
  have eb := cut_I h hk
  have hw := fun kind l => cut_wordO h (Nat.le_of_lt hk) kind l (j := j) (v := v)
  by_cases b0 : byteI s k = 110
  · have e : ∀ t : ByteArray, byteI t k = 110 → leafR t k = wordO t k 0 [110, 117, 108, 108] := fun t ht => by unfold leafR; rw [if_pos ht]
    rw [e s b0] at h0
    have := hw _ _ h0
    rw [e _ (eb.trans b0)]
    split
    · rw [if_pos ‹_›] at this; exact this
    · rw [if_neg ‹_›] at this; exact ⟨.inl this, fun hb => by rw [b0] at hb; exact absurd hb (by decide)⟩
  by_cases b1 : byteI s k = 102
  · have e : ∀ t : ByteArray, byteI t k = 102 → leafR t k = wordO t k 1 [102, 97, 108, 115, 101] := fun t ht => by unfold leafR; rw [if_neg (by rw [ht]; decide), if_pos ht]
    rw [e s b1] at h0
    have := hw _ _ h0
    rw [e _ (eb.trans b1)]
    split
    · rw [if_pos ‹_›] at this; exact this
    · rw [if_neg ‹_›] at this; exact ⟨.inl this, fun hb => by rw [b1] at hb; exact absurd hb (by decide)⟩
  by_cases b2 : byteI s k = 116
  · have e : ∀ t : ByteArray, byteI t k = 116 → leafR t k = wordO t k 2 [116, 114, 117, 101] := fun t ht => by unfold leafR; rw [if_neg (by rw [ht]; decide), if_neg (by rw [ht]; decide), if_pos ht]
    rw [e s b2] at h0
    have := hw _ _ h0
    rw [e _ (eb.trans b2)]
    split
    · rw [if_pos ‹_›] at this; exact this
    · rw [if_neg ‹_›] at this; exact ⟨.inl this, fun hb => by rw [b2] at hb; exact absurd hb (by decide)⟩
  by_cases b4 : byteI s k = 34
  · have e : ∀ t : ByteArray, byteI t k = 34 → leafR t k = if (quoR t k).c = 0 then .ok (quoR t k).k (.mk 4 ⟨(quoR t k).t.toArray⟩ 0 [] [] k) else .er (quoR t k).c (quoR t k).a := fun t ht => by
      unfold leafR; rw [if_neg (by rw [ht]; decide), if_neg (by rw [ht]; decide), if_neg (by rw [ht]; decide), if_pos ht]
    rw [e s b4] at h0
    rw [e _ (eb.trans b4)]
    by_cases hc : (quoR s k).c = 0
    · rw [if_pos hc] at h0
      have hj : (quoR s k).k = j := by injection h0
      have hq := cut_quo h (Nat.le_of_lt hk) hc
      by_cases hn : j ≤ n
      · rw [if_pos (by omega)] at hq
        rw [if_pos hn, hq, if_pos hc]
        exact h0
      · rw [if_neg (by omega)] at hq
        rw [if_neg hn, if_neg (by rw [hq.1]; decide), hq.1, hq.2]
        exact ⟨.inl rfl, fun _ => rfl⟩
    · rw [if_neg hc] at h0; cases h0
  · have e : ∀ t : ByteArray, byteI t k = byteI s k → leafR t k = if numC t k = 0 then .ok (numK t k) (.mk 3 ⟨#[]⟩ (numN t k) [] [] k) else .er (numC t k) k := fun t ht => by
      unfold leafR; rw [if_neg (by rw [ht]; exact b0), if_neg (by rw [ht]; exact b1), if_neg (by rw [ht]; exact b2), if_neg (by rw [ht]; exact b4)]
    rw [e s rfl] at h0
    rw [e _ eb]
    by_cases hc : numC s k = 0
    · rw [if_pos hc] at h0
      have hj : numK s k = j := by injection h0
      obtain ⟨n1, n2, n3⟩ := cut_num h hk hc
      rw [if_pos n1]
      by_cases hn : j ≤ n
      · rw [if_pos hn, n2, n3 (by omega), show min n (numK s k) = numK s k by omega]
        exact h0
      · rw [if_neg hn, n2, show min n (numK s k) = n by omega]
        exact ⟨.inr ⟨_, rfl⟩, fun hb => absurd hb b4⟩
    · rw [if_neg hc] at h0; cases h0
theorem cut_key {s : ByteArray} {n p : Nat} (h : n ≤ s.size) (hp : p ≤ n) {b : Int} {ks : List ByteArray} {q : Nat} {key : ByteArray} (h0 : keyR s b p ks = .ok q key) :
    keyR (cut s n) b p ks = .ok (min n q) key ∨ (n < q ∧ keyR (cut s n) b p ks = .er 3 n) := by
  have hq := keyR_ok (by omega) h0
  by_cases hb : b = 91
  · have e : ∀ t : ByteArray, keyR t b p ks = .ok p ⟨#[]⟩ := fun t => by unfold keyR; rw [if_pos hb]
    rw [e] at h0
    injection h0 with e1 e2
    subst e1
    subst e2
    left
    rw [e, show min n p = p by omega]
  · unfold keyR at h0
    rw [if_neg hb] at h0
    split at h0
    · cases h0
    · rename_i hc
      have hc' : (quoR s p).c = 0 := by simpa using hc
      split at h0
      · cases h0
      · rename_i hk
        split at h0
        · rename_i hcol
          injection h0 with e1 e2
          have ck := cut_quo h hp hc'
          have qok := quoR_ok hc'
          have s1 := sk_le s (quoR s p).k qok.2
          have hlt := byteI_pos (s := s) (k := sk s (quoR s p).k) (by rw [hcol]; decide)
          have s2 := sk_le s (sk s (quoR s p).k + 1) (by omega)
          by_cases h1 : (quoR s p).k ≤ n
          · rw [if_pos h1] at ck
            have e3 := cut_sk h h1
            by_cases h2 : sk s (quoR s p).k < n
            · left
              unfold keyR
              rw [if_neg hb, ck, if_neg hc, if_neg hk, e3, show min n (sk s (quoR s p).k) = sk s (quoR s p).k by omega, cut_I h h2, if_pos hcol, cut_sk h (by omega), e1, e2]
            · right
              refine ⟨by omega, ?_⟩
              unfold keyR
              rw [if_neg hb, ck, if_neg hc, if_neg hk, e3, show min n (sk s (quoR s p).k) = n by omega, cut_end h (Nat.le_refl _), if_neg (by decide), cut_miss h]
          · rw [if_neg h1] at ck
            right
            refine ⟨by omega, ?_⟩
            unfold keyR
            rw [if_neg hb, if_pos (by rw [ck.1]; decide), ck.1, ck.2]
        · cases h0
/-- What is said of a text, where it is a value, cut at a place. -/
def Say.Cut (s : ByteArray) : Say → Prop
  | .v d k (.ok j x) => ∀ n, n ≤ s.size → k ≤ n → if j ≤ n then V (cut s n) d k (.ok j x) else ∃ o, V (cut s n) d k o ∧ Short n o ∧ (opens (byteI s k) ∨ byteI s k = 34 → o = .er 3 n)
  | .i d b p ks (.ok j xs kk) => ∀ n, n ≤ s.size → p ≤ n → if j ≤ n then I (cut s n) d b p ks (.ok j xs kk) else I (cut s n) d b p ks (.er 3 n)
  | _ => True
theorem missC_cut {s : ByteArray} {n : Nat} (h : n ≤ s.size) {x : Int} (hx : x ≠ 0) : byteI (cut s n) n ≠ x := by rw [cut_end h (Nat.le_refl _)]; exact fun e => hx e.symm
theorem shut_ne (b : Int) : shutI b ≠ 0 := by unfold shutI; split <;> decide
/-- Behind an item that is whole, or that ends with the cut: the row is too short. -/
theorem I_short {s : ByteArray} {n d p q : Nat} {b : Int} {ks : List ByteArray} {key : ByteArray} {j : Nat} {v : Val} (h : n ≤ s.size) (hk : keyR (cut s n) b p ks = .ok q key) (hv : V (cut s n) d q (.ok j v)) (hj : sk (cut s n) j = n) : I (cut s n) d b p ks (.er 3 n) := by
  have := W.sep d b p ks q key j v hk hv (by rw [hj]; exact missC_cut h (shut_ne b)) (by rw [hj]; exact missC_cut h (by decide))
  rwa [hj, cut_miss h] at this
theorem sk_cut_end {s : ByteArray} {n : Nat} (h : n ≤ s.size) : sk (cut s n) n = n := by
  rw [cut_sk h (Nat.le_refl _)]
  have := sk_le s n h
  omega
/-- Ahead of what stands behind a first item: the item's own ways to be too short. -/
theorem item_short {s : ByteArray} {n d p q : Nat} {b : Int} {ks : List ByteArray} {key : ByteArray} {j : Nat} {v : Val} (h : n ≤ s.size) (hp : p ≤ n) (h0 : keyR s b p ks = .ok q key) (hq : q ≤ s.size) (ih : (Say.v d q (.ok j v)).Cut s) (hV : j ≤ s.size)
    (hs : n ≤ sk s j) : I (cut s n) d b p ks (.er 3 n) := by
  rcases cut_key h hp h0 with hk | ⟨_, hk⟩
  · by_cases hqn : q ≤ n
    · rw [show min n q = q by omega] at hk
      have i1 := ih n h hqn
      by_cases hj : j ≤ n
      · rw [if_pos hj] at i1
        refine I_short h hk i1 ?_
        rw [cut_sk h hj]
        omega
      · rw [if_neg hj] at i1
        obtain ⟨o, ho, hsh, -⟩ := i1
        rcases hsh with rfl | ⟨v', rfl⟩
        · exact W.val d b p ks q key 3 n hk ho
        · exact I_short h hk ho (sk_cut_end h)
    · rw [show min n q = n by omega] at hk
      exact W.val d b p ks n key 3 n hk (V_end h d)
  · exact W.key d b p ks 3 n hk
theorem item_whole {s : ByteArray} {n d p q : Nat} {b : Int} {ks : List ByteArray} {key : ByteArray} {j : Nat} {v : Val} (h : n ≤ s.size) (hp : p ≤ n) (h0 : keyR s b p ks = .ok q key) (ih : (Say.v d q (.ok j v)).Cut s) (hqj : q ≤ j) (hj : j ≤ n) :
    keyR (cut s n) b p ks = .ok q key ∧ V (cut s n) d q (.ok j v) := by
  rcases cut_key h hp h0 with hk | ⟨hn, hk⟩
  · rw [show min n q = q by omega] at hk
    have i1 := ih n h (by omega)
    rw [if_pos hj] at i1
    exact ⟨hk, i1⟩
  · omega
end Go.Proofs.YtbaglmjbncalpaaDoor
