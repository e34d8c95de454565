/-
  Package tree by contracts, fifteenth part: chapter 5's example holds.
-/
import Derived.Test.YtabcbeolhhdkpaaGreatDoorTreeP
namespace Go.Proofs.YtabcbeolhhdkpaaGreatDoor
open Go.RowKit Go.Extern.Stop Go.Stop Go.Extern Go.WideMaps

def t5a : ByteArray := ⟨#[91, 49, 44, 32, 123, 34, 97, 34, 58, 32, 34, 98, 34, 125, 93]⟩
def t5b : ByteArray := ⟨#[91, 49, 44, 93]⟩
theorem sk_here {s : ByteArray} {k : Nat} (h : k < s.size) (hb : isBl (s[k].toNat : Int) = false) : sk s k = k := runTo_stop h hb
theorem sk_on {s : ByteArray} {k : Nat} (h : k < s.size) (hb : isBl (s[k].toNat : Int) = true) : sk s k = sk s (k + 1) := runTo_go h hb
theorem num_of {s : ByteArray} {k j : Nat} {n : Int} (hr : runTo isDig s k = j) (hj : j ≠ k) (hd : parseR (s.extract k j).data.toList = (n, 0, 0)) : numC s k = 0 ∧ numK s k = j ∧ numN s k = n := by
  have e : digsR s k = (n, 0, 0) := by unfold digsR; rw [hr]; exact hd
  unfold numC numK numN
  rw [hr, if_neg hj, if_neg hj, if_neg hj, e]
  exact ⟨rfl, rfl, rfl⟩
theorem leaf_num {s : ByteArray} {k j : Nat} {n : Int} (h : byteI s k ≠ 110 ∧ byteI s k ≠ 102 ∧ byteI s k ≠ 116 ∧ byteI s k ≠ 34) (hc : numC s k = 0 ∧ numK s k = j ∧ numN s k = n) : leafR s k = .ok j (.mk 3 ⟨#[]⟩ n [] [] k) := by
  unfold leafR
  rw [if_neg h.1, if_neg h.2.1, if_neg h.2.2.1, if_neg h.2.2.2, if_pos hc.1, hc.2.1, hc.2.2]
theorem leaf_bad {s : ByteArray} {k : Nat} (h : byteI s k ≠ 110 ∧ byteI s k ≠ 102 ∧ byteI s k ≠ 116 ∧ byteI s k ≠ 34) (hc : numC s k ≠ 0) : leafR s k = .er (numC s k) k := by
  unfold leafR
  rw [if_neg h.1, if_neg h.2.1, if_neg h.2.2.1, if_neg h.2.2.2, if_neg hc]
theorem txt_one {s : ByteArray} {k : Nat} (h : byteI s k ≠ 34) (hs : (signR s k).c = 0 ∧ (signR s k).k = k + 1) (he : byteI s (k + 1) = 34) : txtR s k = ⟨0, 0, k + 2, [(signR s k).b]⟩ := by
  rw [txtR_go h hs.1, hs.2, txtR_end he]
theorem num5a : numC t5a 1 = 0 ∧ numK t5a 1 = 2 ∧ numN t5a 1 = 1 := num_of (by rw [runTo_go (by decide) (by decide), runTo_stop (by decide) (by decide)]) (by decide) (by decide)
theorem num5b : numC t5b 1 = 0 ∧ numK t5b 1 = 2 ∧ numN t5b 1 = 1 := num_of (by rw [runTo_go (by decide) (by decide), runTo_stop (by decide) (by decide)]) (by decide) (by decide)
theorem key5a : quoR t5a 5 = ⟨0, 0, 8, [97]⟩ := by
  unfold quoR
  rw [if_pos (by decide), txt_one (by decide) (by decide) (by decide)]
  rfl
theorem txt5a : quoR t5a 10 = ⟨0, 0, 13, [98]⟩ := by
  unfold quoR
  rw [if_pos (by decide), txt_one (by decide) (by decide) (by decide)]
  rfl
def v5a : Val := .mk 5 ⟨#[]⟩ 0 [.mk 3 ⟨#[]⟩ 1 [] [] 1, .mk 6 ⟨#[]⟩ 0 [.mk 4 ⟨#[98]⟩ 0 [] [] 10] [⟨#[97]⟩] 4] [] 0
theorem sk5a : sk t5a 0 = 0 ∧ sk t5a 1 = 1 ∧ sk t5a 2 = 2 ∧ sk t5a 3 = 4 ∧ sk t5a 5 = 5 ∧ sk t5a 8 = 8 ∧ sk t5a 9 = 10 ∧ sk t5a 13 = 13 ∧ sk t5a 14 = 14 ∧ sk t5a 15 = 15 :=
  ⟨sk_here (by decide) (by decide), sk_here (by decide) (by decide), sk_here (by decide) (by decide), (sk_on (by decide) (by decide)).trans (sk_here (by decide) (by decide)), sk_here (by decide) (by decide), sk_here (by decide) (by decide),
    (sk_on (by decide) (by decide)).trans (sk_here (by decide) (by decide)), sk_here (by decide) (by decide), sk_here (by decide) (by decide), runTo_end (by decide)⟩
theorem whole5a : Whole t5a (.ok 15 v5a) := by
  obtain ⟨s0, s1, s2, s3, s5, s8, s9, s13, s14, s15⟩ := sk5a
  have l1 : V t5a 1 1 (.ok 2 (.mk 3 ⟨#[]⟩ 1 [] [] 1)) := by
    have := W.leaf (s := t5a) 1 1 (by decide)
    rwa [leaf_num (by decide) num5a] at this
  have l10 : V t5a 2 10 (.ok 13 (.mk 4 ⟨#[98]⟩ 0 [] [] 10)) := by
    have := W.leaf (s := t5a) 2 10 (by decide)
    unfold leafR at this
    rw [if_neg (by decide), if_neg (by decide), if_neg (by decide), if_pos (by decide), txt5a] at this
    exact this
  have k5 : keyR t5a 123 5 [] = .ok 10 ⟨#[97]⟩ := by
    unfold keyR
    rw [if_neg (by decide), key5a, if_neg (by decide), if_neg (by decide), s8, if_pos (by decide), s9]
  have i5 : I t5a 2 123 5 [] (.ok 14 [.mk 4 ⟨#[98]⟩ 0 [] [] 10] [⟨#[97]⟩]) := by
    have := W.last (s := t5a) 2 123 5 [] 10 ⟨#[97]⟩ 13 _ k5 l10 (by rw [s13]; decide)
    rwa [s13] at this
  have o4 : V t5a 1 4 (.ok 14 (.mk 6 ⟨#[]⟩ 0 [.mk 4 ⟨#[98]⟩ 0 [] [] 10] [⟨#[97]⟩] 4)) := by
    have b4 : byteI t5a 4 = 123 := by decide
    have := W.some (s := t5a) 1 4 (.ok 14 [.mk 4 ⟨#[98]⟩ 0 [] [] 10] [⟨#[97]⟩]) (by decide) (by decide) (by rw [s5]; decide) (by rw [s5, b4]; exact i5)
    rw [b4] at this
    exact this
  have i4 : I t5a 1 91 4 [⟨#[]⟩] (.ok 15 [.mk 6 ⟨#[]⟩ 0 [.mk 4 ⟨#[98]⟩ 0 [] [] 10] [⟨#[97]⟩] 4] [⟨#[]⟩]) := by
    have := W.last (s := t5a) 1 91 4 [⟨#[]⟩] 4 ⟨#[]⟩ 14 _ (by unfold keyR; rw [if_pos rfl]) o4 (by rw [s14]; decide)
    rwa [s14] at this
  have i1 : I t5a 1 91 1 [] (.ok 15 [.mk 3 ⟨#[]⟩ 1 [] [] 1, .mk 6 ⟨#[]⟩ 0 [.mk 4 ⟨#[98]⟩ 0 [] [] 10] [⟨#[97]⟩] 4] [⟨#[]⟩, ⟨#[]⟩]) :=
    W.more (s := t5a) 1 91 1 [] 1 ⟨#[]⟩ 2 _ (.ok 15 [.mk 6 ⟨#[]⟩ 0 [.mk 4 ⟨#[98]⟩ 0 [] [] 10] [⟨#[97]⟩] 4] [⟨#[]⟩]) (by unfold keyR; rw [if_pos rfl]) l1 (by rw [s2]; decide) (by rw [s2, s3]; exact i4)
  have o0 : V t5a 0 0 (.ok 15 v5a) := by
    have b0 : byteI t5a 0 = 91 := by decide
    have := W.some (s := t5a) 0 0 (.ok 15 [.mk 3 ⟨#[]⟩ 1 [] [] 1, .mk 6 ⟨#[]⟩ 0 [.mk 4 ⟨#[98]⟩ 0 [] [] 10] [⟨#[97]⟩] 4] [⟨#[]⟩, ⟨#[]⟩]) (by decide) (by decide) (by rw [s1]; decide) (by rw [s1, b0]; exact i1)
    rw [b0] at this
    exact this
  exact .inr ⟨by decide, _, by rw [s0]; exact o0, .inr ⟨15, v5a, rfl, .inl ⟨s15, rfl⟩⟩⟩
theorem whole5b : Whole t5b (.er 4 3) := by
  have s0 : sk t5b 0 = 0 := sk_here (by decide) (by decide)
  have s1 : sk t5b 1 = 1 := sk_here (by decide) (by decide)
  have s2 : sk t5b 2 = 2 := sk_here (by decide) (by decide)
  have s3 : sk t5b 3 = 3 := sk_here (by decide) (by decide)
  have l1 : V t5b 1 1 (.ok 2 (.mk 3 ⟨#[]⟩ 1 [] [] 1)) := by
    have := W.leaf (s := t5b) 1 1 (by decide)
    rwa [leaf_num (by decide) num5b] at this
  have c3 : numC t5b 3 = 4 := by
    unfold numC
    rw [if_pos (runTo_stop (by decide) (by decide))]
    decide
  have l3 : V t5b 1 3 (.er 4 3) := by
    have := W.leaf (s := t5b) 1 3 (by decide)
    rwa [leaf_bad (by decide) (by rw [c3]; decide), c3] at this
  have i3 : I t5b 1 91 3 [⟨#[]⟩] (.er 4 3) := W.val (s := t5b) 1 91 3 [⟨#[]⟩] 3 ⟨#[]⟩ 4 3 (by unfold keyR; rw [if_pos rfl]) l3
  have i1 : I t5b 1 91 1 [] (.er 4 3) := W.more (s := t5b) 1 91 1 [] 1 ⟨#[]⟩ 2 _ (.er 4 3) (by unfold keyR; rw [if_pos rfl]) l1 (by rw [s2]; decide) (by rw [s2, s3]; exact i3)
  have o0 : V t5b 0 0 (.er 4 3) := by
    have b0 : byteI t5b 0 = 91 := by decide
    have := W.some (s := t5b) 0 0 (.er 4 3) (by decide) (by decide) (by rw [s1]; decide) (by rw [s1, b0]; exact i1)
    exact this
  exact .inr ⟨by decide, _, by rw [s0]; exact o0, .inl ⟨4, 3, rfl, rfl⟩⟩
theorem v5a_size : vsize v5a = 4 := by simp [v5a, vsize, lsize]
theorem v5a_deep : vdeep v5a = 2 := by simp [v5a, vdeep, ldeep]
end Go.Proofs.YtabcbeolhhdkpaaGreatDoor
