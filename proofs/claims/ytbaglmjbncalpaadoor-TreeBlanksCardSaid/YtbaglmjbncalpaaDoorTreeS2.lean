/-
  Layer 5, plain: what a text's value comes to is no more than the text; no row of keys is longer.
-/
import Derived.Test.YtbaglmjbncalpaaDoorTreeQ2
import Derived.Test.YtbaglmjbncalpaaDoorTreeX
namespace Go.Proofs.YtbaglmjbncalpaaDoor
open Go.RowKit Go.Extern.Stop Go.Stop Go.Extern

def Say.Small (s : ByteArray) : Say → Prop
  | .v _ k (.ok j x) => k ≤ s.size → vsize x ≤ j - k ∧ keysOk x
  | .i _ _ p _ (.ok j xs kk) => p ≤ s.size → lsize xs ≤ j - p ∧ keysOkL xs ∧ kk.length = xs.length
  | _ => True
theorem leaf_small {s : ByteArray} {k j : Nat} {x : Val} (hk : k ≤ s.size) (h : leafR s k = .ok j x) : vsize x ≤ j - k ∧ keysOk x := by
  have hf := leafR_fits hk
  rw [h] at hf
  have hj := hf.1
  have key : ∀ (kind : Int) (t : ByteArray) (n z : Int), (kind ≠ 5 ∧ kind ≠ 6) → vsize (.mk kind t n [] [] z) ≤ j - k ∧ keysOk (.mk kind t n [] [] z) := by
    intro kind t n z hkind
    refine ⟨?_, ?_⟩
    · unfold vsize
      rw [if_neg (by omega)]
      omega
    · rw [keysOk, keysOkL]
      exact ⟨by simp, trivial⟩
  have hw : ∀ (kind : Int) (l : List UInt8), (kind ≠ 5 ∧ kind ≠ 6) → wordO s k kind l = .ok j x → vsize x ≤ j - k ∧ keysOk x := by
    intro kind l hkind h
    unfold wordO at h
    split at h
    · injection h with _ e; subst e; exact key _ _ _ _ hkind
    · cases h
  unfold leafR at h
  split at h
  · exact hw _ _ (by decide) h
  · split at h
    · exact hw _ _ (by decide) h
    · split at h
      · exact hw _ _ (by decide) h
      · split at h
        · split at h
          · injection h with _ e; subst e; exact key _ _ _ _ (by decide)
          · cases h
        · split at h
          · injection h with _ e; subst e; exact key _ _ _ _ (by decide)
          · cases h
theorem W.small {s : ByteArray} (hs : s.size ≤ 1000000) {g : Say} (h : W s g) : g.Small s := by
  induction h with
  | leaf d k h0 =>
    cases ho : leafR s k with
    | er c a => trivial
    | ok j x => intro hk; exact leaf_small hk ho
  | deep d k h0 h1 => trivial
  | none d k h0 h1 h2 =>
    intro hk
    have a0 := opens_lt h0
    have a1 := sk_le s (k + 1) (by omega)
    refine ⟨?_, ?_⟩
    · unfold vsize
      split
      · rw [lsize]; omega
      · omega
    · rw [keysOk, keysOkL]
      exact ⟨by split <;> simp, trivial⟩
  | some d k o h0 h1 h2 hI ih =>
    cases o with
    | er c a => trivial
    | ok j vs kk =>
      intro hk
      have a0 := opens_lt h0
      have a1 := sk_le s (k + 1) (by omega)
      have hf : Outs.Fits s (sk s (k + 1)) (.ok j vs kk) := W.fits hI a1.2
      have f1 := hf.1
      have f2 := hf.2
      obtain ⟨i1, i2, i3⟩ := ih a1.2
      have hl := length_le_lsize vs
      refine ⟨?_, ?_⟩
      · unfold vsize
        split
        · omega
        · omega
      · rw [keysOk]
        refine ⟨?_, i2⟩
        split
        · simp
        · omega
  | key d b p ks c a h0 => trivial
  | val d b p ks q key c a h0 hV ih => trivial
  | last d b p ks q key j v h0 hV h1 ih =>
    intro hp
    have a1 := keyR_ok hp h0
    have hf : Out.Fits s q (.ok j v) := W.fits hV a1.2
    have a3 := sk_le s j hf.2
    have f1 := hf.1
    obtain ⟨i1, i2⟩ := ih a1.2
    refine ⟨?_, ?_, rfl⟩
    · rw [lsize, lsize]; omega
    · rw [keysOkL, keysOkL]; exact ⟨i2, trivial⟩
  | sep d b p ks q key j v h0 hV h1 h2 ih => trivial
  | more d b p ks q key j v o h0 hV h1 hI ihV ihI =>
    cases o with
    | er c a => trivial
    | ok J vs kk =>
      intro hp
      have a1 := keyR_ok hp h0
      have hf : Out.Fits s q (.ok j v) := W.fits hV a1.2
      have a3 := sk_le s j hf.2
      have a4 := byteI_pos (s := s) (k := sk s j) (by rw [h1]; decide)
      have a5 := sk_le s (sk s j + 1) (by omega)
      have hf2 : Outs.Fits s (sk s (sk s j + 1)) (.ok J vs kk) := W.fits hI a5.2
      have f1 := hf.1
      have f2 := hf2.1
      obtain ⟨i1, i2⟩ := ihV a1.2
      obtain ⟨j1, j2, j3⟩ := ihI a5.2
      refine ⟨?_, ?_, ?_⟩
      · rw [lsize]; omega
      · rw [keysOkL]; exact ⟨i2, j2⟩
      · rw [List.length_cons, List.length_cons, j3]
/-- What a whole text's value comes to. -/
theorem whole_small {s : ByteArray} (hs : s.size ≤ 1000000) {x : Val} (h : Whole s (.ok s.size x)) : vsize x ≤ s.size ∧ keysOk x ∧ x.at'' = (sk s 0 : Int) := by
  rcases h with ⟨_, h⟩ | ⟨h0, o1, hV, h⟩
  · cases h
  rcases h with ⟨c, a, _, h⟩ | ⟨j, v, rfl, ⟨hj, h⟩ | ⟨_, h⟩⟩
  · cases h
  · obtain rfl : x = v := by injection h
    have a0 := sk_le s 0 (Nat.zero_le _)
    have hf : Out.Fits s (sk s 0) (.ok j x) := W.fits hV a0.2
    obtain ⟨t1, t2⟩ := (W.small hs hV : (Say.v 0 (sk s 0) (.ok j x)).Small s) a0.2
    have f2 := hf.2
    exact ⟨by omega, t2, ((W.tail hV : (Say.v 0 (sk s 0) (.ok j x)).Tail s) a0.2).1⟩
  · cases h
end Go.Proofs.YtbaglmjbncalpaaDoor
