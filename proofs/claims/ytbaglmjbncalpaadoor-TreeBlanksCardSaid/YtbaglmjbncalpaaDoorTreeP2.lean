/-
  Layer 5, plain: a text with blanks ahead of and behind it: the same value, as much farther; or none.
-/
import Derived.Test.YtbaglmjbncalpaaDoorTreeZ
namespace Go.Proofs.YtbaglmjbncalpaaDoor
open Go.RowKit Go.Extern.Stop Go.Stop Go.Extern

mutual
/-- A value as much farther. -/
def farV (n : Nat) : Val → Val
  | .mk k t u l ks a => .mk k t u (farL n l) ks (a + n)
def farL (n : Nat) : List Val → List Val
  | [] => []
  | x :: r => farV n x :: farL n r
end
def Out.isEr : Out → Prop
  | .ok _ _ => False
  | .er _ _ => True
def Outs.isEr : Outs → Prop
  | .ok _ _ _ => False
  | .er _ _ => True
theorem Out.isEr_er {o : Out} (h : o.isEr) : ∃ c a, o = .er c a := by cases o with | ok => exact h.elim | er c a => exact ⟨c, a, rfl⟩
theorem Outs.isEr_er {o : Outs} (h : o.isEr) : ∃ c a, o = .er c a := by cases o with | ok => exact h.elim | er c a => exact ⟨c, a, rfl⟩
/-- What an answer of a text is, where it is padded. -/
def Out.Far (n : Nat) : Out → Out → Prop
  | .ok j x, o => o = .ok (j + n) (farV n x)
  | .er _ _, o => o.isEr
def Outs.Far (n : Nat) : Outs → Outs → Prop
  | .ok j xs ks, o => o = .ok (j + n) (farL n xs) ks
  | .er _ _, o => o.isEr
theorem Pad.wordO {s T : ByteArray} {n k : Nat} (h : Pad s T n) (hk : k ≤ s.size) (kind : Int) (l : List UInt8) (hl : ∀ b ∈ l, b.toNat ≠ 9) : (wordO s k kind l).Far n (wordO T (k + n) kind l) := by
  obtain ⟨g1, g2⟩ := h.word l k hk hl
  unfold Go.Proofs.YtbaglmjbncalpaaDoor.wordO
  by_cases hc : (wordR s k l).2 = 0
  · rw [if_pos hc, g1 hc, if_pos rfl]
    show _ = _
    rw [farV, farL]
    congr 2
  · rw [if_neg hc, if_neg (g2 hc)]
    trivial
theorem leafR_none {T : ByteArray} {k : Nat} (h : ¬ k < T.size) : (leafR T k).isEr := by
  have e := byteI_ge h
  unfold leafR
  rw [e, if_neg (by decide), if_neg (by decide), if_neg (by decide), if_neg (by decide)]
  have hn : numC T k = missC T k := by unfold numC; rw [if_pos (runTo_end h)]
  rw [hn, if_neg (missC_ne _ _)]
  trivial
theorem Pad.leaf {s T : ByteArray} {n k : Nat} (h : Pad s T n) (hk : k < s.size) : (leafR s k).Far n (leafR T (k + n)) := by
  have e := h.I hk
  unfold leafR
  rw [e]
  split
  · exact h.wordO (Nat.le_of_lt hk) _ _ (by decide)
  · split
    · exact h.wordO (Nat.le_of_lt hk) _ _ (by decide)
    · split
      · exact h.wordO (Nat.le_of_lt hk) _ _ (by decide)
      · split
        · obtain ⟨g1, g2⟩ := h.quo hk
          by_cases hc : (quoR s k).c = 0
          · obtain ⟨j1, j2, j3⟩ := g1 hc
            rw [if_pos hc, if_pos j1, j2, j3]
            show _ = _
            rw [farV, farL]
            congr 2
          · rw [if_neg hc, if_neg (g2 hc)]
            trivial
        · obtain ⟨g1, g2⟩ := h.num hk
          by_cases hc : numC s k = 0
          · obtain ⟨j1, j2, j3⟩ := g1 hc
            rw [if_pos hc, if_pos j1, j2, j3]
            show _ = _
            rw [farV, farL]
            congr 2
          · rw [if_neg hc, if_neg (g2 hc)]
            trivial
def KOut.Far (s T : ByteArray) (n : Nat) : KOut → KOut → Prop
  | .ok q key, o => o = .ok (mu s T n q) key
  | .er _ _, o => ∃ c a, o = .er c a
theorem Pad.key {s T : ByteArray} {n p : Nat} (h : Pad s T n) (hp : p ≤ s.size) (b : Int) (ks : List ByteArray) : (keyR s b p ks).Far s T n (keyR T b (mu s T n p) ks) := by
  by_cases hb : b = 91
  · have e : ∀ (t : ByteArray) (p : Nat), keyR t b p ks = .ok p ⟨#[]⟩ := fun t p => by unfold keyR; rw [if_pos hb]
    rw [e, e]
    rfl
  by_cases hps : p < s.size
  · rw [mu_lt hps]
    obtain ⟨g1, g2⟩ := h.quo hps
    unfold keyR
    rw [if_neg hb, if_neg hb]
    by_cases hc : (quoR s p).c = 0
    · obtain ⟨j1, j2, j3⟩ := g1 hc
      have q1 := quoR_ok hc
      have hs := h.sk q1.2
      have ns : ¬ (quoR s p).c ≠ 0 := fun e => e hc
      have nT : ¬ (quoR T (p + n)).c ≠ 0 := fun e => e j1
      rw [if_neg ns, if_neg nT, j3, j2, hs, h.mI]
      by_cases hk : hasKey ks ⟨(quoR s p).t.toArray⟩ = true
      · rw [if_pos hk, if_pos hk]
        exact ⟨_, _, rfl⟩
      · rw [if_neg hk, if_neg hk]
        by_cases h58 : byteI s (Go.Proofs.YtbaglmjbncalpaaDoor.sk s (quoR s p).k) = 58
        · have hlt := byteI_pos (s := s) (k := Go.Proofs.YtbaglmjbncalpaaDoor.sk s (quoR s p).k) (by rw [h58]; decide)
          rw [if_pos h58, if_pos h58, mu_lt hlt, show Go.Proofs.YtbaglmjbncalpaaDoor.sk s (quoR s p).k + n + 1 = Go.Proofs.YtbaglmjbncalpaaDoor.sk s (quoR s p).k + 1 + n by omega, h.sk (by omega)]
          rfl
        · rw [if_neg h58, if_neg h58]
          exact ⟨_, _, rfl⟩
    · rw [if_pos hc, if_pos (g2 hc)]
      exact ⟨_, _, rfl⟩
  · have e1 : byteI s p = 0 := byteI_ge hps
    have e2 : byteI T (mu s T n p) = 0 := by rw [h.mI]; exact e1
    have q1 : quoR s p = ⟨missC s p, p, p, []⟩ := by unfold quoR; rw [if_neg (by rw [e1]; decide)]
    have q2 : quoR T (mu s T n p) = ⟨missC T (mu s T n p), mu s T n p, mu s T n p, []⟩ := by unfold quoR; rw [if_neg (by rw [e2]; decide)]
    unfold keyR
    rw [if_neg hb, if_neg hb, q1, q2, if_pos (missC_ne _ _), if_pos (missC_ne _ _)]
    exact ⟨_, _, rfl⟩
/-- What is said of a text, padded. -/
def Say.Padded (s T : ByteArray) (n : Nat) : Say → Prop
  | .v d k o => k ≤ s.size → ∃ o', V T d (mu s T n k) o' ∧ o.Far n o'
  | .i d b p ks o => p ≤ s.size → ∃ o', I T d b (mu s T n p) ks o' ∧ o.Far n o'
theorem W.padded {s T : ByteArray} {n : Nat} (h : Pad s T n) {g : Say} (hg : W s g) : g.Padded s T n := by
  induction hg with
  | leaf d k h0 =>
    intro hk
    have hno : ¬ opens (byteI T (mu s T n k)) := by rw [h.mI]; exact h0
    refine ⟨_, W.leaf d _ hno, ?_⟩
    by_cases hks : k < s.size
    · rw [mu_lt hks]; exact h.leaf hks
    · rw [mu_ge hks]
      obtain ⟨c, a, e⟩ := Out.isEr_er (leafR_none hks)
      rw [e]
      exact leafR_none (Nat.lt_irrefl _)
  | deep d k h0 h1 =>
    intro hk
    exact ⟨_, W.deep d _ (by rw [h.mI]; exact h0) h1, trivial⟩
  | none d k h0 h1 h2 =>
    intro hk
    have a0 := opens_lt h0
    have a1 := sk_le s (k + 1) (by omega)
    have a2 := byteI_pos (s := s) (k := Go.Proofs.YtbaglmjbncalpaaDoor.sk s (k + 1)) (by rw [h2]; unfold shutI; split <;> decide)
    have e := h.sk (show k + 1 ≤ s.size by omega)
    rw [show k + 1 + n = k + n + 1 by omega, mu_lt a2] at e
    have hb := h.I a0
    have := W.none (s := T) d (k + n) (by rw [hb]; exact h0) h1 (by rw [e, h.I a2, hb]; exact h2)
    rw [mu_lt a0]
    refine ⟨_, this, ?_⟩
    rw [e, hb]
    show _ = _
    unfold Outs.wrap
    simp only [farV, farL]
    congr 1
    omega
  | some d k o h0 h1 h2 hI ih =>
    intro hk
    have a0 := opens_lt h0
    have a1 := sk_le s (k + 1) (by omega)
    have e := h.sk (show k + 1 ≤ s.size by omega)
    rw [show k + 1 + n = k + n + 1 by omega] at e
    have hb := h.I a0
    obtain ⟨o', ho', hf⟩ := ih a1.2
    have := W.some (s := T) d (k + n) o' (by rw [hb]; exact h0) h1 (by rw [e, h.mI, hb]; exact h2) (by rw [e, hb]; exact ho')
    rw [mu_lt a0]
    refine ⟨_, this, ?_⟩
    rw [hb]
    cases o with
    | er c a =>
      obtain ⟨c', a', rfl⟩ := Outs.isEr_er hf
      trivial
    | ok j xs kk =>
      obtain rfl := hf
      show _ = _
      unfold Outs.wrap
      simp only [farV]
      congr 2
  | key d b p ks c a h0 =>
    intro hp
    have := h.key hp b ks
    rw [h0] at this
    obtain ⟨c', a', e⟩ := this
    exact ⟨_, W.key d b _ ks c' a' e, trivial⟩
  | val d b p ks q key c a h0 hV ih =>
    intro hp
    have hk := h.key hp b ks
    rw [h0] at hk
    have a1 := keyR_ok hp h0
    obtain ⟨o', ho', hf⟩ := ih a1.2
    obtain ⟨c', a', rfl⟩ := Out.isEr_er hf
    exact ⟨_, W.val d b _ ks _ key c' a' hk ho', trivial⟩
  | last d b p ks q key j v h0 hV h1 ih =>
    intro hp
    have hk := h.key hp b ks
    rw [h0] at hk
    have a1 := keyR_ok hp h0
    have hfit : Out.Fits s q (.ok j v) := W.fits hV a1.2
    have a4 := byteI_pos (s := s) (k := Go.Proofs.YtbaglmjbncalpaaDoor.sk s j) (by rw [h1]; unfold shutI; split <;> decide)
    obtain ⟨o', ho', hf⟩ := ih a1.2
    obtain rfl := hf
    have e := h.sk hfit.2
    rw [mu_lt a4] at e
    refine ⟨_, W.last d b _ ks _ key _ _ hk ho' (by rw [e, h.I a4]; exact h1), ?_⟩
    rw [e]
    show _ = _
    simp only [farL]
    congr 1
    omega
  | sep d b p ks q key j v h0 hV h1 h2 ih =>
    intro hp
    have hk := h.key hp b ks
    rw [h0] at hk
    have a1 := keyR_ok hp h0
    have hfit : Out.Fits s q (.ok j v) := W.fits hV a1.2
    obtain ⟨o', ho', hf⟩ := ih a1.2
    obtain rfl := hf
    have e := h.sk hfit.2
    exact ⟨_, W.sep d b _ ks _ key _ _ hk ho' (by rw [e, h.mI]; exact h1) (by rw [e, h.mI]; exact h2), trivial⟩
  | more d b p ks q key j v o h0 hV h1 hI ihV ihI =>
    intro hp
    have hk := h.key hp b ks
    rw [h0] at hk
    have a1 := keyR_ok hp h0
    have hfit : Out.Fits s q (.ok j v) := W.fits hV a1.2
    have a3 := sk_le s j hfit.2
    have a4 := byteI_pos (s := s) (k := Go.Proofs.YtbaglmjbncalpaaDoor.sk s j) (by rw [h1]; decide)
    have a5 := sk_le s (Go.Proofs.YtbaglmjbncalpaaDoor.sk s j + 1) (by omega)
    obtain ⟨o', ho', hf⟩ := ihV a1.2
    obtain rfl := hf
    obtain ⟨o2, ho2, hf2⟩ := ihI a5.2
    have e := h.sk hfit.2
    rw [mu_lt a4] at e
    have e2 := h.sk (show Go.Proofs.YtbaglmjbncalpaaDoor.sk s j + 1 ≤ s.size by omega)
    rw [show Go.Proofs.YtbaglmjbncalpaaDoor.sk s j + 1 + n = Go.Proofs.YtbaglmjbncalpaaDoor.sk s j + n + 1 by omega] at e2
    refine ⟨_, W.more d b _ ks _ key _ _ o2 hk ho' (by rw [e, h.I a4]; exact h1) (by rw [e, e2]; exact ho2), ?_⟩
    cases o with
    | er c a =>
      obtain ⟨c', a', rfl⟩ := Outs.isEr_er hf2
      trivial
    | ok J xs kk =>
      obtain rfl := hf2
      show _ = _
      unfold Outs.cons
      simp only [farL]
/-- A whole text, padded: the same value as much farther; or none. -/
theorem whole_pad {s T : ByteArray} {n : Nat} (h : Pad s T n) (hT : T.size ≤ 65536) {o : Out} (hw : Whole s o) : match o with
    | .ok _ x => Whole T (.ok T.size (farV n x))
    | .er _ _ => ∃ c a, Whole T (.er c a) := by
  have hsz := h.size
  have a0 := sk_le s 0 (Nat.zero_le _)
  have e0 : Go.Proofs.YtbaglmjbncalpaaDoor.sk T 0 = mu s T n (Go.Proofs.YtbaglmjbncalpaaDoor.sk s 0) := by
    have e := h.sk (Nat.zero_le s.size)
    rw [Nat.zero_add] at e
    rw [← e]
    have : ∀ m i, n - i = m → i ≤ n → Go.Proofs.YtbaglmjbncalpaaDoor.sk T i = Go.Proofs.YtbaglmjbncalpaaDoor.sk T n := by
      intro m
      induction m with
      | zero => intro i hm hi; rw [show i = n by omega]
      | succ m ih =>
        intro i hm hi
        have hf := h.front i (by omega)
        have hlt : i < T.size := by omega
        rw [byteI_lt hlt] at hf
        unfold Go.Proofs.YtbaglmjbncalpaaDoor.sk at ih ⊢
        rw [runTo_go hlt hf]
        exact ih (i + 1) (by omega) (by omega)
    exact this n 0 (by omega) (Nat.zero_le _)
  rcases hw with ⟨hbig, rfl⟩ | ⟨_, o1, hV, hrest⟩
  · omega
  obtain ⟨o', ho', hf⟩ := (W.padded h hV : (Say.v 0 (Go.Proofs.YtbaglmjbncalpaaDoor.sk s 0) o1).Padded s T n) a0.2
  rw [← e0] at ho'
  rcases hrest with ⟨c, a, rfl, rfl⟩ | ⟨j, v, rfl, ⟨hj, rfl⟩ | ⟨hj, rfl⟩⟩
  · obtain ⟨c', a', rfl⟩ := Out.isEr_er hf
    exact ⟨c', a', .inr ⟨hT, _, ho', .inl ⟨c', a', rfl, rfl⟩⟩⟩
  · obtain rfl := hf
    have hfit : Out.Fits s (Go.Proofs.YtbaglmjbncalpaaDoor.sk s 0) (.ok j v) := V.fits a0.2 hV
    exact .inr ⟨hT, _, ho', .inr ⟨_, _, rfl, .inl ⟨by rw [h.sk hfit.2, hj, mu_ge (Nat.lt_irrefl _)], rfl⟩⟩⟩
  · obtain rfl := hf
    have hfit : Out.Fits s (Go.Proofs.YtbaglmjbncalpaaDoor.sk s 0) (.ok j v) := V.fits a0.2 hV
    have hj2 := sk_le s j hfit.2
    refine ⟨_, _, .inr ⟨hT, _, ho', .inr ⟨_, _, rfl, .inr ⟨?_, rfl⟩⟩⟩⟩
    rw [h.sk hfit.2, mu_lt (by omega)]
    omega
end Go.Proofs.YtbaglmjbncalpaaDoor
