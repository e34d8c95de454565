/-
  Layer 5, plain: a value's text cut short, by induction; and a whole text cut within its value.
-/
import Derived.Test.YtbaglmjbncalpaaDoorTreeW
namespace Go.Proofs.YtbaglmjbncalpaaDoor
open Go.RowKit Go.Extern.Stop Go.Stop Go.Extern

def Say.cutOk (s : ByteArray) : Say → Prop
  | .v d k o => k ≤ s.size → (Say.v d k o).Cut s
  | .i d b p ks o => p ≤ s.size → (Say.i d b p ks o).Cut s
theorem W.cutOk {s : ByteArray} {g : Say} (h : W s g) : g.cutOk s := by
  induction h with
  | leaf d k h0 =>
    intro hk
    cases ho : leafR s k with
    | er c a => trivial
    | ok j v =>
      intro n hn hkn
      rcases Nat.lt_or_ge k n with h1 | h1
      · have := cut_leaf hn h1 ho
        have hno : ¬ opens (byteI (cut s n) k) := by rw [cut_I hn h1]; exact h0
        split
        · rw [if_pos ‹_›] at this
          exact this ▸ W.leaf d k hno
        · rw [if_neg ‹_›] at this
          exact ⟨_, W.leaf d k hno, this.1, fun hb => hb.elim (fun hb => absurd hb h0) this.2⟩
      · obtain rfl : k = n := by omega
        have hf := leafR_fits hk
        rw [ho] at hf
        rw [if_neg (by have := hf.1; omega)]
        exact ⟨_, V_end hn d, .inl rfl, fun _ => rfl⟩
  | deep d k h0 h1 => intro _; trivial
  | none d k h0 h1 h2 =>
    intro hk n hn hkn
    have a0 := opens_lt h0
    have a1 := sk_le s (k + 1) (by omega)
    rcases Nat.lt_or_ge k n with hlt | hge
    · have hb := cut_I hn hlt
      have hs := cut_sk hn (show k + 1 ≤ n by omega)
      have ho : opens (byteI (cut s n) k) := by rw [hb]; exact h0
      by_cases hj : sk s (k + 1) + 1 ≤ n
      · rw [if_pos hj]
        have e : sk (cut s n) (k + 1) = sk s (k + 1) := by omega
        have := W.none (s := cut s n) d k ho h1 (by rw [e, cut_I hn (by omega), hb]; exact h2)
        rwa [e, hb] at this
      · rw [if_neg hj]
        have e : sk (cut s n) (k + 1) = n := by omega
        refine ⟨_, W.some (s := cut s n) d k (.er 3 n) ho h1 (by rw [e]; exact missC_cut hn (shut_ne _)) (by rw [e]; exact I_end hn _ _ _), .inl rfl, fun _ => rfl⟩
    · obtain rfl : k = n := by omega
      rw [if_neg (by omega)]
      exact ⟨_, V_end hn d, .inl rfl, fun _ => rfl⟩
  | some d k o h0 h1 h2 hI ih =>
    intro hk
    cases o with
    | er c a => trivial
    | ok j vs kk =>
      intro n hn hkn
      have a0 := opens_lt h0
      have a1 := sk_le s (k + 1) (by omega)
      have hf : Outs.Fits s (sk s (k + 1)) (.ok j vs kk) := W.fits hI a1.2
      rcases Nat.lt_or_ge k n with hlt | hge
      · have hb := cut_I hn hlt
        have hs := cut_sk hn (show k + 1 ≤ n by omega)
        have ho : opens (byteI (cut s n) k) := by rw [hb]; exact h0
        rcases Nat.lt_or_ge (sk s (k + 1)) n with hp | hp
        · have e : sk (cut s n) (k + 1) = sk s (k + 1) := by omega
          have i1 := ih a1.2 n hn (Nat.le_of_lt hp)
          have hne : byteI (cut s n) (sk (cut s n) (k + 1)) ≠ shutI (byteI (cut s n) k) := by rw [e, cut_I hn hp, hb]; exact h2
          by_cases hj : j ≤ n
          · rw [if_pos hj] at i1
            rw [if_pos hj]
            have := W.some (s := cut s n) d k _ ho h1 hne (by rw [e, hb]; exact i1)
            rwa [hb] at this
          · rw [if_neg hj] at i1
            rw [if_neg hj]
            exact ⟨_, W.some (s := cut s n) d k _ ho h1 hne (by rw [e, hb]; exact i1), .inl rfl, fun _ => rfl⟩
        · have e : sk (cut s n) (k + 1) = n := by omega
          rw [if_neg (by have := hf.1; omega)]
          refine ⟨_, W.some (s := cut s n) d k (.er 3 n) ho h1 (by rw [e]; exact missC_cut hn (shut_ne _)) (by rw [e]; exact I_end hn _ _ _), .inl rfl, fun _ => rfl⟩
      · obtain rfl : k = n := by omega
        rw [if_neg (by have := hf.1; omega)]
        exact ⟨_, V_end hn d, .inl rfl, fun _ => rfl⟩
  | key d b p ks c a h0 => intro _; trivial
  | val d b p ks q key c a h0 hV ih => intro _; trivial
  | last d b p ks q key j v h0 hV h1 ih =>
    intro hp n hn hpn
    have a1 := keyR_ok hp h0
    have hf : Out.Fits s q (.ok j v) := W.fits hV a1.2
    have a3 := sk_le s j hf.2
    have := hf.1
    by_cases hj : sk s j + 1 ≤ n
    · rw [if_pos hj]
      obtain ⟨hk, hv⟩ := item_whole hn hpn h0 (ih a1.2) (by omega) (show j ≤ n by omega)
      have e : sk (cut s n) j = sk s j := by rw [cut_sk hn (by omega)]; omega
      have := W.last d b p ks q key j v hk hv (by rw [e, cut_I hn (by omega)]; exact h1)
      rwa [e] at this
    · rw [if_neg hj]
      exact item_short hn hpn h0 a1.2 (ih a1.2) hf.2 (by omega)
  | sep d b p ks q key j v h0 hV h1 h2 ih => intro _; trivial
  | more d b p ks q key j v o h0 hV h1 hI ihV ihI =>
    intro hp
    cases o with
    | er c a => trivial
    | ok J vs kk =>
      intro n hn hpn
      have a1 := keyR_ok hp h0
      have hf : Out.Fits s q (.ok j v) := W.fits hV a1.2
      have a3 := sk_le s j hf.2
      have a4 := byteI_pos (s := s) (k := sk s j) (by rw [h1]; decide)
      have a5 := sk_le s (sk s j + 1) (by omega)
      have hf2 : Outs.Fits s (sk s (sk s j + 1)) (.ok J vs kk) := W.fits hI a5.2
      have f1 := hf.1
      have f2 := hf2.1
      by_cases hs : sk s j < n
      · obtain ⟨hk, hv⟩ := item_whole hn hpn h0 (ihV a1.2) (by omega) (show j ≤ n by omega)
        have e : sk (cut s n) j = sk s j := by rw [cut_sk hn (by omega)]; omega
        have hc : byteI (cut s n) (sk (cut s n) j) = 44 := by rw [e, cut_I hn hs]; exact h1
        have e2 := cut_sk hn (show sk s j + 1 ≤ n by omega)
        by_cases hp2 : sk s (sk s j + 1) ≤ n
        · have e3 : sk (cut s n) (sk (cut s n) j + 1) = sk s (sk s j + 1) := by rw [e]; omega
          have i1 := ihI a5.2 n hn hp2
          by_cases hj : J ≤ n
          · rw [if_pos hj] at i1
            rw [if_pos hj]
            exact W.more d b p ks q key j v _ hk hv hc (by rw [e3]; exact i1)
          · rw [if_neg hj] at i1
            rw [if_neg hj]
            exact W.more d b p ks q key j v _ hk hv hc (by rw [e3]; exact i1)
        · have e3 : sk (cut s n) (sk (cut s n) j + 1) = n := by rw [e]; omega
          rw [if_neg (by omega)]
          exact W.more d b p ks q key j v (.er 3 n) hk hv hc (by rw [e3]; exact I_end hn _ _ _)
      · rw [if_neg (by omega)]
        exact item_short hn hpn h0 a1.2 (ihV a1.2) hf.2 (by omega)

/-! ### Where a value ends -/
theorem txtR_last (s : ByteArray) : ∀ (n k : Nat), s.size - k = n → (txtR s k).c = 0 → byteI s ((txtR s k).k - 1) = 34 := by
  intro n
  induction n using Nat.strongRecOn with
  | ind n ih =>
    intro k hn h
    by_cases h34 : byteI s k = 34
    · rw [txtR_end h34]; exact h34
    · by_cases hc : (signR s k).c = 0
      · rw [txtR_go h34 hc] at h ⊢
        have h1 := signR_ok hc
        exact ih (s.size - (signR s k).k) (by omega) (signR s k).k rfl h
      · rw [txtR_er h34 hc] at h
        exact absurd h hc
def Val.kind' : Val → Int | .mk k _ _ _ _ _ => k
def Val.at'' : Val → Int | .mk _ _ _ _ _ a => a
def Say.Tail (s : ByteArray) : Say → Prop
  | .v _ k (.ok j x) => k ≤ s.size → x.at'' = (k : Int) ∧ (4 ≤ x.kind' → (opens (byteI s k) ∨ byteI s k = 34) ∧ k + 2 ≤ j ∧ isBl (byteI s (j - 1)) = false)
  | .i _ b p _ (.ok j _ _) => p ≤ s.size → p < j ∧ byteI s (j - 1) = shutI b
  | _ => True
theorem shut_bl (b : Int) : isBl (shutI b) = false := by unfold shutI; split <;> decide
theorem leaf_tail {s : ByteArray} {k j : Nat} {x : Val} (h0 : leafR s k = .ok j x) : x.at'' = (k : Int) ∧ (4 ≤ x.kind' → (opens (byteI s k) ∨ byteI s k = 34) ∧ k + 2 ≤ j ∧ isBl (byteI s (j - 1)) = false) := by
  have hw : ∀ (kind : Int) (l : List UInt8), wordO s k kind l = .ok j x → x.at'' = (k : Int) ∧ x.kind' = kind := by
    intro kind l h
    unfold wordO at h
    split at h
    · injection h with _ e; subst e; exact ⟨rfl, rfl⟩
    · cases h
  unfold leafR at h0
  split at h0
  · have := hw _ _ h0; exact ⟨this.1, fun h => by rw [this.2] at h; exact absurd h (by decide)⟩
  · split at h0
    · have := hw _ _ h0; exact ⟨this.1, fun h => by rw [this.2] at h; exact absurd h (by decide)⟩
    · split at h0
      · have := hw _ _ h0; exact ⟨this.1, fun h => by rw [this.2] at h; exact absurd h (by decide)⟩
      · split at h0
        · rename_i h34
          split at h0
          · rename_i hc
            have e0 : quoR s k = txtR s (k + 1) := by unfold quoR; rw [if_pos h34]
            rw [e0] at h0 hc
            have h1 := txtR_ok s _ _ rfl hc
            have h2 := txtR_last s _ _ rfl hc
            injection h0 with e1 e2
            subst e1; subst e2
            exact ⟨rfl, fun _ => ⟨.inr h34, by omega, by rw [h2]; decide⟩⟩
          · cases h0
        · split at h0
          · injection h0 with _ e; subst e; exact ⟨rfl, fun h => absurd h (by show ¬ (4 : Int) ≤ 3; decide)⟩
          · cases h0
theorem W.tail {s : ByteArray} {g : Say} (h : W s g) : g.Tail s := by
  induction h with
  | leaf d k h0 =>
    cases ho : leafR s k with
    | er c a => trivial
    | ok j x => intro _; exact leaf_tail ho
  | deep d k h0 h1 => trivial
  | none d k h0 h1 h2 =>
    intro hk
    have a0 := opens_lt h0
    have a1 := sk_le s (k + 1) (by omega)
    exact ⟨rfl, fun _ => ⟨.inl h0, by omega, by rw [Nat.add_sub_cancel, h2]; exact shut_bl _⟩⟩
  | some d k o h0 h1 h2 hI ih =>
    cases o with
    | er c a => trivial
    | ok j vs kk =>
      intro hk
      have a0 := opens_lt h0
      have a1 := sk_le s (k + 1) (by omega)
      obtain ⟨i1, i2⟩ := ih a1.2
      exact ⟨rfl, fun _ => ⟨.inl h0, by omega, by rw [i2]; exact shut_bl _⟩⟩
  | key d b p ks c a h0 => trivial
  | val d b p ks q key c a h0 hV ih => trivial
  | last d b p ks q key j v h0 hV h1 ih =>
    intro hp
    have a1 := keyR_ok hp h0
    have hf : Out.Fits s q (.ok j v) := W.fits hV a1.2
    have a3 := sk_le s j hf.2
    have := hf.1
    exact ⟨by omega, by rw [Nat.add_sub_cancel]; exact h1⟩
  | sep d b p ks q key j v h0 hV h1 h2 ih => trivial
  | more d b p ks q key j v o h0 hV h1 hI ihV ihI =>
    cases o with
    | er c a => trivial
    | ok J vs kk =>
      intro hp
      have a1 := keyR_ok hp h0
      have hf : Out.Fits s q (.ok j v) := W.fits hV a1.2
      have a3 := sk_le s j hf.2
      have a4 := byteI_pos (s := s) (k := sk s j) (by rw [h1]; decide)
      have a5 := sk_le s (sk s j + 1) (by omega)
      obtain ⟨i1, i2⟩ := ihI a5.2
      have := hf.1
      exact ⟨by omega, i2⟩
theorem run_all (p : Int → Bool) (s : ByteArray) : ∀ (m k : Nat), s.size - k = m → runTo p s k = s.size → ∀ i, k ≤ i → i < s.size → p (byteI s i) = true := by
  intro m
  induction m with
  | zero => intro k hm _ i h1 h2; omega
  | succ m ih =>
    intro k hm hr i h1 h2
    by_cases hp : p ((s[k]'(by omega)).toNat : Int) = true
    · rw [runTo_go (by omega) hp] at hr
      rcases Nat.eq_or_lt_of_le h1 with rfl | h3
      · rw [byteI_lt h2]; exact hp
      · exact ih (k + 1) (by omega) hr i h3 h2
    · rw [runTo_stop (by omega) (by simpa using hp)] at hr
      omega
/-- A whole text whose value is a text, an array or an object: where it begins and ends, and what it comes to if it is cut within. -/
theorem whole_short {s : ByteArray} {x : Val} (hw : Whole s (.ok s.size x)) (hk4 : 4 ≤ x.kind') : ∃ k j : Nat, x.at'' = (k : Int) ∧ k + 2 ≤ j ∧ j ≤ s.size ∧ isBl (byteI s (j - 1)) = false ∧ (∀ i, j ≤ i → i < s.size → isBl (byteI s i) = true) ∧
    ∀ m, k < m → m < j → Whole (cut s m) (.er 3 m) := by
  rcases hw with ⟨_, h⟩ | ⟨h0, o1, hV, h⟩
  · cases h
  rcases h with ⟨c, a, _, h⟩ | ⟨j, v, rfl, ⟨hj, h⟩ | ⟨_, h⟩⟩
  · cases h
  · obtain rfl : x = v := by injection h
    have a0 := sk_le s 0 (Nat.zero_le _)
    have hf : Out.Fits s (sk s 0) (.ok j x) := W.fits hV a0.2
    obtain ⟨t1, t2⟩ := (W.tail hV : (Say.v 0 (sk s 0) (.ok j x)).Tail s) a0.2
    obtain ⟨u1, u2, u3⟩ := t2 hk4
    refine ⟨sk s 0, j, t1, u2, hf.2, u3, run_all isBl s _ j rfl hj, fun m h1 h2 => ?_⟩
    have hm : m ≤ s.size := by have := hf.2; omega
    have hc := (W.cutOk hV : (Say.v 0 (sk s 0) (.ok j x)).cutOk s) a0.2 m hm (by omega)
    rw [if_neg (by omega)] at hc
    obtain ⟨o, ho, _, h34⟩ := hc
    obtain rfl := h34 u1
    have e := cut_sk hm (Nat.zero_le m)
    refine .inr ⟨by rw [cut_size hm]; omega, .er 3 m, ?_, .inl ⟨3, m, rfl, rfl⟩⟩
    rw [e, show min m (sk s 0) = sk s 0 by omega]
    exact ho
  · cases h
end Go.Proofs.YtbaglmjbncalpaaDoor
