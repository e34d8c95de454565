/-
  Plain: an expression's text, read again, is that expression: by induction.
  Plain: what is read has no more expressions, words and bytes than were gone by; how many ( a text has, told twice; texts of brackets.
  Plain: what is read may be.
-/
import Derived.Test.YtpccdhkghlbhkaaGreatDoorGl
import Derived.Test.YtpccdhkghlbhkaaGreatDoorGd
import Derived.Lib.Repeat
namespace Go.Proofs.YtpccdhkghlbhkaaGreatDoor
open Go.RowKit Go.Extern.Stop Go.Stop Go.Extern

theorem brTx_f (s : List UInt8) : brT false s = s := rfl
theorem brk_small {y : Rx} (h : ¬ big y) (kk : Int) : brk kk y = false := by
  cases hb : brk kk y with
  | false => rfl
  | true => exact absurd (brk_big hb) h
theorem len_zero {α : Type} {l : List α} (h : l.length = 0) : l = [] := List.eq_nil_of_length_eq_zero h
/-- One that stands in no brackets: a row, alternatives. -/
theorem small_all {y : Rx} (hb : ¬ big y) (h : PSp y) : PSp y ∧ RSp y ∧ ASp y := by
  have h3 := brk_small hb 3
  have h2 := brk_small hb 2
  have hr : RSp y := by
    intro S e k n ha hc hn he
    unfold brN at he
    rw [h3] at ha hc he ⊢
    have hp := h.pt (kk := 2) (by decide) (S := S) (e := e) (k := k) (n := n) (by rw [h2]; exact ha) (by rw [h2]; exact dlm_of (by omega)) (by rw [h2, skp_stay (end_notBl hc)]; exact end_sgn hc) hn (by unfold brN; rw [h2]; exact he)
    rw [h2] at hp
    exact row_one hp hc
  refine ⟨h, hr, ?_⟩
  intro S e k n ha hc hn he
  have := hr S e k n (by rw [h3]; exact ha) (by rw [h3]; exact hc.elim .inl (fun h => .inr (.inl h))) hn (by unfold brN; rw [h3]; simpa using he)
  rw [h3] at this
  exact alt_one this hc
/-- One that stands in brackets: a part. -/
theorem big_part {y : Rx} (hy : faultE y = 0) (h : ASp y) : ∀ (kk : Int), brk kk y = true → ∀ S e k n, At S k (brT (brk kk y) (textE y)) → n + rxSize y ≤ 100 → bd y + brN kk y ≤ e → bsR S (subR S e) k n = .ok (k + (brT (brk kk y) (textE y)).length) (n + rxSize y) y := by
  intro kk hk S e k n ha hn he
  unfold brN at he
  rw [hk] at ha he ⊢
  rw [if_pos rfl] at he
  exact br_reads hy h ha hn he

theorem reads_go : ∀ (m : Nat) (y : Rx), SizeOf.sizeOf y < m → faultE y = 0 → PSp y ∧ RSp y ∧ ASp y
  | 0, _, h, _ => absurd h (Nat.not_lt_zero _)
  | m + 1, .mk k t ws ks, hm, h => by
    have hy := h
    simp only [Rx.mk.sizeOf_spec] at hm
    obtain ⟨h1, h2⟩ := faultE_zero h
    obtain ⟨hk0, hk6, hmay, hatom, hplain⟩ := ownF_zero h1
    have hkid : ∀ c, c ∈ ks → (PSp c ∧ RSp c ∧ ASp c) ∧ faultE c = 0 := fun c hc =>
      ⟨reads_go m c (by have := List.sizeOf_lt_of_mem hc; omega) (fault_mem h2 hc), fault_mem h2 hc⟩
    by_cases e1 : k = 1
    · subst e1
      have hks : ks = [] := len_zero (by simpa [mayH] using hmay)
      subst hks
      have hb : ¬ big (.mk 1 t ws []) := by rw [big]; simp
      refine small_all hb ?_
      intro kk hk S e p n ha hd hn he
      rw [brk_small hb kk] at ha hd ⊢
      have ht : textE (.mk 1 t ws []) = atomT t ws := by rw [textE, if_neg (by decide), if_pos rfl]
      have hsz : rxSize (.mk 1 t ws []) = 1 := by rw [rxSize, rxsSize]
      rw [brTx_f, ht] at ha hd ⊢
      rw [hsz] at hn ⊢
      exact ⟨_, _, _, 0, atom_reads (hatom rfl) ha hd hn, Nat.zero_le _, fun f => rfl⟩
    obtain ⟨rfl, hw0⟩ := hplain e1
    have hws : ws = [] := len_zero hw0
    subst hws
    by_cases e0 : k = 0
    · subst e0
      have hks : ks = [] := len_zero (by simpa [mayH] using hmay)
      subst hks
      have hb : ¬ big (.mk 0 false [] []) := by rw [big]; simp
      refine small_all hb ?_
      intro kk hk S e p n ha hd hn he
      rw [brk_small hb kk] at ha hd ⊢
      have ht : textE (.mk 0 false [] []) = [46] := by rw [textE, if_pos rfl]
      have hsz : rxSize (.mk 0 false [] []) = 1 := by rw [rxSize, rxsSize]
      rw [brTx_f, ht] at ha hd ⊢
      rw [hsz] at hn ⊢
      have h46 : byteI S p = 46 := ha.head
      have hs0 : skp S p = p := skp_stay (by rw [h46]; decide)
      refine ⟨p + 1, n + 1, .mk 0 false [] [], 0, ?_, Nat.zero_le _, fun f => rfl⟩
      unfold bsR
      rw [hs0, h46, if_neg (by decide), if_pos rfl]
      unfold cnt
      rw [if_neg (by omega)]
    by_cases e2 : k = 2
    · subst e2
      by_cases hl : ks.length = 0
      · have hks : ks = [] := len_zero hl
        subst hks
        have hb : ¬ big (.mk 2 false [] []) := by rw [big]; simp
        refine small_all hb ?_
        intro kk hk S e p n ha hd hn he
        rw [brk_small hb kk] at ha hd ⊢
        have ht : textE (.mk 2 false [] []) = [40, 41] := by rw [textE, if_neg (by decide), if_neg (by decide), if_pos ⟨rfl, rfl⟩]
        have hsz : rxSize (.mk 2 false [] []) = 1 := by rw [rxSize, rxsSize]
        rw [brTx_f, ht] at ha hd ⊢
        rw [hsz] at hn ⊢
        have h40 : byteI S p = 40 := ha.head
        have h41 : byteI S (p + 1) = 41 := ha.tail.head
        have hs0 : skp S p = p := skp_stay (by rw [h40]; decide)
        have hs1 : skp S (p + 1) = p + 1 := skp_stay (by rw [h41]; decide)
        have he1 : 1 ≤ e := by
          have : bd (.mk 2 false [] []) = 1 := by rw [bd, bds]; rfl
          omega
        obtain ⟨e', rfl⟩ : ∃ e', e = e' + 1 := ⟨e - 1, by omega⟩
        refine ⟨p + 1 + 1, n + 1, .mk 2 false [] [], 0, ?_, Nat.zero_le _, fun f => rfl⟩
        unfold bsR
        rw [hs0, h40, if_pos rfl]
        simp only [subR]
        rw [hs1, if_pos h41]
        unfold cnt
        rw [if_neg (by omega)]
      · have hlen : 2 ≤ ks.length := by
          have : ks.length ≠ 1 := by simpa [mayH] using hmay
          omega
        have ht : textE (.mk 2 false [] ks) = Lib.join (kidsT 2 ks) [32] := by
          rw [textE, if_neg (by decide), if_neg (by decide), if_neg (fun h => hl h.2)]
          exact List.append_nil _
        obtain ⟨y0, r, rfl⟩ : ∃ y0 r, ks = y0 :: r := by
          cases ks with
          | nil => exact absurd rfl hl
          | cons y0 r => exact ⟨y0, r, rfl⟩
        have hr : r ≠ [] := by
          intro e
          subst e
          simp at hlen
        have htj : Lib.join (kidsT 2 (y0 :: r)) [32] = brT (brk 2 y0) (textE y0) ++ Lib.joinTail [32] (kidsT 2 r) := by rw [kidsT, Lib.join_cons]
        have hb3 : brk 3 (.mk 2 false [] (y0 :: r)) = false := by rw [brk]; simp
        have hbd := bds_bd 2 false [] (y0 :: r)
        have hrow : RSp (.mk 2 false [] (y0 :: r)) := by
          intro S e p n ha hc hn he
          unfold brN at he
          rw [hb3] at ha hc he ⊢
          rw [brTx_f, ht, htj] at ha hc ⊢
          rw [rxSize, rxsSize] at hn ⊢
          have h0 := hkid y0 List.mem_cons_self
          have hin := fun y (hy : y ∈ y0 :: r) => Nat.le_trans (bds_mem 2 hy) hbd
          have ha2 := ha.right
          obtain ⟨z, r', hz⟩ : ∃ z r', r = z :: r' := by
            cases r with
            | nil => exact absurd rfl hr
            | cons z r' => exact ⟨z, r', rfl⟩
          have h32 : byteI S (p + (brT (brk 2 y0) (textE y0)).length) = 32 := by
            have := ha2
            rw [hz, kidsT] at this
            exact this.head
          have hfb : fstB (byteI S (p + (brT (brk 2 y0) (textE y0)).length + 1)) = true := by
            have h3 : At S (p + (brT (brk 2 y0) (textE y0)).length) (32 :: (brT (brk 2 z) (textE z) ++ Lib.joinTail [32] (kidsT 2 r'))) := by
              have := ha2
              rw [hz, kidsT] at this
              exact this
            exact h3.tail.fst (hkid z (by rw [hz]; simp)).2
          have hk1 : p + (brT (brk 2 y0) (textE y0)).length < S.size := byteI_in h32 (by decide)
          have hs1 : skp S (p + (brT (brk 2 y0) (textE y0)).length) = p + (brT (brk 2 y0) (textE y0)).length + 1 := by
            have h1 : skp S (p + (brT (brk 2 y0) (textE y0)).length) = skp S (p + (brT (brk 2 y0) (textE y0)).length + 1) := by
              unfold skp
              rw [runTo_step _ S _ hk1, h32, if_pos (by decide)]
            rw [h1]
            exact skp_stay (fst_notBl hfb)
          have hpt := h0.1.1.pt (kk := 2) (by decide) (S := S) (e := e) (k := p) (n := n) ha.left (by rw [h32]; exact dlm_of (by decide)) (by rw [hs1]; exact fst_sgn hfb) (by omega) (by have := hin y0 List.mem_cons_self; simp at he; omega)
          rw [List.length_append] at hc ⊢
          have hrest := row_rest (S := S) (e := e) r 101 (p + (brT (brk 2 y0) (textE y0)).length) (n + rxSize y0 + 1) [y0] hr (fun y hy => ⟨(hkid y (List.mem_cons_of_mem _ hy)).1.1, (hkid y (List.mem_cons_of_mem _ hy)).2, by have := hin y (List.mem_cons_of_mem _ hy); simp at he; omega⟩) ha2 (by rw [Nat.add_assoc]; exact hc) (by omega) (by have := len_sizes r; omega)
          unfold rwR jnR
          rw [hpt]
          simp only [rwM, hs1, begB_fst, hfb, if_true]
          rw [if_neg (by omega), hrest]
          congr 1
          · omega
          · omega
        have halt : ASp (.mk 2 false [] (y0 :: r)) := by
          intro S e p n ha hc hn he
          have := hrow S e p n (by rw [hb3]; exact ha) (by rw [hb3]; exact hc.elim .inl (fun h => .inr (.inl h))) hn (by unfold brN; rw [hb3]; simpa using he)
          rw [hb3] at this
          exact alt_one this hc
        refine ⟨?_, hrow, halt⟩
        intro kk hk S e p n ha hd hn he
        have hbk : brk kk (.mk 2 false [] (y0 :: r)) = true := by rw [brk]; simp [hk]
        exact ⟨_, _, _, 0, big_part hy halt kk hbk S e p n ha hn he, Nat.zero_le _, fun f => rfl⟩
    by_cases e3 : k = 3
    · subst e3
      have hlen : 2 ≤ ks.length := by simpa [mayH] using hmay
      have ht : textE (.mk 3 false [] ks) = Lib.join (kidsT 3 ks) [124] := by
        rw [textE, if_neg (by decide), if_neg (by decide), if_neg (fun h => absurd h.1 (by decide))]
        exact List.append_nil _
      obtain ⟨y0, r, rfl⟩ : ∃ y0 r, ks = y0 :: r := by
        cases ks with
        | nil => simp at hlen
        | cons y0 r => exact ⟨y0, r, rfl⟩
      have hr : r ≠ [] := by
        intro e
        subst e
        simp at hlen
      have hb : ∀ kk, brk kk (.mk 3 false [] (y0 :: r)) = true := fun kk => by rw [brk]; simp
      have hbd := bds_bd 3 false [] (y0 :: r)
      obtain ⟨z, r', hz⟩ : ∃ z r', r = z :: r' := by
        cases r with
        | nil => exact absurd rfl hr
        | cons z r' => exact ⟨z, r', rfl⟩
      have htj : Lib.join (kidsT 3 (y0 :: r)) [124] = brT (brk 3 y0) (textE y0) ++ (124 :: Lib.join (kidsT 3 r) [124]) := by
        rw [hz, kidsT, kidsT, Lib.join_cons, Lib.join_cons]
        rfl
      have halt : ASp (.mk 3 false [] (y0 :: r)) := by
        intro S e p n ha hc hn he
        rw [ht, htj] at ha hc ⊢
        rw [rxSize, rxsSize] at hn ⊢
        have h0 := hkid y0 List.mem_cons_self
        have hin := fun y (hy : y ∈ y0 :: r) => Nat.le_trans (bds_mem 3 hy) hbd
        have ha2 := ha.right
        have h124 : byteI S (p + (brT (brk 3 y0) (textE y0)).length) = 124 := ha2.head
        have hs1 : skp S (p + (brT (brk 3 y0) (textE y0)).length) = p + (brT (brk 3 y0) (textE y0)).length := skp_stay (by rw [h124]; decide)
        have hrw := h0.1.2.1 S e p n ha.left (.inr (.inr h124)) (by omega) (by have := hin y0 List.mem_cons_self; omega)
        rw [List.length_append] at hc ⊢
        have hrest := alt_rest (S := S) (e := e) r 101 (p + (brT (brk 3 y0) (textE y0)).length + 1) (n + rxSize y0 + 1) [y0] hr (fun y hy => ⟨(hkid y (List.mem_cons_of_mem _ hy)).1.2.1, (hkid y (List.mem_cons_of_mem _ hy)).2, by have := hin y (List.mem_cons_of_mem _ hy); omega⟩) ha2.tail (by
          rw [show p + (brT (brk 3 y0) (textE y0)).length + 1 + (Lib.join (kidsT 3 r) [124]).length = p + ((brT (brk 3 y0) (textE y0)).length + (124 :: Lib.join (kidsT 3 r) [124]).length) by simp; omega]
          exact hc) (by omega) (by have := len_sizes r; omega)
        rw [alR_eq]
        unfold jnR
        rw [hrw]
        simp only [alM, hs1, if_pos h124]
        rw [if_neg (by omega), hrest]
        congr 1
        · simp; omega
        · omega
      have hpart : PSp (.mk 3 false [] (y0 :: r)) := by
        intro kk hk S e p n ha hd hn he
        exact ⟨_, _, _, 0, big_part hy halt kk (hb kk) S e p n ha hn he, Nat.zero_le _, fun f => rfl⟩
      refine ⟨hpart, ?_, halt⟩
      intro S e p n ha hc hn he
      have hs := skp_stay (end_notBl hc)
      have e23 : brT (brk 3 (.mk 3 false [] (y0 :: r))) (textE (.mk 3 false [] (y0 :: r))) = brT (brk 2 (.mk 3 false [] (y0 :: r))) (textE (.mk 3 false [] (y0 :: r))) := by rw [hb 3, hb 2]
      have hen : brN 2 (.mk 3 false [] (y0 :: r)) = brN 3 (.mk 3 false [] (y0 :: r)) := by unfold brN; rw [hb 3, hb 2]
      rw [e23] at ha hc hs ⊢
      have hp := hpart.pt (kk := 2) (by decide) (S := S) (e := e) (k := p) (n := n) ha (dlm_of (by omega)) (by rw [hs]; exact end_sgn hc) hn (by rw [hen]; exact he)
      exact row_one hp hc
    -- a sign behind a part
    have h1k : ks.length = 1 := by
      have hk4 : 4 ≤ k := by omega
      unfold mayH at hmay
      rw [if_neg (by omega), if_neg (by omega), if_neg (by omega)] at hmay
      simpa using hmay
    obtain ⟨c, rfl⟩ : ∃ c, ks = [c] := by
      match ks, h1k with
      | [c], _ => exact ⟨c, rfl⟩
    obtain ⟨b, i, hk4, hsg, hbs⟩ : ∃ (b : UInt8) (i : Nat), k = ((4 + i : Nat) : Int) ∧ signT k = [b] ∧ (sgn (b.toNat : Int) = some i ∧ isBl (b.toNat : Int) = false ∧ dlm (b.toNat : Int)) := by
      obtain rfl | rfl | rfl : k = 4 ∨ k = 5 ∨ k = 6 := by omega
      · exact ⟨42, 0, by decide, rfl, by decide, by decide, dlm_of (by decide)⟩
      · exact ⟨43, 1, by decide, rfl, by decide, by decide, dlm_of (by decide)⟩
      · exact ⟨63, 2, by decide, rfl, by decide, by decide, dlm_of (by decide)⟩
    have hb : ¬ big (.mk k false [] [c]) := by rw [big]; simp [e2, e3]
    refine small_all hb ?_
    intro kk hk S e p n ha hd hn he
    rw [brk_small hb kk] at ha hd ⊢
    have ht : textE (.mk k false [] [c]) = brT (brk k c) (textE c) ++ [b] := by
      have hsep : sepT k = [] := by unfold sepT; rw [if_neg e2, if_neg e3]
      rw [textE, if_neg e0, if_neg e1, if_neg (fun h => e2 h.1), hsep, hsg, kidsT, kidsT, Lib.join_one]
    rw [brTx_f, ht] at ha hd ⊢
    rw [rxSize, rxsSize, rxsSize] at hn
    have hc := hkid c (by simp)
    have hbyte : byteI S (p + (brT (brk k c) (textE c)).length) = (b.toNat : Int) := ha.right.head
    have hbd := Nat.le_trans (bds_mem k (List.mem_singleton.2 rfl : c ∈ [c])) (bds_bd k false [] [c])
    have hps := hc.1.1 k e3 S e p n ha.left (by rw [hbyte]; exact hbs.2.2) (by omega) (by omega)
    obtain ⟨k0, n0, x0, j, q1, q2, q3⟩ := hps
    refine ⟨k0, n0, x0, j + 1, q1, by rw [rxSize, rxsSize, rxsSize]; omega, fun f => ?_⟩
    have q4 := q3 (f + 1)
    rw [show f + (j + 1) = f + 1 + j by omega, q4, sgR, skp_stay (by rw [hbyte]; exact hbs.2.1), hbyte, hbs.1]
    simp only
    rw [if_neg (by omega), rxSize, rxsSize, rxsSize, List.length_append, hk4]
    congr 1
    omega

/-! ### The whole text -/
/-- What is printed is read as it was. -/
theorem xpR_text {x : Rx} (h : checkE x = 0) : ∃ k n, xpR ⟨(textE x).toArray⟩ = .ok k n x := by
  unfold checkE at h
  split at h
  · cases h
  · rename_i h100
    have hz : (⟨(textE x).toArray⟩ : ByteArray).size = (textE x).length := by simp [ByteArray.size]
    have hend : byteI ⟨(textE x).toArray⟩ (0 + (textE x).length) = 0 := byteI_ge (by rw [hz]; omega)
    have hb := (bd_le x h).1
    have ha := (reads_go _ x (Nat.lt_succ_self _) h).2.2 ⟨(textE x).toArray⟩ 64 0 0 (At.self _) (.inr hend) (by omega) (by omega)
    refine ⟨0 + (textE x).length, 0 + rxSize x, ?_⟩
    unfold xpR
    rw [ha]
    simp only
    rw [skp_stay (by rw [hend]; decide), if_pos (by rw [hz]; omega)]
end Go.Proofs.YtpccdhkghlbhkaaGreatDoor

namespace Go.Proofs.YtpccdhkghlbhkaaGreatDoor
open Go.RowKit Go.Extern.Stop Go.Stop Go.Extern

theorem wordsWt_append : ∀ (l r : List ByteArray), wordsWt (l ++ r) = wordsWt l + wordsWt r
  | [], r => by rw [List.nil_append, wordsWt]; omega
  | w :: l, r => by
    rw [List.cons_append, wordsWt, wordsWt, wordsWt_append l r]
    omega
theorem wordsWt_perm {l r : List ByteArray} (h : l.Perm r) : wordsWt l = wordsWt r := by
  induction h with
  | nil => rfl
  | cons x _ ih => rw [wordsWt, wordsWt, ih]
  | swap x y l => rw [wordsWt, wordsWt, wordsWt, wordsWt]; omega
  | trans _ _ ih1 ih2 => exact ih1.trans ih2
theorem srt_perm2 (l : List ByteArray) : (srt l).Perm l := by
  have h1 := (srtL_go (l.map (fun b => b.data.toList)) [] List.Pairwise.nil).2
  rw [List.nil_append] at h1
  have h2 := h1.map (fun b => (⟨b.toArray⟩ : ByteArray))
  rw [List.map_map] at h2
  have e : ((fun b : List UInt8 => (⟨b.toArray⟩ : ByteArray)) ∘ fun b : ByteArray => b.data.toList) = id := by
    funext b; simp
  rw [e, List.map_id] at h2
  exact h2
theorem rxsWt_append : ∀ (l r : List Rx), rxsWt (l ++ r) = rxsWt l + rxsWt r
  | [], r => by rw [List.nil_append, rxsWt]; omega
  | x :: l, r => by
    rw [List.cons_append, rxsWt, rxsWt, rxsWt_append l r]
    omega
/-- What a reading leaves: its place is farther on, and what was read has no more than was gone by. -/
def WtR (s : ByteArray) (f : Nat → Nat → RO Rx) : Prop := ∀ k n k' n' x, k ≤ s.size → f k n = .ok k' n' x → k ≤ k' ∧ k' ≤ s.size ∧ n ≤ n' ∧ rxWt x + 2 * n + k ≤ 2 * n' + k'
theorem chR_wt {s : ByteArray} : ∀ (f k : Nat) (seen : List ByteArray) (k' n' : Nat) (ws : List ByteArray), k ≤ s.size → chR s f k seen = .ok k' n' ws → k ≤ k' ∧ k' ≤ s.size ∧ wordsWt ws + k ≤ wordsWt seen + k'
  | 0, _, _, _, _, _, _, h => by simp [chR] at h
  | f + 1, k, seen, k', n', ws, hk, h => by
    have hj := skp_le hk
    have hw := wdK_le hj.2
    have hj2 := skp_le hw.2
    have hsz := size_ext s (skp s k) (wdK s (skp s k)) hw.2
    rw [chR] at h
    split at h
    · cases h
    · split at h
      · cases h
      · split at h
        · have h1 := byteI_in (by assumption) (by decide : (44 : Int) ≠ 0)
          have := chR_wt f _ _ _ _ _ (by omega) h
          rw [wordsWt_append, wordsWt, wordsWt, hsz] at this
          omega
        · split at h
          · have h1 := byteI_in (by assumption) (by decide : (93 : Int) ≠ 0)
            injection h with h2 h3 h4
            subst h2 h4
            rw [wordsWt_append, wordsWt, wordsWt, hsz]
            omega
          · cases h
theorem bsR_wt {s : ByteArray} {sub : Option (Nat → Nat → RO Rx)} (hsub : ∀ f, sub = some f → WtR s f) : WtR s (bsR s sub) := by
  intro k n k' n' x hk h
  have hj := skp_le hk
  unfold bsR at h
  split at h
  · have hlt := byteI_in (by assumption) (by decide : (40 : Int) ≠ 0)
    cases sub with
    | none => cases h
    | some f =>
      simp only at h
      split at h
      · have h1 := byteI_in (by assumption) (by decide : (41 : Int) ≠ 0)
        have h2 := skp_le (s := s) (k := skp s k + 1) (by omega)
        obtain ⟨rfl, rfl, h3, rfl⟩ := cnt_ok h
        rw [rxWt, wordsWt, rxsWt]
        omega
      · split at h
        · cases h
        · rename_i k1 n1 x1 e1
          have hg := hsub f rfl (skp s k + 1) n k1 n1 x1 (by omega) e1
          have h2 := skp_le hg.2.1
          split at h
          · have h1 := byteI_in (by assumption) (by decide : (41 : Int) ≠ 0)
            injection h with h3 h4 h5
            subst h3 h4 h5
            omega
          · cases h
  · split at h
    · have hlt := byteI_in (by assumption) (by decide : (46 : Int) ≠ 0)
      obtain ⟨rfl, rfl, h3, rfl⟩ := cnt_ok h
      rw [rxWt, wordsWt, rxsWt]
      omega
    · split at h
      · have hlt := byteI_in (by assumption) (by decide : (91 : Int) ≠ 0)
        split at h
        · cases h
        · rename_i k1 n1 ws e1
          have hnk := notK_le2 (s := s) (k := skp s k + 1) (by omega)
          have hc := chR_wt _ _ _ _ _ _ hnk.2 e1
          obtain ⟨rfl, rfl, h3, rfl⟩ := cnt_ok h
          rw [rxWt, rxsWt, wordsWt_perm (srt_perm2 ws)]
          rw [wordsWt] at hc
          omega
      · split at h
        · cases h
        · have hw := wdK_le hj.2
          have hsz := size_ext s (skp s k) (wdK s (skp s k)) hw.2
          obtain ⟨rfl, rfl, h3, rfl⟩ := cnt_ok h
          rw [rxWt, rxsWt, wordsWt, wordsWt, hsz]
          omega
theorem sgR_wt {s : ByteArray} : ∀ (f k n : Nat) (x : Rx) (k' n' : Nat) (y : Rx), k ≤ s.size → sgR s f k n x = .ok k' n' y → k ≤ k' ∧ k' ≤ s.size ∧ n ≤ n' ∧ rxWt y + 2 * n + k ≤ rxWt x + 2 * n' + k'
  | 0, _, _, _, _, _, _, _, h => by cases h
  | f + 1, k, n, x, k', n', y, hk, h => by
    have hj := skp_le hk
    rw [sgR] at h
    split at h
    · injection h with h1 h2 h3
      subst h1 h2 h3
      omega
    · rename_i i hi
      split at h
      · cases h
      · have hlt : skp s k < s.size := by
          have h0 : byteI s (skp s k) ≠ 0 := by
            intro h0
            rw [h0] at hi
            simp [sgn] at hi
          exact byteI_in rfl h0
        have := sgR_wt f _ _ _ _ _ _ (by omega) h
        rw [rxWt, wordsWt, rxsWt, rxsWt] at this
        omega
theorem ptR_wt {s : ByteArray} {sub : Option (Nat → Nat → RO Rx)} (hsub : ∀ f, sub = some f → WtR s f) : WtR s (ptR s sub) := by
  intro k n k' n' x hk h
  unfold ptR at h
  split at h
  · cases h
  · rename_i k1 n1 x1 e1
    have h1 := bsR_wt hsub k n k1 n1 x1 hk e1
    have := sgR_wt 101 k1 n1 x1 k' n' x h1.2.1 h
    omega
def WtM (s : ByteArray) (m : Nat → Option Nat) : Prop := ∀ k k', k ≤ s.size → m k = some k' → k ≤ k' ∧ k' ≤ s.size
theorem rwM_wt {s : ByteArray} : WtM s (rwM s) := by
  intro k k' hk h
  unfold rwM at h
  split at h
  · injection h with h; omega
  · cases h
theorem alM_wt {s : ByteArray} : WtM s (alM s) := by
  intro k k' hk h
  have hj := skp_le hk
  unfold alM at h
  split at h
  · have := byteI_in (by assumption) (by decide : (124 : Int) ≠ 0)
    injection h with h; omega
  · cases h
theorem jnL_wt {s : ByteArray} {kind : Int} {next : Nat → Nat → RO Rx} {more : Nat → Option Nat} (hn : WtR s next) (hm : WtM s more) : ∀ (f k n : Nat) (l : List Rx) (k' n' : Nat) (x : Rx), k ≤ s.size → jnL kind next more f k n l = .ok k' n' x → k ≤ k' ∧ k' ≤ s.size ∧ n ≤ n' ∧ rxWt x + 2 * n + k ≤ 1 + rxsWt l + 2 * n' + k'
  | 0, _, _, _, _, _, _, _, h => by cases h
  | f + 1, k, n, l, k', n', x, hk, h => by
    rw [jnL] at h
    split at h
    · cases h
    · rename_i k1 n1 x1 e1
      have h1 := hn k n k1 n1 x1 hk e1
      split at h
      · rename_i k2 e2
        have h2 := hm k1 k2 h1.2.1 e2
        have := jnL_wt hn hm f k2 n1 _ k' n' x h2.2 h
        rw [rxsWt_append, rxsWt, rxsWt] at this
        omega
      · injection h with h3 h4 h5
        subst h3 h4 h5
        rw [rxWt, wordsWt, rxsWt_append, rxsWt, rxsWt]
        omega
theorem jnR_wt {s : ByteArray} {kind : Int} {next : Nat → Nat → RO Rx} {more : Nat → Option Nat} (hn : WtR s next) (hm : WtM s more) : WtR s (jnR s kind next more) := by
  intro k n k' n' x hk h
  unfold jnR at h
  split at h
  · cases h
  · rename_i k1 n1 x1 e1
    have h1 := hn k n k1 n1 x1 hk e1
    split at h
    · injection h with h3 h4 h5
      subst h3 h4 h5
      exact h1
    · rename_i k2 e2
      have h2 := hm k1 k2 h1.2.1 e2
      split at h
      · cases h
      · have := jnL_wt hn hm 101 k2 (n1 + 1) _ k' n' x h2.2 h
        rw [rxsWt, rxsWt] at this
        omega
theorem alR_wt {s : ByteArray} : ∀ e : Nat, WtR s (alR s e)
  | 0 => jnR_wt (jnR_wt (ptR_wt (fun f h => by cases h)) rwM_wt) alM_wt
  | e + 1 => jnR_wt (jnR_wt (ptR_wt (fun f h => by injection h with h; rw [← h]; exact alR_wt e)) rwM_wt) alM_wt
/-- A short text's expression is small. -/
theorem alR_small {s : ByteArray} {e k n : Nat} {x : Rx} (h : alR s e 0 0 = .ok k n x) (hs : s.size ≤ 500) : rxWt x ≤ 1000 := by
  have h1 := alR_wt e 0 0 k n x (Nat.zero_le _) h
  have h2 := (alR_good e 0 0 k n x (Nat.zero_le _) h).2.1
  omega
end Go.Proofs.YtpccdhkghlbhkaaGreatDoor

namespace Go.Proofs.YtpccdhkghlbhkaaGreatDoor
open Go.RowKit Go.Extern.Stop Go.Stop Go.Extern

/-! ### Words that were read -/
theorem runTo_ext (p : Int → Bool) (S : ByteArray) (k K : Nat) (hK : K ≤ S.size) : ∀ (n i : Nat), K - (k + i) = n → k + i ≤ K → runTo p S (k + i) ≤ K → k + runTo p (S.extract k K) i = runTo p S (k + i) := by
  intro n
  induction n with
  | zero =>
    intro i h1 h2 h3
    have h4 := le_runTo p S (k + i) (by omega)
    rw [runTo_end (by rw [size_ext S k K hK]; omega)]
    omega
  | succ n ih =>
    intro i h1 h2 h3
    rw [runTo_step p _ i (by rw [size_ext S k K hK]; omega), byteI_ext hK i (by omega)]
    rw [runTo_step p S (k + i) (by omega)] at h3 ⊢
    split
    · rename_i hp
      rw [if_pos hp] at h3
      exact ih (i + 1) (by omega) (by omega) h3
    · rfl
/-- A name within a part of a text. -/
theorem name_ext {S : ByteArray} {k K a : Nat} (hK : K ≤ S.size) (hka : k ≤ a) (hc : nameC S a = 0) (hle : nameK S a ≤ K) : a < nameK S a ∧ nameC (S.extract k K) (a - k) = 0 ∧ nameK (S.extract k K) (a - k) = nameK S a - k := by
  have hl : isLet (byteI S a) = true := by
    cases h : isLet (byteI S a) with
    | true => rfl
    | false =>
      unfold nameC at hc
      rw [h] at hc
      have := missC_ne S a
      simp [this] at hc
  have h32 : runTo isIn S a - a ≤ 32 := by
    unfold nameC at hc
    rw [if_pos hl] at hc
    split at hc
    · assumption
    · cases hc
  have hnk : nameK S a = runTo isIn S a := by unfold nameK; rw [if_pos ⟨hl, h32⟩]
  have ha : a < S.size := by
    by_cases h : a < S.size
    · exact h
    · rw [byteI_ge h] at hl
      cases hl
  have hin : isIn (byteI S a) = true := (isIn_iff _).2 (.inl hl)
  have hgt : a < runTo isIn S a := by
    rw [runTo_step _ S a ha, if_pos hin]
    have := le_runTo isIn S (a + 1) (by omega)
    omega
  rw [hnk] at hle ⊢
  have hr := runTo_ext isIn S k K hK _ (a - k) rfl (by omega) (by rw [show k + (a - k) = a by omega]; exact hle)
  rw [show k + (a - k) = a by omega] at hr
  have hb : byteI (S.extract k K) (a - k) = byteI S a := by
    have := byteI_ext hK (a - k) (show k + (a - k) < K by omega)
    rwa [show k + (a - k) = a by omega] at this
  refine ⟨hgt, ?_, ?_⟩
  · unfold nameC
    rw [hb, if_pos hl, if_pos (by omega)]
  · unfold nameK
    rw [hb, if_pos ⟨hl, by omega⟩]
    omega
theorem word_read {S : ByteArray} {k : Nat} (hk : k ≤ S.size) (hc : wdC S k = 0) : isWd (S.extract k (wdK S k)) = true := by
  have hle := wdK_le hk
  have hsz := size_ext S k (wdK S k) hle.2
  have h1 : nameC S (wd1 S k) = 0 := by
    unfold wdC at hc
    by_cases h : nameC S (wd1 S k) = 0
    · exact h
    · rw [if_pos h] at hc; exact absurd hc h
  have hw1l := wd1_le hk
  have hkw : k ≤ wd1 S k := by unfold wd1; split <;> omega
  unfold isWd
  simp only [Bool.and_eq_true, decide_eq_true_eq]
  by_cases h2 : wd2 S k = true
  · -- two names
    have hsub := wd2_in h2
    have hc2 : nameC S (nameK S (wd1 S k) + 1) = 0 := by
      unfold wdC at hc
      rw [h1, if_neg (by decide), if_pos h2] at hc
      exact hc
    have hK : wdK S k = nameK S (nameK S (wd1 S k) + 1) := by unfold wdK; rw [if_pos h2]
    have h36 : byteI S k ≠ 36 ∧ byteI S (nameK S (wd1 S k)) = 35 := by
      unfold wd2 at h2
      simpa using h2
    have hw1 : wd1 S k = k := by unfold wd1; rw [if_neg h36.1]
    rw [hw1] at h1 hc2 hK h36 hsub
    have hn2 := name_ext (k := k) (K := wdK S k) hle.2 (show k ≤ nameK S k + 1 by have := nameK_ge S k hk; omega) hc2 (by rw [hK]; exact Nat.le_refl _)
    have hn1 := name_ext (k := k) (K := wdK S k) hle.2 (Nat.le_refl k) h1 (by rw [hK]; omega)
    rw [Nat.sub_self] at hn1
    have hb0 : byteI (S.extract k (wdK S k)) 0 = byteI S k := byteI_ext hle.2 0 (by rw [hK]; omega)
    have hb35 : byteI (S.extract k (wdK S k)) (nameK S k - k) = 35 := by
      rw [byteI_ext hle.2 _ (by rw [hK]; omega), show k + (nameK S k - k) = nameK S k by omega]
      exact h36.2
    have hw1' : wd1 (S.extract k (wdK S k)) 0 = 0 := by unfold wd1; rw [hb0, if_neg h36.1]
    have hw2' : wd2 (S.extract k (wdK S k)) 0 = true := by
      unfold wd2
      rw [hw1', hn1.2.2, hb0, hb35]
      simp [h36.1]
    have e1 : nameK S k + 1 - k = nameK S k - k + 1 := by omega
    rw [e1] at hn2
    have hsz2 : (S.extract k (wdK S k)).size = nameK S (nameK S k + 1) - k := by rw [hsz, hK]
    clear hsz
    generalize S.extract k (wdK S k) = w at *
    unfold wdC
    rw [hw2', hw1', hn1.2.1, hn1.2.2, if_neg (by decide), if_pos rfl, hn2.2.1]
    refine ⟨rfl, ?_⟩
    unfold wdK
    rw [hw2', hw1', if_pos rfl, hn1.2.2, hn2.2.2, hsz2]
  · have h2f : wd2 S k = false := by simpa using h2
    have hK : wdK S k = nameK S (wd1 S k) := by unfold wdK; rw [if_neg h2]
    have hn1 := name_ext (k := k) (K := wdK S k) hle.2 hkw h1 (by rw [hK]; exact Nat.le_refl _)
    have hb0 : byteI (S.extract k (wdK S k)) 0 = byteI S k := byteI_ext hle.2 0 (by rw [hK]; omega)
    have hw1' : wd1 (S.extract k (wdK S k)) 0 = wd1 S k - k := by
      unfold wd1
      rw [hb0]
      split <;> omega
    have hend : byteI (S.extract k (wdK S k)) (nameK S (wd1 S k) - k) = 0 := byteI_ge (by rw [hsz, hK]; omega)
    have hw2' : wd2 (S.extract k (wdK S k)) 0 = false := by
      unfold wd2
      rw [hw1', hn1.2.2, hend]
      simp
    have hfin : nameK (S.extract k (wdK S k)) (wd1 S k - k) = (S.extract k (wdK S k)).size := by rw [hn1.2.2, hsz, hK]
    generalize S.extract k (wdK S k) = w at *
    refine ⟨?_, ?_⟩
    · unfold wdC
      rw [hw2', hw1', hn1.2.1]
      simp
    · unfold wdK
      rw [hw2', hw1', if_neg (by decide), hfin]

/-! ### Sets of words that were read -/
theorem pair_rises : ∀ {ws : List ByteArray}, (ws.map (fun b => b.data.toList)).Pairwise (fun a b => a < b) → risesW ws = true
  | [], _ => rfl
  | [_], _ => rfl
  | x :: y :: r, h => by
    rw [List.map_cons] at h
    obtain ⟨h1, h2⟩ := List.pairwise_cons.1 h
    have hlt := h1 y.data.toList (by simp)
    rw [risesW, pair_rises h2, Bool.and_true]
    unfold leB
    rw [Go.Proofs.bytesLess_eq, Go.ByteArray.toList_eq, Go.ByteArray.toList_eq]
    rw [decide_eq_false (List.lt_asymm hlt), Bool.false_or]
    have hne : (y.data.toList == x.data.toList) = false := by
      rw [beq_eq_false_iff_ne]
      intro e
      rw [e] at hlt
      exact List.lt_irrefl _ hlt
    rw [hne]
    rfl
theorem srt_rises {ws : List ByteArray} (h : (ws.map (fun b => b.data.toList)).Nodup) : risesW (srt ws) = true := by
  apply pair_rises
  have h1 := (srtL_go (ws.map (fun b => b.data.toList)) [] List.Pairwise.nil).1
  have hp := (srt_perm2 ws).map (fun b : ByteArray => b.data.toList)
  have hnd : ((srt ws).map (fun b => b.data.toList)).Nodup := hp.nodup_iff.2 h
  have hs : ((srt ws).map (fun b => b.data.toList)).Pairwise (fun a b => a ≤ b) := by
    have e : (srt ws).map (fun b => b.data.toList) = srtL (ws.map (fun b => b.data.toList)) := by
      unfold srt
      rw [List.map_map]
      have e2 : ((fun b : ByteArray => b.data.toList) ∘ fun b : List UInt8 => (⟨b.toArray⟩ : ByteArray)) = id := by funext b; simp
      rw [e2, List.map_id]
    rw [e]
    exact h1
  have hboth := hs.and hnd
  exact hboth.imp (fun {a b} hab => Decidable.byContradiction fun hn => hab.2 (List.le_antisymm hab.1 (List.not_lt.1 hn)))
theorem chR_good2 {S : ByteArray} : ∀ (f k : Nat) (seen : List ByteArray) (k' n' : Nat) (ws : List ByteArray), k ≤ S.size → (∀ w, w ∈ seen → isWd w = true) → (seen.map (fun b => b.data.toList)).Nodup → chR S f k seen = .ok k' n' ws →
    ws ≠ [] ∧ (∀ w, w ∈ ws → isWd w = true) ∧ (ws.map (fun b => b.data.toList)).Nodup
  | 0, _, _, _, _, _, _, _, _, h => by simp [chR] at h
  | f + 1, k, seen, k', n', ws, hk, hw, hnd, h => by
    have hj := skp_le hk
    have hww := wdK_le hj.2
    rw [chR] at h
    by_cases hc : wdC S (skp S k) = 0
    · rw [if_neg (by rw [hc]; decide)] at h
      have hwd := word_read hj.2 hc
      split at h
      · cases h
      · rename_i hcon
        have hall : ∀ w, w ∈ seen ++ [S.extract (skp S k) (wdK S (skp S k))] → isWd w = true := by
          intro w hm
          rcases List.mem_append.1 hm with hm | hm
          · exact hw w hm
          · rw [List.mem_singleton.1 hm]
            exact hwd
        have hnd2 : ((seen ++ [S.extract (skp S k) (wdK S (skp S k))]).map (fun b => b.data.toList)).Nodup := by
          rw [List.map_append, List.map_cons, List.map_nil]
          refine List.nodup_append.2 ⟨hnd, by simp, fun a ha b hb => ?_⟩
          rw [List.mem_singleton.1 hb]
          intro e
          apply hcon
          rw [← e]
          simpa using ha
        split at h
        · have h1 := byteI_in (by assumption) (by decide : (44 : Int) ≠ 0)
          exact chR_good2 f _ _ _ _ _ (by omega) hall hnd2 h
        · split at h
          · injection h with h2 h3 h4
            subst h4
            exact ⟨by simp, hall, hnd2⟩
          · cases h
    · rw [if_pos hc] at h
      cases h

/-! ### Expressions that were read -/
theorem faultEs_all : ∀ {l : List Rx}, (∀ c, c ∈ l → faultE c = 0) → faultEs l = 0
  | [], _ => by rw [faultEs]
  | x :: r, h => by
    rw [faultEs, h x List.mem_cons_self, if_neg (by decide)]
    exact faultEs_all (fun c hc => h c (List.mem_cons_of_mem _ hc))
/-- What is read may be, and has as many as were counted. -/
def VR (S : ByteArray) (f : Nat → Nat → RO Rx) : Prop := ∀ k n k' n' x, k ≤ S.size → f k n = .ok k' n' x → faultE x = 0 ∧ rxSize x + n = n'
theorem wordsF_of {ws : List ByteArray} (hne : ws ≠ []) (hw : ∀ w, w ∈ ws → isWd w = true) (hr : risesW ws = true) : wordsF ws = 0 := by
  have hl : ws.length ≠ 0 := fun e => hne (List.eq_nil_of_length_eq_zero e)
  have ha : ¬ ws.any (fun w => !isWd w) = true := by
    intro h
    obtain ⟨w, hm, hn⟩ := List.any_eq_true.1 h
    rw [hw w hm] at hn
    cases hn
  unfold wordsF
  rw [if_neg (fun h => h.elim hl ha), if_pos hr]
theorem faultE_atom {t : Bool} {ws : List ByteArray} (h : wordsF ws = 0) : faultE (.mk 1 t ws []) = 0 ∧ rxSize (.mk 1 t ws []) = 1 := by
  have ho : ownF 1 t ws 0 = 0 := by
    unfold ownF
    rw [if_neg (by decide), if_neg (by decide), if_pos rfl]
    exact h
  refine ⟨?_, by rw [rxSize, rxsSize]⟩
  rw [faultE]
  show (if ownF 1 t ws 0 ≠ 0 then ownF 1 t ws 0 else faultEs []) = 0
  rw [ho, if_neg (by decide), faultEs]
theorem ownF_join {kind : Int} (h : kind = 2 ∨ kind = 3) {m : Nat} (hm : 2 ≤ m) : ownF kind false [] m = 0 := by
  rcases h with rfl | rfl
  · have h2 : mayH 2 m = true := by
      unfold mayH
      rw [if_neg (by decide), if_pos rfl]
      exact decide_eq_true (by omega)
    simp [ownF, h2]
  · have h2 : mayH 3 m = true := by
      unfold mayH
      rw [if_neg (by decide), if_neg (by decide), if_pos rfl]
      exact decide_eq_true hm
    simp [ownF, h2]
theorem bsR_vr {S : ByteArray} {sub : Option (Nat → Nat → RO Rx)} (hsub : ∀ f, sub = some f → VR S f) : VR S (bsR S sub) := by
  intro k n k' n' x hk h
  have hj := skp_le hk
  unfold bsR at h
  split at h
  · have hlt := byteI_in (by assumption) (by decide : (40 : Int) ≠ 0)
    cases sub with
    | none => cases h
    | some f =>
      simp only at h
      split at h
      · obtain ⟨rfl, rfl, h3, rfl⟩ := cnt_ok h
        exact ⟨by decide, by rw [rxSize, rxsSize]; omega⟩
      · split at h
        · cases h
        · rename_i k1 n1 x1 e1
          have hg := hsub f rfl (skp S k + 1) n k1 n1 x1 (by omega) e1
          split at h
          · injection h with h3 h4 h5
            subst h3 h4 h5
            exact hg
          · cases h
  · split at h
    · obtain ⟨rfl, rfl, h3, rfl⟩ := cnt_ok h
      exact ⟨by decide, by rw [rxSize, rxsSize]; omega⟩
    · split at h
      · have hlt := byteI_in (by assumption) (by decide : (91 : Int) ≠ 0)
        split at h
        · cases h
        · rename_i k1 n1 ws e1
          have hnk := notK_le2 (s := S) (k := skp S k + 1) (by omega)
          have hc := chR_good2 _ _ _ _ _ _ hnk.2 (by simp) (by simp) e1
          obtain ⟨rfl, rfl, h3, rfl⟩ := cnt_ok h
          have hp := srt_perm2 ws
          have hf := faultE_atom (t := decide (byteI S (skp S (skp S k + 1)) = 94)) (wordsF_of (ws := srt ws) (fun e => hc.1 (by have := hp.length_eq; rw [e] at this; exact List.eq_nil_of_length_eq_zero this.symm)) (fun w hw => hc.2.1 w (hp.mem_iff.1 hw)) (srt_rises hc.2.2))
          exact ⟨hf.1, by rw [hf.2]; omega⟩
      · split at h
        · cases h
        · rename_i hc
          have hwd := word_read hj.2 (by simpa using hc)
          obtain ⟨rfl, rfl, h3, rfl⟩ := cnt_ok h
          have hf := faultE_atom (t := false) (wordsF_of (ws := [S.extract (skp S k) (wdK S (skp S k))]) (by simp) (fun w hw => by rw [List.mem_singleton.1 hw]; exact hwd) rfl)
          exact ⟨hf.1, by rw [hf.2]; omega⟩
theorem sgn_lt {c : Int} {i : Nat} (h : sgn c = some i) : i < 3 := by
  unfold sgn at h
  repeat' split at h
  all_goals
    first
      | (injection h with h; omega)
      | cases h
theorem sgR_vr {S : ByteArray} : ∀ (f k n : Nat) (x : Rx) (k' n' : Nat) (y : Rx), faultE x = 0 → sgR S f k n x = .ok k' n' y → faultE y = 0 ∧ rxSize y + n = rxSize x + n'
  | 0, _, _, _, _, _, _, _, h => by cases h
  | f + 1, k, n, x, k', n', y, hx, h => by
    rw [sgR] at h
    split at h
    · injection h with h1 h2 h3
      subst h1 h2 h3
      exact ⟨hx, rfl⟩
    · rename_i i hi
      split at h
      · cases h
      · have hi3 := sgn_lt hi
        have hf : faultE (.mk ((4 + i : Nat) : Int) false [] [x]) = 0 := by
          have ho : ownF ((4 + i : Nat) : Int) false [] [x].length = 0 := by
            show ownF ((4 + i : Nat) : Int) false [] 1 = 0
            rcases (by omega : i = 0 ∨ i = 1 ∨ i = 2) with rfl | rfl | rfl <;> decide
          rw [faultE, ho, if_neg (by decide), faultEs, hx, if_neg (by decide), faultEs]
        have := sgR_vr f _ _ _ _ _ _ hf h
        rw [rxSize, rxsSize, rxsSize] at this
        exact ⟨this.1, by omega⟩
theorem ptR_vr {S : ByteArray} {sub : Option (Nat → Nat → RO Rx)} (hsub : ∀ f, sub = some f → VR S f) : VR S (ptR S sub) := by
  intro k n k' n' x hk h
  unfold ptR at h
  split at h
  · cases h
  · rename_i k1 n1 x1 e1
    have h1 := bsR_vr hsub k n k1 n1 x1 hk e1
    have h2 := sgR_vr 101 k1 n1 x1 k' n' x h1.1 h
    exact ⟨h2.1, by omega⟩
theorem jnL_vr {S : ByteArray} {kind : Int} (hkd : kind = 2 ∨ kind = 3) {next : Nat → Nat → RO Rx} {more : Nat → Option Nat} (hg : WtR S next) (hn : VR S next) (hm : WtM S more) : ∀ (f k n : Nat) (l : List Rx) (k' n' : Nat) (x : Rx), k ≤ S.size → l ≠ [] → (∀ c, c ∈ l → faultE c = 0) → jnL kind next more f k n l = .ok k' n' x → faultE x = 0 ∧ rxSize x + n = 1 + rxsSize l + n'
  | 0, _, _, _, _, _, _, _, _, _, h => by cases h
  | f + 1, k, n, l, k', n', x, hk, hl, hall, h => by
    rw [jnL] at h
    split at h
    · cases h
    · rename_i k1 n1 x1 e1
      have h1 := hn k n k1 n1 x1 hk e1
      have hw := hg k n k1 n1 x1 hk e1
      have hall2 : ∀ c, c ∈ l ++ [x1] → faultE c = 0 := fun c hc => by
        rcases List.mem_append.1 hc with hc | hc
        · exact hall c hc
        · rw [List.mem_singleton.1 hc]; exact h1.1
      split at h
      · rename_i k2 e2
        have h2 := hm k1 k2 hw.2.1 e2
        have := jnL_vr hkd hg hn hm f k2 n1 _ k' n' x h2.2 (by simp) hall2 h
        rw [rxsSize_append, rxsSize, rxsSize] at this
        exact ⟨this.1, by omega⟩
      · injection h with h3 h4 h5
        subst h3 h4 h5
        have hlen : 2 ≤ (l ++ [x1]).length := by
          have : l.length ≠ 0 := fun e => hl (List.eq_nil_of_length_eq_zero e)
          simp
          omega
        have ho : ownF kind false [] (l ++ [x1]).length = 0 := ownF_join hkd hlen
        refine ⟨?_, ?_⟩
        · rw [faultE, ho, if_neg (by decide)]
          exact faultEs_all hall2
        · rw [rxSize, rxsSize_append, rxsSize, rxsSize]
          omega
theorem jnR_vr {S : ByteArray} {kind : Int} (hkd : kind = 2 ∨ kind = 3) {next : Nat → Nat → RO Rx} {more : Nat → Option Nat} (hg : WtR S next) (hn : VR S next) (hm : WtM S more) : VR S (jnR S kind next more) := by
  intro k n k' n' x hk h
  unfold jnR at h
  split at h
  · cases h
  · rename_i k1 n1 x1 e1
    have h1 := hn k n k1 n1 x1 hk e1
    have hw := hg k n k1 n1 x1 hk e1
    split at h
    · injection h with h3 h4 h5
      subst h3 h4 h5
      exact h1
    · rename_i k2 e2
      have h2 := hm k1 k2 hw.2.1 e2
      split at h
      · cases h
      · have := jnL_vr hkd hg hn hm 101 k2 (n1 + 1) _ k' n' x h2.2 (by simp) (fun c hc => by rw [List.mem_singleton.1 hc]; exact h1.1) h
        rw [rxsSize, rxsSize] at this
        exact ⟨this.1, by omega⟩
theorem alR_vr {S : ByteArray} : ∀ e : Nat, VR S (alR S e)
  | 0 => jnR_vr (.inr rfl) (jnR_wt (ptR_wt (fun f h => by cases h)) rwM_wt) (jnR_vr (.inl rfl) (ptR_wt (fun f h => by cases h)) (ptR_vr (fun f h => by cases h)) rwM_wt) alM_wt
  | e + 1 => jnR_vr (.inr rfl) (jnR_wt (ptR_wt (fun f h => by injection h with h; rw [← h]; exact alR_wt e)) rwM_wt) (jnR_vr (.inl rfl) (ptR_wt (fun f h => by injection h with h; rw [← h]; exact alR_wt e)) (ptR_vr (fun f h => by injection h with h; rw [← h]; exact alR_vr e)) rwM_wt) alM_wt
/-- What is read may be. -/
theorem xpR_may {s : ByteArray} {k n : Nat} {x : Rx} (h : xpR s = .ok k n x) : checkE x = 0 ∧ rxWt x + k ≤ 200 + 2 * s.size := by
  unfold xpR at h
  split at h
  · cases h
  · rename_i k1 n1 x1 e1
    split at h
    · injection h with h1 h2 h3
      subst h1 h2 h3
      have hv := alR_vr 64 0 0 k1 n1 x1 (Nat.zero_le _) e1
      have hg := alR_good 64 0 0 k1 n1 x1 (Nat.zero_le _) e1
      have hw := alR_wt 64 0 0 k1 n1 x1 (Nat.zero_le _) e1
      refine ⟨?_, by omega⟩
      unfold checkE
      rw [if_neg (by omega)]
      exact hv.1
    · cases h
end Go.Proofs.YtpccdhkghlbhkaaGreatDoor
