/-
  Plain: the expression that stands at a place of a text, or what is wrong there: words, sets of words, parts, signs, rows, alternatives.
-/
import Derived.Test.YtpccdhkghlbhkaaGreatDoorRxB
import Derived.Test.YtpccdhkghlbhkaaGreatDoorGn
import Derived.Sort.KeysCollected
namespace Go.Proofs.YtpccdhkghlbhkaaGreatDoor
open Go.RowKit Go.Extern.Stop Go.Stop Go.Extern

/-- What a reading answers: an error's number and place; or the place behind, how many expressions there are, and what was read. -/
inductive RO (α : Type) where
  | er (c : Int) (a : Nat)
  | ok (k n : Nat) (x : α)

/-! ### Words -/
/-- Where a word's first name stands. -/
def wd1 (s : ByteArray) (j : Nat) : Nat := if byteI s j = 36 then j + 1 else j
/-- Has it a second one? -/
def wd2 (s : ByteArray) (j : Nat) : Bool := decide (byteI s j ≠ 36) && decide (byteI s (nameK s (wd1 s j)) = 35)
def wdC (s : ByteArray) (j : Nat) : Int := if nameC s (wd1 s j) ≠ 0 then nameC s (wd1 s j) else if wd2 s j then nameC s (nameK s (wd1 s j) + 1) else 0
def wdA (s : ByteArray) (j : Nat) : Nat := if nameC s (wd1 s j) ≠ 0 then wd1 s j else nameK s (wd1 s j) + 1
def wdK (s : ByteArray) (j : Nat) : Nat := if wd2 s j then nameK s (nameK s (wd1 s j) + 1) else nameK s (wd1 s j)
theorem wd1_le {s : ByteArray} {j : Nat} (hj : j ≤ s.size) : wd1 s j ≤ s.size := by
  unfold wd1
  split
  · have := byteI_in (by assumption) (by decide : (36 : Int) ≠ 0); omega
  · exact hj
theorem wd2_in {s : ByteArray} {j : Nat} (h : wd2 s j = true) : nameK s (wd1 s j) + 1 ≤ s.size := by
  unfold wd2 at h
  simp only [Bool.and_eq_true, decide_eq_true_eq] at h
  have := byteI_in h.2 (by decide : (35 : Int) ≠ 0)
  omega
theorem nameK_ge (s : ByteArray) (k : Nat) (hk : k ≤ s.size) : k ≤ nameK s k := by
  unfold nameK
  split
  · exact le_runTo _ s k hk
  · exact Nat.le_refl _
theorem wdK_le {s : ByteArray} {j : Nat} (hj : j ≤ s.size) : j ≤ wdK s j ∧ wdK s j ≤ s.size := by
  have h1 := wd1_le hj
  have h0 : j ≤ wd1 s j := by unfold wd1; split <;> omega
  have h2 := nameK_ge s _ h1
  unfold wdK
  split
  · have h3 := wd2_in (by assumption)
    have h4 := nameK_ge s _ h3
    exact ⟨by omega, nameK_le s _ h3⟩
  · exact ⟨by omega, nameK_le s _ h1⟩
/-- Can a part begin there? -/
def begB (s : ByteArray) (j : Nat) : Bool := decide (byteI s j = 46) || (decide (byteI s j = 91) || (decide (byteI s j = 40) || (decide (byteI s j = 36) || isLet (byteI s j))))

/-! ### Words in order -/
/-- A word into its place among rising ones. -/
def putW : List (List UInt8) → List UInt8 → List (List UInt8)
  | [], w => [w]
  | x :: r, w => if w < x then w :: x :: r else x :: putW r w
def srtL (l : List (List UInt8)) : List (List UInt8) := l.foldl putW []
/-- Words, rising. -/
def srt (l : List ByteArray) : List ByteArray := (srtL (l.map (fun b => b.data.toList))).map (fun b => ⟨b.toArray⟩)
theorem putW_perm : ∀ (l : List (List UInt8)) (w : List UInt8), (putW l w).Perm (w :: l)
  | [], w => by rw [putW]
  | x :: r, w => by
    rw [putW]
    split
    · exact List.Perm.refl _
    · exact ((putW_perm r w).cons x).trans (List.Perm.swap w x r)
theorem putW_mem {l : List (List UInt8)} {w x : List UInt8} (h : x ∈ putW l w) : x = w ∨ x ∈ l := by
  have := (putW_perm l w).mem_iff.1 h
  simpa using this
theorem putW_sorted : ∀ (l : List (List UInt8)) (w : List UInt8), l.Pairwise (fun a b => a ≤ b) → (putW l w).Pairwise (fun a b => a ≤ b)
  | [], w, _ => by rw [putW]; simp
  | x :: r, w, h => by
    rw [putW]
    obtain ⟨h1, h2⟩ := List.pairwise_cons.1 h
    split
    · rename_i hlt
      refine List.pairwise_cons.2 ⟨fun y hy => ?_, h⟩
      rcases List.mem_cons.1 hy with rfl | hy
      · exact List.le_of_lt hlt
      · exact List.le_trans (List.le_of_lt hlt) (h1 y hy)
    · rename_i hlt
      refine List.pairwise_cons.2 ⟨fun y hy => ?_, putW_sorted r w h2⟩
      rcases putW_mem hy with rfl | hy
      · exact List.not_lt.1 hlt
      · exact h1 y hy
theorem srtL_go : ∀ (l acc : List (List UInt8)), acc.Pairwise (fun a b => a ≤ b) → (l.foldl putW acc).Pairwise (fun a b => a ≤ b) ∧ (l.foldl putW acc).Perm (acc ++ l)
  | [], acc, h => ⟨h, by simp⟩
  | w :: l, acc, h => by
    have := srtL_go l (putW acc w) (putW_sorted acc w h)
    refine ⟨this.1, this.2.trans ?_⟩
    have h1 := (putW_perm acc w).append_right l
    refine h1.trans ?_
    exact (List.perm_middle (a := w) (l₁ := acc) (l₂ := l)).symm
theorem mergeSort_srt {ss l : List (List UInt8)} (h : ss.Perm l) : ss.mergeSort (fun x y => decide (x ≤ y)) = srtL l := by
  obtain ⟨h1, h2⟩ := srtL_go l [] List.Pairwise.nil
  have h3 : ss.Perm (srtL l) := h.trans (by simpa [srtL] using h2.symm)
  have e := mergeSort_of_perm h3
  refine e.trans (List.mergeSort_of_pairwise ?_)
  exact h1.imp fun hab => by simpa [leB] using hab

/-! ### A set of words -/
/-- Words with commas between, from behind the [ (and the ^) on, up to behind the ]. -/
def chR (s : ByteArray) : Nat → Nat → List ByteArray → RO (List ByteArray)
  | 0, _, _ => .er 0 0
  | f + 1, k, seen =>
    if wdC s (skp s k) ≠ 0 then .er (wdC s (skp s k)) (wdA s (skp s k))
    else if (seen.map (fun b => b.data.toList)).contains (s.extract (skp s k) (wdK s (skp s k))).data.toList then .er 10 (skp s k)
    else if byteI s (skp s (wdK s (skp s k))) = 44 then chR s f (skp s (wdK s (skp s k)) + 1) (seen ++ [s.extract (skp s k) (wdK s (skp s k))])
    else if byteI s (skp s (wdK s (skp s k))) = 93 then .ok (skp s (wdK s (skp s k)) + 1) 0 (seen ++ [s.extract (skp s k) (wdK s (skp s k))])
    else .er (missC s (skp s (wdK s (skp s k)))) (skp s (wdK s (skp s k)))
theorem chR_le {s : ByteArray} : ∀ (f k : Nat) (seen : List ByteArray) (k' n' : Nat) (ws : List ByteArray), chR s f k seen = .ok k' n' ws → k' ≤ s.size
  | 0, k, seen, k', n', ws, h => by simp [chR] at h
  | f + 1, k, seen, k', n', ws, h => by
    rw [chR] at h
    split at h
    · cases h
    · split at h
      · cases h
      · split at h
        · exact chR_le f _ _ _ _ _ h
        · split at h
          · have := byteI_in (by assumption) (by decide : (93 : Int) ≠ 0)
            injection h with h
            omega
          · cases h
/-- The place behind a ^, if one stands there. -/
def notK (s : ByteArray) (k : Nat) : Nat := if byteI s (skp s k) = 94 then skp s k + 1 else k

/-! ### Counting -/
def cnt {α : Type} (k n : Nat) (x : α) (a : Nat) : RO α := if 100 < n + 1 then .er 6 a else .ok k (n + 1) x

/-! ### Parts -/
/-- A base; sub: what may stand between brackets, if there may be any. -/
def bsR (s : ByteArray) (sub : Option (Nat → Nat → RO Rx)) (k n : Nat) : RO Rx :=
  if byteI s (skp s k) = 40 then
    match sub with
    | none => .er 8 (skp s k)
    | some f =>
      if byteI s (skp s (skp s k + 1)) = 41 then cnt (skp s (skp s k + 1) + 1) n (.mk 2 false [] []) (skp s k)
      else match f (skp s k + 1) n with
        | .er c a => .er c a
        | .ok k' n' x => if byteI s (skp s k') = 41 then .ok (skp s k' + 1) n' x else .er (missC s (skp s k')) (skp s k')
  else if byteI s (skp s k) = 46 then cnt (skp s k + 1) n (.mk 0 false [] []) (skp s k)
  else if byteI s (skp s k) = 91 then
    match chR s (s.size + 1) (notK s (skp s k + 1)) [] with
    | .er c a => .er c a
    | .ok k' _ ws => cnt k' n (.mk 1 (decide (byteI s (skp s (skp s k + 1)) = 94)) (srt ws) []) (skp s k)
  else if wdC s (skp s k) ≠ 0 then .er (wdC s (skp s k)) (wdA s (skp s k))
  else cnt (wdK s (skp s k)) n (.mk 1 false [s.extract (skp s k) (wdK s (skp s k))] []) (skp s k)
/-- Which of the three signs a byte is. -/
def sgn (c : Int) : Option Nat := if c = 42 then some 0 else if c = 43 then some 1 else if c = 63 then some 2 else none
def sgR (s : ByteArray) : Nat → Nat → Nat → Rx → RO Rx
  | 0, _, _, _ => .er 0 0
  | f + 1, k, n, x =>
    match sgn (byteI s (skp s k)) with
    | none => .ok k n x
    | some i => if 100 < n + 1 then .er 6 (skp s k) else sgR s f (skp s k + 1) (n + 1) (.mk (4 + i : Nat) false [] [x])
def ptR (s : ByteArray) (sub : Option (Nat → Nat → RO Rx)) (k n : Nat) : RO Rx :=
  match bsR s sub k n with
  | .er c a => .er c a
  | .ok k' n' x => sgR s 101 k' n' x

/-! ### Rows -/
/-- More of a kind, behind some. -/
def jnL (kind : Int) (next : Nat → Nat → RO Rx) (more : Nat → Option Nat) : Nat → Nat → Nat → List Rx → RO Rx
  | 0, _, _, _ => .er 0 0
  | f + 1, k, n, l =>
    match next k n with
    | .er c a => .er c a
    | .ok k1 n1 x =>
      match more k1 with
      | some k2 => jnL kind next more f k2 n1 (l ++ [x])
      | none => .ok k1 n1 (.mk kind false [] (l ++ [x]))
def jnR (s : ByteArray) (kind : Int) (next : Nat → Nat → RO Rx) (more : Nat → Option Nat) (k n : Nat) : RO Rx :=
  match next k n with
  | .er c a => .er c a
  | .ok k1 n1 x =>
    match more k1 with
    | none => .ok k1 n1 x
    | some k2 => if 100 < n1 + 1 then .er 6 (skp s k2) else jnL kind next more 101 k2 (n1 + 1) [x]
def rwM (s : ByteArray) (k : Nat) : Option Nat := if begB s (skp s k) then some k else none
def alM (s : ByteArray) (k : Nat) : Option Nat := if byteI s (skp s k) = 124 then some (skp s k + 1) else none
def rwR (s : ByteArray) (sub : Option (Nat → Nat → RO Rx)) : Nat → Nat → RO Rx := jnR s 2 (ptR s sub) (rwM s)
/-- Alternatives, where so many brackets more may be opened. -/
def alR (s : ByteArray) : Nat → Nat → Nat → RO Rx
  | 0 => jnR s 3 (rwR s none) (alM s)
  | e + 1 => jnR s 3 (rwR s (some (alR s e))) (alM s)
def subR (s : ByteArray) : Nat → Option (Nat → Nat → RO Rx)
  | 0 => none
  | e + 1 => some (alR s e)
theorem alR_eq (s : ByteArray) (e : Nat) : alR s e = jnR s 3 (rwR s (subR s e)) (alM s) := by cases e <;> rfl

/-! ### What is read is more by one at least -/
def GoodR (s : ByteArray) (f : Nat → Nat → RO Rx) : Prop := ∀ k n k' n' x, k ≤ s.size → f k n = .ok k' n' x → n < n' ∧ n' ≤ 100 ∧ k' ≤ s.size
theorem cnt_ok {α : Type} {k n a k' n' : Nat} {x y : α} (h : cnt k n x a = .ok k' n' y) : k' = k ∧ n' = n + 1 ∧ n + 1 ≤ 100 ∧ y = x := by
  unfold cnt at h
  split at h
  · cases h
  · injection h with h1 h2 h3
    subst h1 h2 h3
    exact ⟨rfl, rfl, by omega, rfl⟩
theorem bsR_good {s : ByteArray} {sub : Option (Nat → Nat → RO Rx)} (hsub : ∀ f, sub = some f → GoodR s f) : GoodR s (bsR s sub) := by
  intro k n k' n' x hk h
  have hj := (skp_le hk).2
  unfold bsR at h
  split at h
  · have hlt := byteI_in (by assumption) (by decide : (40 : Int) ≠ 0)
    cases sub with
    | none => cases h
    | some f =>
      simp only at h
      split at h
      · have := byteI_in (by assumption) (by decide : (41 : Int) ≠ 0)
        obtain ⟨rfl, rfl, h3, -⟩ := cnt_ok h
        omega
      · split at h
        · cases h
        · rename_i k1 n1 x1 e1
          have hg := hsub f rfl (skp s k + 1) n k1 n1 x1 (by omega) e1
          split at h
          · have := byteI_in (by assumption) (by decide : (41 : Int) ≠ 0)
            injection h with h1 h2 h3
            omega
          · cases h
  · split at h
    · have hlt := byteI_in (by assumption) (by decide : (46 : Int) ≠ 0)
      obtain ⟨rfl, rfl, h3, -⟩ := cnt_ok h
      omega
    · split at h
      · split at h
        · cases h
        · rename_i k1 n1 ws e1
          have := chR_le _ _ _ _ _ _ e1
          obtain ⟨rfl, rfl, h3, -⟩ := cnt_ok h
          omega
      · split at h
        · cases h
        · obtain ⟨rfl, rfl, h3, -⟩ := cnt_ok h
          have := (wdK_le hj).2
          omega
theorem sgR_good {s : ByteArray} : ∀ (f k n : Nat) (x : Rx) (k' n' : Nat) (y : Rx), k ≤ s.size → n ≤ 100 → sgR s f k n x = .ok k' n' y → n ≤ n' ∧ n' ≤ 100 ∧ k' ≤ s.size
  | 0, k, n, x, k', n', y, _, _, h => by cases h
  | f + 1, k, n, x, k', n', y, hk, hn, h => by
    rw [sgR] at h
    split at h
    · injection h with h1 h2 h3
      omega
    · rename_i i hi
      split at h
      · cases h
      · have hlt : skp s k < s.size := by
          have h0 : byteI s (skp s k) ≠ 0 := by
            intro h0
            rw [h0] at hi
            simp [sgn] at hi
          exact byteI_in rfl h0
        have := sgR_good f _ _ _ _ _ _ (by omega) (by omega) h
        omega
theorem ptR_good {s : ByteArray} {sub : Option (Nat → Nat → RO Rx)} (hsub : ∀ f, sub = some f → GoodR s f) : GoodR s (ptR s sub) := by
  intro k n k' n' x hk h
  unfold ptR at h
  split at h
  · cases h
  · rename_i k1 n1 x1 e1
    have h1 := bsR_good hsub k n k1 n1 x1 hk e1
    have := sgR_good 101 k1 n1 x1 k' n' x h1.2.2 h1.2.1 h
    omega
def GoodM (s : ByteArray) (more : Nat → Option Nat) : Prop := ∀ k k', k ≤ s.size → more k = some k' → k' ≤ s.size
theorem rwM_good {s : ByteArray} : GoodM s (rwM s) := by
  intro k k' hk h
  unfold rwM at h
  split at h
  · injection h with h; omega
  · cases h
theorem alM_good {s : ByteArray} : GoodM s (alM s) := by
  intro k k' hk h
  unfold alM at h
  split at h
  · have := byteI_in (by assumption) (by decide : (124 : Int) ≠ 0)
    injection h with h; omega
  · cases h
theorem jnL_good {s : ByteArray} {kind : Int} {next : Nat → Nat → RO Rx} {more : Nat → Option Nat} (hn : GoodR s next) (hm : GoodM s more) : ∀ (f k n : Nat) (l : List Rx) (k' n' : Nat) (x : Rx), k ≤ s.size → jnL kind next more f k n l = .ok k' n' x → n < n' ∧ n' ≤ 100 ∧ k' ≤ s.size
  | 0, k, n, l, k', n', x, _, h => by cases h
  | f + 1, k, n, l, k', n', x, hk, h => by
    rw [jnL] at h
    split at h
    · cases h
    · rename_i k1 n1 x1 e1
      have h1 := hn k n k1 n1 x1 hk e1
      split at h
      · rename_i k2 e2
        have h2 := hm k1 k2 h1.2.2 e2
        have := jnL_good hn hm f k2 n1 _ k' n' x h2 h
        omega
      · injection h with h3 h4 h5
        omega
theorem jnR_good {s : ByteArray} {kind : Int} {next : Nat → Nat → RO Rx} {more : Nat → Option Nat} (hn : GoodR s next) (hm : GoodM s more) : GoodR s (jnR s kind next more) := by
  intro k n k' n' x hk h
  unfold jnR at h
  split at h
  · cases h
  · rename_i k1 n1 x1 e1
    have h1 := hn k n k1 n1 x1 hk e1
    split at h
    · injection h with h3 h4 h5
      omega
    · rename_i k2 e2
      have h2 := hm k1 k2 h1.2.2 e2
      split at h
      · cases h
      · have := jnL_good hn hm 101 k2 (n1 + 1) _ k' n' x h2 h
        omega
theorem rwR_good {s : ByteArray} {sub : Option (Nat → Nat → RO Rx)} (hsub : ∀ f, sub = some f → GoodR s f) : GoodR s (rwR s sub) := jnR_good (ptR_good hsub) rwM_good
theorem alR_good {s : ByteArray} : ∀ e : Nat, GoodR s (alR s e)
  | 0 => jnR_good (rwR_good (fun f h => by cases h)) alM_good
  | e + 1 => jnR_good (rwR_good (fun f h => by injection h with h; rw [← h]; exact alR_good e)) alM_good
theorem subR_good {s : ByteArray} (e : Nat) : ∀ f, subR s e = some f → GoodR s f := by
  intro f h
  cases e with
  | zero => cases h
  | succ e => injection h with h; rw [← h]; exact alR_good e
end Go.Proofs.YtpccdhkghlbhkaaGreatDoor
