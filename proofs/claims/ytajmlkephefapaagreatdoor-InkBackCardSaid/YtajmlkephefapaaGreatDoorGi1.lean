/-
  What a budget tells of a value, plain: its rows, its texts, its text's length.
  A value's text is read back, plain: leaves, and rows of items.
  Chapter 13's example: its text is a whole text of layer 5, and which value it is (written by wip/gensmall.py).
  A value's text is read back, plain: keys, items.
  A value's text is read back, plain: values; the whole text.
  What is read may be written, and is no longer, plain: texts, numbers.
  What is read may be written, and is no longer, plain: values.
  What is read may be written, and is no longer, plain: all values; the same turned round.
-/
import Derived.Test.YtajmlkephefapaaGreatDoorGi2
import Derived.Test.YtajmlkephefapaaGreatDoorInkA
import Derived.Test.YtajmlkephefapaaGreatDoorGtr
import Derived.Test.YtajmlkephefapaaGreatDoorGi6
namespace Go.Proofs.YtajmlkephefapaaGreatDoor
open Go.RowKit Go.Extern.Stop Go.Stop Go.Extern Go.WideMaps

def kz (l : List ByteArray) : Int := (l.map fun y => (y.size : Int)).sum
def tz (l : List (List UInt8)) : Int := (l.map fun y => (y.length : Int)).sum
theorem kz_nn (l : List ByteArray) : 0 ≤ kz l := by
  induction l with
  | nil => exact Int.le_refl _
  | cons y r ih => unfold kz at *; rw [List.map_cons, List.sum_cons]; omega
theorem kz_append (a b : List ByteArray) : kz (a ++ b) = kz a + kz b := by unfold kz; rw [List.map_append, List.sum_append]
theorem tz_append (a b : List (List UInt8)) : tz (a ++ b) = tz a + tz b := by unfold tz; rw [List.map_append, List.sum_append]
theorem lf5W_ok : ∀ {l : List ByteArray} {n : Int}, n ≤ 90000 → 0 ≤ lf5W l n → lf5W l n = n - kz l ∧ ∀ y ∈ l, y.size ≤ 90000
  | [], n, hn, h => by rw [lf5W]; exact ⟨by unfold kz; simp, fun y hy => by cases hy⟩
  | y :: r, n, hn, h => by
    have e : kz (y :: r) = y.size + kz r := by unfold kz; rw [List.map_cons, List.sum_cons]
    rw [lf5W] at h ⊢
    by_cases h0 : n < 0
    · rw [if_pos h0] at h; omega
    · rw [if_neg h0] at h ⊢
      have hb := lf5W_bd r (n - min (y.size : Int) 100000) (by omega)
      obtain ⟨h1, h2⟩ := lf5W_ok (l := r) (by omega) h
      have hz := kz_nn r
      refine ⟨by rw [h1, e]; omega, fun z hz' => ?_⟩
      rcases List.mem_cons.1 hz' with rfl | hz'
      · omega
      · exact h2 z hz'
theorem quoL_le (y : ByteArray) : ((quoL y.data.toList).length : Int) ≤ 2 * y.size + 2 := by
  have h := bodyQ_len y.data.toList
  have e : y.data.toList.length = y.size := by rw [Array.length_toList]; rfl
  rw [quoL_len]
  omega
theorem inkJ_len (obj : Bool) (keys : List ByteArray) (ts : List (List UInt8)) : ∀ i : Nat, ((inkJ obj keys ts i).length : Int) ≤ 4 * i + 2 * kz (keys.take i) + tz (ts.take i)
  | 0 => by simp [inkJ, kz, tz]
  | i + 1 => by
    have h := inkJ_len obj keys ts i
    have hk : 2 * kz (keys.take i) + ((if obj then quoL (keys.getD i ⟨#[]⟩).data.toList ++ [58] else []).length : Int) ≤ 2 * kz (keys.take (i + 1)) + 3 := by
      have hq := quoL_le (keys.getD i ⟨#[]⟩)
      have hg : kz (keys.take i) + ((keys.getD i ⟨#[]⟩).size : Int) ≤ kz (keys.take (i + 1)) := by
        by_cases hi : i < keys.length
        · have e1 : kz (some keys[i]).toList = (keys[i].size : Int) := by simp [kz]
          have e2 : keys.getD i ⟨#[]⟩ = keys[i] := by simp [List.getD, hi]
          rw [List.take_add_one, List.getElem?_eq_getElem hi, kz_append, e1, e2]
          omega
        · rw [List.take_of_length_le (by omega), List.take_of_length_le (by omega)]
          have : keys.getD i ⟨#[]⟩ = ⟨#[]⟩ := by simp [List.getD, List.getElem?_eq_none (Nat.le_of_not_lt hi)]
          rw [this]
          have : ((⟨#[]⟩ : ByteArray).size : Int) = 0 := rfl
          omega
      cases obj with
      | true => simp only [if_true, List.length_append, List.length_singleton]; omega
      | false => simp only [Bool.false_eq_true, if_false, List.length_nil]; omega
    have ht : tz (ts.take i) + ((ts.getD i []).length : Int) ≤ tz (ts.take (i + 1)) := by
      by_cases hi : i < ts.length
      · have e1 : tz (some ts[i]).toList = (ts[i].length : Int) := by simp [tz]
        have e2 : ts.getD i [] = ts[i] := by simp [List.getD, hi]
        rw [List.take_add_one, List.getElem?_eq_getElem hi, tz_append, e1, e2]
        omega
      · rw [List.take_of_length_le (by omega), List.take_of_length_le (by omega)]
        simp [List.getD, List.getElem?_eq_none (Nat.le_of_not_lt hi)]
    have hc : ((if i = 0 then ([] : List UInt8) else [44]).length : Int) ≤ 1 := by split <;> simp
    rw [inkJ]
    simp only [List.length_append] at *
    push_cast at *
    omega
theorem dig_len (n : Int) : ((Lib.decDigits (capI n).toNat).length : Int) ≤ 20 := by
  have h : (Lib.decDigits (capI n).toNat).length ≤ 20 := by
    rw [Lib.decDigits_length]
    refine Lib.nDigits_le20 _ ?_
    have : capI n ≤ 9223372036854775807 := by unfold capI most; split <;> omega
    omega
  omega
/-- What a budget that is kept tells. -/
structure Fit (n : Int) (x : Val) : Prop where
  ok : okI x
  tx : okT x
  len : ((inkV x).length : Int) + 10 ≤ 40 * (n - lf5 x n)
structure Fits (n : Int) (l : List Val) : Prop where
  ok : okIs l
  tx : okTs l
  cnt : (l.length : Int) ≤ n - lf5L l n
  len : tz (inkVs l) + 10 * l.length ≤ 40 * (n - lf5L l n)
mutual
theorem fit_of : ∀ (x : Val) (n : Int), 0 ≤ n → n ≤ 90000 → 0 ≤ lf5 x n → Fit n x
  | .mk k t u list keys z, n, h0, h1, h => by
    have e : lf5 (.mk k t u list keys z) n = lf5L list (lf5W keys (n - (1 + min (t.size : Int) 100000 + min (keys.length : Int) 100000))) := by rw [lf5]
    rw [e] at h
    have hWb := lf5W_bd keys (n - (1 + min (t.size : Int) 100000 + min (keys.length : Int) 100000)) (by omega)
    have hLb := lf5L_bd list (lf5W keys (n - (1 + min (t.size : Int) 100000 + min (keys.length : Int) 100000))) hWb.1
    obtain ⟨w1, w2⟩ := lf5W_ok (l := keys) (n := n - (1 + min (t.size : Int) 100000 + min (keys.length : Int) 100000)) (by omega) (by omega)
    have hL := fits_of list (lf5W keys (n - (1 + min (t.size : Int) 100000 + min (keys.length : Int) 100000))) (by omega) h
    have hz := kz_nn keys
    have hcnt := hL.cnt
    have hlen := hL.len
    refine ⟨by rw [okI]; exact ⟨by omega, by omega, hL.ok⟩, by rw [okT]; exact ⟨by omega, fun y hy => by have := w2 y hy; omega, hL.tx⟩, ?_⟩
    rw [e]
    have hq := quoL_le t
    have hd := dig_len u
    have hJ : ∀ obj, ((inkJ obj keys (inkVs list) (inkVs list).length).length : Int) ≤ 4 * list.length + 2 * kz keys + tz (inkVs list) := by
      intro obj
      have hj := inkJ_len obj keys (inkVs list) (inkVs list).length
      rw [List.take_length, inkVs_len] at hj
      rw [inkVs_len]
      have hk : kz (keys.take list.length) ≤ kz keys := by
        have : kz keys = kz (keys.take list.length) + kz (keys.drop list.length) := by
          conv => lhs; rw [← List.take_append_drop list.length keys]
          unfold kz
          rw [List.map_append, List.sum_append]
        have := kz_nn (keys.drop list.length)
        omega
      omega
    have hJ1 := hJ true
    have hJ2 := hJ false
    generalize lf5L list (lf5W keys (n - (1 + min (t.size : Int) 100000 + min (keys.length : Int) 100000))) = r at *
    generalize lf5W keys (n - (1 + min (t.size : Int) 100000 + min (keys.length : Int) 100000)) = r1 at *
    rw [inkV]
    split
    · simp; omega
    · split
      · simp; omega
      · split
        · simp; omega
        · split
          · omega
          · split
            · omega
            · split
              · simp only [List.length_cons, List.length_append, List.length_nil]; push_cast; omega
              · split
                · simp only [List.length_cons, List.length_append, List.length_nil]; push_cast; omega
                · simp; omega
theorem fits_of : ∀ (l : List Val) (n : Int), n ≤ 90000 → 0 ≤ lf5L l n → Fits n l
  | [], n, h1, h => by
    refine ⟨by rw [okIs]; trivial, by rw [okTs]; trivial, ?_, ?_⟩
    · rw [lf5L]; simp
    · rw [lf5L, inkVs]; simp [tz]
  | x :: r, n, h1, h => by
    by_cases h0 : n < 0
    · rw [lf5L, if_pos h0] at h; omega
    rw [lf5L, if_neg h0] at h
    have hb := lf5_bd x n (by omega)
    have hb2 := lf5L_bd r (lf5 x n) hb.1
    have hx := fit_of x n (by omega) h1 (by omega)
    have hr := fits_of r (lf5 x n) (by omega) h
    have c1 := hx.len
    have c2 := hr.len
    have c3 := hr.cnt
    refine ⟨by rw [okIs]; exact ⟨hx.ok, hr.ok⟩, by rw [okTs]; exact ⟨hx.tx, hr.tx⟩, ?_, ?_⟩
    · rw [lf5L, if_neg h0, List.length_cons]; push_cast; omega
    · have e : tz (inkVs (x :: r)) = (inkV x).length + tz (inkVs r) := by rw [inkVs]; unfold tz; rw [List.map_cons, List.sum_cons]
      rw [lf5L, if_neg h0, List.length_cons, e]; push_cast; omega
end
end Go.Proofs.YtajmlkephefapaaGreatDoor

namespace Go.Proofs.YtajmlkephefapaaGreatDoor
open Go.RowKit Go.Extern.Stop Go.Stop Go.Extern Go.WideMaps

theorem Stand.left {T : ByteArray} {k : Nat} {a b : List UInt8} (h : Stand T k (a ++ b)) : Stand T k a := fun i u hi => h i u (by
  have hlt := (List.getElem?_eq_some_iff.1 hi).1
  rw [List.getElem?_append_left hlt]; exact hi)
theorem Stand.right {T : ByteArray} {k : Nat} {a b : List UInt8} (h : Stand T k (a ++ b)) : Stand T (k + a.length) b := fun i u hi => by
  have := h (a.length + i) u (by rw [List.getElem?_append_right (by omega)]; simpa using hi)
  rwa [show k + a.length + i = k + (a.length + i) by omega]
theorem word_stand {T : ByteArray} : ∀ {l : List UInt8} {k : Nat}, Stand T k l → wordR T k l = (k + l.length, 0)
  | [], k, _ => by simp [wordR]
  | b :: r, k, h => by
    obtain ⟨h0, -, h1, h2⟩ := h.cons
    rw [wordR, if_pos ⟨h0, h1⟩, word_stand h2, List.length_cons]
    congr 1
    omega
theorem run_stand {T : ByteArray} {p : Int → Bool} : ∀ {l : List UInt8} {k : Nat}, Stand T k l → (∀ b ∈ l, p (b.toNat : Int) = true) → p (byteI T (k + l.length)) = false → runTo p T k = k + l.length
  | [], k, _, _, hn => by
    by_cases hk : k < T.size
    · rw [runTo_stop hk (by rw [← byteI_lt hk]; exact hn)]; rfl
    · rw [runTo_end hk]; rfl
  | b :: r, k, h, hp, hn => by
    obtain ⟨h0, -, h1, h2⟩ := h.cons
    have e : p (T[k].toNat : Int) = true := by rw [← byteI_lt h1, h0]; exact hp b (List.mem_cons_self ..)
    rw [runTo_go h1 e, run_stand h2 (fun c hc => hp c (List.mem_cons_of_mem _ hc)) (by rw [show k + 1 + r.length = k + (b :: r).length by rw [List.length_cons]; omega]; exact hn), List.length_cons]
    omega
theorem ext_stand {T : ByteArray} {l : List UInt8} {k : Nat} (h : Stand T k l) : (T.extract k (k + l.length)).data.toList = l := by
  simp only [ByteArray.data_extract, Array.toList_extract, List.extract_eq_take_drop]
  apply List.ext_getElem?
  intro i
  rw [List.getElem?_take]
  by_cases hi : i < l.length
  · obtain ⟨-, h2, h3⟩ := h i l[i] (List.getElem?_eq_getElem hi)
    unfold byteU at h2
    rw [dif_pos h3] at h2
    rw [if_pos (by omega), List.getElem?_drop, List.getElem?_eq_getElem hi, ← h2]
    have h3' : k + i < T.data.toList.length := by rw [Array.length_toList]; exact h3
    rw [List.getElem?_eq_getElem h3']
    rfl
  · rw [if_neg (by omega), List.getElem?_eq_none (by omega)]
/-- A byte that neither a blank nor what shuts begins. -/
def StartB (b : Int) : Prop := isBl b = false ∧ b ≠ 93 ∧ b ≠ 125
theorem dig_isDig {c : UInt8} (h : isD c = true) : isDig (c.toNat : Int) = true := by
  have := (isD_iff c).1 h
  unfold isDig sortI
  rw [if_neg (by omega), if_neg (by omega), if_pos (by omega)]
  rfl
theorem dig_start {c : UInt8} (h : isD c = true) : StartB (c.toNat : Int) := by
  have := (isD_iff c).1 h
  refine ⟨?_, by omega, by omega⟩
  unfold isBl sortI
  rw [if_neg (by omega), if_neg (by omega), if_pos (by omega)]
  rfl
/-- What a number's text is read as. -/
theorem num_read {T : ByteArray} {k : Nat} {n : Nat} (hn : (n : Int) ≤ 9223372036854775807) (h : Stand T k (Lib.decDigits n)) (he : isDig (byteI T (k + (Lib.decDigits n).length)) = false) :
    leafR T k = .ok (k + (Lib.decDigits n).length) (.mk 3 ⟨#[]⟩ n [] [] k) ∧ ¬ opens (byteI T k) := by
  obtain ⟨-, hd, hne, -⟩ := dec_facts n
  have hr := run_stand (p := isDig) h (fun b hb => dig_isDig (hd b hb)) he
  obtain ⟨c, r, hc⟩ : ∃ c r, Lib.decDigits n = c :: r := by
    cases hl : Lib.decDigits n with
    | nil => exact absurd hl hne
    | cons c r => exact ⟨c, r, rfl⟩
  have h' := h
  rw [hc] at h'
  have hb := h'.cons.1
  have hcd := (isD_iff c).1 (hd c (by rw [hc]; exact List.mem_cons_self ..))
  refine ⟨leaf_num ⟨by omega, by omega, by omega, by omega⟩ (num_of hr (by rw [hc, List.length_cons]; omega) ?_), ?_⟩
  · rw [ext_stand h]
    exact parse_dec n hn
  · unfold opens
    omega
theorem sk_non {T : ByteArray} {k : Nat} (h : isBl (byteI T k) = false) : sk T k = k := by
  by_cases hk : k < T.size
  · exact runTo_stop hk (by rw [← byteI_lt hk]; exact h)
  · exact runTo_end hk
/-- The first byte of a text that may be. -/
theorem ink_head {d : Int} {x : Val} (hc : (chkV d x).1 = 0) (hn : okN x) : ∃ b r, inkV x = b :: r ∧ StartB (b.toNat : Int) := by
  cases x with
  | mk k t u list keys z =>
    rw [chkV] at hc
    have hf : ¬ (k < 0 ∨ 6 < k) := by
      intro hk
      have : flawI d k t u list.length keys.length = 9 := by
        unfold flawI
        rw [if_neg (by omega), if_pos hk]
      rw [this, if_pos (by decide)] at hc
      exact absurd hc (by decide)
    have hk : k = 0 ∨ k = 1 ∨ k = 2 ∨ k = 3 ∨ k = 4 ∨ k = 5 ∨ k = 6 := by omega
    rw [inkV]
    rcases hk with rfl | rfl | rfl | rfl | rfl | rfl | rfl
    · exact ⟨_, _, rfl, by decide, by decide, by decide⟩
    · exact ⟨_, _, rfl, by decide, by decide, by decide⟩
    · exact ⟨_, _, rfl, by decide, by decide, by decide⟩
    · obtain ⟨-, hd, hne, -⟩ := dec_facts (capI u).toNat
      cases hl : Lib.decDigits (capI u).toNat with
      | nil => exact absurd hl hne
      | cons c r => exact ⟨c, r, by simp [hl], dig_start (hd c (by rw [hl]; exact List.mem_cons_self ..))⟩
    · exact ⟨_, _, by simp [quoL]; exact ⟨rfl, rfl⟩, by decide, by decide, by decide⟩
    · exact ⟨91, _, by simp; rfl, by decide, by decide, by decide⟩
    · exact ⟨123, _, by simp; rfl, by decide, by decide, by decide⟩
/-- Items with commas between, what follows the first. -/
def tailJ : List (List UInt8) → List UInt8
  | [] => []
  | x :: r => 44 :: (x ++ tailJ r)
def joinJ : List (List UInt8) → List UInt8
  | [] => []
  | x :: r => x ++ tailJ r
theorem tailJ_snoc : ∀ (a : List (List UInt8)) (b : List UInt8), tailJ (a ++ [b]) = tailJ a ++ 44 :: b
  | [], b => by simp [tailJ]
  | x :: r, b => by simp [tailJ, tailJ_snoc r b]
theorem joinJ_snoc (a : List (List UInt8)) (b : List UInt8) : joinJ (a ++ [b]) = joinJ a ++ (if a.length = 0 then [] else [44]) ++ b := by
  cases a with
  | nil => simp [joinJ, tailJ]
  | cons x r => simp [joinJ, tailJ_snoc]
/-- An item's text. -/
def itm (obj : Bool) (y : ByteArray) (t : List UInt8) : List UInt8 := (if obj then quoL y.data.toList ++ [58] else []) ++ t
theorem inkJ_join (obj : Bool) (keys : List ByteArray) (ts : List (List UInt8)) : ∀ i : Nat, inkJ obj keys ts i = joinJ ((List.range i).map fun j => itm obj (keys.getD j ⟨#[]⟩) (ts.getD j []))
  | 0 => by simp [inkJ, joinJ]
  | i + 1 => by
    rw [List.range_succ, List.map_append, List.map_cons, List.map_nil, joinJ_snoc, inkJ, inkJ_join obj keys ts i]
    unfold itm
    simp [List.append_assoc]
end Go.Proofs.YtajmlkephefapaaGreatDoor

namespace Go.Proofs.YtajmlkephefapaaGreatDoor
open Go.RowKit Go.Extern.Stop Go.Stop Go.Extern Go.WideMaps

/-- The text's bytes stand there, none a quote or a slash, and a quote behind them. -/
def plainAt (s : ByteArray) : Nat → List UInt8 → Bool
  | k, [] => decide (byteI s k = 34)
  | k, b :: r => decide (byteI s k = (b.toNat : Int)) && decide (byteU s k = b) && decide (32 ≤ b.toNat ∧ b.toNat ≤ 126 ∧ b.toNat ≠ 34 ∧ b.toNat ≠ 92) && plainAt s (k + 1) r
theorem plain_txt (s : ByteArray) : ∀ (l : List UInt8) (k : Nat), plainAt s k l = true → txtR s k = ⟨0, 0, k + l.length + 1, l⟩
  | [], k, h => txtR_end (of_decide_eq_true h)
  | b :: r, k, h => by
    unfold plainAt at h
    rw [Bool.and_eq_true, Bool.and_eq_true, Bool.and_eq_true] at h
    obtain ⟨⟨⟨h0, h1⟩, h2⟩, h3⟩ := h
    have h0 := of_decide_eq_true h0
    have h1 := of_decide_eq_true h1
    obtain ⟨a1, a2, a3, a4⟩ := of_decide_eq_true h2
    have e : signR s k = ⟨k + 1, b, 0, 0⟩ := by
      unfold signR
      rw [if_neg (by omega), if_pos (by omega), h1]
    rw [txtR_go (by omega) (by rw [e]), e]
    show ({ txtR s (k + 1) with t := b :: (txtR s (k + 1)).t } : Tx) = _
    rw [plain_txt s r (k + 1) h3]
    simp only [List.length_cons, Tx.mk.injEq, true_and, and_true]
    omega
theorem plain_quo {s : ByteArray} {p : Nat} {l : List UInt8} (h : byteI s p = 34) (hp : plainAt s (p + 1) l = true) : quoR s p = ⟨0, 0, p + 1 + l.length + 1, l⟩ := by
  unfold quoR
  rw [if_pos h, plain_txt s l _ hp]
theorem leafS {s : ByteArray} (d k : Nat) (l : List UInt8) (j : Nat) (h : byteI s k = 34) (hp : plainAt s (k + 1) l = true) (hj : j = k + 1 + l.length + 1) : V s d k (.ok j (.mk 4 ⟨l.toArray⟩ 0 [] [] k)) := by
  have := W.leaf (s := s) d k (by rw [h]; decide)
  unfold leafR at this
  rw [if_neg (by rw [h]; decide), if_neg (by rw [h]; decide), if_neg (by rw [h]; decide), if_pos h, plain_quo h hp, if_pos rfl] at this
  rw [hj]
  exact this
theorem keyA {s : ByteArray} (p : Nat) (ks : List ByteArray) : keyR s 91 p ks = .ok p ⟨#[]⟩ := by unfold keyR; rw [if_pos rfl]
theorem keyS {s : ByteArray} (p : Nat) (l : List UInt8) (ks : List ByteArray) (j q : Nat) (h : byteI s p = 34) (hp : plainAt s (p + 1) l = true) (hk : hasKey ks ⟨l.toArray⟩ = false) (hj : sk s j = j) (hc : byteI s j = 58) (hq : sk s q = q) (hjq : j = p + 1 + l.length + 1 ∧ q = j + 1) : keyR s 123 p ks = .ok q ⟨l.toArray⟩ := by
  obtain ⟨rfl, rfl⟩ := hjq
  unfold keyR
  rw [if_neg (by decide), plain_quo h hp, if_neg (by simp)]
  simp only
  rw [if_neg (by rw [hk]; simp), hj, if_pos hc, hq]
theorem ilast {s : ByteArray} {d : Nat} {b : Int} {p : Nat} {ks : List ByteArray} {q : Nat} {key : ByteArray} {j : Nat} {v : Val} (hk : keyR s b p ks = .ok q key) (hv : V s d q (.ok j v)) (hs : sk s j = j) (hb : byteI s j = shutI b) : I s d b p ks (.ok (j + 1) [v] [key]) := by
  have := W.last d b p ks q key j v hk hv (by rw [hs]; exact hb)
  rwa [hs] at this
theorem imore {s : ByteArray} {d : Nat} {b : Int} {p : Nat} {ks : List ByteArray} {q : Nat} {key : ByteArray} {j : Nat} {v : Val} {e : Nat} {vs : List Val} {kk : List ByteArray} (hk : keyR s b p ks = .ok q key) (hv : V s d q (.ok j v)) (hs : sk s j = j) (hb : byteI s j = 44) (hs2 : sk s (j + 1) = j + 1) (hi : I s d b (j + 1) (ks ++ [key]) (.ok e vs kk)) :
    I s d b p ks (.ok e (v :: vs) (key :: kk)) :=
  W.more d b p ks q key j v (.ok e vs kk) hk hv (by rw [hs]; exact hb) (by rw [hs, hs2]; exact hi)
theorem varr {s : ByteArray} {d k e : Nat} {vs : List Val} {ks : List ByteArray} (hb : byteI s k = 91) (hd : d < 64) (hs : sk s (k + 1) = k + 1) (hn : byteI s (k + 1) ≠ 93) (hi : I s (d + 1) 91 (k + 1) [] (.ok e vs ks)) : V s d k (.ok e (.mk 5 ⟨#[]⟩ 0 vs [] k)) := by
  have := W.some (s := s) d k (.ok e vs ks) (.inl hb) hd (by rw [hs, hb]; exact hn) (by rw [hs, hb]; exact hi)
  rw [hb] at this
  exact this
theorem vobj {s : ByteArray} {d k e : Nat} {vs : List Val} {ks : List ByteArray} (hb : byteI s k = 123) (hd : d < 64) (hs : sk s (k + 1) = k + 1) (hn : byteI s (k + 1) ≠ 125) (hi : I s (d + 1) 123 (k + 1) [] (.ok e vs ks)) : V s d k (.ok e (.mk 6 ⟨#[]⟩ 0 vs ks k)) := by
  have := W.some (s := s) d k (.ok e vs ks) (.inr hb) hd (by rw [hs, hb]; exact hn) (by rw [hs, hb]; exact hi)
  rw [hb] at this
  exact this

/-- Chapter 13's example, as text. -/
def smT : ByteArray := ⟨#[123, 34, 114, 111, 117, 116, 101, 114, 115, 34, 58, 91, 34, 97, 34, 44, 34, 98, 34, 93, 44, 34, 108, 97, 98, 101, 108, 115, 34, 58, 123, 34, 115, 34, 58, 34, 115, 109, 112, 108, 115, 34, 44, 34, 120, 34, 58, 34, 105, 112, 34, 125, 44, 34, 108, 105, 110, 107, 115, 34, 58, 123, 34, 108, 48, 34, 58, 123, 34, 102, 114, 111, 109, 34, 58, 34, 97, 34, 44, 34, 116, 111, 34, 58, 34, 98, 34, 44, 34, 100, 105, 115, 116, 34, 58, 51, 125, 44, 34, 108, 49, 34, 58, 123, 34, 102, 114, 111, 109, 34, 58, 34, 98, 34, 44, 34, 116, 111, 34, 58, 34, 97, 34, 44, 34, 100, 105, 115, 116, 34, 58, 53, 125, 125, 44, 34, 116, 97, 98, 108, 101, 34, 58, 91, 123, 34, 105, 110, 34, 58, 34, 108, 48, 34, 44, 34, 116, 111, 112, 34, 58, 34, 120, 34, 44, 34, 103, 114, 111, 117, 112, 115, 34, 58, 91, 91, 123, 34, 111, 117, 116, 34, 58, 34, 108, 49, 34, 44, 34, 111, 112, 115, 34, 58, 91, 34, 112, 117, 115, 104, 32, 115, 34, 93, 125, 93, 93, 125, 93, 125]⟩
set_option maxRecDepth 100000
theorem sk0 : sk smT 0 = 0 := sk_here (by decide) (by decide)
theorem sk1 : sk smT 1 = 1 := sk_here (by decide) (by decide)
theorem sk10 : sk smT 10 = 10 := sk_here (by decide) (by decide)
theorem sk11 : sk smT 11 = 11 := sk_here (by decide) (by decide)
theorem sk12 : sk smT 12 = 12 := sk_here (by decide) (by decide)
theorem sk15 : sk smT 15 = 15 := sk_here (by decide) (by decide)
theorem sk16 : sk smT 16 = 16 := sk_here (by decide) (by decide)
theorem sk19 : sk smT 19 = 19 := sk_here (by decide) (by decide)
theorem sk20 : sk smT 20 = 20 := sk_here (by decide) (by decide)
theorem sk21 : sk smT 21 = 21 := sk_here (by decide) (by decide)
theorem sk29 : sk smT 29 = 29 := sk_here (by decide) (by decide)
theorem sk30 : sk smT 30 = 30 := sk_here (by decide) (by decide)
theorem sk31 : sk smT 31 = 31 := sk_here (by decide) (by decide)
theorem sk34 : sk smT 34 = 34 := sk_here (by decide) (by decide)
theorem sk35 : sk smT 35 = 35 := sk_here (by decide) (by decide)
theorem sk42 : sk smT 42 = 42 := sk_here (by decide) (by decide)
theorem sk43 : sk smT 43 = 43 := sk_here (by decide) (by decide)
theorem sk46 : sk smT 46 = 46 := sk_here (by decide) (by decide)
theorem sk47 : sk smT 47 = 47 := sk_here (by decide) (by decide)
theorem sk51 : sk smT 51 = 51 := sk_here (by decide) (by decide)
theorem sk52 : sk smT 52 = 52 := sk_here (by decide) (by decide)
theorem sk53 : sk smT 53 = 53 := sk_here (by decide) (by decide)
theorem sk60 : sk smT 60 = 60 := sk_here (by decide) (by decide)
theorem sk61 : sk smT 61 = 61 := sk_here (by decide) (by decide)
theorem sk62 : sk smT 62 = 62 := sk_here (by decide) (by decide)
theorem sk66 : sk smT 66 = 66 := sk_here (by decide) (by decide)
theorem sk67 : sk smT 67 = 67 := sk_here (by decide) (by decide)
theorem sk68 : sk smT 68 = 68 := sk_here (by decide) (by decide)
theorem sk74 : sk smT 74 = 74 := sk_here (by decide) (by decide)
theorem sk75 : sk smT 75 = 75 := sk_here (by decide) (by decide)
theorem sk78 : sk smT 78 = 78 := sk_here (by decide) (by decide)
theorem sk79 : sk smT 79 = 79 := sk_here (by decide) (by decide)
theorem sk83 : sk smT 83 = 83 := sk_here (by decide) (by decide)
theorem sk84 : sk smT 84 = 84 := sk_here (by decide) (by decide)
theorem sk87 : sk smT 87 = 87 := sk_here (by decide) (by decide)
theorem sk88 : sk smT 88 = 88 := sk_here (by decide) (by decide)
theorem sk94 : sk smT 94 = 94 := sk_here (by decide) (by decide)
theorem sk95 : sk smT 95 = 95 := sk_here (by decide) (by decide)
theorem sk96 : sk smT 96 = 96 := sk_here (by decide) (by decide)
theorem sk97 : sk smT 97 = 97 := sk_here (by decide) (by decide)
theorem sk98 : sk smT 98 = 98 := sk_here (by decide) (by decide)
theorem sk102 : sk smT 102 = 102 := sk_here (by decide) (by decide)
theorem sk103 : sk smT 103 = 103 := sk_here (by decide) (by decide)
theorem sk104 : sk smT 104 = 104 := sk_here (by decide) (by decide)
theorem sk110 : sk smT 110 = 110 := sk_here (by decide) (by decide)
theorem sk111 : sk smT 111 = 111 := sk_here (by decide) (by decide)
theorem sk114 : sk smT 114 = 114 := sk_here (by decide) (by decide)
theorem sk115 : sk smT 115 = 115 := sk_here (by decide) (by decide)
theorem sk119 : sk smT 119 = 119 := sk_here (by decide) (by decide)
theorem sk120 : sk smT 120 = 120 := sk_here (by decide) (by decide)
theorem sk123 : sk smT 123 = 123 := sk_here (by decide) (by decide)
theorem sk124 : sk smT 124 = 124 := sk_here (by decide) (by decide)
theorem sk130 : sk smT 130 = 130 := sk_here (by decide) (by decide)
theorem sk131 : sk smT 131 = 131 := sk_here (by decide) (by decide)
theorem sk132 : sk smT 132 = 132 := sk_here (by decide) (by decide)
theorem sk133 : sk smT 133 = 133 := sk_here (by decide) (by decide)
theorem sk134 : sk smT 134 = 134 := sk_here (by decide) (by decide)
theorem sk135 : sk smT 135 = 135 := sk_here (by decide) (by decide)
theorem sk142 : sk smT 142 = 142 := sk_here (by decide) (by decide)
theorem sk143 : sk smT 143 = 143 := sk_here (by decide) (by decide)
theorem sk144 : sk smT 144 = 144 := sk_here (by decide) (by decide)
theorem sk145 : sk smT 145 = 145 := sk_here (by decide) (by decide)
theorem sk149 : sk smT 149 = 149 := sk_here (by decide) (by decide)
theorem sk150 : sk smT 150 = 150 := sk_here (by decide) (by decide)
theorem sk154 : sk smT 154 = 154 := sk_here (by decide) (by decide)
theorem sk155 : sk smT 155 = 155 := sk_here (by decide) (by decide)
theorem sk160 : sk smT 160 = 160 := sk_here (by decide) (by decide)
theorem sk161 : sk smT 161 = 161 := sk_here (by decide) (by decide)
theorem sk164 : sk smT 164 = 164 := sk_here (by decide) (by decide)
theorem sk165 : sk smT 165 = 165 := sk_here (by decide) (by decide)
theorem sk173 : sk smT 173 = 173 := sk_here (by decide) (by decide)
theorem sk174 : sk smT 174 = 174 := sk_here (by decide) (by decide)
theorem sk175 : sk smT 175 = 175 := sk_here (by decide) (by decide)
theorem sk176 : sk smT 176 = 176 := sk_here (by decide) (by decide)
theorem sk177 : sk smT 177 = 177 := sk_here (by decide) (by decide)
theorem sk182 : sk smT 182 = 182 := sk_here (by decide) (by decide)
theorem sk183 : sk smT 183 = 183 := sk_here (by decide) (by decide)
theorem sk187 : sk smT 187 = 187 := sk_here (by decide) (by decide)
theorem sk188 : sk smT 188 = 188 := sk_here (by decide) (by decide)
theorem sk193 : sk smT 193 = 193 := sk_here (by decide) (by decide)
theorem sk194 : sk smT 194 = 194 := sk_here (by decide) (by decide)
theorem sk195 : sk smT 195 = 195 := sk_here (by decide) (by decide)
theorem sk203 : sk smT 203 = 203 := sk_here (by decide) (by decide)
theorem sk204 : sk smT 204 = 204 := sk_here (by decide) (by decide)
theorem sk205 : sk smT 205 = 205 := sk_here (by decide) (by decide)
theorem sk206 : sk smT 206 = 206 := sk_here (by decide) (by decide)
theorem sk207 : sk smT 207 = 207 := sk_here (by decide) (by decide)
theorem sk208 : sk smT 208 = 208 := sk_here (by decide) (by decide)
theorem sk209 : sk smT 209 = 209 := sk_here (by decide) (by decide)
theorem sk210 : sk smT 210 = 210 := runTo_end (by decide)
def smv2 : Val := .mk 4 ⟨#[97]⟩ 0 [] [] 12
def smv3 : Val := .mk 4 ⟨#[98]⟩ 0 [] [] 16
def smv1 : Val := .mk 5 ⟨#[]⟩ 0 [smv2, smv3] [] 11
def smv5 : Val := .mk 4 ⟨#[115, 109, 112, 108, 115]⟩ 0 [] [] 35
def smv6 : Val := .mk 4 ⟨#[105, 112]⟩ 0 [] [] 47
def smv4 : Val := .mk 6 ⟨#[]⟩ 0 [smv5, smv6] [⟨#[115]⟩, ⟨#[120]⟩] 30
def smv9 : Val := .mk 4 ⟨#[97]⟩ 0 [] [] 75
def smv10 : Val := .mk 4 ⟨#[98]⟩ 0 [] [] 84
def smv11 : Val := .mk 3 ⟨#[]⟩ 3 [] [] 95
def smv8 : Val := .mk 6 ⟨#[]⟩ 0 [smv9, smv10, smv11] [⟨#[102, 114, 111, 109]⟩, ⟨#[116, 111]⟩, ⟨#[100, 105, 115, 116]⟩] 67
def smv13 : Val := .mk 4 ⟨#[98]⟩ 0 [] [] 111
def smv14 : Val := .mk 4 ⟨#[97]⟩ 0 [] [] 120
def smv15 : Val := .mk 3 ⟨#[]⟩ 5 [] [] 131
def smv12 : Val := .mk 6 ⟨#[]⟩ 0 [smv13, smv14, smv15] [⟨#[102, 114, 111, 109]⟩, ⟨#[116, 111]⟩, ⟨#[100, 105, 115, 116]⟩] 103
def smv7 : Val := .mk 6 ⟨#[]⟩ 0 [smv8, smv12] [⟨#[108, 48]⟩, ⟨#[108, 49]⟩] 61
def smv18 : Val := .mk 4 ⟨#[108, 48]⟩ 0 [] [] 150
def smv19 : Val := .mk 4 ⟨#[120]⟩ 0 [] [] 161
def smv23 : Val := .mk 4 ⟨#[108, 49]⟩ 0 [] [] 183
def smv25 : Val := .mk 4 ⟨#[112, 117, 115, 104, 32, 115]⟩ 0 [] [] 195
def smv24 : Val := .mk 5 ⟨#[]⟩ 0 [smv25] [] 194
def smv22 : Val := .mk 6 ⟨#[]⟩ 0 [smv23, smv24] [⟨#[111, 117, 116]⟩, ⟨#[111, 112, 115]⟩] 176
def smv21 : Val := .mk 5 ⟨#[]⟩ 0 [smv22] [] 175
def smv20 : Val := .mk 5 ⟨#[]⟩ 0 [smv21] [] 174
def smv17 : Val := .mk 6 ⟨#[]⟩ 0 [smv18, smv19, smv20] [⟨#[105, 110]⟩, ⟨#[116, 111, 112]⟩, ⟨#[103, 114, 111, 117, 112, 115]⟩] 144
def smv16 : Val := .mk 5 ⟨#[]⟩ 0 [smv17] [] 143
def smv0 : Val := .mk 6 ⟨#[]⟩ 0 [smv1, smv4, smv7, smv16] [⟨#[114, 111, 117, 116, 101, 114, 115]⟩, ⟨#[108, 97, 98, 101, 108, 115]⟩, ⟨#[108, 105, 110, 107, 115]⟩, ⟨#[116, 97, 98, 108, 101]⟩] 0
theorem smV2 : V smT 2 12 (.ok 15 smv2) := leafS 2 12 [97] 15 (by decide) (by decide) rfl
theorem smV3 : V smT 2 16 (.ok 19 smv3) := leafS 2 16 [98] 19 (by decide) (by decide) rfl
theorem smI1_1 : I smT 2 91 16 [⟨#[]⟩] (.ok 20 [smv3] [⟨#[]⟩]) := ilast (keyA 16 [⟨#[]⟩]) smV3 sk19 (by decide)
theorem smI1_0 : I smT 2 91 12 [] (.ok 20 [smv2, smv3] [⟨#[]⟩, ⟨#[]⟩]) := imore (keyA 12 []) smV2 sk15 (by decide) sk16 smI1_1
theorem smV1 : V smT 1 11 (.ok 20 smv1) := varr (by decide) (by decide) sk12 (by decide) smI1_0
theorem smV5 : V smT 2 35 (.ok 42 smv5) := leafS 2 35 [115, 109, 112, 108, 115] 42 (by decide) (by decide) rfl
theorem smV6 : V smT 2 47 (.ok 51 smv6) := leafS 2 47 [105, 112] 51 (by decide) (by decide) rfl
theorem smI4_1 : I smT 2 123 43 [⟨#[115]⟩] (.ok 52 [smv6] [⟨#[120]⟩]) := ilast (keyS 43 [120] [⟨#[115]⟩] 46 47 (by decide) (by decide) (by decide) sk46 (by decide) sk47 (by decide)) smV6 sk51 (by decide)
theorem smI4_0 : I smT 2 123 31 [] (.ok 52 [smv5, smv6] [⟨#[115]⟩, ⟨#[120]⟩]) := imore (keyS 31 [115] [] 34 35 (by decide) (by decide) (by decide) sk34 (by decide) sk35 (by decide)) smV5 sk42 (by decide) sk43 smI4_1
theorem smV4 : V smT 1 30 (.ok 52 smv4) := vobj (by decide) (by decide) sk31 (by decide) smI4_0
theorem smV9 : V smT 3 75 (.ok 78 smv9) := leafS 3 75 [97] 78 (by decide) (by decide) rfl
theorem smV10 : V smT 3 84 (.ok 87 smv10) := leafS 3 84 [98] 87 (by decide) (by decide) rfl
theorem smV11 : V smT 3 95 (.ok 96 smv11) := by
  have := W.leaf (s := smT) 3 95 (by decide)
  rwa [leaf_num (by decide) (num_of (j := 96) (n := 3) (by rw [runTo_go (by decide) (by decide), runTo_stop (by decide) (by decide)]) (by decide) (by decide))] at this
theorem smI8_2 : I smT 3 123 88 [⟨#[102, 114, 111, 109]⟩, ⟨#[116, 111]⟩] (.ok 97 [smv11] [⟨#[100, 105, 115, 116]⟩]) := ilast (keyS 88 [100, 105, 115, 116] [⟨#[102, 114, 111, 109]⟩, ⟨#[116, 111]⟩] 94 95 (by decide) (by decide) (by decide) sk94 (by decide) sk95 (by decide)) smV11 sk96 (by decide)
theorem smI8_1 : I smT 3 123 79 [⟨#[102, 114, 111, 109]⟩] (.ok 97 [smv10, smv11] [⟨#[116, 111]⟩, ⟨#[100, 105, 115, 116]⟩]) := imore (keyS 79 [116, 111] [⟨#[102, 114, 111, 109]⟩] 83 84 (by decide) (by decide) (by decide) sk83 (by decide) sk84 (by decide)) smV10 sk87 (by decide) sk88 smI8_2
theorem smI8_0 : I smT 3 123 68 [] (.ok 97 [smv9, smv10, smv11] [⟨#[102, 114, 111, 109]⟩, ⟨#[116, 111]⟩, ⟨#[100, 105, 115, 116]⟩]) := imore (keyS 68 [102, 114, 111, 109] [] 74 75 (by decide) (by decide) (by decide) sk74 (by decide) sk75 (by decide)) smV9 sk78 (by decide) sk79 smI8_1
theorem smV8 : V smT 2 67 (.ok 97 smv8) := vobj (by decide) (by decide) sk68 (by decide) smI8_0
theorem smV13 : V smT 3 111 (.ok 114 smv13) := leafS 3 111 [98] 114 (by decide) (by decide) rfl
theorem smV14 : V smT 3 120 (.ok 123 smv14) := leafS 3 120 [97] 123 (by decide) (by decide) rfl
theorem smV15 : V smT 3 131 (.ok 132 smv15) := by
  have := W.leaf (s := smT) 3 131 (by decide)
  rwa [leaf_num (by decide) (num_of (j := 132) (n := 5) (by rw [runTo_go (by decide) (by decide), runTo_stop (by decide) (by decide)]) (by decide) (by decide))] at this
theorem smI12_2 : I smT 3 123 124 [⟨#[102, 114, 111, 109]⟩, ⟨#[116, 111]⟩] (.ok 133 [smv15] [⟨#[100, 105, 115, 116]⟩]) := ilast (keyS 124 [100, 105, 115, 116] [⟨#[102, 114, 111, 109]⟩, ⟨#[116, 111]⟩] 130 131 (by decide) (by decide) (by decide) sk130 (by decide) sk131 (by decide)) smV15 sk132 (by decide)
theorem smI12_1 : I smT 3 123 115 [⟨#[102, 114, 111, 109]⟩] (.ok 133 [smv14, smv15] [⟨#[116, 111]⟩, ⟨#[100, 105, 115, 116]⟩]) := imore (keyS 115 [116, 111] [⟨#[102, 114, 111, 109]⟩] 119 120 (by decide) (by decide) (by decide) sk119 (by decide) sk120 (by decide)) smV14 sk123 (by decide) sk124 smI12_2
theorem smI12_0 : I smT 3 123 104 [] (.ok 133 [smv13, smv14, smv15] [⟨#[102, 114, 111, 109]⟩, ⟨#[116, 111]⟩, ⟨#[100, 105, 115, 116]⟩]) := imore (keyS 104 [102, 114, 111, 109] [] 110 111 (by decide) (by decide) (by decide) sk110 (by decide) sk111 (by decide)) smV13 sk114 (by decide) sk115 smI12_1
theorem smV12 : V smT 2 103 (.ok 133 smv12) := vobj (by decide) (by decide) sk104 (by decide) smI12_0
theorem smI7_1 : I smT 2 123 98 [⟨#[108, 48]⟩] (.ok 134 [smv12] [⟨#[108, 49]⟩]) := ilast (keyS 98 [108, 49] [⟨#[108, 48]⟩] 102 103 (by decide) (by decide) (by decide) sk102 (by decide) sk103 (by decide)) smV12 sk133 (by decide)
theorem smI7_0 : I smT 2 123 62 [] (.ok 134 [smv8, smv12] [⟨#[108, 48]⟩, ⟨#[108, 49]⟩]) := imore (keyS 62 [108, 48] [] 66 67 (by decide) (by decide) (by decide) sk66 (by decide) sk67 (by decide)) smV8 sk97 (by decide) sk98 smI7_1
theorem smV7 : V smT 1 61 (.ok 134 smv7) := vobj (by decide) (by decide) sk62 (by decide) smI7_0
theorem smV18 : V smT 3 150 (.ok 154 smv18) := leafS 3 150 [108, 48] 154 (by decide) (by decide) rfl
theorem smV19 : V smT 3 161 (.ok 164 smv19) := leafS 3 161 [120] 164 (by decide) (by decide) rfl
theorem smV23 : V smT 6 183 (.ok 187 smv23) := leafS 6 183 [108, 49] 187 (by decide) (by decide) rfl
theorem smV25 : V smT 7 195 (.ok 203 smv25) := leafS 7 195 [112, 117, 115, 104, 32, 115] 203 (by decide) (by decide) rfl
theorem smI24_0 : I smT 7 91 195 [] (.ok 204 [smv25] [⟨#[]⟩]) := ilast (keyA 195 []) smV25 sk203 (by decide)
theorem smV24 : V smT 6 194 (.ok 204 smv24) := varr (by decide) (by decide) sk195 (by decide) smI24_0
theorem smI22_1 : I smT 6 123 188 [⟨#[111, 117, 116]⟩] (.ok 205 [smv24] [⟨#[111, 112, 115]⟩]) := ilast (keyS 188 [111, 112, 115] [⟨#[111, 117, 116]⟩] 193 194 (by decide) (by decide) (by decide) sk193 (by decide) sk194 (by decide)) smV24 sk204 (by decide)
theorem smI22_0 : I smT 6 123 177 [] (.ok 205 [smv23, smv24] [⟨#[111, 117, 116]⟩, ⟨#[111, 112, 115]⟩]) := imore (keyS 177 [111, 117, 116] [] 182 183 (by decide) (by decide) (by decide) sk182 (by decide) sk183 (by decide)) smV23 sk187 (by decide) sk188 smI22_1
theorem smV22 : V smT 5 176 (.ok 205 smv22) := vobj (by decide) (by decide) sk177 (by decide) smI22_0
theorem smI21_0 : I smT 5 91 176 [] (.ok 206 [smv22] [⟨#[]⟩]) := ilast (keyA 176 []) smV22 sk205 (by decide)
theorem smV21 : V smT 4 175 (.ok 206 smv21) := varr (by decide) (by decide) sk176 (by decide) smI21_0
theorem smI20_0 : I smT 4 91 175 [] (.ok 207 [smv21] [⟨#[]⟩]) := ilast (keyA 175 []) smV21 sk206 (by decide)
theorem smV20 : V smT 3 174 (.ok 207 smv20) := varr (by decide) (by decide) sk175 (by decide) smI20_0
theorem smI17_2 : I smT 3 123 165 [⟨#[105, 110]⟩, ⟨#[116, 111, 112]⟩] (.ok 208 [smv20] [⟨#[103, 114, 111, 117, 112, 115]⟩]) := ilast (keyS 165 [103, 114, 111, 117, 112, 115] [⟨#[105, 110]⟩, ⟨#[116, 111, 112]⟩] 173 174 (by decide) (by decide) (by decide) sk173 (by decide) sk174 (by decide)) smV20 sk207 (by decide)
theorem smI17_1 : I smT 3 123 155 [⟨#[105, 110]⟩] (.ok 208 [smv19, smv20] [⟨#[116, 111, 112]⟩, ⟨#[103, 114, 111, 117, 112, 115]⟩]) := imore (keyS 155 [116, 111, 112] [⟨#[105, 110]⟩] 160 161 (by decide) (by decide) (by decide) sk160 (by decide) sk161 (by decide)) smV19 sk164 (by decide) sk165 smI17_2
theorem smI17_0 : I smT 3 123 145 [] (.ok 208 [smv18, smv19, smv20] [⟨#[105, 110]⟩, ⟨#[116, 111, 112]⟩, ⟨#[103, 114, 111, 117, 112, 115]⟩]) := imore (keyS 145 [105, 110] [] 149 150 (by decide) (by decide) (by decide) sk149 (by decide) sk150 (by decide)) smV18 sk154 (by decide) sk155 smI17_1
theorem smV17 : V smT 2 144 (.ok 208 smv17) := vobj (by decide) (by decide) sk145 (by decide) smI17_0
theorem smI16_0 : I smT 2 91 144 [] (.ok 209 [smv17] [⟨#[]⟩]) := ilast (keyA 144 []) smV17 sk208 (by decide)
theorem smV16 : V smT 1 143 (.ok 209 smv16) := varr (by decide) (by decide) sk144 (by decide) smI16_0
theorem smI0_3 : I smT 1 123 135 [⟨#[114, 111, 117, 116, 101, 114, 115]⟩, ⟨#[108, 97, 98, 101, 108, 115]⟩, ⟨#[108, 105, 110, 107, 115]⟩] (.ok 210 [smv16] [⟨#[116, 97, 98, 108, 101]⟩]) := ilast (keyS 135 [116, 97, 98, 108, 101] [⟨#[114, 111, 117, 116, 101, 114, 115]⟩, ⟨#[108, 97, 98, 101, 108, 115]⟩, ⟨#[108, 105, 110, 107, 115]⟩] 142 143 (by decide) (by decide) (by decide) sk142 (by decide) sk143 (by decide)) smV16 sk209 (by decide)
theorem smI0_2 : I smT 1 123 53 [⟨#[114, 111, 117, 116, 101, 114, 115]⟩, ⟨#[108, 97, 98, 101, 108, 115]⟩] (.ok 210 [smv7, smv16] [⟨#[108, 105, 110, 107, 115]⟩, ⟨#[116, 97, 98, 108, 101]⟩]) := imore (keyS 53 [108, 105, 110, 107, 115] [⟨#[114, 111, 117, 116, 101, 114, 115]⟩, ⟨#[108, 97, 98, 101, 108, 115]⟩] 60 61 (by decide) (by decide) (by decide) sk60 (by decide) sk61 (by decide)) smV7 sk134 (by decide) sk135 smI0_3
theorem smI0_1 : I smT 1 123 21 [⟨#[114, 111, 117, 116, 101, 114, 115]⟩] (.ok 210 [smv4, smv7, smv16] [⟨#[108, 97, 98, 101, 108, 115]⟩, ⟨#[108, 105, 110, 107, 115]⟩, ⟨#[116, 97, 98, 108, 101]⟩]) := imore (keyS 21 [108, 97, 98, 101, 108, 115] [⟨#[114, 111, 117, 116, 101, 114, 115]⟩] 29 30 (by decide) (by decide) (by decide) sk29 (by decide) sk30 (by decide)) smV4 sk52 (by decide) sk53 smI0_2
theorem smI0_0 : I smT 1 123 1 [] (.ok 210 [smv1, smv4, smv7, smv16] [⟨#[114, 111, 117, 116, 101, 114, 115]⟩, ⟨#[108, 97, 98, 101, 108, 115]⟩, ⟨#[108, 105, 110, 107, 115]⟩, ⟨#[116, 97, 98, 108, 101]⟩]) := imore (keyS 1 [114, 111, 117, 116, 101, 114, 115] [] 10 11 (by decide) (by decide) (by decide) sk10 (by decide) sk11 (by decide)) smV1 sk20 (by decide) sk21 smI0_1
theorem smV0 : V smT 0 0 (.ok 210 smv0) := vobj (by decide) (by decide) sk1 (by decide) smI0_0
theorem wholeSm : Whole smT (.ok 210 smv0) := .inr ⟨by decide, _, by rw [sk0]; exact smV0, .inr ⟨210, smv0, rfl, .inl ⟨sk210, rfl⟩⟩⟩
end Go.Proofs.YtajmlkephefapaaGreatDoor

namespace Go.Proofs.YtajmlkephefapaaGreatDoor
open Go.RowKit Go.Extern.Stop Go.Stop Go.Extern Go.WideMaps

theorem bytes_back (y : ByteArray) : (⟨y.data.toList.toArray⟩ : ByteArray) = y := by cases y; simp
theorem all_may {y : ByteArray} (h : y.data.toList.all mayS = true) : mayL y.data.toList = y.data.toList := mayL_self fun b hb => by
  rw [List.all_eq_true] at h
  exact h b hb
theorem quo_read {T : ByteArray} {p : Nat} {y : ByteArray} {rest : List UInt8} (hy : y.data.toList.all mayS = true) (h : Stand T p (quoL y.data.toList ++ rest)) : byteI T p = 34 ∧ quoR T p = ⟨0, 0, p + (quoL y.data.toList).length, y.data.toList⟩ := by
  have hl := h.left
  unfold quoL at hl
  obtain ⟨a0, -, a1, h2⟩ := hl.cons
  replace a0 : byteI T p = 34 := a0
  refine ⟨a0, ?_⟩
  unfold quoR
  rw [if_pos a0, txt_back T _ (p + 1) h2, all_may hy, quoL_len]
  congr 1
  omega
theorem key_rt {T : ByteArray} {p : Nat} {obj : Bool} {b : Int} {y : ByteArray} {seen : List ByteArray} {c : UInt8} {r rest : List UInt8} (hb : b = if obj then 123 else 91) (h : Stand T p (itm obj y (c :: r) ++ rest)) (hs : StartB (c.toNat : Int))
    (hk : obj = true → y.data.toList.all mayS = true ∧ hasKey seen y = false) : keyR T b p seen = .ok (p + (itm obj y []).length) (if obj then y else ⟨#[]⟩) := by
  cases obj with
  | false =>
    simp only [Bool.false_eq_true, if_false] at hb ⊢
    subst hb
    rw [keyA]
    simp [itm]
  | true =>
    simp only [if_true] at hb ⊢
    subst hb
    obtain ⟨hy, hh⟩ := hk rfl
    have e : itm true y (c :: r) ++ rest = quoL y.data.toList ++ (58 :: c :: (r ++ rest)) := by simp [itm]
    rw [e] at h
    obtain ⟨-, hq⟩ := quo_read hy h
    have h2 := h.right
    obtain ⟨b0, -, b1, h3⟩ := h2.cons
    obtain ⟨c0, -, c1, h4⟩ := h3.cons
    replace b0 : byteI T (p + (quoL y.data.toList).length) = 58 := b0
    unfold keyR
    rw [if_neg (by decide), hq]
    simp only [ne_eq, not_true_eq_false, if_false]
    rw [bytes_back, hh, if_neg (by decide), sk_non (by rw [b0]; decide), if_pos b0, sk_non (by rw [c0]; exact hs.1)]
    congr 1
    simp [itm]
    omega
/-- A value's text is read back, within so many. -/
def RT (d : Nat) (x : Val) : Prop := (∃ b r, inkV x = b :: r ∧ StartB (b.toNat : Int)) ∧ ∀ (T : ByteArray) (k : Nat), Stand T k (inkV x) → isDig (byteI T (k + (inkV x).length)) = false →
  ∃ y, V T d k (.ok (k + (inkV x).length) y) ∧ sameI x y = true ∧ inkV y = inkV x
/-- The items' texts. -/
def its (obj : Bool) : List Val → List ByteArray → List (List UInt8)
  | [], _ => []
  | x :: r, ks => itm obj (ks.getD 0 ⟨#[]⟩) (inkV x) :: its obj r ks.tail
theorem its_range (obj : Bool) : ∀ (l : List Val) (ks : List ByteArray), (List.range (inkVs l).length).map (fun j => itm obj (ks.getD j ⟨#[]⟩) ((inkVs l).getD j [])) = its obj l ks
  | [], ks => by simp [inkVs, its]
  | x :: r, ks => by
    have h := its_range obj r ks.tail
    rw [inkVs, List.length_cons, List.range_succ_eq_map, List.map_cons, its, List.map_map, ← h]
    congr 1
    apply List.map_congr_left
    intro j _
    cases ks <;> simp [List.getD]
theorem items_rt {T : ByteArray} {d : Nat} {b : Int} {obj : Bool} (hb : b = if obj then 123 else 91) : ∀ (r : List Val) (x : Val) (ks seen : List ByteArray) (p : Nat), (∀ y ∈ x :: r, RT d y) →
    (obj = true → ks.length = (x :: r).length ∧ (chkO (d : Int) (x :: r) ks seen).1 = 0) → Stand T p (joinJ (its obj (x :: r) ks) ++ [if obj then 125 else 93]) →
    ∃ ys kk, I T d b p seen (.ok (p + (joinJ (its obj (x :: r) ks)).length + 1) ys kk) ∧ sameIs (x :: r) ys = true ∧ inkVs ys = inkVs (x :: r) ∧ (obj = true → kk = ks) := by
  intro r
  induction r with
  | nil =>
    intro x ks seen p hR hO h
    obtain ⟨⟨c, cr, hc, hst⟩, hV⟩ := hR x (List.mem_cons_self ..)
    have e : joinJ (its obj [x] ks) = itm obj (ks.getD 0 ⟨#[]⟩) (inkV x) := by simp [its, joinJ, tailJ]
    rw [e] at h ⊢
    have hkey : keyR T b p seen = .ok (p + (itm obj (ks.getD 0 ⟨#[]⟩) []).length) (if obj then ks.getD 0 ⟨#[]⟩ else ⟨#[]⟩) := by
      refine key_rt (r := cr) (rest := [if obj then 125 else 93]) hb (by rw [← hc]; exact h) hst ?_
      intro ho
      obtain ⟨h1, h2⟩ := hO ho
      match ks, h1 with
      | [y], _ =>
        rw [chkO] at h2
        by_cases hk : (keyF seen y).1 ≠ 0
        · rw [if_pos hk, inF_fst] at h2; exact absurd h2 hk
        · unfold keyF at hk
          by_cases hm : y.data.toList.all mayS = false
          · rw [if_pos hm] at hk; exact absurd (show (4 : Int) ≠ 0 by decide) hk
          · rw [if_neg hm] at hk
            by_cases hh : hasKey seen y = true
            · rw [if_pos hh] at hk; exact absurd (show (10 : Int) ≠ 0 by decide) hk
            · simp only [List.getD_cons_zero]
              exact ⟨by simpa using hm, by simpa using hh⟩
    have hit : itm obj (ks.getD 0 ⟨#[]⟩) (inkV x) = itm obj (ks.getD 0 ⟨#[]⟩) [] ++ inkV x := by simp [itm]
    rw [hit] at h ⊢
    have hx := h.left.right
    have hlast := h.right.cons.1
    rw [List.length_append] at hlast ⊢
    rw [← Nat.add_assoc] at hlast
    have hsh : ((if obj then (125 : UInt8) else 93).toNat : Int) = shutI b := by subst hb; cases obj <;> decide
    have hnd : isDig (shutI b) = false := by subst hb; cases obj <;> decide
    have hnb : isBl (shutI b) = false := by subst hb; cases obj <;> decide
    rw [hsh] at hlast
    obtain ⟨y, hy, hs, hi⟩ := hV T _ hx (by rw [hlast]; exact hnd)
    have hsk : sk T (p + (itm obj (ks.getD 0 ⟨#[]⟩) []).length + (inkV x).length) = p + (itm obj (ks.getD 0 ⟨#[]⟩) []).length + (inkV x).length := sk_non (by rw [hlast]; exact hnb)
    have hI := W.last d b p seen _ _ _ _ hkey hy (by rw [hsk]; exact hlast)
    rw [hsk] at hI
    refine ⟨[y], _, by rw [← Nat.add_assoc]; exact hI, by simp [sameIs, hs], by simp [inkVs, hi], ?_⟩
    intro ho
    subst ho
    obtain ⟨h1, -⟩ := hO rfl
    match ks, h1 with
    | [y], _ => simp
  | cons x2 r ih =>
    intro x ks seen p hR hO h
    obtain ⟨⟨c, cr, hc, hst⟩, hV⟩ := hR x (List.mem_cons_self ..)
    obtain ⟨⟨c2, cr2, hc2, hst2⟩, -⟩ := hR x2 (by simp)
    have e : joinJ (its obj (x :: x2 :: r) ks) = itm obj (ks.getD 0 ⟨#[]⟩) (inkV x) ++ 44 :: joinJ (its obj (x2 :: r) ks.tail) := by simp [its, joinJ, tailJ]
    rw [e] at h ⊢
    have hO2 : obj = true → ∃ y ks', ks = y :: ks' ∧ y.data.toList.all mayS = true ∧ hasKey seen y = false ∧ ks'.length = (x2 :: r).length ∧ (chkO (d : Int) (x2 :: r) ks' (seen ++ [y])).1 = 0 := by
      intro ho
      obtain ⟨h1, h2⟩ := hO ho
      match ks, h1 with
      | y :: ks', h1 =>
        rw [chkO] at h2
        by_cases hk : (keyF seen y).1 ≠ 0
        · rw [if_pos hk, inF_fst] at h2; exact absurd h2 hk
        · rw [if_neg hk] at h2
          unfold keyF at hk
          by_cases hm : y.data.toList.all mayS = false
          · rw [if_pos hm] at hk; exact absurd (show (4 : Int) ≠ 0 by decide) hk
          · rw [if_neg hm] at hk
            by_cases hh : hasKey seen y = true
            · rw [if_pos hh] at hk; exact absurd (show (10 : Int) ≠ 0 by decide) hk
            · refine ⟨y, ks', rfl, by simpa using hm, by simpa using hh, by simpa using h1, ?_⟩
              by_cases hv : (chkV d x).1 = 0
              · rw [if_pos hv] at h2; exact h2
              · rw [if_neg hv, inF_fst] at h2; exact absurd h2 hv
    have hkey : keyR T b p seen = .ok (p + (itm obj (ks.getD 0 ⟨#[]⟩) []).length) (if obj then ks.getD 0 ⟨#[]⟩ else ⟨#[]⟩) := by
      refine key_rt (r := cr) (rest := 44 :: joinJ (its obj (x2 :: r) ks.tail) ++ [if obj then 125 else 93]) hb (by rw [← hc]; simpa [List.append_assoc] using h) hst ?_
      intro ho
      obtain ⟨y, ks', rfl, h1, h2, -, -⟩ := hO2 ho
      simp only [List.getD_cons_zero]
      exact ⟨h1, h2⟩
    have hit : itm obj (ks.getD 0 ⟨#[]⟩) (inkV x) = itm obj (ks.getD 0 ⟨#[]⟩) [] ++ inkV x := by simp [itm]
    rw [hit] at h ⊢
    have h' : Stand T p (itm obj (ks.getD 0 ⟨#[]⟩) [] ++ (inkV x ++ (44 :: (joinJ (its obj (x2 :: r) ks.tail) ++ [if obj then 125 else 93])))) := by simpa [List.append_assoc] using h
    have hx := h'.right.left
    obtain ⟨hcm, -, -, hnext⟩ := h'.right.right.cons
    replace hcm : byteI T (p + (itm obj (ks.getD 0 ⟨#[]⟩) []).length + (inkV x).length) = 44 := hcm
    obtain ⟨y, hy, hs, hi⟩ := hV T _ hx (by rw [hcm]; decide)
    have hsk : sk T (p + (itm obj (ks.getD 0 ⟨#[]⟩) []).length + (inkV x).length) = p + (itm obj (ks.getD 0 ⟨#[]⟩) []).length + (inkV x).length := sk_non (by rw [hcm]; decide)
    have hsk2 : sk T (p + (itm obj (ks.getD 0 ⟨#[]⟩) []).length + (inkV x).length + 1) = p + (itm obj (ks.getD 0 ⟨#[]⟩) []).length + (inkV x).length + 1 := by
      refine sk_non ?_
      have e2 : ∃ c3 r3, joinJ (its obj (x2 :: r) ks.tail) ++ [if obj then (125 : UInt8) else 93] = c3 :: r3 ∧ isBl (c3.toNat : Int) = false := by
        cases obj with
        | true => exact ⟨34, _, by simp [its, joinJ, itm, quoL]; rfl, by decide⟩
        | false => exact ⟨c2, _, by simp [its, joinJ, itm, hc2]; rfl, hst2.1⟩
      obtain ⟨c3, r3, e3, hbl⟩ := e2
      rw [e3] at hnext
      rw [hnext.cons.1]
      exact hbl
    obtain ⟨ys, kk, hI, hss, his, hkk⟩ := ih x2 ks.tail (seen ++ [if obj then ks.getD 0 ⟨#[]⟩ else ⟨#[]⟩]) _ (fun y hy => hR y (List.mem_cons_of_mem _ hy)) (by
      intro ho
      obtain ⟨y, ks', rfl, -, -, h3, h4⟩ := hO2 ho
      subst ho
      exact ⟨by simpa using h3, by simpa using h4⟩) hnext
    have hM := W.more d b p seen _ _ _ _ _ hkey hy (by rw [hsk]; exact hcm) (by rw [hsk, hsk2]; exact hI)
    refine ⟨y :: ys, (if obj then ks.getD 0 ⟨#[]⟩ else ⟨#[]⟩) :: kk, ?_, by simp [sameIs, hs, hss], by rw [show inkVs (x :: x2 :: r) = inkV x :: inkVs (x2 :: r) by rw [inkVs], inkVs, hi, his], ?_⟩
    · have el : p + (itm obj (ks.getD 0 ⟨#[]⟩) [] ++ inkV x ++ 44 :: joinJ (its obj (x2 :: r) ks.tail)).length + 1 = p + (itm obj (ks.getD 0 ⟨#[]⟩) []).length + (inkV x).length + 1 + (joinJ (its obj (x2 :: r) ks.tail)).length + 1 := by
        simp only [List.length_append, List.length_cons]; omega
      rw [el]
      exact hM
    · intro ho
      obtain ⟨y', ks', rfl, -⟩ := hO2 ho
      rw [hkk ho]
      subst ho
      simp
end Go.Proofs.YtajmlkephefapaaGreatDoor

namespace Go.Proofs.YtajmlkephefapaaGreatDoor
open Go.RowKit Go.Extern.Stop Go.Stop Go.Extern Go.WideMaps

theorem okNs_at {l : List Val} {x : Val} (h : okNs l) (hx : x ∈ l) : okN x := okNs_mem h hx
theorem rt_all : ∀ (m : Nat) (x : Val), SizeOf.sizeOf x < m → ∀ d : Nat, (chkV (d : Int) x).1 = 0 → okN x → RT d x := by
  intro m
  induction m with
  | zero => intro x hx; exact absurd hx (Nat.not_lt_zero _)
  | succ m ih =>
    intro x hx d hc hn
    refine ⟨ink_head hc hn, ?_⟩
    intro T p h he
    cases x with
    | mk k t u list keys z =>
      simp only [Val.mk.sizeOf_spec] at hx
      rw [okN] at hn
      rw [chkV] at hc
      by_cases hf : flawI d k t u list.length keys.length ≠ 0
      · rw [if_pos hf] at hc; exact absurd hc hf
      rw [if_neg hf] at hc
      have hf0 : flawI d k t u list.length keys.length = 0 := by simpa using hf
      unfold flawI at hf0
      have hd : ¬ ((k = 5 ∨ k = 6) ∧ 64 ≤ (d : Int)) := fun hq => by rw [if_pos hq] at hf0; exact absurd hf0 (by decide)
      rw [if_neg hd] at hf0
      have hr : ¬ (k < 0 ∨ 6 < k) := fun hq => by rw [if_pos hq] at hf0; exact absurd hf0 (by decide)
      rw [if_neg hr] at hf0
      have h3 : ¬ (k = 3 ∧ u ≠ capI u) := fun hq => by rw [if_pos hq] at hf0; exact absurd hf0 (by decide)
      rw [if_neg h3] at hf0
      have h4 : ¬ (k = 4 ∧ t.data.toList.all mayS = false) := fun hq => by rw [if_pos hq] at hf0; exact absurd hf0 (by decide)
      rw [if_neg h4] at hf0
      have h6 : ¬ (k = 6 ∧ keys.length ≠ list.length) := fun hq => by rw [if_pos hq] at hf0; exact absurd hf0 (by decide)
      have hk : k = 0 ∨ k = 1 ∨ k = 2 ∨ k = 3 ∨ k = 4 ∨ k = 5 ∨ k = 6 := by omega
      have eV : inkV (.mk k t u list keys z) = if k = 0 then [110, 117, 108, 108] else if k = 1 then [102, 97, 108, 115, 101] else if k = 2 then [116, 114, 117, 101]
        else if k = 3 then Lib.decDigits (capI u).toNat else if k = 4 then quoL t.data.toList
        else if k = 5 then 91 :: (inkJ false keys (inkVs list) (inkVs list).length ++ [93])
        else if k = 6 then 123 :: (inkJ true keys (inkVs list) (inkVs list).length ++ [125]) else [] := by rw [inkV]
      rw [eV] at h he ⊢
      have hmem : ∀ y ∈ list, SizeOf.sizeOf y < m := fun y hy => by have := List.sizeOf_lt_of_mem hy; omega
      rcases hk with rfl | rfl | rfl | rfl | rfl | rfl | rfl
      · replace h : Stand T p [110, 117, 108, 108] := h
        show ∃ y, V T d p (.ok (p + 4) y) ∧ sameI (.mk 0 t u list keys z) y = true ∧ inkV y = [110, 117, 108, 108]
        have hb := h.cons.1
        replace hb : byteI T p = 110 := hb
        have hL : leafR T p = .ok (p + 4) (.mk 0 ⟨#[]⟩ 0 [] [] p) := by
          unfold leafR; rw [if_pos hb]; unfold wordO; rw [word_stand h]; rfl
        exact ⟨_, hL ▸ W.leaf d p (by rw [hb]; decide), by simp [sameI], by rw [inkV]; rfl⟩
      · replace h : Stand T p [102, 97, 108, 115, 101] := h
        show ∃ y, V T d p (.ok (p + 5) y) ∧ sameI (.mk 1 t u list keys z) y = true ∧ inkV y = [102, 97, 108, 115, 101]
        have hb := h.cons.1
        replace hb : byteI T p = 102 := hb
        have hL : leafR T p = .ok (p + 5) (.mk 1 ⟨#[]⟩ 0 [] [] p) := by
          unfold leafR; rw [if_neg (by rw [hb]; decide), if_pos hb]; unfold wordO; rw [word_stand h]; rfl
        exact ⟨_, hL ▸ W.leaf d p (by rw [hb]; decide), by simp [sameI], by rw [inkV]; rfl⟩
      · replace h : Stand T p [116, 114, 117, 101] := h
        show ∃ y, V T d p (.ok (p + 4) y) ∧ sameI (.mk 2 t u list keys z) y = true ∧ inkV y = [116, 114, 117, 101]
        have hb := h.cons.1
        replace hb : byteI T p = 116 := hb
        have hL : leafR T p = .ok (p + 4) (.mk 2 ⟨#[]⟩ 0 [] [] p) := by
          unfold leafR; rw [if_neg (by rw [hb]; decide), if_neg (by rw [hb]; decide), if_pos hb]; unfold wordO; rw [word_stand h]; rfl
        exact ⟨_, hL ▸ W.leaf d p (by rw [hb]; decide), by simp [sameI], by rw [inkV]; rfl⟩
      · replace h : Stand T p (Lib.decDigits (capI u).toNat) := h
        replace he : isDig (byteI T (p + (Lib.decDigits (capI u).toNat).length)) = false := he
        have hu : u = capI u := by
          by_cases hq : u = capI u
          · exact hq
          · exact absurd ⟨rfl, hq⟩ h3
        have hm : capI u ≤ 9223372036854775807 := by unfold capI most; split <;> omega
        obtain ⟨hL, ho⟩ := num_read (n := (capI u).toNat) (by omega) h he
        have hun : (((capI u).toNat : Nat) : Int) = u := by have := hn.1; omega
        rw [hun] at hL
        refine ⟨.mk 3 ⟨#[]⟩ u [] [] p, ?_, by simp [sameI], by rw [inkV]; rfl⟩
        show V T d p (.ok (p + (Lib.decDigits (capI u).toNat).length) (.mk 3 ⟨#[]⟩ u [] [] p))
        exact hL ▸ W.leaf d p ho
      · have hy : t.data.toList.all mayS = true := by
          cases hq : t.data.toList.all mayS
          · exact absurd ⟨rfl, hq⟩ h4
          · rfl
        replace h : Stand T p (quoL t.data.toList) := h
        obtain ⟨hb, hq⟩ := quo_read (rest := []) hy (by rw [List.append_nil]; exact h)
        have hL : leafR T p = .ok (p + (quoL t.data.toList).length) (.mk 4 t 0 [] [] p) := by
          unfold leafR
          rw [if_neg (by rw [hb]; decide), if_neg (by rw [hb]; decide), if_neg (by rw [hb]; decide), if_pos hb, hq]
          simp only [if_true, bytes_back]
        refine ⟨.mk 4 t 0 [] [] p, ?_, by simp [sameI], by rw [inkV]; rfl⟩
        show V T d p (.ok (p + (quoL t.data.toList).length) (.mk 4 t 0 [] [] p))
        exact hL ▸ W.leaf d p (by rw [hb]; decide)
      · rw [if_pos rfl] at hc
        replace h : Stand T p (91 :: (inkJ false keys (inkVs list) (inkVs list).length ++ [93])) := h
        show ∃ y, V T d p (.ok (p + (91 :: (inkJ false keys (inkVs list) (inkVs list).length ++ [93]) : List UInt8).length) y) ∧ sameI (.mk 5 t u list keys z) y = true ∧ inkV y = 91 :: (inkJ false keys (inkVs list) (inkVs list).length ++ [93])
        obtain ⟨hb, -, -, hin⟩ := h.cons
        replace hb : byteI T p = 91 := hb
        have hdd : d < 64 := by omega
        cases list with
        | nil =>
          replace hin : Stand T (p + 1) [93] := hin
          have hb2 : byteI T (p + 1) = 93 := hin.cons.1
          have hsk : sk T (p + 1) = p + 1 := sk_non (by rw [hb2]; decide)
          have hN := W.none d p (by rw [hb]; decide) hdd (by rw [hsk, hb, hb2]; rfl)
          rw [hb, hsk] at hN
          exact ⟨_, hN, by simp [sameI, sameIs, kindT], by rw [inkV]; rfl⟩
        | cons x0 r =>
          rw [inkJ_join, its_range] at h hin ⊢
          have hR : ∀ y ∈ x0 :: r, RT (d + 1) y := fun y hy => ih y (hmem y hy) (d + 1) (by push_cast; exact chkA_ok hc y hy) (okNs_at hn.2 hy)
          obtain ⟨⟨c, cr, hc0, hst⟩, -⟩ := hR x0 (List.mem_cons_self ..)
          obtain ⟨ys, kk, hI, hs, hv, -⟩ := items_rt (T := T) (d := d + 1) (b := 91) (obj := false) rfl r x0 keys [] (p + 1) hR (fun h => by cases h) hin
          have hb2 : byteI T (p + 1) = (c.toNat : Int) := by
            have e : ∃ rr, joinJ (its false (x0 :: r) keys) ++ [93] = c :: rr := ⟨_, by simp [its, joinJ, itm, hc0]; rfl⟩
            obtain ⟨rr, e⟩ := e
            rw [e] at hin
            exact hin.cons.1
          have hsk : sk T (p + 1) = p + 1 := sk_non (by rw [hb2]; exact hst.1)
          have hS := W.some d p _ (by rw [hb]; decide) hdd (by rw [hsk, hb, hb2]; exact hst.2.1) (by rw [hsk, hb]; exact hI)
          rw [hb] at hS
          have el : p + (91 :: (joinJ (its false (x0 :: r) keys) ++ [93]) : List UInt8).length = p + 1 + (joinJ (its false (x0 :: r) keys)).length + 1 := by
            simp only [List.length_append, List.length_cons, List.length_nil]; omega
          refine ⟨.mk 5 ⟨#[]⟩ 0 ys [] p, by rw [el]; exact hS, by simp [sameI, hs], ?_⟩
          rw [inkV, hv]
          simp only [show (5 : Int) ≠ 0 by decide, show (5 : Int) ≠ 1 by decide, show (5 : Int) ≠ 2 by decide, show (5 : Int) ≠ 3 by decide, show (5 : Int) ≠ 4 by decide, if_false, if_true]
          rw [inkJ_join]
          congr 2
          rw [← its_range false (x0 :: r) keys]
          rfl
      · rw [if_neg (by decide), if_pos rfl] at hc
        have hkl : keys.length = list.length := by
          by_cases hq : keys.length = list.length
          · exact hq
          · exact absurd ⟨rfl, hq⟩ h6
        replace h : Stand T p (123 :: (inkJ true keys (inkVs list) (inkVs list).length ++ [125])) := h
        show ∃ y, V T d p (.ok (p + (123 :: (inkJ true keys (inkVs list) (inkVs list).length ++ [125]) : List UInt8).length) y) ∧ sameI (.mk 6 t u list keys z) y = true ∧ inkV y = 123 :: (inkJ true keys (inkVs list) (inkVs list).length ++ [125])
        obtain ⟨hb, -, -, hin⟩ := h.cons
        replace hb : byteI T p = 123 := hb
        have hdd : d < 64 := by omega
        cases list with
        | nil =>
          have hk0 : keys = [] := List.eq_nil_of_length_eq_zero hkl
          subst hk0
          replace hin : Stand T (p + 1) [125] := hin
          have hb2 : byteI T (p + 1) = 125 := hin.cons.1
          have hsk : sk T (p + 1) = p + 1 := sk_non (by rw [hb2]; decide)
          have hN := W.none d p (by rw [hb]; decide) hdd (by rw [hsk, hb, hb2]; rfl)
          rw [hb, hsk] at hN
          exact ⟨_, hN, by simp [sameI, sameIs, kindT], by rw [inkV]; rfl⟩
        | cons x0 r =>
          rw [inkJ_join, its_range] at h hin ⊢
          have hR : ∀ y ∈ x0 :: r, RT (d + 1) y := fun y hy => ih y (hmem y hy) (d + 1) (by push_cast; exact chkO_ok hkl.symm hc y hy) (okNs_at hn.2 hy)
          obtain ⟨ys, kk, hI, hs, hv, hkk⟩ := items_rt (T := T) (d := d + 1) (b := 123) (obj := true) rfl r x0 keys [] (p + 1) hR (fun _ => ⟨hkl, by push_cast; exact hc⟩) hin
          have hkk' := hkk rfl
          subst hkk'
          have hb2 : byteI T (p + 1) = 34 := by
            have e : ∃ rr, joinJ (its true (x0 :: r) kk) ++ [125] = 34 :: rr := ⟨_, by simp [its, joinJ, itm, quoL]; rfl⟩
            obtain ⟨rr, e⟩ := e
            rw [e] at hin
            exact hin.cons.1
          have hsk : sk T (p + 1) = p + 1 := sk_non (by rw [hb2]; decide)
          have hS := W.some d p _ (by rw [hb]; decide) hdd (by rw [hsk, hb, hb2]; decide) (by rw [hsk, hb]; exact hI)
          rw [hb] at hS
          have el : p + (123 :: (joinJ (its true (x0 :: r) kk) ++ [125]) : List UInt8).length = p + 1 + (joinJ (its true (x0 :: r) kk)).length + 1 := by
            simp only [List.length_append, List.length_cons, List.length_nil]; omega
          refine ⟨.mk 6 ⟨#[]⟩ 0 ys kk p, by rw [el]; exact hS, by simp [sameI, hs], ?_⟩
          rw [inkV, hv]
          simp only [show (6 : Int) ≠ 0 by decide, show (6 : Int) ≠ 1 by decide, show (6 : Int) ≠ 2 by decide, show (6 : Int) ≠ 3 by decide, show (6 : Int) ≠ 4 by decide, show (6 : Int) ≠ 5 by decide, if_false, if_true]
          rw [inkJ_join]
          congr 2
          rw [← its_range true (x0 :: r) kk]
/-- The whole of a value's text is read as it was. -/
theorem whole_ink {x : Val} (hc : (chkV 0 x).1 = 0) (hn : okN x) (hl : (inkV x).length ≤ 65536) : ∃ y, Whole ⟨(inkV x).toArray⟩ (.ok (⟨(inkV x).toArray⟩ : ByteArray).size y) ∧ sameI x y = true ∧ inkV y = inkV x := by
  obtain ⟨⟨c, r, hcr, hst⟩, hV⟩ := rt_all _ x (Nat.lt_succ_self _) 0 hc hn
  have hS := stand_mk (inkV x)
  have hsz : (⟨(inkV x).toArray⟩ : ByteArray).size = (inkV x).length := sizeQ _
  obtain ⟨y, h1, h2, h3⟩ := hV _ 0 hS (by rw [byteI_ge (by rw [hsz]; omega)]; decide)
  rw [Nat.zero_add, ← hsz] at h1
  have hb : byteI ⟨(inkV x).toArray⟩ 0 = (c.toNat : Int) := by
    rw [hcr] at hS ⊢
    exact hS.cons.1
  have hsk : sk ⟨(inkV x).toArray⟩ 0 = 0 := sk_non (by rw [hb]; exact hst.1)
  have hlt : 0 < (inkV x).length := by rw [hcr, List.length_cons]; omega
  refine ⟨y, .inr ⟨by rw [hsz]; exact hl, _, by rw [hsk]; exact h1, .inr ⟨_, _, rfl, .inl ⟨runTo_end (by omega), rfl⟩⟩⟩, h2, h3⟩
end Go.Proofs.YtajmlkephefapaaGreatDoor

namespace Go.Proofs.YtajmlkephefapaaGreatDoor
open Go.RowKit Go.Extern.Stop Go.Stop Go.Extern Go.WideMaps

theorem sign_good {s : ByteArray} {k : Nat} (h34 : byteI s k ≠ 34) (h : (signR s k).c = 0) : mayS (signR s k).b = true ∧ k + (signQ (signR s k).b).length ≤ (signR s k).k := by
  unfold signR at *
  by_cases h0 : byteI s k = 92
  · rw [if_pos h0] at *
    by_cases h1 : byteI s (k + 1) = 34 ∨ byteI s (k + 1) = 92
    · rw [if_pos h1]
      have hb : byteU s (k + 1) = 34 ∨ byteU s (k + 1) = 92 := by
        rcases h1 with h1 | h1
        · left; apply UInt8.toNat_inj.1; have := byteU_I s (k + 1); rw [h1] at this; show _ = 34; omega
        · right; apply UInt8.toNat_inj.1; have := byteU_I s (k + 1); rw [h1] at this; show _ = 92; omega
      show mayS (byteU s (k + 1)) = true ∧ k + (signQ (byteU s (k + 1))).length ≤ k + 2
      rcases hb with hb | hb <;> rw [hb] <;> exact ⟨by decide, by have : ∀ b : UInt8, (signQ b).length ≤ 2 := (fun b => by unfold signQ; split <;> (try split) <;> (try split) <;> simp); have := this 34; have h9 : (signQ 92).length = 2 := rfl; omega⟩
    · rw [if_neg h1] at *
      by_cases h2 : byteI s (k + 1) = 110
      · rw [if_pos h2]
        show mayS 10 = true ∧ k + (signQ 10).length ≤ k + 2
        exact ⟨by decide, Nat.le_refl _⟩
      · rw [if_neg h2] at h
        split at h <;> cases h
  · rw [if_neg h0] at *
    by_cases h1 : 32 ≤ byteI s k ∧ byteI s k ≤ 126
    · rw [if_pos h1]
      have hu := byteU_I s k
      show mayS (byteU s k) = true ∧ k + (signQ (byteU s k)).length ≤ k + 1
      generalize byteU s k = b at *
      have hm : mayS b = true := by
        rw [← mayI_eq]
        unfold mayI
        simp only [Bool.or_eq_true, Bool.and_eq_true, decide_eq_true_eq]
        right; omega
      refine ⟨hm, ?_⟩
      have e : signQ b = [b] := by
        unfold signQ
        have n10 : b ≠ 10 := fun e => by subst e; have : ((10 : UInt8).toNat : Int) = 10 := rfl; omega
        have n34 : b ≠ 34 := fun e => by subst e; have : ((34 : UInt8).toNat : Int) = 34 := rfl; omega
        have n92 : b ≠ 92 := fun e => by subst e; have : ((92 : UInt8).toNat : Int) = 92 := rfl; omega
        have g1 : 32 ≤ b := by show 32 ≤ b.toNat; omega
        have g2 : b ≤ 126 := by show b.toNat ≤ 126; omega
        rw [if_neg n10, if_neg (by rintro (h | h); exact n34 h; exact n92 h), if_pos ⟨g1, g2⟩]
      rw [e]
      exact Nat.le_refl _
    · rw [if_neg h1] at h
      exact absurd h (missC_ne s k)
theorem txt_good (s : ByteArray) : ∀ (n k : Nat), s.size - k = n → (txtR s k).c = 0 → (∀ b ∈ (txtR s k).t, mayS b = true) ∧ k + (bodyQ (txtR s k).t).length + 1 ≤ (txtR s k).k := by
  intro n
  induction n using Nat.strongRecOn with
  | ind n ih =>
    intro k hn h
    by_cases h34 : byteI s k = 34
    · rw [txtR_end h34]
      exact ⟨fun b hb => (List.not_mem_nil hb).elim, by show k + 0 + 1 ≤ k + 1; omega⟩
    · by_cases hc : (signR s k).c = 0
      · have h1 := signR_ok hc
        have hg := sign_good h34 hc
        rw [txtR_go h34 hc] at *
        have := ih (s.size - (signR s k).k) (by omega) (signR s k).k rfl h
        refine ⟨fun b hb => ?_, ?_⟩
        · rcases List.mem_cons.1 hb with rfl | hb
          · exact hg.1
          · exact this.1 b hb
        · show k + (bodyQ ((signR s k).b :: (txtR s (signR s k).k).t)).length + 1 ≤ (txtR s (signR s k).k).k
          rw [bodyQ, List.length_append]
          have := this.2
          have := hg.2
          omega
      · rw [txtR_er h34 hc] at h
        exact absurd h hc
theorem quo_good {s : ByteArray} {k : Nat} (h : (quoR s k).c = 0) : (∀ b ∈ (quoR s k).t, mayS b = true) ∧ k + (quoL (quoR s k).t).length ≤ (quoR s k).k := by
  unfold quoR at *
  by_cases h34 : byteI s k = 34
  · rw [if_pos h34] at *
    have := txt_good s _ (k + 1) rfl h
    refine ⟨this.1, ?_⟩
    rw [quoL_len]
    omega
  · rw [if_neg h34] at h
    exact absurd h (missC_ne s k)
theorem num_good {s : ByteArray} {k : Nat} (hk : k ≤ s.size) (h : numC s k = 0) : 0 ≤ numN s k ∧ numN s k = capI (numN s k) ∧ k + (Lib.decDigits (capI (numN s k)).toNat).length = numK s k := by
  unfold numC at h
  by_cases h0 : runTo isDig s k = k
  · rw [if_pos h0] at h; exact absurd h (missC_ne s k)
  rw [if_neg h0] at h
  unfold numN numK
  rw [if_neg h0, if_neg h0, if_pos h, if_pos h]
  have hle := runTo_le isDig s k hk
  have hge := le_runTo isDig s k hk
  have hlen : (s.extract k (runTo isDig s k)).data.toList.length = runTo isDig s k - k := by
    simp only [ByteArray.data_extract, Array.length_toList, Array.size_extract]
    have : s.data.size = s.size := rfl
    omega
  unfold digsR at *
  generalize (s.extract k (runTo isDig s k)).data.toList = l at *
  unfold parseR at *
  by_cases hl : l = []
  · rw [if_pos hl] at h; exact absurd h (by decide)
  rw [if_neg hl] at *
  by_cases hb : firstBad l < l.length
  · rw [if_pos hb] at h; exact absurd h (show ¬ (4 : Int) = 0 by decide)
  rw [if_neg hb] at *
  by_cases hz : 1 < l.length ∧ l.head? = some 48
  · rw [if_pos hz] at h; exact absurd h (by decide)
  rw [if_neg hz] at *
  by_cases hm : most < valI l
  · rw [if_pos hm] at h; exact absurd h (by decide)
  rw [if_neg hm] at *
  have hall : ∀ c ∈ l, isD c = true := by
    have e : firstBad l = l.length := by
      have : firstBad l ≤ l.length := List.findIdx_le_length
      omega
    have := List.findIdx_eq_length.1 e
    intro c hc
    simpa using this c hc
  have hd := dec_val l hall hl hz
  have hv : 0 ≤ valI l := by
    have := (dec_facts (valI l).toNat).1
    rw [hd] at this
    omega
  have hcap : capI (valI l) = valI l := by unfold capI; rw [if_neg hm]
  show 0 ≤ valI l ∧ valI l = capI (valI l) ∧ k + (Lib.decDigits (capI (valI l)).toNat).length = runTo isDig s k
  rw [hcap, hd]
  exact ⟨hv, rfl, by omega⟩
end Go.Proofs.YtajmlkephefapaaGreatDoor

namespace Go.Proofs.YtajmlkephefapaaGreatDoor
open Go.RowKit Go.Extern.Stop Go.Stop Go.Extern Go.WideMaps

theorem sign_one {b : UInt8} (h : mayS b = true) : 1 ≤ (signQ b).length := by
  unfold signQ
  unfold mayS at h
  split
  · simp
  · split
    · simp
    · split
      · simp
      · simp_all
theorem body_ge : ∀ {l : List UInt8}, (∀ b ∈ l, mayS b = true) → l.length ≤ (bodyQ l).length
  | [], _ => Nat.le_refl _
  | b :: r, h => by
    have h1 := sign_one (h b (List.mem_cons_self ..))
    have h2 := body_ge (l := r) fun c hc => h c (List.mem_cons_of_mem _ hc)
    rw [bodyQ, List.length_append, List.length_cons]
    omega
theorem all_of {l : List UInt8} (h : ∀ b ∈ l, mayS b = true) : (⟨l.toArray⟩ : ByteArray).data.toList.all mayS = true := by
  rw [List.all_eq_true]
  simpa using h
theorem chkA_of {d : Int} : ∀ {l : List Val} {i : Nat}, (∀ x ∈ l, (chkV d x).1 = 0) → (chkA d l i).1 = 0
  | [], i, _ => by rw [chkA]
  | x :: r, i, h => by rw [chkA, if_pos (h x (List.mem_cons_self ..))]; exact chkA_of fun y hy => h y (List.mem_cons_of_mem _ hy)
/-- What is said of a value that was read. -/
structure GdV (d : Nat) (k j : Nat) (x : Val) : Prop where
  chk : (chkV (d : Int) x).1 = 0
  nn : okN x
  tx : okT x
  ok : okI x
  len : k + (inkV x).length ≤ j
structure GdI (d : Nat) (b : Int) (p : Nat) (seen : List ByteArray) (j : Nat) (vs : List Val) (kk : List ByteArray) : Prop where
  cnt : vs.length = kk.length ∧ p + vs.length ≤ j
  arr : ∀ x ∈ vs, (chkV (d : Int) x).1 = 0
  obj : b = 123 → (chkO (d : Int) vs kk seen).1 = 0 ∧ ∀ y ∈ kk, y.size ≤ 100000
  nn : okNs vs
  tx : okTs vs
  ok : okIs vs
  len : p + (joinJ (its (decide (b = 123)) vs kk)).length + 1 ≤ j
def Say.Gd (s : ByteArray) : Say → Prop
  | .v d k (.ok j x) => k ≤ s.size → GdV d k j x
  | .i d b p seen (.ok j vs kk) => (b = 91 ∨ b = 123) → p ≤ s.size → GdI d b p seen j vs kk
  | _ => True
theorem leaf_good {s : ByteArray} (hs : s.size ≤ 65536) {d k j : Nat} {x : Val} (hk : k ≤ s.size) (h : leafR s k = .ok j x) : GdV d k j x := by
  have hfit := leafR_fits hk
  rw [h] at hfit
  have key : ∀ (kind : Int) (t : ByteArray) (n z : Int), (kind = 0 ∨ kind = 1 ∨ kind = 2 ∨ kind = 3 ∧ n = capI n ∨ kind = 4 ∧ t.data.toList.all mayS = true) → 0 ≤ n → t.size ≤ 100000 → k + (inkV (.mk kind t n [] [] z)).length ≤ j → GdV d k j (.mk kind t n [] [] z) := by
    intro kind t n z hkd hn ht hl
    refine ⟨?_, by rw [okN, okNs]; exact ⟨hn, trivial⟩, by rw [okT, okTs]; exact ⟨ht, fun y hy => (List.not_mem_nil hy).elim, trivial⟩, by rw [okI, okIs]; exact ⟨by simp, by simp, trivial⟩, hl⟩
    have hf : flawI d kind t n (List.length ([] : List Val)) (List.length ([] : List ByteArray)) = 0 := by
      unfold flawI
      rw [if_neg (by omega), if_neg (by omega), if_neg (by rintro ⟨rfl, hq⟩; rcases hkd with h | h | h | h | h <;> first | omega | exact hq h.2), if_neg (by rintro ⟨rfl, hq⟩; rcases hkd with h | h | h | h | h <;> first | omega | (rw [h.2] at hq; cases hq)), if_neg (by omega)]
    rw [chkV, if_neg (fun hq => hq hf), if_neg (by omega), if_neg (by omega)]
  have hw : ∀ (kind : Int) (l : List UInt8), (kind = 0 ∧ l = [110, 117, 108, 108] ∨ kind = 1 ∧ l = [102, 97, 108, 115, 101] ∨ kind = 2 ∧ l = [116, 114, 117, 101]) → wordO s k kind l = .ok j x → GdV d k j x := by
    intro kind l hkl h
    unfold wordO at h
    split at h
    · rename_i h2
      have e := wordR_ok s l k h2
      injection h with e1 e2
      subst e2
      refine key _ _ _ _ (by rcases hkl with h | h | h <;> omega) (Int.le_refl _) (by decide) ?_
      rw [← e1, e, inkV]
      rcases hkl with ⟨rfl, rfl⟩ | ⟨rfl, rfl⟩ | ⟨rfl, rfl⟩ <;> exact Nat.le_refl _
    · cases h
  unfold leafR at h
  split at h
  · exact hw _ _ (.inl ⟨rfl, rfl⟩) h
  · split at h
    · exact hw _ _ (.inr (.inl ⟨rfl, rfl⟩)) h
    · split at h
      · exact hw _ _ (.inr (.inr ⟨rfl, rfl⟩)) h
      · split at h
        · split at h
          · rename_i h2
            have hg := quo_good h2
            have hb := body_ge hg.1
            have hq := quoL_len (quoR s k).t
            injection h with e1 e2
            subst e2
            have hj := hfit.2
            refine key _ _ _ _ (.inr (.inr (.inr (.inr ⟨rfl, all_of hg.1⟩)))) (Int.le_refl _) (by rw [sizeQ]; omega) ?_
            rw [inkV]
            show k + (quoL (⟨(quoR s k).t.toArray⟩ : ByteArray).data.toList).length ≤ j
            rw [show (⟨(quoR s k).t.toArray⟩ : ByteArray).data.toList = (quoR s k).t by simp]
            omega
          · cases h
        · split at h
          · rename_i h2
            have hg := num_good hk h2
            injection h with e1 e2
            subst e2
            refine key _ _ _ _ (.inr (.inr (.inr (.inl ⟨rfl, hg.2.1⟩)))) hg.1 (by decide) ?_
            rw [inkV]
            show k + (Lib.decDigits (capI (numN s k)).toNat).length ≤ j
            omega
          · cases h
end Go.Proofs.YtajmlkephefapaaGreatDoor

namespace Go.Proofs.YtajmlkephefapaaGreatDoor
open Go.RowKit Go.Extern.Stop Go.Stop Go.Extern Go.WideMaps

theorem its_false : ∀ (l : List Val) (ks ks' : List ByteArray), its false l ks = its false l ks'
  | [], _, _ => rfl
  | x :: r, ks, ks' => by rw [its, its, its_false r ks.tail ks'.tail]; simp [itm]
theorem keyF_ok {seen : List ByteArray} {y : ByteArray} (h1 : y.data.toList.all mayS = true) (h2 : hasKey seen y = false) : (keyF seen y).1 = 0 := by
  unfold keyF
  rw [if_neg (by rw [h1]; decide), if_neg (by rw [h2]; decide)]
/-- What is said of a key that was read. -/
theorem key_good {s : ByteArray} (hs : s.size ≤ 65536) {b : Int} {p q : Nat} {seen : List ByteArray} {key : ByteArray} (hp : p ≤ s.size) (hb : b = 91 ∨ b = 123) (h : keyR s b p seen = .ok q key) :
    p + (itm (decide (b = 123)) key []).length ≤ q ∧ q ≤ s.size ∧ (b = 123 → key.data.toList.all mayS = true ∧ hasKey seen key = false ∧ key.size ≤ 100000) := by
  have hq := keyR_ok hp h
  rcases hb with rfl | rfl
  · refine ⟨by simp [itm]; exact hq.1, hq.2, fun h => absurd h (by decide)⟩
  · unfold keyR at h
    rw [if_neg (by decide)] at h
    split at h
    · cases h
    · rename_i hc
      have hc0 : (quoR s p).c = 0 := by simpa using hc
      have hg := quo_good hc0
      have hf := quoR_ok hc0
      have hbg := body_ge hg.1
      have hql := quoL_len (quoR s p).t
      split at h
      · cases h
      · rename_i hh
        split at h
        · rename_i h58
          injection h with e1 e2
          subst e2
          have s1 := sk_le s (quoR s p).k hf.2
          have hlt := byteI_pos (s := s) (k := sk s (quoR s p).k) (by rw [h58]; decide)
          have s2 := sk_le s (sk s (quoR s p).k + 1) (by omega)
          have et : (⟨(quoR s p).t.toArray⟩ : ByteArray).data.toList = (quoR s p).t := by simp
          refine ⟨?_, hq.2, fun _ => ⟨all_of hg.1, by simpa using hh, by rw [sizeQ]; omega⟩⟩
          simp only [itm, decide_true, if_true, List.append_nil, List.length_append, List.length_cons, List.length_nil, et]
          omega
        · cases h
theorem W.good {s : ByteArray} (hs : s.size ≤ 65536) {g : Say} (h : W s g) : g.Gd s := by
  induction h with
  | leaf d k h0 =>
    cases ho : leafR s k with
    | er c a => trivial
    | ok j x => exact fun hk => leaf_good hs hk ho
  | deep d k h0 h1 => trivial
  | none d k h0 h1 h2 =>
    intro hk
    have hlt := opens_lt h0
    have s1 := sk_le s (k + 1) (by omega)
    rcases h0 with h0 | h0
    · rw [h0]
      show GdV d k _ (.mk 5 ⟨#[]⟩ 0 [] [] k)
      have hf : flawI d 5 ⟨#[]⟩ 0 (List.length ([] : List Val)) (List.length ([] : List ByteArray)) = 0 := by
        unfold flawI
        rw [if_neg (by omega), if_neg (by omega), if_neg (by omega), if_neg (by omega), if_neg (by omega)]
      refine ⟨by rw [chkV, if_neg (fun hq => hq hf), if_pos rfl, chkA], by rw [okN, okNs]; exact ⟨Int.le_refl _, trivial⟩, by rw [okT, okTs]; exact ⟨by decide, fun y hy => (List.not_mem_nil hy).elim, trivial⟩, by rw [okI, okIs]; exact ⟨by simp, by simp, trivial⟩, ?_⟩
      rw [inkV]
      show k + 2 ≤ sk s (k + 1) + 1
      omega
    · rw [h0]
      show GdV d k _ (.mk 6 ⟨#[]⟩ 0 [] [] k)
      have hf : flawI d 6 ⟨#[]⟩ 0 (List.length ([] : List Val)) (List.length ([] : List ByteArray)) = 0 := by
        unfold flawI
        rw [if_neg (by omega), if_neg (by omega), if_neg (by omega), if_neg (by omega), if_neg (fun hq => hq.2 rfl)]
      refine ⟨by rw [chkV, if_neg (fun hq => hq hf), if_neg (by decide), if_pos rfl, chkO], by rw [okN, okNs]; exact ⟨Int.le_refl _, trivial⟩, by rw [okT, okTs]; exact ⟨by decide, fun y hy => (List.not_mem_nil hy).elim, trivial⟩, by rw [okI, okIs]; exact ⟨by simp, by simp, trivial⟩, ?_⟩
      rw [inkV]
      show k + 2 ≤ sk s (k + 1) + 1
      omega
  | some d k o h0 h1 h2 hI ih =>
    cases o with
    | er c a => trivial
    | ok j vs kk =>
      intro hk
      have hlt := opens_lt h0
      have s1 := sk_le s (k + 1) (by omega)
      have hj := W.fits hI s1.2
      have hg := ih h0 s1.2
      have hjs : j ≤ s.size := hj.2
      have hcnt := hg.cnt
      have hlen := hg.len
      rcases h0 with h0 | h0
      · rw [h0] at hg hlen ⊢
        show GdV d k j (.mk 5 ⟨#[]⟩ 0 vs [] k)
        have hf : flawI d 5 ⟨#[]⟩ 0 vs.length (List.length ([] : List ByteArray)) = 0 := by
          unfold flawI
          rw [if_neg (by omega), if_neg (by omega), if_neg (by omega), if_neg (by omega), if_neg (by omega)]
        refine ⟨by rw [chkV, if_neg (fun hq => hq hf), if_pos rfl]; exact chkA_of (by have := hg.arr; push_cast at this; exact this), by rw [okN]; exact ⟨Int.le_refl _, hg.nn⟩, by rw [okT]; exact ⟨by decide, fun y hy => (List.not_mem_nil hy).elim, hg.tx⟩, by rw [okI]; exact ⟨by omega, by simp, hg.ok⟩, ?_⟩
        rw [inkV]
        show k + (91 :: (inkJ false [] (inkVs vs) (inkVs vs).length ++ [93]) : List UInt8).length ≤ j
        rw [inkJ_join, its_range, its_false vs [] kk]
        replace hlen : sk s (k + 1) + (joinJ (its false vs kk)).length + 1 ≤ j := hlen
        simp only [List.length_append, List.length_cons, List.length_nil]
        omega
      · rw [h0] at hg hlen ⊢
        show GdV d k j (.mk 6 ⟨#[]⟩ 0 vs kk k)
        obtain ⟨o1, o2⟩ := hg.obj rfl
        have hf : flawI d 6 ⟨#[]⟩ 0 vs.length kk.length = 0 := by
          unfold flawI
          rw [if_neg (by omega), if_neg (by omega), if_neg (by omega), if_neg (by omega), if_neg (fun hq => hq.2 hcnt.1.symm)]
        refine ⟨by rw [chkV, if_neg (fun hq => hq hf), if_neg (by decide), if_pos rfl]; push_cast at o1; exact o1, by rw [okN]; exact ⟨Int.le_refl _, hg.nn⟩, by rw [okT]; exact ⟨by decide, o2, hg.tx⟩, by rw [okI]; exact ⟨by omega, by omega, hg.ok⟩, ?_⟩
        rw [inkV]
        show k + (123 :: (inkJ true kk (inkVs vs) (inkVs vs).length ++ [125]) : List UInt8).length ≤ j
        rw [inkJ_join, its_range]
        replace hlen : sk s (k + 1) + (joinJ (its true vs kk)).length + 1 ≤ j := hlen
        simp only [List.length_append, List.length_cons, List.length_nil]
        omega
  | key d b p ks c a h0 => trivial
  | val d b p ks q key c a h0 hV ih => trivial
  | last d b p ks q key j v h0 hV h1 ih =>
    intro hb hp
    obtain ⟨k1, k2, k3⟩ := key_good hs hp hb h0
    have hv := ih k2
    have hj := V.fits k2 hV
    have s1 := sk_le s j hj.2
    have hl := hv.len
    have hj1 : q < j := hj.1
    refine ⟨⟨rfl, by simp; omega⟩, fun x hx => by rw [List.mem_singleton.1 hx]; exact hv.chk, fun hb3 => ?_, by rw [okNs, okNs]; exact ⟨hv.nn, trivial⟩, by rw [okTs, okTs]; exact ⟨hv.tx, trivial⟩, by rw [okIs, okIs]; exact ⟨hv.ok, trivial⟩, ?_⟩
    · obtain ⟨g1, g2, g3⟩ := k3 hb3
      refine ⟨by rw [chkO, if_neg (fun hq => hq (keyF_ok g1 g2)), if_pos hv.chk, chkO], fun y hy => by rw [List.mem_singleton.1 hy]; exact g3⟩
    · have e : joinJ (its (decide (b = 123)) [v] [key]) = itm (decide (b = 123)) key [] ++ inkV v := by simp [its, joinJ, tailJ, itm]
      rw [e, List.length_append]
      omega
  | sep d b p ks q key j v h0 hV h1 h2 ih => trivial
  | more d b p ks q key j v o h0 hV h1 hI ihV ihI =>
    cases o with
    | er c a => trivial
    | ok J vs kk =>
      intro hb hp
      obtain ⟨k1, k2, k3⟩ := key_good hs hp hb h0
      have hv := ihV k2
      have hj := V.fits k2 hV
      have s1 := sk_le s j hj.2
      have hlt := byteI_pos (s := s) (k := sk s j) (by rw [h1]; decide)
      have s2 := sk_le s (sk s j + 1) (by omega)
      have hi := ihI hb s2.2
      have hl := hv.len
      have hj1 : q < j := hj.1
      have c1 := hi.cnt
      have c2 := hi.len
      refine ⟨⟨by simp [c1.1], by simp; omega⟩, fun x hx => ?_, fun hb3 => ?_, by rw [okNs]; exact ⟨hv.nn, hi.nn⟩, by rw [okTs]; exact ⟨hv.tx, hi.tx⟩, by rw [okIs]; exact ⟨hv.ok, hi.ok⟩, ?_⟩
      · rcases List.mem_cons.1 hx with rfl | hx
        · exact hv.chk
        · exact hi.arr x hx
      · obtain ⟨g1, g2, g3⟩ := k3 hb3
        obtain ⟨o1, o2⟩ := hi.obj hb3
        refine ⟨by rw [chkO, if_neg (fun hq => hq (keyF_ok g1 g2)), if_pos hv.chk]; exact o1, fun y hy => ?_⟩
        rcases List.mem_cons.1 hy with rfl | hy
        · exact g3
        · exact o2 y hy
      · have e : (joinJ (its (decide (b = 123)) (v :: vs) (key :: kk))).length ≤ (itm (decide (b = 123)) key [] ++ inkV v).length + 1 + (joinJ (its (decide (b = 123)) vs kk)).length := by
          cases vs with
          | nil => simp [its, joinJ, tailJ, itm] <;> omega
          | cons v2 vr => simp [its, joinJ, tailJ, itm] <;> omega
        rw [List.length_append] at e
        omega
/-- A text's value may be written, and its text is not longer. -/
theorem whole_good {s : ByteArray} {j : Nat} {x : Val} (h : Whole s (.ok j x)) : j = s.size ∧ s.size ≤ 65536 ∧ (chkV 0 x).1 = 0 ∧ okN x ∧ okT x ∧ okI x ∧ (inkV x).length ≤ s.size := by
  rcases h with ⟨-, h⟩ | ⟨hs, o1, hV, h⟩
  · cases h
  · rcases h with ⟨c, a, -, h⟩ | ⟨i, v, rfl, h⟩
    · cases h
    · have hk := sk_le s 0 (Nat.zero_le _)
      have hg := W.good hs hV hk.2
      have hf := V.fits hk.2 hV
      rcases h with ⟨-, h⟩ | ⟨-, h⟩
      · injection h with e1 e2
        subst e1; subst e2
        have hl := hg.len
        have hf2 : i ≤ s.size := hf.2
        exact ⟨rfl, hs, hg.chk, hg.nn, hg.tx, hg.ok, by omega⟩
      · cases h
mutual
theorem sameI_symm : ∀ x y : Val, sameI x y = true → sameI y x = true
  | .mk k t n l ks _, .mk k' t' n' l' ks' _, h => by
    rw [sameI] at h ⊢
    rw [Bool.and_eq_true] at h ⊢
    have hk := of_decide_eq_true h.1
    subst hk
    replace h := h.2
    refine ⟨decide_eq_true rfl, ?_⟩
    by_cases k3 : k = 3
    · rw [if_pos k3] at h ⊢
      exact decide_eq_true (of_decide_eq_true h).symm
    rw [if_neg k3] at h ⊢
    by_cases k4 : k = 4
    · rw [if_pos k4] at h ⊢
      exact decide_eq_true (of_decide_eq_true h).symm
    rw [if_neg k4] at h ⊢
    by_cases k5 : k = 5
    · rw [if_pos k5] at h ⊢
      exact sameIs_symm l l' h
    rw [if_neg k5] at h ⊢
    by_cases k6 : k = 6
    · rw [if_pos k6, Bool.and_eq_true] at h ⊢
      exact ⟨decide_eq_true (of_decide_eq_true h.1).symm, sameIs_symm l l' h.2⟩
    rw [if_neg k6]
theorem sameIs_symm : ∀ l m : List Val, sameIs l m = true → sameIs m l = true
  | [], [], _ => by rw [sameIs]
  | x :: r, y :: s, h => by
    rw [sameIs, Bool.and_eq_true] at h ⊢
    exact ⟨sameI_symm x y h.1, sameIs_symm r s h.2⟩
  | [], _ :: _, h => by rw [sameIs] at h; cases h
  | _ :: _, [], h => by rw [sameIs] at h; cases h
end
end Go.Proofs.YtajmlkephefapaaGreatDoor
