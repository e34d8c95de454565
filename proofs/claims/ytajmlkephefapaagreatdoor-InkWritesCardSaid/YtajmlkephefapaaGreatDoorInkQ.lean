/-
  What a budget tells of a value, plain: its rows, its texts, its text's length.
-/
import Derived.Test.YtajmlkephefapaaGreatDoorGi2
namespace Go.Proofs.YtajmlkephefapaaGreatDoor
open Go.RowKit Go.Extern.Stop Go.Stop Go.Extern Go.WideMaps

def kz (l : List ByteArray) : Int := (l.map fun y => (y.size : Int)).sum
def tz (l : List (List UInt8)) : Int := (l.map fun y => (y.length : Int)).sum
theorem kz_nn (l : List ByteArray) : 0 ≤ kz l := by
  induction l with
  | nil => exact Int.le_refl _
  | cons y r ih => unfold kz at *; rw [List.map_cons, List.sum_cons]; omega
theorem kz_append (a b : List ByteArray) : kz (a ++ b) = kz a + kz b := by unfold kz; rw [List.map_append, List.sum_append]
theorem tz_append (a b : List (List UInt8)) : tz (a ++ b) = tz a + tz b := by unfold tz; rw [List.map_append, List.sum_append]
theorem lf5W_ok : ∀ {l : List ByteArray} {n : Int}, n ≤ 90000 → 0 ≤ lf5W l n → lf5W l n = n - kz l ∧ ∀ y ∈ l, y.size ≤ 90000
  | [], n, hn, h => by rw [lf5W]; exact ⟨by unfold kz; simp, fun y hy => by cases hy⟩
  | y :: r, n, hn, h => by
    have e : kz (y :: r) = y.size + kz r := by unfold kz; rw [List.map_cons, List.sum_cons]
    rw [lf5W] at h ⊢
    by_cases h0 : n < 0
    · rw [if_pos h0] at h; omega
    · rw [if_neg h0] at h ⊢
      have hb := lf5W_bd r (n - min (y.size : Int) 100000) (by omega)
      obtain ⟨h1, h2⟩ := lf5W_ok (l := r) (by omega) h
      have hz := kz_nn r
      refine ⟨by rw [h1, e]; omega, fun z hz' => ?_⟩
      rcases List.mem_cons.1 hz' with rfl | hz'
      · omega
      · exact h2 z hz'
theorem quoL_le (y : ByteArray) : ((quoL y.data.toList).length : Int) ≤ 2 * y.size + 2 := by
  have h := bodyQ_len y.data.toList
  have e : y.data.toList.length = y.size := by rw [Array.length_toList]; rfl
  rw [quoL_len]
  omega
theorem inkJ_len (obj : Bool) (keys : List ByteArray) (ts : List (List UInt8)) : ∀ i : Nat, ((inkJ obj keys ts i).length : Int) ≤ 4 * i + 2 * kz (keys.take i) + tz (ts.take i)
  | 0 => by simp [inkJ, kz, tz]
  | i + 1 => by
    have h := inkJ_len obj keys ts i
    have hk : 2 * kz (keys.take i) + ((if obj then quoL (keys.getD i ⟨#[]⟩).data.toList ++ [58] else []).length : Int) ≤ 2 * kz (keys.take (i + 1)) + 3 := by
      have hq := quoL_le (keys.getD i ⟨#[]⟩)
      have hg : kz (keys.take i) + ((keys.getD i ⟨#[]⟩).size : Int) ≤ kz (keys.take (i + 1)) := by
        by_cases hi : i < keys.length
        · have e1 : kz (some keys[i]).toList = (keys[i].size : Int) := by simp [kz]
          have e2 : keys.getD i ⟨#[]⟩ = keys[i] := by simp [List.getD, hi]
          rw [List.take_add_one, List.getElem?_eq_getElem hi, kz_append, e1, e2]
          omega
        · rw [List.take_of_length_le (by omega), List.take_of_length_le (by omega)]
          have : keys.getD i ⟨#[]⟩ = ⟨#[]⟩ := by simp [List.getD, List.getElem?_eq_none (Nat.le_of_not_lt hi)]
          rw [this]
          have : ((⟨#[]⟩ : ByteArray).size : Int) = 0 := rfl
          omega
      cases obj with
      | true => simp only [if_true, List.length_append, List.length_singleton]; omega
      | false => simp only [Bool.false_eq_true, if_false, List.length_nil]; omega
    have ht : tz (ts.take i) + ((ts.getD i []).length : Int) ≤ tz (ts.take (i + 1)) := by
      by_cases hi : i < ts.length
      · have e1 : tz (some ts[i]).toList = (ts[i].length : Int) := by simp [tz]
        have e2 : ts.getD i [] = ts[i] := by simp [List.getD, hi]
        rw [List.take_add_one, List.getElem?_eq_getElem hi, tz_append, e1, e2]
        omega
      · rw [List.take_of_length_le (by omega), List.take_of_length_le (by omega)]
        simp [List.getD, List.getElem?_eq_none (Nat.le_of_not_lt hi)]
    have hc : ((if i = 0 then ([] : List UInt8) else [44]).length : Int) ≤ 1 := by split <;> simp
    rw [inkJ]
    simp only [List.length_append] at *
    push_cast at *
    omega
theorem dig_len (n : Int) : ((Lib.decDigits (capI n).toNat).length : Int) ≤ 20 := by
  have h : (Lib.decDigits (capI n).toNat).length ≤ 20 := by
    rw [Lib.decDigits_length]
    refine Lib.nDigits_le20 _ ?_
    have : capI n ≤ 9223372036854775807 := by unfold capI most; split <;> omega
    omega
  omega
/-- What a budget that is kept tells. -/
structure Fit (n : Int) (x : Val) : Prop where
  ok : okI x
  tx : okT x
  len : ((inkV x).length : Int) + 10 ≤ 40 * (n - lf5 x n)
structure Fits (n : Int) (l : List Val) : Prop where
  ok : okIs l
  tx : okTs l
  cnt : (l.length : Int) ≤ n - lf5L l n
  len : tz (inkVs l) + 10 * l.length ≤ 40 * (n - lf5L l n)
mutual
theorem fit_of : ∀ (x : Val) (n : Int), 0 ≤ n → n ≤ 90000 → 0 ≤ lf5 x n → Fit n x
  | .mk k t u list keys z, n, h0, h1, h => by
    have e : lf5 (.mk k t u list keys z) n = lf5L list (lf5W keys (n - (1 + min (t.size : Int) 100000 + min (keys.length : Int) 100000))) := by rw [lf5]
    rw [e] at h
    have hWb := lf5W_bd keys (n - (1 + min (t.size : Int) 100000 + min (keys.length : Int) 100000)) (by omega)
    have hLb := lf5L_bd list (lf5W keys (n - (1 + min (t.size : Int) 100000 + min (keys.length : Int) 100000))) hWb.1
    obtain ⟨w1, w2⟩ := lf5W_ok (l := keys) (n := n - (1 + min (t.size : Int) 100000 + min (keys.length : Int) 100000)) (by omega) (by omega)
    have hL := fits_of list (lf5W keys (n - (1 + min (t.size : Int) 100000 + min (keys.length : Int) 100000))) (by omega) h
    have hz := kz_nn keys
    have hcnt := hL.cnt
    have hlen := hL.len
    refine ⟨by rw [okI]; exact ⟨by omega, by omega, hL.ok⟩, by rw [okT]; exact ⟨by omega, fun y hy => by have := w2 y hy; omega, hL.tx⟩, ?_⟩
    rw [e]
    have hq := quoL_le t
    have hd := dig_len u
    have hJ : ∀ obj, ((inkJ obj keys (inkVs list) (inkVs list).length).length : Int) ≤ 4 * list.length + 2 * kz keys + tz (inkVs list) := by
      intro obj
      have hj := inkJ_len obj keys (inkVs list) (inkVs list).length
      rw [List.take_length, inkVs_len] at hj
      rw [inkVs_len]
      have hk : kz (keys.take list.length) ≤ kz keys := by
        have : kz keys = kz (keys.take list.length) + kz (keys.drop list.length) := by
          conv => lhs; rw [← List.take_append_drop list.length keys]
          unfold kz
          rw [List.map_append, List.sum_append]
        have := kz_nn (keys.drop list.length)
        omega
      omega
    have hJ1 := hJ true
    have hJ2 := hJ false
    generalize lf5L list (lf5W keys (n - (1 + min (t.size : Int) 100000 + min (keys.length : Int) 100000))) = r at *
    generalize lf5W keys (n - (1 + min (t.size : Int) 100000 + min (keys.length : Int) 100000)) = r1 at *
    rw [inkV]
    split
    · simp; omega
    · split
      · simp; omega
      · split
        · simp; omega
        · split
          · omega
          · split
            · omega
            · split
              · simp only [List.length_cons, List.length_append, List.length_nil]; push_cast; omega
              · split
                · simp only [List.length_cons, List.length_append, List.length_nil]; push_cast; omega
                · simp; omega
theorem fits_of : ∀ (l : List Val) (n : Int), n ≤ 90000 → 0 ≤ lf5L l n → Fits n l
  | [], n, h1, h => by
    refine ⟨by rw [okIs]; trivial, by rw [okTs]; trivial, ?_, ?_⟩
    · rw [lf5L]; simp
    · rw [lf5L, inkVs]; simp [tz]
  | x :: r, n, h1, h => by
    by_cases h0 : n < 0
    · rw [lf5L, if_pos h0] at h; omega
    rw [lf5L, if_neg h0] at h
    have hb := lf5_bd x n (by omega)
    have hb2 := lf5L_bd r (lf5 x n) hb.1
    have hx := fit_of x n (by omega) h1 (by omega)
    have hr := fits_of r (lf5 x n) (by omega) h
    have c1 := hx.len
    have c2 := hr.len
    have c3 := hr.cnt
    refine ⟨by rw [okIs]; exact ⟨hx.ok, hr.ok⟩, by rw [okTs]; exact ⟨hx.tx, hr.tx⟩, ?_, ?_⟩
    · rw [lf5L, if_neg h0, List.length_cons]; push_cast; omega
    · have e : tz (inkVs (x :: r)) = (inkV x).length + tz (inkVs r) := by rw [inkVs]; unfold tz; rw [List.map_cons, List.sum_cons]
      rw [lf5L, if_neg h0, List.length_cons, e]; push_cast; omega
end
end Go.Proofs.YtajmlkephefapaaGreatDoor
