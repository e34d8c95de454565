/-
  Package tree by contracts, eighteenth part: the two texts of TreeDeep.
-/
import Derived.Test.YtbaglmjbncalpaaDoorTreeS
namespace Go.Proofs.YtbaglmjbncalpaaDoor
open Go.RowKit Go.Extern.Stop Go.Stop Go.Extern Go.WideMaps

theorem size_mk (l : List UInt8) : (⟨l.toArray⟩ : ByteArray).size = l.length := by
  show l.toArray.size = _
  exact List.size_toArray
theorem byteI_mk (l : List UInt8) (k : Nat) : byteI ⟨l.toArray⟩ k = (((l[k]?).getD 0).toNat : Int) := by
  by_cases h : k < l.length
  · rw [byteI_lt (s := ⟨l.toArray⟩) (k := k) (by rw [size_mk]; exact h), List.getElem?_eq_getElem h]
    rfl
  · rw [byteI_ge (s := ⟨l.toArray⟩) (k := k) (by rw [size_mk]; exact h), List.getElem?_eq_none (by omega)]
    rfl
theorem rep_at (L : List UInt8) : ∀ (n k r : Nat), k < n → r < L.length → (Lib.repeatL L n)[L.length * k + r]? = L[r]?
  | 0, k, _, h, _ => absurd h (Nat.not_lt_zero k)
  | n + 1, 0, r, _, hr => by rw [Lib.repeatL, Nat.mul_zero, Nat.zero_add, List.getElem?_append_left hr]
  | n + 1, k + 1, r, hk, hr => by
    rw [Lib.repeatL, List.getElem?_append_right (by rw [Nat.mul_succ]; omega), show L.length * (k + 1) + r - L.length = L.length * k + r by rw [Nat.mul_succ]; omega]
    exact rep_at L n k r (by omega) hr
def nestL (L R : List UInt8) (n : Nat) : List UInt8 := Lib.repeatL L n ++ 55 :: Lib.repeatL R n
theorem nest_size (L R : List UInt8) (n : Nat) (hR : R.length = 1) : (nestL L R n).length = L.length * n + 1 + n := by
  unfold nestL
  rw [List.length_append, List.length_cons, Lib.repeatL_length, Lib.repeatL_length, hR, Nat.mul_comm]
  omega
theorem nest_open {L R : List UInt8} {n k r : Nat} (hk : k < n) (hr : r < L.length) : (nestL L R n)[L.length * k + r]? = L[r]? := by
  unfold nestL
  rw [List.getElem?_append_left]
  · exact rep_at L n k r hk hr
  · rw [Lib.repeatL_length]
    calc L.length * k + r < L.length * k + L.length := by omega
      _ = L.length * (k + 1) := by rw [Nat.mul_succ]
      _ ≤ L.length * n := Nat.mul_le_mul_left _ hk
      _ = n * L.length := Nat.mul_comm _ _
theorem nest_mid {L R : List UInt8} {n : Nat} : (nestL L R n)[L.length * n]? = some 55 := by
  unfold nestL
  rw [List.getElem?_append_right (by rw [Lib.repeatL_length, Nat.mul_comm]; exact Nat.le_refl _), Lib.repeatL_length, Nat.mul_comm, Nat.sub_self]
  rfl
theorem nest_end {L R : List UInt8} {n m : Nat} {b : UInt8} (hR : R = [b]) (hm : m < n) : (nestL L R n)[L.length * n + 1 + m]? = some b := by
  unfold nestL
  rw [List.getElem?_append_right (by rw [Lib.repeatL_length, Nat.mul_comm]; omega), Lib.repeatL_length, show L.length * n + 1 + m - n * L.length = m + 1 by rw [Nat.mul_comm n]; omega, List.getElem?_cons_succ]
  subst hR
  have := rep_at [b] n m 0 hm (by simp)
  simpa using this
theorem nest_num {L R : List UInt8} {n : Nat} {b : UInt8} (hR : R = [b]) (hb : isDig (b.toNat : Int) = false) :
    numC ⟨(nestL L R n).toArray⟩ (L.length * n) = 0 ∧ numK ⟨(nestL L R n).toArray⟩ (L.length * n) = L.length * n + 1 ∧ numN ⟨(nestL L R n).toArray⟩ (L.length * n) = 7 := by
  have hsz := nest_size L R n (by rw [hR]; rfl)
  have h0 : L.length * n < (nestL L R n).length := by rw [hsz]; omega
  have e0 : (nestL L R n)[L.length * n]'h0 = 55 := by
    have := nest_mid (L := L) (R := R) (n := n)
    rw [List.getElem?_eq_getElem h0] at this
    injection this
  refine num_of ?_ (by omega) ?_
  · rw [runTo_go (s := ⟨(nestL L R n).toArray⟩) (by rw [size_mk]; exact h0) (by show isDig (((nestL L R n)[L.length * n]'h0).toNat : Int) = true; rw [e0]; decide)]
    by_cases hn : 0 < n
    · have h1 : L.length * n + 1 < (nestL L R n).length := by rw [hsz]; omega
      have e1 : (nestL L R n)[L.length * n + 1]'h1 = b := by
        have := nest_end (L := L) (n := n) (m := 0) hR hn
        rw [Nat.add_zero, List.getElem?_eq_getElem h1] at this
        injection this
      exact runTo_stop (s := ⟨(nestL L R n).toArray⟩) (by rw [size_mk]; exact h1) (by show isDig (((nestL L R n)[L.length * n + 1]'h1).toNat : Int) = false; rw [e1]; exact hb)
    · exact runTo_end (by show ¬ _ < (nestL L R n).toArray.size; rw [List.size_toArray, hsz]; omega)
  · have e : (ByteArray.extract ⟨(nestL L R n).toArray⟩ (L.length * n) (L.length * n + 1)).data.toList = [55] := by
      simp only [ByteArray.data_extract, Array.toList_extract, List.extract_eq_take_drop]
      rw [show L.length * n + 1 - L.length * n = 1 by omega, List.drop_eq_getElem_cons h0, e0]
      rfl
    rw [e]
    decide
theorem nest_arr (n : Nat) : Nest ⟨(nestL [91] [93] n).toArray⟩ 91 1 n := by
  have hsz : ∀ k, k < n → byteI ⟨(nestL [91] [93] n).toArray⟩ (1 * k) = 91 := fun k hk => by
    rw [byteI_mk, show (nestL [91] [93] n)[1 * k]? = some 91 from nest_open (L := [91]) (r := 0) hk (by simp)]
    rfl
  have hmid : byteI ⟨(nestL [91] [93] n).toArray⟩ (1 * n) = 55 := by
    rw [byteI_mk, show (nestL [91] [93] n)[1 * n]? = some 55 from nest_mid (L := [91])]
    rfl
  have hs : (⟨(nestL [91] [93] n).toArray⟩ : ByteArray).size = 1 * n + 1 + n := by
    show (nestL [91] [93] n).toArray.size = _
    rw [List.size_toArray]
    exact nest_size [91] [93] n rfl
  have hnext : ∀ k, k < n → byteI ⟨(nestL [91] [93] n).toArray⟩ (1 * k + 1) = 91 ∨ byteI ⟨(nestL [91] [93] n).toArray⟩ (1 * k + 1) = 55 := fun k hk => by
    rcases Nat.lt_or_ge (k + 1) n with h | h
    · have := hsz (k + 1) h; rw [Nat.mul_succ] at this; exact .inl this
    · have e : n = k + 1 := by omega
      rw [e, Nat.mul_succ] at hmid
      rw [e]
      exact .inr hmid
  refine ⟨.inl rfl, hsz, hmid, nest_num (L := [91]) rfl (by decide), fun m hm => ?_, hs, fun i hi => ?_⟩
  · rw [byteI_mk, show (nestL [91] [93] n)[1 * n + 1 + m]? = some 93 from nest_end (L := [91]) rfl hm]
    rfl
  · have hk : sk ⟨(nestL [91] [93] n).toArray⟩ (1 * i + 1) = 1 * i + 1 := sk_byte (by rw [hs]; omega) (by rcases hnext i hi with e | e <;> rw [e] <;> decide)
    rw [hk]
    refine ⟨by rcases hnext i hi with e | e <;> rw [e] <;> decide, ⟨#[]⟩, ?_⟩
    unfold keyR
    rw [if_pos rfl]
    exact congrArg (fun q => KOut.ok q ⟨#[]⟩) (by omega)
theorem nest_obj (n : Nat) : Nest ⟨(nestL [123, 34, 97, 34, 58] [125] n).toArray⟩ 123 5 n := by
  have hat : ∀ k r (c : UInt8), k < n → [123, 34, 97, 34, 58][r]? = some c → byteI ⟨(nestL [123, 34, 97, 34, 58] [125] n).toArray⟩ (5 * k + r) = (c.toNat : Int) := fun k r c hk hr => by
    have hlt : r < [(123 : UInt8), 34, 97, 34, 58].length := (List.getElem?_eq_some_iff.1 hr).1
    rw [byteI_mk, show (nestL [123, 34, 97, 34, 58] [125] n)[5 * k + r]? = some c from (nest_open (L := [123, 34, 97, 34, 58]) (R := [125]) (r := r) hk hlt).trans hr]
    rfl
  have hmid : byteI ⟨(nestL [123, 34, 97, 34, 58] [125] n).toArray⟩ (5 * n) = 55 := by
    rw [byteI_mk, show (nestL [123, 34, 97, 34, 58] [125] n)[5 * n]? = some 55 from nest_mid (L := [123, 34, 97, 34, 58])]
    rfl
  have hs : (⟨(nestL [123, 34, 97, 34, 58] [125] n).toArray⟩ : ByteArray).size = 5 * n + 1 + n := by
    show (nestL [123, 34, 97, 34, 58] [125] n).toArray.size = _
    rw [List.size_toArray]
    exact nest_size [123, 34, 97, 34, 58] [125] n rfl
  have hnext : ∀ k, k < n → byteI ⟨(nestL [123, 34, 97, 34, 58] [125] n).toArray⟩ (5 * k + 5) = 123 ∨ byteI ⟨(nestL [123, 34, 97, 34, 58] [125] n).toArray⟩ (5 * k + 5) = 55 := fun k hk => by
    rcases Nat.lt_or_ge (k + 1) n with h | h
    · have := hat (k + 1) 0 123 h rfl; rw [Nat.mul_succ] at this; exact .inl this
    · have e : n = k + 1 := by omega
      rw [e, Nat.mul_succ] at hmid
      rw [e]
      exact .inr hmid
  refine ⟨.inr rfl, fun k hk => hat k 0 123 hk rfl, hmid, nest_num (L := [123, 34, 97, 34, 58]) rfl (by decide), fun m hm => ?_, hs, fun i hi => ?_⟩
  · rw [byteI_mk, show (nestL [123, 34, 97, 34, 58] [125] n)[5 * n + 1 + m]? = some 125 from nest_end (L := [123, 34, 97, 34, 58]) rfl hm]
    rfl
  · have h1 : byteI ⟨(nestL [123, 34, 97, 34, 58] [125] n).toArray⟩ (5 * i + 1) = 34 := hat i 1 34 hi rfl
    have h2 : byteI ⟨(nestL [123, 34, 97, 34, 58] [125] n).toArray⟩ (5 * i + 2) = 97 := hat i 2 97 hi rfl
    have h3 : byteI ⟨(nestL [123, 34, 97, 34, 58] [125] n).toArray⟩ (5 * i + 3) = 34 := hat i 3 34 hi rfl
    have h4 : byteI ⟨(nestL [123, 34, 97, 34, 58] [125] n).toArray⟩ (5 * i + 4) = 58 := hat i 4 58 hi rfl
    have hb : 5 * i + 5 ≤ 5 * n := by omega
    have k1 : sk ⟨(nestL [123, 34, 97, 34, 58] [125] n).toArray⟩ (5 * i + 1) = 5 * i + 1 := sk_byte (by rw [hs]; omega) (by rw [h1]; decide)
    have k4 : sk ⟨(nestL [123, 34, 97, 34, 58] [125] n).toArray⟩ (5 * i + 4) = 5 * i + 4 := sk_byte (by rw [hs]; omega) (by rw [h4]; decide)
    have k5 : sk ⟨(nestL [123, 34, 97, 34, 58] [125] n).toArray⟩ (5 * i + 5) = 5 * i + 5 := sk_byte (by rw [hs]; omega) (by rcases hnext i hi with e | e <;> rw [e] <;> decide)
    have hsg : (signR ⟨(nestL [123, 34, 97, 34, 58] [125] n).toArray⟩ (5 * i + 2)).c = 0 ∧ (signR ⟨(nestL [123, 34, 97, 34, 58] [125] n).toArray⟩ (5 * i + 2)).k = 5 * i + 3 := by
      unfold signR
      rw [h2, if_neg (by decide), if_pos (by decide)]
      exact ⟨rfl, rfl⟩
    have hq : quoR ⟨(nestL [123, 34, 97, 34, 58] [125] n).toArray⟩ (5 * i + 1) = ⟨0, 0, 5 * i + 4, [(signR ⟨(nestL [123, 34, 97, 34, 58] [125] n).toArray⟩ (5 * i + 2)).b]⟩ := by
      unfold quoR
      rw [if_pos h1]
      exact txt_one (k := 5 * i + 2) (by rw [h2]; decide) hsg h3
    rw [k1]
    refine ⟨by rw [h1]; decide, ⟨[(signR ⟨(nestL [123, 34, 97, 34, 58] [125] n).toArray⟩ (5 * i + 2)).b].toArray⟩, ?_⟩
    unfold keyR
    rw [if_neg (by decide), hq, if_neg (fun e => e rfl), if_neg (by simp [hasKey]), k4, if_pos h4, k5]
    exact congrArg (fun q => KOut.ok q _) (by omega)
end Go.Proofs.YtbaglmjbncalpaaDoor
