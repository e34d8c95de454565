/-
  The sets' own lists and the document's: the same; and whether a set is a list, by contract.
-/
import Derived.Test.YtplfnhnipdfglaaDoorBitL
namespace Go.Proofs.YtplfnhnipdfglaaDoor
open Go.RowKit Go.Extern.Stop Go.Stop Go.Extern

def intsL (a b : Nat) : List Int := (setL a b).map Int.ofNat
theorem intsL_enc (a b : Nat) : encN (listN a b) = encI (intsL a b) := by
  unfold encN encI intsL
  rw [← listN_val, List.map_map, List.map_map]
  rfl
theorem intsL_len (a b : Nat) : (listN a b).length = (intsL a b).length := by
  unfold intsL
  rw [← listN_val, List.length_map, List.length_map]
theorem intsL_le (a b : Nat) : (intsL a b).length ≤ 128 := intsL_len a b ▸ listN_len a b
theorem intsL_eq (a b : Nat) : intsL a b = (firstN 128).filter fun i => hasB a b i.toNat := by
  unfold intsL firstN
  rw [setL_eq, List.filter_map]
  rfl
theorem firstN_mem {k : Nat} {i : Int} : i ∈ firstN k ↔ 0 ≤ i ∧ i < k := by
  unfold firstN
  rw [List.mem_map]
  constructor
  · rintro ⟨j, hj, rfl⟩
    have := List.mem_range.1 hj
    simp
    omega
  · rintro ⟨h0, h1⟩
    exact ⟨i.toNat, List.mem_range.2 (by omega), by simp; omega⟩
theorem hasL_iff (l : List Int) (i : Int) : hasL l i = true ↔ i ∈ l := by
  unfold hasL
  rw [List.any_eq_true]
  constructor
  · rintro ⟨x, hx, h⟩
    have : x = i := by simpa using h
    exact this ▸ hx
  · intro h
    exact ⟨i, h, by simp⟩
theorem hasL_ints (a b : Nat) (i : Int) : hasL (intsL a b) i = hasI a b i := by
  rw [Bool.eq_iff_iff, hasL_iff]
  unfold hasI intsL
  rw [List.mem_map]
  constructor
  · rintro ⟨j, hj, rfl⟩
    have := (setL_mem a b j).1 hj
    simp [this]
  · intro h
    have h' : 0 ≤ i ∧ hasB a b i.toNat = true := by simpa using h
    exact ⟨i.toNat, (setL_mem a b _).2 h'.2, by simp; omega⟩
theorem hasI_of_mem {i : Int} (h : i ∈ firstN 128) (a b : Nat) : hasI a b i = hasB a b i.toNat := by
  have := firstN_mem.1 h
  unfold hasI
  simp [this.1]
theorem rof_of (l : List Int) : rofL l 128 = intsL (ofS l).1 (ofS l).2 := by
  rw [intsL_eq]
  unfold rofL
  refine List.filter_congr fun i hi => ?_
  have h := firstN_mem.1 hi
  rw [hasB_ofS]
  unfold hasL
  rw [decide_eq_true (show i.toNat < 128 by omega), Bool.true_and]
  have e : ((i.toNat : Nat) : Int) = i := by omega
  congr 1
  funext x
  rw [e, decide_eq_decide]
  exact eq_comm
theorem rof_ints (a b : Nat) : rofL (intsL a b) 128 = intsL a b := by
  rw [intsL_eq a b]
  unfold rofL
  refine List.filter_congr fun i hi => ?_
  rw [← intsL_eq, hasL_ints, hasI_of_mem hi]
theorem hasL_append (l m : List Int) (i : Int) : hasL (l ++ m) i = (hasL l i || hasL m i) := by unfold hasL; rw [List.any_append]
theorem rof_or (a b c d : Nat) : rofL (intsL a b ++ intsL c d) 128 = intsL (a ||| c) (b ||| d) := by
  rw [intsL_eq (a ||| c)]
  unfold rofL
  refine List.filter_congr fun i hi => ?_
  rw [hasL_append, hasL_ints, hasL_ints, hasI_of_mem hi, hasI_of_mem hi, hasB_or]
theorem filt_and (a b c d : Nat) : (intsL a b).filter (hasL (intsL c d)) = intsL (a &&& c) (b &&& d) := by
  rw [intsL_eq a b, intsL_eq (a &&& c), List.filter_filter]
  refine List.filter_congr fun i hi => ?_
  rw [hasL_ints, hasI_of_mem hi, hasB_and, Bool.and_comm]
theorem filt_less {a b c d : Nat} (ha : U64 a) (hb : U64 b) (hc : U64 c) (hd : U64 d) : (intsL a b).filter (fun i => !hasL (intsL c d) i) = intsL (lessN a c) (lessN b d) := by
  rw [intsL_eq a b, intsL_eq (lessN a c), List.filter_filter]
  refine List.filter_congr fun i hi => ?_
  rw [hasL_ints, hasI_of_mem hi, hasB_less ha hb hc hd, Bool.and_comm]
theorem hasL_one (x i : Int) : hasL [x] i = decide (x = i) := by unfold hasL; simp
theorem hasB_one' {i : Int} (hi : i ∈ firstN 128) (x : Int) : hasB (oneW x).1 (oneW x).2 i.toNat = decide (x = i) := by
  have h := firstN_mem.1 hi
  rw [hasB_one, decide_eq_true (show i.toNat < 128 by omega), Bool.and_true, decide_eq_decide]
  have e : ((i.toNat : Nat) : Int) = i := by omega
  rw [e]
  exact eq_comm
theorem rof_with (a b : Nat) (x : Int) : rofL (intsL a b ++ [x]) 128 = intsL (a ||| (oneW x).1) (b ||| (oneW x).2) := by
  rw [intsL_eq (a ||| _)]
  unfold rofL
  refine List.filter_congr fun i hi => ?_
  rw [hasL_append, hasL_ints, hasL_one, hasI_of_mem hi, hasB_or, hasB_one' hi]
theorem filt_without {a b : Nat} (ha : U64 a) (hb : U64 b) (x : Int) : (intsL a b).filter (fun i => !hasL [x] i) = intsL (lessN a (oneW x).1) (lessN b (oneW x).2) := by
  rw [intsL_eq a b, intsL_eq (lessN a _), List.filter_filter]
  refine List.filter_congr fun i hi => ?_
  rw [hasL_one, hasB_less ha hb (oneW_u64 x).1 (oneW_u64 x).2, hasB_one' hi, Bool.and_comm]
theorem upto_ints (N : Nat) (hN : N ≤ 128) : firstN N = intsL (ofS (firstN N)).1 (ofS (firstN N)).2 := by
  rw [← rof_of]
  unfold rofL
  have e : (firstN 128).filter (hasL (firstN N)) = (firstN 128).filter (fun i : Int => decide (i < (N : Int))) := by
    refine List.filter_congr fun i hi => ?_
    have h := firstN_mem.1 hi
    rw [Bool.eq_iff_iff, hasL_iff, firstN_mem, decide_eq_true_iff]
    exact ⟨fun h => h.2, fun h' => ⟨h.1, h'⟩⟩
  rw [e]
  unfold firstN
  rw [List.filter_map]
  congr 1
  have e2 : ((fun i : Int => decide (i < (N : Int))) ∘ Int.ofNat) = fun j : Nat => decide (j < N) := by funext j; simp
  rw [e2]
  obtain ⟨d, hd⟩ : ∃ d, 128 = N + d := ⟨128 - N, by omega⟩
  rw [hd, List.range_add, List.filter_append, List.filter_eq_self.2 (by intro j hj; simpa using hj), List.filter_eq_nil_iff.2, List.append_nil]
  intro j hj
  obtain ⟨k, -, rfl⟩ := List.mem_map.1 hj
  simp
theorem intsL_nil {a b : Nat} (ha : U64 a) (hb : U64 b) : emptyB a b = decide ((intsL a b).length = 0) := by
  rw [Bool.eq_iff_iff, ext_zero ha hb, decide_eq_true_iff, List.length_eq_zero_iff, intsL, List.map_eq_nil_iff, List.eq_nil_iff_forall_not_mem]
  constructor
  · intro h i hi
    have := (setL_mem a b i).1 hi
    rw [h i] at this
    cases this
  · intro h i
    cases he : hasB a b i with
    | false => rfl
    | true => exact (h i ((setL_mem a b i).2 he)).elim
theorem under_less {a b c d : Nat} (ha : U64 a) (hb : U64 b) (hc : U64 c) (hd : U64 d) : sameB (a &&& c) (b &&& d) a b = emptyB (lessN a c) (lessN b d) := by
  rw [Bool.eq_iff_iff, ext_zero (U64.less _ ha) (U64.less _ hb), sameB, decide_eq_true_iff]
  constructor
  · rintro ⟨h1, h2⟩ i
    have := hasB_and a b c d i
    rw [h1, h2] at this
    rw [hasB_less ha hb hc hd]
    revert this
    cases hasB a b i <;> cases hasB c d i <;> simp
  · intro h
    refine set_ext (U64.and _ ha) (U64.and _ hb) ha hb fun i => ?_
    have := h i
    rw [hasB_less ha hb hc hd] at this
    rw [hasB_and]
    revert this
    cases hasB a b i <;> cases hasB c d i <;> simp
def firstOf (l : List Int) : Int := match l with
  | [] => -1
  | k :: _ => k
theorem firstI_eq (a b : Nat) : firstI a b = firstOf (intsL a b) := by
  unfold firstI intsL
  cases setL a b <;> rfl
end Go.Proofs.YtplfnhnipdfglaaDoor
