/-
  Plain: a weight's text, and that it is read as the weight.
-/
import Derived.Test.YtogbocgjijhmgaaGreatDoorWgA
import Derived.Test.YtogbocgjijhmgaaGreatDoorAtA
import Derived.Lib.Join
namespace Go.Proofs.YtogbocgjijhmgaaGreatDoor
open Go.RowKit Go.Extern.Stop Go.Stop Go.Extern

def termT (i m : Nat) : List UInt8 := if m = 1 then (wordB i).data.toList else Lib.decDigits m ++ 42 :: (wordB i).data.toList
/-- The parts that aren't 0, of the first so many. -/
def partsU (p : Nat → Nat) : Nat → List (Nat × Nat)
  | 0 => []
  | k + 1 => if p k = 0 then partsU p k else partsU p k ++ [(k, p k)]
def partsL (p : Nat → Nat) : List (Nat × Nat) := partsU p 3
def textU (p : Nat → Nat) (k : Nat) : List UInt8 := Lib.join ((partsU p k).map fun x => termT x.1 x.2) [32, 43, 32]
def textW (p : Nat → Nat) : List UInt8 := if partsL p = [] then [48] else Lib.join ((partsL p).map fun x => termT x.1 x.2) [32, 43, 32]

theorem word_letters (i : Nat) : (∀ b, b ∈ (wordB i).data.toList → isIn (b.toNat : Int) = true) ∧ ∃ b r, (wordB i).data.toList = b :: r ∧ isLet (b.toNat : Int) = true := by
  match i with
  | 0 => exact ⟨by decide, _, _, rfl, by decide⟩
  | 1 => exact ⟨by decide, _, _, rfl, by decide⟩
  | _ + 2 => exact ⟨show ∀ b, b ∈ (wordB 2).data.toList → isIn (b.toNat : Int) = true by decide, _, _, rfl, by decide⟩
theorem word_len (i : Nat) : (wordB i).data.toList.length ≤ 6 := by
  match i with
  | 0 => decide
  | 1 => decide
  | _ + 2 => exact show (wordB 2).data.toList.length ≤ 6 by decide
theorem word_back (i : Nat) : (⟨(wordB i).data.toList.toArray⟩ : ByteArray) = wordB i := by simp
theorem wIdx_word {i : Nat} (h : i < 3) : wIdx (wordB i) = i := by
  match i, h with
  | 0, _ => decide +kernel
  | 1, _ => decide +kernel
  | 2, _ => decide +kernel
  | n + 3, h => omega
/-- A word at a place. -/
theorem name_at {S : ByteArray} {k i : Nat} (h : At S k (wordB i).data.toList) (he : k + (wordB i).data.toList.length = S.size ∨ isIn (byteI S (k + (wordB i).data.toList.length)) = false) :
    isLet (byteI S k) = true ∧ nameC S k = 0 ∧ nameT S k = wordB i ∧ nameK S k = k + (wordB i).data.toList.length := by
  obtain ⟨h1, b, r, e, h2⟩ := word_letters i
  have hl : isLet (byteI S k) = true := by
    have h3 := h
    rw [e] at h3
    rw [h3.head]
    exact h2
  have hr := At.run h h1 he
  have h6 := word_len i
  have hx := h.extract
  rw [word_back] at hx
  refine ⟨hl, ?_, ?_, ?_⟩
  · unfold nameC
    rw [if_pos hl, hr, if_pos (by omega)]
  · unfold nameT
    rw [hr, if_pos ⟨hl, by omega⟩]
    exact hx
  · unfold nameK
    rw [hr, if_pos ⟨hl, by omega⟩]
theorem isD_dig (c : UInt8) : isDig (c.toNat : Int) = isD c := by
  rw [Bool.eq_iff_iff, isDig_iff, isD_iff]
theorem dec_head {n : Nat} : ∃ b r, Lib.decDigits n = b :: r ∧ isDig (b.toNat : Int) = true := by
  obtain ⟨-, h2, h3, -⟩ := dec_facts n
  cases hl : Lib.decDigits n with
  | nil => exact absurd hl h3
  | cons b r => exact ⟨b, r, rfl, by rw [isD_dig]; exact h2 b (by rw [hl]; exact List.mem_cons_self ..)⟩
/-- A number at a place. -/
theorem num_at {S : ByteArray} {k n : Nat} (h : At S k (Lib.decDigits n)) (hn : (n : Int) ≤ 9223372036854775807) (he : k + (Lib.decDigits n).length = S.size ∨ isDig (byteI S (k + (Lib.decDigits n).length)) = false) :
    isDig (byteI S k) = true ∧ numC S k = 0 ∧ numN S k = n ∧ numK S k = k + (Lib.decDigits n).length := by
  obtain ⟨b, r, e, hb⟩ := dec_head (n := n)
  have hd : isDig (byteI S k) = true := by
    have h3 := h
    rw [e] at h3
    rw [h3.head]
    exact hb
  have hr := At.run h (fun c hc => by rw [isD_dig]; exact (dec_facts n).2.1 c hc) he
  have hne : ¬ runTo isDig S k = k := by rw [hr, e]; simp
  have hg : digsR S k = ((n : Int), 0, 0) := by
    unfold digsR
    rw [hr, h.extract]
    exact parse_dec n hn
  refine ⟨hd, ?_, ?_, ?_⟩
  · unfold numC; rw [if_neg hne, hg]
  · unfold numN; rw [if_neg hne, hg, if_pos rfl]
  · unfold numK; rw [if_neg hne, hg, if_pos rfl, hr]
theorem let_facts {c : Int} (h : isLet c = true) : isDig c = false ∧ isBl c = false := by
  rw [isLet_iff] at h
  constructor
  · rw [Bool.eq_false_iff, ne_eq, isDig_iff]; omega
  · rw [Bool.eq_false_iff, ne_eq, isBl_iff]; omega
theorem dig_facts {c : Int} (h : isDig c = true) : isBl c = false := by
  rw [isDig_iff] at h
  rw [Bool.eq_false_iff, ne_eq, isBl_iff]; omega
/-- A term at a place, behind blanks. -/
theorem tm_at {S : ByteArray} {k i m : Nat} {q : Nat → Bool} (hi : i < 3) (hq : q i = false) (h0 : 0 < m) (hm : m ≤ 1000000) (h : At S (skp S k) (termT i m))
    (he : skp S k + (termT i m).length = S.size ∨ byteI S (skp S k + (termT i m).length) = 32) : tmR S k q = .ok i m (skp S k + (termT i m).length) := by
  have hin : isIn 32 = false := by decide
  unfold termT at h he ⊢
  by_cases h1 : m = 1
  · rw [if_pos h1] at h he ⊢
    subst h1
    obtain ⟨n1, n2, n3, n4⟩ := name_at h (he.imp id (fun e => by rw [e]; exact hin))
    have hf : fcR S k = .ok 1 k := by unfold fcR; rw [(let_facts n1).1]; rfl
    unfold tmR
    rw [hf]
    show wdR S k 1 q = _
    unfold wdR
    rw [n2, n3, wIdx_word hi, hq, n4, if_neg (fun e => e rfl), if_neg (by omega)]
    rfl
  · rw [if_neg h1] at h he ⊢
    obtain ⟨d1, d2, d3, d4⟩ := num_at h.left (by omega) (.inr (by rw [h.right.head]; decide))
    have hs : byteI S (skp S k + (Lib.decDigits m).length) = 42 := h.right.head
    have hw := h.right.tail
    have hlen : (Lib.decDigits m ++ 42 :: (wordB i).data.toList).length = (Lib.decDigits m).length + 1 + (wordB i).data.toList.length := by simp; omega
    rw [hlen] at he ⊢
    have hk : skp S (skp S k + (Lib.decDigits m).length) = skp S k + (Lib.decDigits m).length := skp_here (by rw [hs]; decide)
    have hf : fcR S k = .ok m (skp S k + (Lib.decDigits m).length + 1) := by
      unfold fcR
      rw [d1, d2, d3, d4, hk, hs]
      simp
      omega
    obtain ⟨n1, n2, n3, n4⟩ := name_at hw (by
      rcases he with he | he
      · exact .inl (by omega)
      · refine .inr ?_
        rw [show skp S k + (Lib.decDigits m).length + 1 + (wordB i).data.toList.length = skp S k + ((Lib.decDigits m).length + 1 + (wordB i).data.toList.length) by omega, he]
        exact hin)
    have hk2 : skp S (skp S k + (Lib.decDigits m).length + 1) = skp S k + (Lib.decDigits m).length + 1 := skp_here (let_facts n1).2
    unfold tmR
    rw [hf]
    show wdR S (skp S k + (Lib.decDigits m).length + 1) m q = _
    unfold wdR
    rw [hk2, n2, n3, wIdx_word hi, hq, n4, if_neg (fun e => e rfl), if_neg (by omega)]
    show TmO.ok i m _ = _
    congr 1
    omega
theorem term_head {i m : Nat} : ∃ b r, termT i m = b :: r ∧ isBl (b.toNat : Int) = false := by
  unfold termT
  split
  · obtain ⟨-, b, r, e, h⟩ := word_letters i
    exact ⟨b, r, e, (let_facts h).2⟩
  · obtain ⟨b, r, e, h⟩ := dec_head (n := m)
    exact ⟨b, r ++ 42 :: (wordB i).data.toList, by rw [e]; rfl, dig_facts h⟩
/-- Parts taken one behind the other. -/
def putL (p : Nat → Int) : List (Nat × Nat) → Nat → Int
  | [] => p
  | x :: r => putL (upd p x.1 (x.2 : Int)) r
theorem terms_read {S : ByteArray} : ∀ (l : List (Nat × Nat)) (x : Nat × Nat) (f k : Nat) (p : Nat → Int) (q : Nat → Bool), S.size < k + f →
    (∀ y, y ∈ x :: l → y.1 < 3 ∧ 0 < y.2 ∧ y.2 ≤ 1000000 ∧ q y.1 = false) → ((x :: l).map (·.1)).Nodup → k ≤ S.size → At S (skp S k) (Lib.join ((x :: l).map fun y => termT y.1 y.2) [32, 43, 32]) →
    skp S k + (Lib.join ((x :: l).map fun y => termT y.1 y.2) [32, 43, 32]).length = S.size → wgR S f k p q = .ok (putL p (x :: l))
  | l, x, 0, k, p, q, hf, _, _, hk, _, _ => by omega
  | [], x, f + 1, k, p, q, hf, hx, _, hk, ha, he => by
    obtain ⟨h1, h2, h3, h4⟩ := hx x (List.mem_cons_self ..)
    rw [List.map_cons, List.map_nil, Lib.join_one] at ha he
    have ht := tm_at h1 h4 h2 h3 ha (.inl he)
    rw [wgR, ht, he]
    have e : skp S S.size = S.size := by unfold skp; exact runTo_end (by omega)
    simp only [e, if_true]
    rfl
  | y :: l, x, f + 1, k, p, q, hf, hx, hnd, hk, ha, he => by
    obtain ⟨h1, h2, h3, h4⟩ := hx x (List.mem_cons_self ..)
    have ej : Lib.join ((x :: y :: l).map fun y => termT y.1 y.2) [32, 43, 32] = termT x.1 x.2 ++ (32 :: 43 :: 32 :: Lib.join ((y :: l).map fun y => termT y.1 y.2) [32, 43, 32]) := by
      rw [List.map_cons, Lib.join_cons, List.map_cons, Lib.join_cons]
      simp [Lib.joinTail]
    rw [ej] at ha he
    have hr := ha.right
    have hb0 : byteI S (skp S k + (termT x.1 x.2).length) = 32 := hr.head
    have hb1 : byteI S (skp S k + (termT x.1 x.2).length + 1) = 43 := hr.tail.head
    have hb2 : byteI S (skp S k + (termT x.1 x.2).length + 2) = 32 := hr.tail.tail.head
    have hat : At S (skp S k + (termT x.1 x.2).length + 3) (Lib.join ((y :: l).map fun y => termT y.1 y.2) [32, 43, 32]) := hr.tail.tail.tail
    have ht := tm_at h1 h4 h2 h3 ha.left (.inr hb0)
    have e1 : skp S (skp S k + (termT x.1 x.2).length) = skp S k + (termT x.1 x.2).length + 1 := skp_one hb0 (by rw [hb1]; decide)
    have hne : ¬ skp S k + (termT x.1 x.2).length + 1 = S.size := fun e => by rw [byteI_ge (by omega)] at hb1; exact absurd hb1 (by decide)
    obtain ⟨b, r, eb, hbl⟩ := term_head (i := y.1) (m := y.2)
    have hb3 : isBl (byteI S (skp S k + (termT x.1 x.2).length + 3)) = false := by
      rw [List.map_cons, Lib.join_cons, eb] at hat
      rw [hat.left.head]
      exact hbl
    have e2 : skp S (skp S k + (termT x.1 x.2).length + 1 + 1) = skp S k + (termT x.1 x.2).length + 3 := skp_one hb2 hb3
    rw [wgR, ht]
    simp only [e1]
    rw [if_neg hne, if_pos hb1]
    have hk0 := skp_le hk
    have hi2 := byteI_in hb2 (by decide)
    rw [List.map_cons, List.nodup_cons] at hnd
    refine terms_read l y f _ _ _ (by omega) (fun z hz => ?_) hnd.2 (by omega) (by rw [e2]; exact hat) (by rw [e2]; rw [List.length_append, List.length_cons, List.length_cons, List.length_cons] at he; omega)
    obtain ⟨g1, g2, g3, g4⟩ := hx z (List.mem_cons_of_mem _ hz)
    refine ⟨g1, g2, g3, ?_⟩
    unfold upd
    rw [if_neg (fun e => hnd.1 (by rw [← e]; exact List.mem_map.2 ⟨z, hz, rfl⟩))]
    exact g4
theorem partsU_mem (p : Nat → Nat) : ∀ (k : Nat) (y : Nat × Nat), y ∈ partsU p k → y.1 < k ∧ y.2 = p y.1 ∧ 0 < y.2
  | 0, y, h => by simp [partsU] at h
  | k + 1, y, h => by
    rw [partsU] at h
    split at h
    · have := partsU_mem p k y h
      omega
    · rename_i hz
      rcases List.mem_append.1 h with h | h
      · have := partsU_mem p k y h
        omega
      · simp at h
        subst h
        exact ⟨Nat.lt_succ_self k, rfl, Nat.pos_of_ne_zero hz⟩
theorem partsU_nodup (p : Nat → Nat) : ∀ k : Nat, ((partsU p k).map (·.1)).Nodup
  | 0 => by simp [partsU]
  | k + 1 => by
    rw [partsU]
    split
    · exact partsU_nodup p k
    · rw [List.map_append, List.nodup_append]
      refine ⟨partsU_nodup p k, by simp, fun a ha b hb => ?_⟩
      obtain ⟨y, hy, rfl⟩ := List.mem_map.1 ha
      have := (partsU_mem p k y hy).1
      simp at hb
      omega
theorem partsL_facts (p : Nat → Nat) (hp : ∀ i, p i ≤ 1000000) : (∀ y, y ∈ partsL p → y.1 < 3 ∧ 0 < y.2 ∧ y.2 ≤ 1000000) ∧ ((partsL p).map (·.1)).Nodup := by
  refine ⟨fun y hy => ?_, partsU_nodup p 3⟩
  obtain ⟨h1, h2, h3⟩ := partsU_mem p 3 y hy
  exact ⟨h1, h3, by rw [h2]; exact hp _⟩
theorem putL_parts (p : Nat → Nat) (i : Nat) (hi : i < 3) : putL (fun _ => 0) (partsL p) i = (p i : Int) := by
  have hi3 : i = 0 ∨ i = 1 ∨ i = 2 := by omega
  unfold partsL
  by_cases h0 : p 0 = 0 <;> by_cases h1 : p 1 = 0 <;> by_cases h2 : p 2 = 0 <;> rcases hi3 with rfl | rfl | rfl <;> simp [partsU, h0, h1, h2, putL, upd]
theorem join_snoc (l : List (List UInt8)) (x sep : List UInt8) : Lib.join (l ++ [x]) sep = if l = [] then x else Lib.join l sep ++ sep ++ x := by
  cases l with
  | nil => simp [Lib.join_one]
  | cons y r =>
    rw [List.cons_append, Lib.join_cons, Lib.join_cons, if_neg (by simp)]
    simp [Lib.joinTail]
theorem termT_ne (i m : Nat) : termT i m ≠ [] := by
  obtain ⟨b, r, e, -⟩ := term_head (i := i) (m := m)
  rw [e]; simp
theorem textU_nil {p : Nat → Nat} {k : Nat} : textU p k = [] ↔ partsU p k = [] := by
  unfold textU
  constructor
  · intro h
    cases hl : partsU p k with
    | nil => rfl
    | cons x r =>
      rw [hl, List.map_cons, Lib.join_cons] at h
      exact absurd (List.append_eq_nil_iff.1 h).1 (termT_ne _ _)
  · intro h; rw [h]; rfl
theorem textU_same {p : Nat → Nat} {k : Nat} (h : p k = 0) : textU p (k + 1) = textU p k := by unfold textU; rw [partsU, if_pos h]
theorem textU_first {p : Nat → Nat} {k : Nat} (h : p k ≠ 0) (h0 : textU p k = []) : textU p (k + 1) = termT k (p k) := by
  have h1 := textU_nil.1 h0
  unfold textU
  rw [partsU, if_neg h, h1]
  exact Lib.join_one _ _
theorem textU_more {p : Nat → Nat} {k : Nat} (h : p k ≠ 0) (h0 : textU p k ≠ []) : textU p (k + 1) = textU p k ++ [32, 43, 32] ++ termT k (p k) := by
  have h1 : partsU p k ≠ [] := fun e => h0 (textU_nil.2 e)
  unfold textU
  rw [partsU, if_neg h, List.map_append, List.map_cons, List.map_nil, join_snoc, if_neg (by simpa using h1)]
theorem textW_eq (p : Nat → Nat) : textW p = if textU p 3 = [] then [48] else textU p 3 := by
  unfold textW
  by_cases h : partsL p = []
  · rw [if_pos h, if_pos (textU_nil.2 h)]
  · rw [if_neg h, if_neg (fun e => h (textU_nil.1 e))]
    rfl
theorem termT_len {i m : Nat} (h : m ≤ 1000000) : (termT i m).length ≤ 30 := by
  unfold termT
  have := word_len i
  split
  · omega
  · have h1 := Lib.nDigits_le20 m (by omega)
    rw [← Lib.decDigits_length] at h1
    rw [List.length_append, List.length_cons]
    omega
theorem textU_len {p : Nat → Nat} (hp : ∀ i, p i ≤ 1000000) : ∀ k : Nat, (textU p k).length ≤ 33 * k
  | 0 => by simp [textU, partsU, Lib.join_nil]
  | k + 1 => by
    have h1 := textU_len hp k
    have h2 := termT_len (i := k) (hp k)
    by_cases hz : p k = 0
    · rw [textU_same hz]; omega
    · by_cases h0 : textU p k = []
      · rw [textU_first hz h0]; omega
      · rw [textU_more hz h0]
        simp
        omega
theorem textW_len {p : Nat → Nat} (hp : ∀ i, p i ≤ 1000000) : (textW p).length ≤ 100 := by
  rw [textW_eq]
  have := textU_len hp 3
  split
  · simp
  · omega
/-- What is printed is read as it was. -/
theorem wgP_text (p : Nat → Nat) (hp : ∀ i, p i ≤ 1000000) : ∃ p', wgP ⟨(textW p).toArray⟩ = .ok p' ∧ ∀ i, i < 3 → p' i = (p i : Int) := by
  have hz : (⟨(textW p).toArray⟩ : ByteArray).size = (textW p).length := by simp [ByteArray.size]
  have ha := At.self (textW p)
  unfold textW at *
  by_cases he : partsL p = []
  · rw [if_pos he] at *
    refine ⟨fun _ => 0, ?_, fun i hi => ?_⟩
    · unfold wgP
      rw [if_pos (by
        unfold noughtB
        have e0 : byteI (⟨[48].toArray⟩ : ByteArray) 0 = 48 := rfl
        have e1 : skp (⟨[48].toArray⟩ : ByteArray) 0 = 0 := skp_here (by rw [e0]; decide)
        have e2 : skp (⟨[48].toArray⟩ : ByteArray) 1 = 1 := by unfold skp; exact runTo_end (by decide)
        rw [e1, e0, Nat.zero_add, e2]
        rfl)]
    · have := putL_parts p i hi
      rw [he] at this
      exact this
  · rw [if_neg he] at *
    obtain ⟨hf, hnd⟩ := partsL_facts p hp
    refine ⟨putL (fun _ => 0) (partsL p), ?_, fun i hi => putL_parts p i hi⟩
    cases hl : partsL p with
    | nil => exact absurd hl he
    | cons x l =>
      rw [hl] at hf hnd ha hz
      generalize hS : (⟨(Lib.join ((x :: l).map fun y => termT y.1 y.2) [32, 43, 32]).toArray⟩ : ByteArray) = S at *
      obtain ⟨b, r, eb, hbl⟩ := term_head (i := x.1) (m := x.2)
      have hh : isBl (byteI S 0) = false := by
        have h2 := ha
        rw [List.map_cons, Lib.join_cons, eb] at h2
        rw [h2.left.head]
        exact hbl
      have e0 : skp S 0 = 0 := skp_here hh
      have hn : noughtB S = false := by
        unfold noughtB
        rw [e0]
        obtain ⟨g1, g2, g3⟩ := hf x (List.mem_cons_self ..)
        rw [List.map_cons, Lib.join_cons] at ha
        have ht := tm_at (S := S) (k := 0) (q := fun _ => false) g1 rfl g2 g3 (by rw [e0]; exact ha.left)
        by_cases h48 : byteI S 0 = 48
        · have hm : x.2 ≠ 1 := by
            intro e
            have h3 := ha.left
            unfold termT at h3
            rw [if_pos e] at h3
            obtain ⟨-, b2, r2, e2, h2⟩ := word_letters x.1
            rw [e2] at h3
            rw [h3.head] at h48
            rw [h48] at h2
            exact absurd h2 (by decide)
          exfalso
          have h3 := ha.left
          unfold termT at h3
          rw [if_neg hm] at h3
          obtain ⟨b2, r2, e2, -⟩ := dec_head (n := x.2)
          have h4 := (dec_facts x.2).2.2.2 g2
          have h5 := h3.left
          rw [e2] at h4 h5
          rw [h5.head] at h48
          apply h4
          rw [show b2 = 48 from UInt8.toNat_inj.1 (by have : (48 : UInt8).toNat = 48 := rfl; omega)]
          rfl
        · rw [decide_eq_false h48]; rfl
      unfold wgP
      rw [hn, if_neg (by decide)]
      exact terms_read l x (S.size + 1) 0 _ _ (by omega) (fun y hy => ⟨(hf y hy).1, (hf y hy).2.1, (hf y hy).2.2, rfl⟩) hnd (Nat.zero_le _) (by rw [e0]; exact ha) (by rw [e0, hz]; omega)
end Go.Proofs.YtogbocgjijhmgaaGreatDoor
