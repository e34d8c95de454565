/-
  Plain: a text that stands at a place of another; a word that stands there, read there.
  Plain: an Atom's text, read again; what an expression's text begins with; how many brackets stand within one another in it.
  Plain: how many brackets stand within one another in an expression's text; what it begins with; read again, it is that expression.
  Plain: an expression's text, read again, is that expression.
  Plain: an expression's text, read again, is that expression: by induction.
  Plain: what is read may be.
-/
import Derived.Test.YtocfcnhaecmgpaaGreatDoorRgz
import Derived.Sort.Walk0
import Derived.Test.YtocfcnhaecmgpaaGreatDoorRxQ
namespace Go.Proofs.YtocfcnhaecmgpaaGreatDoor
open Go.RowKit Go.Extern.Stop Go.Stop Go.Extern

/-- Bytes that stand at a place. -/
def At (S : ByteArray) (k : Nat) (l : List UInt8) : Prop := k + l.length ≤ S.size ∧ ∀ i b, l[i]? = some b → byteI S (k + i) = b.toNat
theorem At.left {S : ByteArray} {k : Nat} {l r : List UInt8} (h : At S k (l ++ r)) : At S k l := by
  refine ⟨by have := h.1; simp at this; omega, fun i b hi => h.2 i b ?_⟩
  rw [List.getElem?_append_left (List.getElem?_eq_some_iff.1 hi).1]
  exact hi
theorem At.right {S : ByteArray} {k : Nat} {l r : List UInt8} (h : At S k (l ++ r)) : At S (k + l.length) r := by
  refine ⟨by have := h.1; simp at this; omega, fun i b hi => ?_⟩
  have h2 := h.2 (l.length + i) b (by rw [List.getElem?_append_right (by omega)]; rw [show l.length + i - l.length = i by omega]; exact hi)
  rw [← h2, Nat.add_assoc]
theorem At.head {S : ByteArray} {k : Nat} {b : UInt8} {r : List UInt8} (h : At S k (b :: r)) : byteI S k = b.toNat := h.2 0 b rfl
theorem At.tail {S : ByteArray} {k : Nat} {b : UInt8} {r : List UInt8} (h : At S k (b :: r)) : At S (k + 1) r := by
  have : At S k ([b] ++ r) := h
  exact this.right
theorem At.word {S : ByteArray} {k : Nat} {w : ByteArray} (h : At S k w.data.toList) : k + w.size ≤ S.size ∧ (∀ i, i < w.size → byteI S (k + i) = byteI w i) := by
  have e : (⟨w.data.toList.toArray⟩ : ByteArray) = w := by simp
  have hl : w.data.toList.length = w.size := (Lib.size_eq w).symm
  refine ⟨by have := h.1; omega, fun i hi => ?_⟩
  have hb : byteI w i = ((w.data.toList[i]?).map (fun b => (b.toNat : Int))).getD 0 := by
    rw [← byteI_list, e]
  have hi2 : i < w.data.toList.length := by omega
  rw [hb, List.getElem?_eq_getElem hi2]
  exact h.2 i _ (List.getElem?_eq_getElem hi2)
theorem At.extract {S : ByteArray} {k : Nat} {l : List UInt8} (h : At S k l) : S.extract k (k + l.length) = ⟨l.toArray⟩ := by
  have h1 := h.1
  apply ByteArray.ext
  apply Array.ext
  · simp
    have : S.data.size = S.size := rfl
    omega
  · intro i h2 h3
    have hi : i < l.length := by simpa using h3
    have hb := h.2 i _ (List.getElem?_eq_getElem hi)
    rw [byteI_lt (by omega)] at hb
    have hb2 : S[k + i] = l[i] := UInt8.toNat_inj.1 (by omega)
    simp only [ByteArray.data_extract, Array.getElem_extract, List.getElem_toArray]
    rw [← hb2]
    rfl

/-! ### A word that stands there -/
/-- A word at a place, with a byte behind it that is in no name and is no #. -/
structure WAt (S : ByteArray) (k : Nat) (w : ByteArray) : Prop where
  le : k + w.size ≤ S.size
  at' : ∀ i, i < w.size → byteI S (k + i) = byteI w i
  nin : isIn (byteI S (k + w.size)) = false
  nhash : byteI S (k + w.size) ≠ 35
  ndol : byteI S (k + w.size) ≠ 36
section
variable {S w : ByteArray} {k : Nat}
theorem WAt.run (h : WAt S k w) : ∀ (n i : Nat), w.size - i = n → i ≤ w.size → runTo isIn S (k + i) = k + runTo isIn w i := by
  intro n
  induction n with
  | zero =>
    intro i h1 h2
    obtain rfl : i = w.size := by omega
    rw [runTo_end (by omega : ¬ w.size < w.size)]
    by_cases hS : k + w.size < S.size
    · rw [runTo_step _ S _ hS, if_neg (by rw [h.nin]; decide)]
    · exact runTo_end hS
  | succ n ih =>
    intro i h1 h2
    rw [runTo_step _ w i (by omega), runTo_step _ S (k + i) (by have := h.le; omega), h.at' i (by omega)]
    split
    · exact ih (i + 1) (by omega) (by omega)
    · rfl
theorem WAt.letter (h : WAt S k w) {i : Nat} (hi : i ≤ w.size) : isLet (byteI S (k + i)) = isLet (byteI w i) := by
  by_cases h1 : i < w.size
  · rw [h.at' i h1]
  · obtain rfl : i = w.size := by omega
    rw [byteI_ge (by omega : ¬ w.size < w.size)]
    cases hl : isLet (byteI S (k + w.size)) with
    | false => decide
    | true => have := h.nin; rw [(isIn_iff _).2 (.inl hl)] at this; cases this
theorem WAt.is (h : WAt S k w) {i : Nat} (hi : i ≤ w.size) {c : Int} (hc : c = 35 ∨ c = 36) : (byteI S (k + i) = c) = (byteI w i = c) := by
  by_cases h1 : i < w.size
  · rw [h.at' i h1]
  · obtain rfl : i = w.size := by omega
    rw [byteI_ge (by omega : ¬ w.size < w.size)]
    apply propext
    constructor
    · intro e
      rcases hc with rfl | rfl
      · exact absurd e h.nhash
      · exact absurd e h.ndol
    · intro e
      rcases hc with rfl | rfl <;> cases e
theorem WAt.nameK (h : WAt S k w) {i : Nat} (hi : i ≤ w.size) : nameK S (k + i) = k + Go.Proofs.YtocfcnhaecmgpaaGreatDoor.nameK w i := by
  unfold Go.Proofs.YtocfcnhaecmgpaaGreatDoor.nameK
  rw [h.letter hi, h.run _ i rfl hi, show k + runTo isIn w i - (k + i) = runTo isIn w i - i by omega]
  split <;> rfl
theorem WAt.nameC (h : WAt S k w) {i : Nat} (hi : i ≤ w.size) : (nameC S (k + i) = 0) = (Go.Proofs.YtocfcnhaecmgpaaGreatDoor.nameC w i = 0) := by
  unfold Go.Proofs.YtocfcnhaecmgpaaGreatDoor.nameC
  rw [h.letter hi, h.run _ i rfl hi, show k + runTo isIn w i - (k + i) = runTo isIn w i - i by omega]
  have h1 := missC_ne w i
  have h2 := missC_ne S (k + i)
  split
  · rfl
  · simp [h1, h2]
theorem WAt.wd1 (h : WAt S k w) : wd1 S k = k + Go.Proofs.YtocfcnhaecmgpaaGreatDoor.wd1 w 0 := by
  unfold Go.Proofs.YtocfcnhaecmgpaaGreatDoor.wd1
  have := h.is (Nat.zero_le _) (c := 36) (.inr rfl)
  rw [Nat.add_zero] at this
  simp only [this]
  split <;> rfl
theorem WAt.wd2 (h : WAt S k w) : wd2 S k = Go.Proofs.YtocfcnhaecmgpaaGreatDoor.wd2 w 0 := by
  unfold Go.Proofs.YtocfcnhaecmgpaaGreatDoor.wd2
  have h0 := h.is (Nat.zero_le _) (c := 36) (.inr rfl)
  rw [Nat.add_zero] at h0
  have hl := wd1_le (s := w) (Nat.zero_le _)
  rw [h.wd1, h.nameK hl]
  simp only [ne_eq, h0, h.is (nameK_le w _ hl) (c := 35) (.inl rfl)]
theorem WAt.wdK (h : WAt S k w) : wdK S k = k + Go.Proofs.YtocfcnhaecmgpaaGreatDoor.wdK w 0 := by
  have hl := wd1_le (s := w) (Nat.zero_le _)
  unfold Go.Proofs.YtocfcnhaecmgpaaGreatDoor.wdK
  rw [h.wd2, h.wd1, h.nameK hl]
  split
  · rw [Nat.add_assoc, h.nameK (wd2_in (by assumption))]
  · rfl
theorem WAt.wdC (h : WAt S k w) : (wdC S k = 0) = (Go.Proofs.YtocfcnhaecmgpaaGreatDoor.wdC w 0 = 0) := by
  have hl := wd1_le (s := w) (Nat.zero_le _)
  have h1 := h.nameC hl
  unfold Go.Proofs.YtocfcnhaecmgpaaGreatDoor.wdC
  rw [h.wd2, h.wd1, h.nameK hl]
  by_cases hc : Go.Proofs.YtocfcnhaecmgpaaGreatDoor.nameC w (Go.Proofs.YtocfcnhaecmgpaaGreatDoor.wd1 w 0) = 0
  · have hc2 : Go.Proofs.YtocfcnhaecmgpaaGreatDoor.nameC S (k + Go.Proofs.YtocfcnhaecmgpaaGreatDoor.wd1 w 0) = 0 := by rw [h1]; exact hc
    rw [hc, hc2]
    simp only [ne_eq, not_true_eq_false, if_false]
    split
    · rw [Nat.add_assoc]
      exact h.nameC (wd2_in (by assumption))
    · rfl
  · have hc2 : ¬ Go.Proofs.YtocfcnhaecmgpaaGreatDoor.nameC S (k + Go.Proofs.YtocfcnhaecmgpaaGreatDoor.wd1 w 0) = 0 := by rw [h1]; exact hc
    simp [hc, hc2]
/-- A word that stands there is read there. -/
theorem WAt.reads (h : WAt S k w) (hw : isWd w = true) : Go.Proofs.YtocfcnhaecmgpaaGreatDoor.wdC S k = 0 ∧ Go.Proofs.YtocfcnhaecmgpaaGreatDoor.wdK S k = k + w.size := by
  unfold isWd at hw
  simp only [Bool.and_eq_true, decide_eq_true_eq] at hw
  exact ⟨by rw [h.wdC]; exact hw.1, by rw [h.wdK, hw.2]⟩
end
/-- A word's first byte. -/
theorem wd_first {w : ByteArray} (hw : isWd w = true) : 0 < w.size ∧ (byteI w 0 = 36 ∨ isLet (byteI w 0) = true) := by
  unfold isWd at hw
  simp only [Bool.and_eq_true, decide_eq_true_eq] at hw
  have hf : byteI w 0 = 36 ∨ isLet (byteI w 0) = true := by
    by_cases h36 : byteI w 0 = 36
    · exact .inl h36
    · right
      have hw1 : wd1 w 0 = 0 := by unfold wd1; rw [if_neg h36]
      cases hl : isLet (byteI w 0) with
      | true => rfl
      | false =>
        have h1 := hw.1
        unfold wdC nameC at h1
        rw [hw1, hl] at h1
        have := missC_ne w 0
        simp [this] at h1
  refine ⟨?_, hf⟩
  rcases hf with h | h
  · have := byteI_in h (by decide); omega
  · by_cases h0 : 0 < w.size
    · exact h0
    · rw [byteI_ge h0] at h
      cases h
end Go.Proofs.YtocfcnhaecmgpaaGreatDoor

namespace Go.Proofs.YtocfcnhaecmgpaaGreatDoor
open Go.RowKit Go.Extern.Stop Go.Stop Go.Extern

/-! ### Words that rise -/
theorem leB_not {x y : ByteArray} (h : leB y x = false) : x.data.toList < y.data.toList := by
  unfold leB at h
  rw [Go.Proofs.bytesLess_eq, Go.ByteArray.toList_eq, Go.ByteArray.toList_eq] at h
  simp only [Bool.or_eq_false_iff, decide_eq_false_iff_not, beq_eq_false_iff_ne] at h
  exact Decidable.byContradiction fun hn => h.2 (List.le_antisymm (List.not_lt.1 hn) (List.not_lt.1 h.1))
theorem rises_pair : ∀ {ws : List ByteArray}, risesW ws = true → (ws.map (fun b => b.data.toList)).Pairwise (fun a b => a < b)
  | [], _ => List.Pairwise.nil
  | [x], _ => List.pairwise_singleton _ _
  | x :: y :: r, h => by
    rw [risesW] at h
    simp only [Bool.and_eq_true, Bool.not_eq_true'] at h
    have h1 := leB_not h.1
    have h2 := rises_pair h.2
    rw [List.map_cons]
    refine List.pairwise_cons.2 ⟨fun z hz => ?_, h2⟩
    rw [List.map_cons] at hz h2
    rcases List.mem_cons.1 hz with rfl | hz
    · exact h1
    · exact List.lt_trans h1 ((List.pairwise_cons.1 h2).1 z hz)
theorem putW_end : ∀ {l : List (List UInt8)} {w : List UInt8}, (∀ x, x ∈ l → x < w) → putW l w = l ++ [w]
  | [], w, _ => by rw [putW]; rfl
  | x :: r, w, h => by
    have hx := h x (by simp)
    rw [putW, if_neg (List.lt_asymm hx), putW_end (fun y hy => h y (List.mem_cons_of_mem _ hy))]
    rfl
theorem srtL_up : ∀ (l acc : List (List UInt8)), (acc ++ l).Pairwise (fun a b => a < b) → l.foldl putW acc = acc ++ l
  | [], acc, _ => by simp
  | w :: r, acc, h => by
    have h1 : ∀ x, x ∈ acc → x < w := fun x hx => (List.pairwise_append.1 h).2.2 x hx w (by simp)
    rw [List.foldl_cons, putW_end h1, srtL_up r (acc ++ [w]) (by simpa using h)]
    simp
theorem srt_up {ws : List ByteArray} (h : risesW ws = true) : srt ws = ws := by
  have h1 := srtL_up (ws.map (fun b => b.data.toList)) [] (by simpa using rises_pair h)
  unfold srt srtL
  rw [h1, List.nil_append, List.map_map]
  have e : ((fun b : List UInt8 => (⟨b.toArray⟩ : ByteArray)) ∘ fun b : ByteArray => b.data.toList) = id := by
    funext b; simp
  rw [e, List.map_id]

/-! ### Bytes -/
def dlm (c : Int) : Prop := isIn c = false ∧ c ≠ 35 ∧ c ≠ 36
theorem dlm_of {c : Int} (h : c = 32 ∨ c = 41 ∨ c = 0 ∨ c = 124 ∨ c = 42 ∨ c = 43 ∨ c = 63 ∨ c = 44 ∨ c = 93) : dlm c := by
  rcases h with rfl | rfl | rfl | rfl | rfl | rfl | rfl | rfl | rfl <;> exact ⟨by decide, by decide, by decide⟩
/-- Does a part begin with such a byte? -/
def fstB (c : Int) : Bool := decide (c = 46) || (decide (c = 91) || (decide (c = 40) || (decide (c = 36) || isLet c)))
theorem begB_fst (s : ByteArray) (j : Nat) : begB s j = fstB (byteI s j) := rfl
theorem fstB_iff (c : Int) : fstB c = true ↔ c = 46 ∨ c = 91 ∨ c = 40 ∨ c = 36 ∨ 97 ≤ c ∧ c ≤ 122 ∨ 65 ≤ c ∧ c ≤ 90 ∨ c = 95 := by
  unfold fstB
  simp only [Bool.or_eq_true, decide_eq_true_eq, isLet_iff]
theorem fst_notBl {c : Int} (h : fstB c = true) : isBl c = false := by
  have h1 := (fstB_iff c).1 h
  cases hb : isBl c with
  | false => rfl
  | true => have := (isBl_iff c).1 hb; omega
theorem fst_sgn {c : Int} (h : fstB c = true) : sgn c = none := by
  have h1 := (fstB_iff c).1 h
  unfold sgn
  rw [if_neg (by omega), if_neg (by omega), if_neg (by omega)]
theorem fst_not {c : Int} (h : c = 41 ∨ c = 0 ∨ c = 124) : fstB c = false := by rcases h with rfl | rfl | rfl <;> decide
theorem end_sgn {c : Int} (h : c = 41 ∨ c = 0 ∨ c = 124) : sgn c = none := by rcases h with rfl | rfl | rfl <;> decide
theorem end_notBl {c : Int} (h : c = 41 ∨ c = 0 ∨ c = 124) : isBl c = false := by rcases h with rfl | rfl | rfl <;> decide

/-! ### Sets of words -/
theorem chR_reads {S : ByteArray} : ∀ (ws : List ByteArray) (f k : Nat) (seen : List ByteArray), ws ≠ [] → At S k (wordsT ws ++ [93]) → (∀ w, w ∈ ws → isWd w = true) → ((seen ++ ws).map (fun b => b.data.toList)).Pairwise (fun a b => a < b) → S.size < k + f →
    chR S f k seen = .ok (k + (wordsT ws ++ [93]).length) 0 (seen ++ ws)
  | [], _, _, _, h, _, _, _, _ => absurd rfl h
  | w :: r, 0, k, seen, _, hat, _, _, hf => by have := hat.1; omega
  | w :: r, f + 1, k, seen, _, hat, hw, hnd, hf => by
    have hww := hw w (by simp)
    obtain ⟨hpos, hfst⟩ := wd_first hww
    have hsz : w.data.toList.length = w.size := (Lib.size_eq w).symm
    have hcons : wordsT (w :: r) = w.data.toList ++ Lib.joinTail [44] (r.map (·.data.toList)) := by unfold wordsT; rw [List.map_cons, Lib.join_cons]
    rw [hcons, List.append_assoc] at hat
    have ha1 := hat.left
    have ha2 := hat.right
    rw [hsz] at ha2
    have hwa := ha1.word
    have hb0 : byteI S k = byteI w 0 := by have := hwa.2 0 hpos; rwa [Nat.add_zero] at this
    have hfb : fstB (byteI S k) = true := by
      rw [hb0]
      unfold fstB
      rcases hfst with h | h <;> simp [h]
    have hs0 : skp S k = k := skp_stay (fst_notBl hfb)
    obtain ⟨b, rest, hbr, hbc⟩ : ∃ b rest, Lib.joinTail [44] (r.map (·.data.toList)) ++ [93] = b :: rest ∧ (b = 44 ∧ r ≠ [] ∨ b = 93 ∧ r = []) := by
      cases r with
      | nil => exact ⟨93, [], rfl, .inr ⟨rfl, rfl⟩⟩
      | cons y r' => exact ⟨44, _, rfl, .inl ⟨rfl, by simp⟩⟩
    have hnb : byteI S (k + w.size) = (b.toNat : Int) := by rw [hbr] at ha2; exact ha2.head
    have hdl : dlm (byteI S (k + w.size)) := by
      rw [hnb]
      rcases hbc with ⟨rfl, -⟩ | ⟨rfl, -⟩ <;> exact dlm_of (by decide)
    have hrd := (WAt.mk hwa.1 hwa.2 hdl.1 hdl.2.1 hdl.2.2).reads hww
    have hs1 : skp S (k + w.size) = k + w.size := skp_stay (by rw [hnb]; rcases hbc with ⟨rfl, -⟩ | ⟨rfl, -⟩ <;> decide)
    have hext : S.extract k (k + w.size) = w := by
      have := ha1.extract
      rw [hsz] at this
      rw [this]
    have hnc : (seen.map (fun b => b.data.toList)).contains w.data.toList = false := by
      cases hc : (seen.map (fun b => b.data.toList)).contains w.data.toList with
      | false => rfl
      | true =>
        exfalso
        have hm : w.data.toList ∈ seen.map (fun b => b.data.toList) := by simpa using hc
        rw [List.map_append, List.map_cons] at hnd
        exact List.lt_irrefl _ ((List.pairwise_append.1 hnd).2.2 _ hm _ (by simp))
    rw [chR, hs0, hrd.1, hrd.2, hext, if_neg (by decide), if_neg (by rw [hnc]; decide), hs1, hnb]
    rcases hbc with ⟨rfl, hr⟩ | ⟨rfl, hr⟩
    · rw [if_pos (by decide)]
      cases r with
      | nil => exact absurd rfl hr
      | cons y r' =>
        have ht : Lib.joinTail [44] ((y :: r').map (·.data.toList)) = 44 :: wordsT (y :: r') := by
          unfold wordsT
          rw [List.map_cons, Lib.join_cons]
          rfl
        rw [ht] at ha2
        have h3 := chR_reads (y :: r') f (k + w.size + 1) (seen ++ [w]) (by simp) (by have := ha2.tail; simpa using this) (fun z hz => hw z (List.mem_cons_of_mem _ hz)) (by simpa using hnd) (by omega)
        rw [h3]
        congr 1
        · rw [hcons, ht]
          simp
          omega
        · simp
    · subst hr
      rw [if_neg (by decide), if_pos (by decide)]
      congr 1
      rw [hcons]
      first | (simp [Lib.joinTail]; done) | (simp [Lib.joinTail]; omega)
theorem noneW_all {ws : List ByteArray} (h : ws.any (fun w => !isWd w) = false) : ∀ w, w ∈ ws → isWd w = true := by
  intro w hw
  have := List.any_eq_false.1 h w hw
  simpa using this
theorem wordsF_all {ws : List ByteArray} (h : wordsF ws = 0) : ws ≠ [] ∧ (∀ w, w ∈ ws → isWd w = true) ∧ risesW ws = true := by
  unfold wordsF at h
  split at h
  · cases h
  · rename_i h1
    split at h
    · rename_i h2
      refine ⟨fun e => h1 (.inl (by rw [e]; rfl)), noneW_all ?_, h2⟩
      cases hb : ws.any (fun w => !isWd w) with
      | false => rfl
      | true => exact absurd (.inr hb) h1
    · cases h
/-- An Atom's text, read again. -/
theorem atom_reads {S : ByteArray} {sub : Option (Nat → Nat → RO Rx)} {t : Bool} {ws : List ByteArray} {k n : Nat} (h : wordsF ws = 0) (hat : At S k (atomT t ws)) (hd : dlm (byteI S (k + (atomT t ws).length))) (hn : n + 1 ≤ 100) :
    bsR S sub k n = .ok (k + (atomT t ws).length) (n + 1) (.mk 1 t ws []) := by
  obtain ⟨hne, hall, hup⟩ := wordsF_all h
  have hset : ∀ (neg : Bool), At S k (91 :: ((if neg then [94] else []) ++ (wordsT ws ++ [93]))) → bsR S sub k n = .ok (k + (91 :: ((if neg then [94] else []) ++ (wordsT ws ++ [93]))).length) (n + 1) (.mk 1 neg ws []) := by
    intro neg hat
    have hb := hat.head
    have h91 : byteI S k = 91 := hb
    have hs0 : skp S k = k := skp_stay (by rw [h91]; decide)
    have ht := hat.tail
    have hfirst : ∃ b rest, wordsT ws = b :: rest ∧ ((b.toNat : Int) = 36 ∨ isLet (b.toNat : Int) = true) := by
      cases ws with
      | nil => exact absurd rfl hne
      | cons w r =>
        have hcons : wordsT (w :: r) = w.data.toList ++ Lib.joinTail [44] (r.map (·.data.toList)) := by unfold wordsT; rw [List.map_cons, Lib.join_cons]
        obtain ⟨hpos, hfst⟩ := wd_first (hall w (by simp))
        rw [hcons]
        cases hl : w.data.toList with
        | nil => rw [Lib.size_eq, hl] at hpos; simp at hpos
        | cons b l =>
          refine ⟨b, _, rfl, ?_⟩
          have hb : byteI w 0 = (b.toNat : Int) := by
            have e : (⟨w.data.toList.toArray⟩ : ByteArray) = w := by simp
            rw [← e, byteI_list, hl]
            rfl
          rwa [hb] at hfst
    obtain ⟨b, rest, hbr, hbf⟩ := hfirst
    have hfb : fstB (b.toNat : Int) = true := by
      unfold fstB
      rcases hbf with h | h <;> simp [h]
    have hb2 := (fstB_iff _).1 hfb
    unfold bsR
    rw [hs0, h91, if_neg (by decide), if_neg (by decide), if_pos rfl]
    cases neg with
    | true =>
      have ht1 : At S (k + 1) (94 :: (wordsT ws ++ [93])) := ht
      have h94 : byteI S (k + 1) = 94 := ht1.head
      have hs1 : skp S (k + 1) = k + 1 := skp_stay (by rw [h94]; decide)
      have hnk : notK S (k + 1) = k + 1 + 1 := by unfold notK; rw [hs1, if_pos h94]
      have hc := chR_reads ws (S.size + 1) (k + 1 + 1) [] hne ht1.tail hall (by simpa using rises_pair hup) (by omega)
      rw [hnk, hc]
      simp only
      rw [hs1, h94, List.nil_append, srt_up hup]
      unfold cnt
      rw [if_neg (by omega)]
      congr 1
      simp
      omega
    | false =>
      have ht1 : At S (k + 1) (wordsT ws ++ [93]) := ht
      have hb0 : byteI S (k + 1) = (b.toNat : Int) := by rw [hbr] at ht1; exact ht1.head
      have hs1 : skp S (k + 1) = k + 1 := skp_stay (by rw [hb0]; exact fst_notBl hfb)
      have h94 : ¬ byteI S (k + 1) = 94 := by rw [hb0]; omega
      have hnk : notK S (k + 1) = k + 1 := by unfold notK; rw [hs1, if_neg h94]
      have hc := chR_reads ws (S.size + 1) (k + 1) [] hne ht1 hall (by simpa using rises_pair hup) (by omega)
      rw [hnk, hc]
      simp only
      rw [hs1, decide_eq_false h94, List.nil_append, srt_up hup]
      unfold cnt
      rw [if_neg (by omega)]
      congr 1
      simp
      omega
  unfold atomT at hat hd ⊢
  cases t with
  | true =>
    rw [if_pos rfl] at hat ⊢
    exact hset true hat
  | false =>
    rw [if_neg (by decide)] at hat hd ⊢
    by_cases h1 : 1 < ws.length
    · rw [if_pos h1] at hat ⊢
      exact hset false hat
    · rw [if_neg h1] at hat hd ⊢
      obtain ⟨w, rfl⟩ : ∃ w, ws = [w] := by
        cases ws with
        | nil => exact absurd rfl hne
        | cons w r =>
          cases r with
          | nil => exact ⟨w, rfl⟩
          | cons y r => simp at h1
      · have hw1 : wordsT [w] = w.data.toList := Lib.join_one _ _
        rw [hw1] at hat hd ⊢
        have hww := hall w (by simp)
        obtain ⟨hpos, hfst⟩ := wd_first hww
        have hsz : w.data.toList.length = w.size := (Lib.size_eq w).symm
        rw [hsz] at hd ⊢
        have hwa := hat.word
        have hb0 : byteI S k = byteI w 0 := by have := hwa.2 0 hpos; rwa [Nat.add_zero] at this
        have hfb : byteI S k = 36 ∨ isLet (byteI S k) = true := by rw [hb0]; exact hfst
        have hne2 : ¬ byteI S k = 40 ∧ ¬ byteI S k = 46 ∧ ¬ byteI S k = 91 ∧ isBl (byteI S k) = false := by
          have hf : fstB (byteI S k) = true := by unfold fstB; rcases hfb with h | h <;> simp [h]
          refine ⟨?_, ?_, ?_, fst_notBl hf⟩ <;>
          · intro e
            rw [e] at hfb
            revert hfb
            decide
        have hs0 : skp S k = k := skp_stay hne2.2.2.2
        have hrd := (WAt.mk hwa.1 hwa.2 hd.1 hd.2.1 hd.2.2).reads hww
        have hext : S.extract k (k + w.size) = w := by
          have := hat.extract
          rw [hsz] at this
          rw [this]
        unfold bsR
        rw [hs0, if_neg hne2.1, if_neg hne2.2.1, if_neg hne2.2.2.1, hrd.1, hrd.2, hext, if_neg (by decide)]
        unfold cnt
        rw [if_neg (by omega)]
end Go.Proofs.YtocfcnhaecmgpaaGreatDoor

namespace Go.Proofs.YtocfcnhaecmgpaaGreatDoor
open Go.RowKit Go.Extern.Stop Go.Stop Go.Extern

/-! ### How deep -/
def brN (k : Int) (x : Rx) : Nat := if brk k x then 1 else 0
mutual
def bd : Rx → Nat
  | .mk k _ _ ks => max (if k = 2 ∧ ks.length = 0 then 1 else 0) (bds k ks)
def bds : Int → List Rx → Nat
  | _, [] => 0
  | k, x :: r => max (bd x + brN k x) (bds k r)
end
theorem bds_mem (k : Int) : ∀ {l : List Rx} {y : Rx}, y ∈ l → bd y + brN k y ≤ bds k l
  | [], _, h => by cases h
  | x :: r, y, h => by
    rw [bds]
    rcases List.mem_cons.1 h with rfl | h
    · exact Nat.le_max_left _ _
    · exact Nat.le_trans (bds_mem k h) (Nat.le_max_right _ _)
/-- An expression that stands in brackets within others. -/
def big : Rx → Prop
  | .mk k _ _ ks => k = 3 ∨ k = 2 ∧ 0 < ks.length
theorem brk_big {k : Int} {x : Rx} (h : brk k x = true) : big x := by
  cases x with
  | mk k' t ws ks =>
    rw [brk] at h
    rw [big]
    by_cases h2 : k' = 2
    · rw [if_pos h2] at h
      simp only [Bool.and_eq_true, decide_eq_true_eq] at h
      exact .inr ⟨h2, h.1⟩
    · rw [if_neg h2] at h
      exact .inl (by simpa using h)
theorem fault_mem {l : List Rx} (h : faultEs l = 0) {y : Rx} (hy : y ∈ l) : faultE y = 0 := by
  obtain ⟨i, hi⟩ := List.getElem?_of_mem hy
  exact faultEs_zero h hi
theorem bds_bd (k : Int) (t : Bool) (ws : List ByteArray) (ks : List Rx) : bds k ks ≤ bd (.mk k t ws ks) := by rw [bd]; exact Nat.le_max_right _ _
mutual
theorem bd_le : ∀ x : Rx, faultE x = 0 → 2 * bd x ≤ rxSize x + 1 ∧ (big x → 2 * bd x + 1 ≤ rxSize x)
  | .mk k t ws ks, h => by
    obtain ⟨h1, h2⟩ := faultE_zero h
    obtain ⟨-, -, hm, -, -⟩ := ownF_zero h1
    have h3 := bds_le k ks h2
    rw [bd, rxSize]
    by_cases hz : k = 2 ∧ ks.length = 0
    · rw [if_pos hz]
      have hks : ks = [] := List.eq_nil_of_length_eq_zero hz.2
      subst hks
      rw [bds, rxsSize]
      refine ⟨by omega, fun hb => ?_⟩
      rw [big] at hb
      rcases hb with h | ⟨-, h⟩
      · rw [hz.1] at h; cases h
      · simp at h
    · rw [if_neg hz]
      refine ⟨?_, fun hb => ?_⟩
      · cases ks with
        | nil => rw [bds, rxsSize]; omega
        | cons y r => rw [List.length_cons] at h3; omega
      · rw [big] at hb
        have hl : 2 ≤ ks.length := by
          rcases hb with rfl | ⟨rfl, h0⟩
          · simpa [mayH] using hm
          · have : ks.length ≠ 1 := by simpa [mayH] using hm
            omega
        omega
theorem bds_le : ∀ (k : Int) (l : List Rx), faultEs l = 0 → 2 * bds k l + l.length ≤ rxsSize l + 2
  | k, [], _ => by simp [bds, rxsSize]
  | k, x :: r, h => by
    have hx := fault_mem h (List.mem_cons_self)
    have hr : faultEs r = 0 := by
      rw [faultEs] at h
      split at h
      · rename_i h1; exact absurd hx h1
      · exact h
    have h1 := bd_le x hx
    have h2 := bds_le k r hr
    have h3 := len_sizes r
    have h5 := rxSize_pos x
    have h4 : 2 * (bd x + brN k x) ≤ rxSize x + 1 := by
      unfold brN
      split
      · have := h1.2 (brk_big (by assumption)); omega
      · omega
    rw [bds, rxsSize, List.length_cons]
    omega
end

/-! ### The first byte -/
theorem first_go : ∀ (m : Nat) (x : Rx), SizeOf.sizeOf x < m → faultE x = 0 → ∃ b r, textE x = b :: r ∧ fstB (b.toNat : Int) = true
  | 0, _, h, _ => absurd h (Nat.not_lt_zero _)
  | m + 1, .mk k t ws ks, hm, h => by
    simp only [Rx.mk.sizeOf_spec] at hm
    obtain ⟨h1, h2⟩ := faultE_zero h
    obtain ⟨-, -, hmay, hatom, -⟩ := ownF_zero h1
    rw [textE]
    by_cases k0 : k = 0
    · rw [if_pos k0]
      exact ⟨46, [], rfl, by decide⟩
    rw [if_neg k0]
    by_cases k1 : k = 1
    · rw [if_pos k1]
      obtain ⟨hne, hall, -⟩ := wordsF_all (hatom k1)
      unfold atomT
      split
      · exact ⟨91, _, rfl, by decide⟩
      · split
        · exact ⟨91, _, rfl, by decide⟩
        · cases ws with
          | nil => exact absurd rfl hne
          | cons w r =>
            obtain ⟨hpos, hfst⟩ := wd_first (hall w (by simp))
            have hcons : wordsT (w :: r) = w.data.toList ++ Lib.joinTail [44] (r.map (·.data.toList)) := by unfold wordsT; rw [List.map_cons, Lib.join_cons]
            rw [hcons]
            cases hl : w.data.toList with
            | nil => rw [Lib.size_eq, hl] at hpos; simp at hpos
            | cons b l =>
              refine ⟨b, _, rfl, ?_⟩
              have hb : byteI w 0 = (b.toNat : Int) := by
                have e : (⟨w.data.toList.toArray⟩ : ByteArray) = w := by simp
                rw [← e, byteI_list, hl]
                rfl
              rw [hb] at hfst
              unfold fstB
              rcases hfst with h | h <;> simp [h]
    rw [if_neg k1]
    by_cases k2 : k = 2 ∧ ks.length = 0
    · rw [if_pos k2]
      exact ⟨40, _, rfl, by decide⟩
    rw [if_neg k2]
    have hpos : ks ≠ [] := by
      intro e
      subst e
      by_cases e2 : k = 2
      · exact k2 ⟨e2, rfl⟩
      · simp [mayH, k0, k1, e2] at hmay
    cases ks with
    | nil => exact absurd rfl hpos
    | cons y r =>
      rw [kidsT, Lib.join_cons]
      unfold brT
      split
      · exact ⟨40, _, rfl, by decide⟩
      · obtain ⟨b, l, e, hb⟩ := first_go m y (by simp only [List.cons.sizeOf_spec] at hm; omega) (fault_mem h2 List.mem_cons_self)
        rw [e]
        exact ⟨b, _, rfl, hb⟩
theorem first_any {x : Rx} (h : faultE x = 0) : ∃ b r, textE x = b :: r ∧ fstB (b.toNat : Int) = true := first_go _ x (Nat.lt_succ_self _) h
theorem brT_first (b : Bool) {x : Rx} (h : faultE x = 0) : ∃ c r, brT b (textE x) = c :: r ∧ fstB (c.toNat : Int) = true := by
  unfold brT
  split
  · exact ⟨40, _, rfl, by decide⟩
  · exact first_any h
theorem At.fst {S : ByteArray} {k : Nat} {b : Bool} {x : Rx} {r : List UInt8} (h : At S k (brT b (textE x) ++ r)) (hx : faultE x = 0) : fstB (byteI S k) = true := by
  obtain ⟨c, l, e, hc⟩ := brT_first b hx
  rw [e] at h
  have : byteI S k = (c.toNat : Int) := h.head
  rw [this]
  exact hc

/-! ### What is read does not hang on blanks ahead -/
theorem skp_skp (S : ByteArray) (k : Nat) : skp S (skp S k) = skp S k := by
  by_cases h : skp S k < S.size
  · have h1 := runTo_halts isBl S _ k rfl h
    exact skp_stay h1
  · unfold skp at h ⊢
    exact runTo_end h
theorem bsR_skp (S : ByteArray) (sub : Option (Nat → Nat → RO Rx)) (k n : Nat) : bsR S sub (skp S k) n = bsR S sub k n := by
  unfold bsR
  rw [skp_skp]
theorem ptR_skp (S : ByteArray) (sub : Option (Nat → Nat → RO Rx)) (k n : Nat) : ptR S sub (skp S k) n = ptR S sub k n := by
  unfold ptR
  rw [bsR_skp]

/-! ### Read again -/
def PSp (y : Rx) : Prop := ∀ (kk : Int), kk ≠ 3 → ∀ S e k n, At S k (brT (brk kk y) (textE y)) → dlm (byteI S (k + (brT (brk kk y) (textE y)).length)) → n + rxSize y ≤ 100 → bd y + brN kk y ≤ e →
  ∃ k0 n0 x0 j, bsR S (subR S e) k n = .ok k0 n0 x0 ∧ j ≤ rxSize y ∧ ∀ f, sgR S (f + j) k0 n0 x0 = sgR S f (k + (brT (brk kk y) (textE y)).length) (n + rxSize y) y
def RSp (y : Rx) : Prop := ∀ S e k n, At S k (brT (brk 3 y) (textE y)) → (byteI S (k + (brT (brk 3 y) (textE y)).length) = 41 ∨ byteI S (k + (brT (brk 3 y) (textE y)).length) = 0 ∨ byteI S (k + (brT (brk 3 y) (textE y)).length) = 124) → n + rxSize y ≤ 100 → bd y + brN 3 y ≤ e →
  rwR S (subR S e) k n = .ok (k + (brT (brk 3 y) (textE y)).length) (n + rxSize y) y
def ASp (y : Rx) : Prop := ∀ S e k n, At S k (textE y) → (byteI S (k + (textE y).length) = 41 ∨ byteI S (k + (textE y).length) = 0) → n + rxSize y ≤ 100 → bd y ≤ e → alR S e k n = .ok (k + (textE y).length) (n + rxSize y) y
/-- A part, with its signs. -/
theorem PSp.pt {y : Rx} (h : PSp y) {kk : Int} (hk : kk ≠ 3) {S : ByteArray} {e k n : Nat} (ha : At S k (brT (brk kk y) (textE y))) (hd : dlm (byteI S (k + (brT (brk kk y) (textE y)).length)))
    (hs : sgn (byteI S (skp S (k + (brT (brk kk y) (textE y)).length))) = none) (hn : n + rxSize y ≤ 100) (he : bd y + brN kk y ≤ e) : ptR S (subR S e) k n = .ok (k + (brT (brk kk y) (textE y)).length) (n + rxSize y) y := by
  obtain ⟨k0, n0, x0, j, h1, h2, h3⟩ := h kk hk S e k n ha hd hn he
  unfold ptR
  rw [h1]
  simp only
  have h4 := h3 (100 - j + 1)
  rw [show 100 - j + 1 + j = 101 by omega] at h4
  rw [h4, sgR, hs]
/-- A row of one part. -/
theorem row_one {y : Rx} {S : ByteArray} {e k n k1 n1 : Nat} (h : ptR S (subR S e) k n = .ok k1 n1 y) (hc : byteI S k1 = 41 ∨ byteI S k1 = 0 ∨ byteI S k1 = 124) : rwR S (subR S e) k n = .ok k1 n1 y := by
  have hs : skp S k1 = k1 := skp_stay (end_notBl hc)
  unfold rwR jnR
  rw [h]
  simp only [rwM, hs, begB_fst, fst_not hc]
  rfl
/-- Alternatives of one row. -/
theorem alt_one {y : Rx} {S : ByteArray} {e k n k1 n1 : Nat} (h : rwR S (subR S e) k n = .ok k1 n1 y) (hc : byteI S k1 = 41 ∨ byteI S k1 = 0) : alR S e k n = .ok k1 n1 y := by
  have hs : skp S k1 = k1 := skp_stay (end_notBl (hc.elim .inl (fun h => .inr (.inl h))))
  have h124 : ¬ byteI S k1 = 124 := by rcases hc with h | h <;> rw [h] <;> decide
  rw [alR_eq]
  unfold jnR
  rw [h]
  simp only [alM, hs, if_neg h124]
end Go.Proofs.YtocfcnhaecmgpaaGreatDoor

namespace Go.Proofs.YtocfcnhaecmgpaaGreatDoor
open Go.RowKit Go.Extern.Stop Go.Stop Go.Extern

/-- The rest of a row: blanks and parts. -/
theorem row_rest {S : ByteArray} {e : Nat} : ∀ (r : List Rx) (f k n : Nat) (l : List Rx), r ≠ [] → (∀ y, y ∈ r → PSp y ∧ faultE y = 0 ∧ bd y + brN 2 y ≤ e) → At S k (Lib.joinTail [32] (kidsT 2 r)) →
    (byteI S (k + (Lib.joinTail [32] (kidsT 2 r)).length) = 41 ∨ byteI S (k + (Lib.joinTail [32] (kidsT 2 r)).length) = 0 ∨ byteI S (k + (Lib.joinTail [32] (kidsT 2 r)).length) = 124) → n + rxsSize r ≤ 100 → r.length ≤ f →
    jnL 2 (ptR S (subR S e)) (rwM S) f k n l = .ok (k + (Lib.joinTail [32] (kidsT 2 r)).length) (n + rxsSize r) (.mk 2 false [] (l ++ r))
  | [], _, _, _, _, h, _, _, _, _, _ => absurd rfl h
  | y :: r, 0, _, _, _, _, _, _, _, _, hf => by simp at hf
  | y :: r, f + 1, k, n, l, _, hall, hat, hend, hn, hf => by
    obtain ⟨hp, hy0, hye⟩ := hall y List.mem_cons_self
    have ht : Lib.joinTail [32] (kidsT 2 (y :: r)) = 32 :: (brT (brk 2 y) (textE y) ++ Lib.joinTail [32] (kidsT 2 r)) := by
      rw [kidsT]
      rfl
    rw [ht] at hat hend ⊢
    rw [rxsSize] at hn ⊢
    have h32 : byteI S k = 32 := hat.head
    have ha1 := hat.tail
    have hfb := ha1.fst hy0
    have hs0 : skp S k = k + 1 := by
      have hk : k < S.size := byteI_in h32 (by decide)
      have h1 : skp S k = skp S (k + 1) := by
        unfold skp
        rw [runTo_step _ S k hk, h32, if_pos (by decide)]
      rw [h1]
      exact skp_stay (fst_notBl hfb)
    have hm := ha1.right
    have hlen : (32 :: (brT (brk 2 y) (textE y) ++ Lib.joinTail [32] (kidsT 2 r)) : List UInt8).length = 1 + (brT (brk 2 y) (textE y)).length + (Lib.joinTail [32] (kidsT 2 r)).length := by simp; omega
    rw [hlen] at hend ⊢
    have hpt : dlm (byteI S (k + 1 + (brT (brk 2 y) (textE y)).length)) → sgn (byteI S (skp S (k + 1 + (brT (brk 2 y) (textE y)).length))) = none → ptR S (subR S e) k n = .ok (k + 1 + (brT (brk 2 y) (textE y)).length) (n + rxSize y) y := by
      intro hd hs
      rw [← ptR_skp, hs0]
      exact hp.pt (by decide) ha1.left hd hs (by omega) hye
    rw [jnL]
    cases r with
    | nil =>
      have hj0 : (Lib.joinTail [32] (kidsT 2 [])).length = 0 := by rw [kidsT]; rfl
      rw [hj0] at hend ⊢
      have hend2 : byteI S (k + 1 + (brT (brk 2 y) (textE y)).length) = 41 ∨ byteI S (k + 1 + (brT (brk 2 y) (textE y)).length) = 0 ∨ byteI S (k + 1 + (brT (brk 2 y) (textE y)).length) = 124 := by
        rw [show k + 1 + (brT (brk 2 y) (textE y)).length = k + (1 + (brT (brk 2 y) (textE y)).length + 0) by omega]
        exact hend
      have hs1 := skp_stay (end_notBl hend2)
      rw [hpt (dlm_of (by omega)) (by rw [hs1]; exact end_sgn hend2)]
      simp only [rwM, hs1, begB_fst, fst_not hend2]
      rw [rxsSize]
      simp only [Bool.false_eq_true, if_false]
      congr 1
      omega
    | cons z r' =>
      have hz := hall z (by simp)
      have ht2 : Lib.joinTail [32] (kidsT 2 (z :: r')) = 32 :: (brT (brk 2 z) (textE z) ++ Lib.joinTail [32] (kidsT 2 r')) := by
        rw [kidsT]
        rfl
      have hm2 := hm
      rw [ht2] at hm2
      have h32b := hm2.head
      have hfb2 := hm2.tail.fst hz.2.1
      have hk1 : k + 1 + (brT (brk 2 y) (textE y)).length < S.size := byteI_in h32b (by decide)
      have hs1 : skp S (k + 1 + (brT (brk 2 y) (textE y)).length) = k + 1 + (brT (brk 2 y) (textE y)).length + 1 := by
        have h1 : skp S (k + 1 + (brT (brk 2 y) (textE y)).length) = skp S (k + 1 + (brT (brk 2 y) (textE y)).length + 1) := by
          unfold skp
          rw [runTo_step _ S _ hk1, h32b, if_pos (by decide)]
        rw [h1]
        exact skp_stay (fst_notBl hfb2)
      rw [hpt (by rw [h32b]; exact dlm_of (by decide)) (by rw [hs1]; exact fst_sgn hfb2)]
      simp only [rwM, hs1, begB_fst, hfb2]
      have hih := row_rest (z :: r') f (k + 1 + (brT (brk 2 y) (textE y)).length) (n + rxSize y) (l ++ [y]) (by simp) (fun x hx => hall x (List.mem_cons_of_mem _ hx)) hm (by
        rw [show k + 1 + (brT (brk 2 y) (textE y)).length + (Lib.joinTail [32] (kidsT 2 (z :: r'))).length = k + (1 + (brT (brk 2 y) (textE y)).length + (Lib.joinTail [32] (kidsT 2 (z :: r'))).length) by omega]
        exact hend) (by omega) (by simp at hf ⊢; omega)
      simp only [if_true]
      rw [hih]
      congr 1
      · omega
      · omega
      · simp
/-- Alternatives from one on. -/
theorem alt_rest {S : ByteArray} {e : Nat} : ∀ (r : List Rx) (f k n : Nat) (l : List Rx), r ≠ [] → (∀ y, y ∈ r → RSp y ∧ faultE y = 0 ∧ bd y + brN 3 y ≤ e) → At S k (Lib.join (kidsT 3 r) [124]) →
    (byteI S (k + (Lib.join (kidsT 3 r) [124]).length) = 41 ∨ byteI S (k + (Lib.join (kidsT 3 r) [124]).length) = 0) → n + rxsSize r ≤ 100 → r.length ≤ f →
    jnL 3 (rwR S (subR S e)) (alM S) f k n l = .ok (k + (Lib.join (kidsT 3 r) [124]).length) (n + rxsSize r) (.mk 3 false [] (l ++ r))
  | [], _, _, _, _, h, _, _, _, _, _ => absurd rfl h
  | y :: r, 0, _, _, _, _, _, _, _, _, hf => by simp at hf
  | y :: r, f + 1, k, n, l, _, hall, hat, hend, hn, hf => by
    obtain ⟨hp, hy0, hye⟩ := hall y List.mem_cons_self
    have ht : Lib.join (kidsT 3 (y :: r)) [124] = brT (brk 3 y) (textE y) ++ Lib.joinTail [124] (kidsT 3 r) := by
      rw [kidsT, Lib.join_cons]
    rw [ht] at hat hend ⊢
    rw [rxsSize] at hn ⊢
    have hm := hat.right
    rw [List.length_append] at hend ⊢
    rw [jnL]
    cases r with
    | nil =>
      have hj0 : (Lib.joinTail [124] (kidsT 3 [])).length = 0 := by rw [kidsT]; rfl
      rw [hj0] at hend ⊢
      rw [Nat.add_zero] at hend ⊢
      have hs1 := skp_stay (end_notBl (hend.elim .inl (fun h => .inr (.inl h))))
      rw [hp S e k n hat.left (hend.elim .inl (fun h => .inr (.inl h))) (by omega) hye]
      have h124 : ¬ byteI S (k + (brT (brk 3 y) (textE y)).length) = 124 := by rcases hend with h | h <;> rw [h] <;> decide
      simp only [alM, hs1, if_neg h124]
      rw [rxsSize, Nat.add_zero]
    | cons z r' =>
      have hz := hall z (by simp)
      have ht2 : Lib.joinTail [124] (kidsT 3 (z :: r')) = 124 :: Lib.join (kidsT 3 (z :: r')) [124] := by
        rw [kidsT, Lib.join_cons]
        rfl
      rw [ht2] at hm hend ⊢
      have h124 : byteI S (k + (brT (brk 3 y) (textE y)).length) = 124 := hm.head
      have hs1 : skp S (k + (brT (brk 3 y) (textE y)).length) = k + (brT (brk 3 y) (textE y)).length := skp_stay (by rw [h124]; decide)
      rw [hp S e k n hat.left (.inr (.inr h124)) (by omega) hye]
      simp only [alM, hs1, if_pos h124]
      have hih := alt_rest (z :: r') f (k + (brT (brk 3 y) (textE y)).length + 1) (n + rxSize y) (l ++ [y]) (by simp) (fun x hx => hall x (List.mem_cons_of_mem _ hx)) hm.tail (by
        rw [show k + (brT (brk 3 y) (textE y)).length + 1 + (Lib.join (kidsT 3 (z :: r')) [124]).length = k + ((brT (brk 3 y) (textE y)).length + (124 :: Lib.join (kidsT 3 (z :: r')) [124]).length) by simp; omega]
        exact hend) (by omega) (by simp at hf ⊢; omega)
      rw [hih]
      congr 1
      · simp; omega
      · omega
      · simp
/-- In brackets. -/
theorem br_reads {y : Rx} (hy : faultE y = 0) (h : ASp y) {S : ByteArray} {e k n : Nat} (ha : At S k (40 :: (textE y ++ [41]))) (hn : n + rxSize y ≤ 100) (he : bd y + 1 ≤ e) :
    bsR S (subR S e) k n = .ok (k + (40 :: (textE y ++ [41]) : List UInt8).length) (n + rxSize y) y := by
  obtain ⟨e', rfl⟩ : ∃ e', e = e' + 1 := ⟨e - 1, by omega⟩
  have h40 : byteI S k = 40 := ha.head
  have hs0 : skp S k = k := skp_stay (by rw [h40]; decide)
  have ht := ha.tail
  have hcl : byteI S (k + 1 + (textE y).length) = 41 := ht.right.head
  obtain ⟨b, r, hbr, hb⟩ := first_any hy
  have hfb : fstB (byteI S (k + 1)) = true := by
    have h1 := ht.left
    rw [hbr] at h1
    rw [h1.head]
    exact hb
  have hs1 : skp S (k + 1) = k + 1 := skp_stay (fst_notBl hfb)
  have h41 : ¬ byteI S (k + 1) = 41 := by
    intro e
    rw [e] at hfb
    revert hfb
    decide
  have hal := h S e' (k + 1) n ht.left (.inl hcl) hn (by omega)
  have hs2 : skp S (k + 1 + (textE y).length) = k + 1 + (textE y).length := skp_stay (by rw [hcl]; decide)
  unfold bsR
  rw [hs0, h40, if_pos rfl]
  simp only [subR]
  rw [hs1, if_neg h41, hal]
  simp only
  rw [hs2, hcl, if_pos rfl]
  congr 1
  simp
  omega
end Go.Proofs.YtocfcnhaecmgpaaGreatDoor

namespace Go.Proofs.YtocfcnhaecmgpaaGreatDoor
open Go.RowKit Go.Extern.Stop Go.Stop Go.Extern

theorem brTx_f (s : List UInt8) : brT false s = s := rfl
theorem brk_small {y : Rx} (h : ¬ big y) (kk : Int) : brk kk y = false := by
  cases hb : brk kk y with
  | false => rfl
  | true => exact absurd (brk_big hb) h
theorem len_zero {α : Type} {l : List α} (h : l.length = 0) : l = [] := List.eq_nil_of_length_eq_zero h
/-- One that stands in no brackets: a row, alternatives. -/
theorem small_all {y : Rx} (hb : ¬ big y) (h : PSp y) : PSp y ∧ RSp y ∧ ASp y := by
  have h3 := brk_small hb 3
  have h2 := brk_small hb 2
  have hr : RSp y := by
    intro S e k n ha hc hn he
    unfold brN at he
    rw [h3] at ha hc he ⊢
    have hp := h.pt (kk := 2) (by decide) (S := S) (e := e) (k := k) (n := n) (by rw [h2]; exact ha) (by rw [h2]; exact dlm_of (by omega)) (by rw [h2, skp_stay (end_notBl hc)]; exact end_sgn hc) hn (by unfold brN; rw [h2]; exact he)
    rw [h2] at hp
    exact row_one hp hc
  refine ⟨h, hr, ?_⟩
  intro S e k n ha hc hn he
  have := hr S e k n (by rw [h3]; exact ha) (by rw [h3]; exact hc.elim .inl (fun h => .inr (.inl h))) hn (by unfold brN; rw [h3]; simpa using he)
  rw [h3] at this
  exact alt_one this hc
/-- One that stands in brackets: a part. -/
theorem big_part {y : Rx} (hy : faultE y = 0) (h : ASp y) : ∀ (kk : Int), brk kk y = true → ∀ S e k n, At S k (brT (brk kk y) (textE y)) → n + rxSize y ≤ 100 → bd y + brN kk y ≤ e → bsR S (subR S e) k n = .ok (k + (brT (brk kk y) (textE y)).length) (n + rxSize y) y := by
  intro kk hk S e k n ha hn he
  unfold brN at he
  rw [hk] at ha he ⊢
  rw [if_pos rfl] at he
  exact br_reads hy h ha hn he

theorem reads_go : ∀ (m : Nat) (y : Rx), SizeOf.sizeOf y < m → faultE y = 0 → PSp y ∧ RSp y ∧ ASp y
  | 0, _, h, _ => absurd h (Nat.not_lt_zero _)
  | m + 1, .mk k t ws ks, hm, h => by
    have hy := h
    simp only [Rx.mk.sizeOf_spec] at hm
    obtain ⟨h1, h2⟩ := faultE_zero h
    obtain ⟨hk0, hk6, hmay, hatom, hplain⟩ := ownF_zero h1
    have hkid : ∀ c, c ∈ ks → (PSp c ∧ RSp c ∧ ASp c) ∧ faultE c = 0 := fun c hc =>
      ⟨reads_go m c (by have := List.sizeOf_lt_of_mem hc; omega) (fault_mem h2 hc), fault_mem h2 hc⟩
    by_cases e1 : k = 1
    · subst e1
      have hks : ks = [] := len_zero (by simpa [mayH] using hmay)
      subst hks
      have hb : ¬ big (.mk 1 t ws []) := by rw [big]; simp
      refine small_all hb ?_
      intro kk hk S e p n ha hd hn he
      rw [brk_small hb kk] at ha hd ⊢
      have ht : textE (.mk 1 t ws []) = atomT t ws := by rw [textE, if_neg (by decide), if_pos rfl]
      have hsz : rxSize (.mk 1 t ws []) = 1 := by rw [rxSize, rxsSize]
      rw [brTx_f, ht] at ha hd ⊢
      rw [hsz] at hn ⊢
      exact ⟨_, _, _, 0, atom_reads (hatom rfl) ha hd hn, Nat.zero_le _, fun f => rfl⟩
    obtain ⟨rfl, hw0⟩ := hplain e1
    have hws : ws = [] := len_zero hw0
    subst hws
    by_cases e0 : k = 0
    · subst e0
      have hks : ks = [] := len_zero (by simpa [mayH] using hmay)
      subst hks
      have hb : ¬ big (.mk 0 false [] []) := by rw [big]; simp
      refine small_all hb ?_
      intro kk hk S e p n ha hd hn he
      rw [brk_small hb kk] at ha hd ⊢
      have ht : textE (.mk 0 false [] []) = [46] := by rw [textE, if_pos rfl]
      have hsz : rxSize (.mk 0 false [] []) = 1 := by rw [rxSize, rxsSize]
      rw [brTx_f, ht] at ha hd ⊢
      rw [hsz] at hn ⊢
      have h46 : byteI S p = 46 := ha.head
      have hs0 : skp S p = p := skp_stay (by rw [h46]; decide)
      refine ⟨p + 1, n + 1, .mk 0 false [] [], 0, ?_, Nat.zero_le _, fun f => rfl⟩
      unfold bsR
      rw [hs0, h46, if_neg (by decide), if_pos rfl]
      unfold cnt
      rw [if_neg (by omega)]
    by_cases e2 : k = 2
    · subst e2
      by_cases hl : ks.length = 0
      · have hks : ks = [] := len_zero hl
        subst hks
        have hb : ¬ big (.mk 2 false [] []) := by rw [big]; simp
        refine small_all hb ?_
        intro kk hk S e p n ha hd hn he
        rw [brk_small hb kk] at ha hd ⊢
        have ht : textE (.mk 2 false [] []) = [40, 41] := by rw [textE, if_neg (by decide), if_neg (by decide), if_pos ⟨rfl, rfl⟩]
        have hsz : rxSize (.mk 2 false [] []) = 1 := by rw [rxSize, rxsSize]
        rw [brTx_f, ht] at ha hd ⊢
        rw [hsz] at hn ⊢
        have h40 : byteI S p = 40 := ha.head
        have h41 : byteI S (p + 1) = 41 := ha.tail.head
        have hs0 : skp S p = p := skp_stay (by rw [h40]; decide)
        have hs1 : skp S (p + 1) = p + 1 := skp_stay (by rw [h41]; decide)
        have he1 : 1 ≤ e := by
          have : bd (.mk 2 false [] []) = 1 := by rw [bd, bds]; rfl
          omega
        obtain ⟨e', rfl⟩ : ∃ e', e = e' + 1 := ⟨e - 1, by omega⟩
        refine ⟨p + 1 + 1, n + 1, .mk 2 false [] [], 0, ?_, Nat.zero_le _, fun f => rfl⟩
        unfold bsR
        rw [hs0, h40, if_pos rfl]
        simp only [subR]
        rw [hs1, if_pos h41]
        unfold cnt
        rw [if_neg (by omega)]
      · have hlen : 2 ≤ ks.length := by
          have : ks.length ≠ 1 := by simpa [mayH] using hmay
          omega
        have ht : textE (.mk 2 false [] ks) = Lib.join (kidsT 2 ks) [32] := by
          rw [textE, if_neg (by decide), if_neg (by decide), if_neg (fun h => hl h.2)]
          exact List.append_nil _
        obtain ⟨y0, r, rfl⟩ : ∃ y0 r, ks = y0 :: r := by
          cases ks with
          | nil => exact absurd rfl hl
          | cons y0 r => exact ⟨y0, r, rfl⟩
        have hr : r ≠ [] := by
          intro e
          subst e
          simp at hlen
        have htj : Lib.join (kidsT 2 (y0 :: r)) [32] = brT (brk 2 y0) (textE y0) ++ Lib.joinTail [32] (kidsT 2 r) := by rw [kidsT, Lib.join_cons]
        have hb3 : brk 3 (.mk 2 false [] (y0 :: r)) = false := by rw [brk]; simp
        have hbd := bds_bd 2 false [] (y0 :: r)
        have hrow : RSp (.mk 2 false [] (y0 :: r)) := by
          intro S e p n ha hc hn he
          unfold brN at he
          rw [hb3] at ha hc he ⊢
          rw [brTx_f, ht, htj] at ha hc ⊢
          rw [rxSize, rxsSize] at hn ⊢
          have h0 := hkid y0 List.mem_cons_self
          have hin := fun y (hy : y ∈ y0 :: r) => Nat.le_trans (bds_mem 2 hy) hbd
          have ha2 := ha.right
          obtain ⟨z, r', hz⟩ : ∃ z r', r = z :: r' := by
            cases r with
            | nil => exact absurd rfl hr
            | cons z r' => exact ⟨z, r', rfl⟩
          have h32 : byteI S (p + (brT (brk 2 y0) (textE y0)).length) = 32 := by
            have := ha2
            rw [hz, kidsT] at this
            exact this.head
          have hfb : fstB (byteI S (p + (brT (brk 2 y0) (textE y0)).length + 1)) = true := by
            have h3 : At S (p + (brT (brk 2 y0) (textE y0)).length) (32 :: (brT (brk 2 z) (textE z) ++ Lib.joinTail [32] (kidsT 2 r'))) := by
              have := ha2
              rw [hz, kidsT] at this
              exact this
            exact h3.tail.fst (hkid z (by rw [hz]; simp)).2
          have hk1 : p + (brT (brk 2 y0) (textE y0)).length < S.size := byteI_in h32 (by decide)
          have hs1 : skp S (p + (brT (brk 2 y0) (textE y0)).length) = p + (brT (brk 2 y0) (textE y0)).length + 1 := by
            have h1 : skp S (p + (brT (brk 2 y0) (textE y0)).length) = skp S (p + (brT (brk 2 y0) (textE y0)).length + 1) := by
              unfold skp
              rw [runTo_step _ S _ hk1, h32, if_pos (by decide)]
            rw [h1]
            exact skp_stay (fst_notBl hfb)
          have hpt := h0.1.1.pt (kk := 2) (by decide) (S := S) (e := e) (k := p) (n := n) ha.left (by rw [h32]; exact dlm_of (by decide)) (by rw [hs1]; exact fst_sgn hfb) (by omega) (by have := hin y0 List.mem_cons_self; simp at he; omega)
          rw [List.length_append] at hc ⊢
          have hrest := row_rest (S := S) (e := e) r 101 (p + (brT (brk 2 y0) (textE y0)).length) (n + rxSize y0 + 1) [y0] hr (fun y hy => ⟨(hkid y (List.mem_cons_of_mem _ hy)).1.1, (hkid y (List.mem_cons_of_mem _ hy)).2, by have := hin y (List.mem_cons_of_mem _ hy); simp at he; omega⟩) ha2 (by rw [Nat.add_assoc]; exact hc) (by omega) (by have := len_sizes r; omega)
          unfold rwR jnR
          rw [hpt]
          simp only [rwM, hs1, begB_fst, hfb, if_true]
          rw [if_neg (by omega), hrest]
          congr 1
          · omega
          · omega
        have halt : ASp (.mk 2 false [] (y0 :: r)) := by
          intro S e p n ha hc hn he
          have := hrow S e p n (by rw [hb3]; exact ha) (by rw [hb3]; exact hc.elim .inl (fun h => .inr (.inl h))) hn (by unfold brN; rw [hb3]; simpa using he)
          rw [hb3] at this
          exact alt_one this hc
        refine ⟨?_, hrow, halt⟩
        intro kk hk S e p n ha hd hn he
        have hbk : brk kk (.mk 2 false [] (y0 :: r)) = true := by rw [brk]; simp [hk]
        exact ⟨_, _, _, 0, big_part hy halt kk hbk S e p n ha hn he, Nat.zero_le _, fun f => rfl⟩
    by_cases e3 : k = 3
    · subst e3
      have hlen : 2 ≤ ks.length := by simpa [mayH] using hmay
      have ht : textE (.mk 3 false [] ks) = Lib.join (kidsT 3 ks) [124] := by
        rw [textE, if_neg (by decide), if_neg (by decide), if_neg (fun h => absurd h.1 (by decide))]
        exact List.append_nil _
      obtain ⟨y0, r, rfl⟩ : ∃ y0 r, ks = y0 :: r := by
        cases ks with
        | nil => simp at hlen
        | cons y0 r => exact ⟨y0, r, rfl⟩
      have hr : r ≠ [] := by
        intro e
        subst e
        simp at hlen
      have hb : ∀ kk, brk kk (.mk 3 false [] (y0 :: r)) = true := fun kk => by rw [brk]; simp
      have hbd := bds_bd 3 false [] (y0 :: r)
      obtain ⟨z, r', hz⟩ : ∃ z r', r = z :: r' := by
        cases r with
        | nil => exact absurd rfl hr
        | cons z r' => exact ⟨z, r', rfl⟩
      have htj : Lib.join (kidsT 3 (y0 :: r)) [124] = brT (brk 3 y0) (textE y0) ++ (124 :: Lib.join (kidsT 3 r) [124]) := by
        rw [hz, kidsT, kidsT, Lib.join_cons, Lib.join_cons]
        rfl
      have halt : ASp (.mk 3 false [] (y0 :: r)) := by
        intro S e p n ha hc hn he
        rw [ht, htj] at ha hc ⊢
        rw [rxSize, rxsSize] at hn ⊢
        have h0 := hkid y0 List.mem_cons_self
        have hin := fun y (hy : y ∈ y0 :: r) => Nat.le_trans (bds_mem 3 hy) hbd
        have ha2 := ha.right
        have h124 : byteI S (p + (brT (brk 3 y0) (textE y0)).length) = 124 := ha2.head
        have hs1 : skp S (p + (brT (brk 3 y0) (textE y0)).length) = p + (brT (brk 3 y0) (textE y0)).length := skp_stay (by rw [h124]; decide)
        have hrw := h0.1.2.1 S e p n ha.left (.inr (.inr h124)) (by omega) (by have := hin y0 List.mem_cons_self; omega)
        rw [List.length_append] at hc ⊢
        have hrest := alt_rest (S := S) (e := e) r 101 (p + (brT (brk 3 y0) (textE y0)).length + 1) (n + rxSize y0 + 1) [y0] hr (fun y hy => ⟨(hkid y (List.mem_cons_of_mem _ hy)).1.2.1, (hkid y (List.mem_cons_of_mem _ hy)).2, by have := hin y (List.mem_cons_of_mem _ hy); omega⟩) ha2.tail (by
          rw [show p + (brT (brk 3 y0) (textE y0)).length + 1 + (Lib.join (kidsT 3 r) [124]).length = p + ((brT (brk 3 y0) (textE y0)).length + (124 :: Lib.join (kidsT 3 r) [124]).length) by simp; omega]
          exact hc) (by omega) (by have := len_sizes r; omega)
        rw [alR_eq]
        unfold jnR
        rw [hrw]
        simp only [alM, hs1, if_pos h124]
        rw [if_neg (by omega), hrest]
        congr 1
        · simp; omega
        · omega
      have hpart : PSp (.mk 3 false [] (y0 :: r)) := by
        intro kk hk S e p n ha hd hn he
        exact ⟨_, _, _, 0, big_part hy halt kk (hb kk) S e p n ha hn he, Nat.zero_le _, fun f => rfl⟩
      refine ⟨hpart, ?_, halt⟩
      intro S e p n ha hc hn he
      have hs := skp_stay (end_notBl hc)
      have e23 : brT (brk 3 (.mk 3 false [] (y0 :: r))) (textE (.mk 3 false [] (y0 :: r))) = brT (brk 2 (.mk 3 false [] (y0 :: r))) (textE (.mk 3 false [] (y0 :: r))) := by rw [hb 3, hb 2]
      have hen : brN 2 (.mk 3 false [] (y0 :: r)) = brN 3 (.mk 3 false [] (y0 :: r)) := by unfold brN; rw [hb 3, hb 2]
      rw [e23] at ha hc hs ⊢
      have hp := hpart.pt (kk := 2) (by decide) (S := S) (e := e) (k := p) (n := n) ha (dlm_of (by omega)) (by rw [hs]; exact end_sgn hc) hn (by rw [hen]; exact he)
      exact row_one hp hc
    -- a sign behind a part
    have h1k : ks.length = 1 := by
      have hk4 : 4 ≤ k := by omega
      unfold mayH at hmay
      rw [if_neg (by omega), if_neg (by omega), if_neg (by omega)] at hmay
      simpa using hmay
    obtain ⟨c, rfl⟩ : ∃ c, ks = [c] := by
      match ks, h1k with
      | [c], _ => exact ⟨c, rfl⟩
    obtain ⟨b, i, hk4, hsg, hbs⟩ : ∃ (b : UInt8) (i : Nat), k = ((4 + i : Nat) : Int) ∧ signT k = [b] ∧ (sgn (b.toNat : Int) = some i ∧ isBl (b.toNat : Int) = false ∧ dlm (b.toNat : Int)) := by
      obtain rfl | rfl | rfl : k = 4 ∨ k = 5 ∨ k = 6 := by omega
      · exact ⟨42, 0, by decide, rfl, by decide, by decide, dlm_of (by decide)⟩
      · exact ⟨43, 1, by decide, rfl, by decide, by decide, dlm_of (by decide)⟩
      · exact ⟨63, 2, by decide, rfl, by decide, by decide, dlm_of (by decide)⟩
    have hb : ¬ big (.mk k false [] [c]) := by rw [big]; simp [e2, e3]
    refine small_all hb ?_
    intro kk hk S e p n ha hd hn he
    rw [brk_small hb kk] at ha hd ⊢
    have ht : textE (.mk k false [] [c]) = brT (brk k c) (textE c) ++ [b] := by
      have hsep : sepT k = [] := by unfold sepT; rw [if_neg e2, if_neg e3]
      rw [textE, if_neg e0, if_neg e1, if_neg (fun h => e2 h.1), hsep, hsg, kidsT, kidsT, Lib.join_one]
    rw [brTx_f, ht] at ha hd ⊢
    rw [rxSize, rxsSize, rxsSize] at hn
    have hc := hkid c (by simp)
    have hbyte : byteI S (p + (brT (brk k c) (textE c)).length) = (b.toNat : Int) := ha.right.head
    have hbd := Nat.le_trans (bds_mem k (List.mem_singleton.2 rfl : c ∈ [c])) (bds_bd k false [] [c])
    have hps := hc.1.1 k e3 S e p n ha.left (by rw [hbyte]; exact hbs.2.2) (by omega) (by omega)
    obtain ⟨k0, n0, x0, j, q1, q2, q3⟩ := hps
    refine ⟨k0, n0, x0, j + 1, q1, by rw [rxSize, rxsSize, rxsSize]; omega, fun f => ?_⟩
    have q4 := q3 (f + 1)
    rw [show f + (j + 1) = f + 1 + j by omega, q4, sgR, skp_stay (by rw [hbyte]; exact hbs.2.1), hbyte, hbs.1]
    simp only
    rw [if_neg (by omega), rxSize, rxsSize, rxsSize, List.length_append, hk4]
    congr 1
    omega

/-! ### The whole text -/
theorem At.self (l : List UInt8) : At ⟨l.toArray⟩ 0 l := by
  refine ⟨by simp [ByteArray.size], fun i b hi => ?_⟩
  rw [Nat.zero_add, byteI_list, hi]
  rfl
/-- What is printed is read as it was. -/
theorem xpR_text {x : Rx} (h : checkE x = 0) : ∃ k n, xpR ⟨(textE x).toArray⟩ = .ok k n x := by
  unfold checkE at h
  split at h
  · cases h
  · rename_i h100
    have hz : (⟨(textE x).toArray⟩ : ByteArray).size = (textE x).length := by simp [ByteArray.size]
    have hend : byteI ⟨(textE x).toArray⟩ (0 + (textE x).length) = 0 := byteI_ge (by rw [hz]; omega)
    have hb := (bd_le x h).1
    have ha := (reads_go _ x (Nat.lt_succ_self _) h).2.2 ⟨(textE x).toArray⟩ 64 0 0 (At.self _) (.inr hend) (by omega) (by omega)
    refine ⟨0 + (textE x).length, 0 + rxSize x, ?_⟩
    unfold xpR
    rw [ha]
    simp only
    rw [skp_stay (by rw [hend]; decide), if_pos (by rw [hz]; omega)]
end Go.Proofs.YtocfcnhaecmgpaaGreatDoor

namespace Go.Proofs.YtocfcnhaecmgpaaGreatDoor
open Go.RowKit Go.Extern.Stop Go.Stop Go.Extern

/-! ### Words that were read -/
theorem runTo_ext (p : Int → Bool) (S : ByteArray) (k K : Nat) (hK : K ≤ S.size) : ∀ (n i : Nat), K - (k + i) = n → k + i ≤ K → runTo p S (k + i) ≤ K → k + runTo p (S.extract k K) i = runTo p S (k + i) := by
  intro n
  induction n with
  | zero =>
    intro i h1 h2 h3
    have h4 := le_runTo p S (k + i) (by omega)
    rw [runTo_end (by rw [size_ext S k K hK]; omega)]
    omega
  | succ n ih =>
    intro i h1 h2 h3
    rw [runTo_step p _ i (by rw [size_ext S k K hK]; omega), byteI_ext hK i (by omega)]
    rw [runTo_step p S (k + i) (by omega)] at h3 ⊢
    split
    · rename_i hp
      rw [if_pos hp] at h3
      exact ih (i + 1) (by omega) (by omega) h3
    · rfl
/-- A name within a part of a text. -/
theorem name_ext {S : ByteArray} {k K a : Nat} (hK : K ≤ S.size) (hka : k ≤ a) (hc : nameC S a = 0) (hle : nameK S a ≤ K) : a < nameK S a ∧ nameC (S.extract k K) (a - k) = 0 ∧ nameK (S.extract k K) (a - k) = nameK S a - k := by
  have hl : isLet (byteI S a) = true := by
    cases h : isLet (byteI S a) with
    | true => rfl
    | false =>
      unfold nameC at hc
      rw [h] at hc
      have := missC_ne S a
      simp [this] at hc
  have h32 : runTo isIn S a - a ≤ 32 := by
    unfold nameC at hc
    rw [if_pos hl] at hc
    split at hc
    · assumption
    · cases hc
  have hnk : nameK S a = runTo isIn S a := by unfold nameK; rw [if_pos ⟨hl, h32⟩]
  have ha : a < S.size := by
    by_cases h : a < S.size
    · exact h
    · rw [byteI_ge h] at hl
      cases hl
  have hin : isIn (byteI S a) = true := (isIn_iff _).2 (.inl hl)
  have hgt : a < runTo isIn S a := by
    rw [runTo_step _ S a ha, if_pos hin]
    have := le_runTo isIn S (a + 1) (by omega)
    omega
  rw [hnk] at hle ⊢
  have hr := runTo_ext isIn S k K hK _ (a - k) rfl (by omega) (by rw [show k + (a - k) = a by omega]; exact hle)
  rw [show k + (a - k) = a by omega] at hr
  have hb : byteI (S.extract k K) (a - k) = byteI S a := by
    have := byteI_ext hK (a - k) (show k + (a - k) < K by omega)
    rwa [show k + (a - k) = a by omega] at this
  refine ⟨hgt, ?_, ?_⟩
  · unfold nameC
    rw [hb, if_pos hl, if_pos (by omega)]
  · unfold nameK
    rw [hb, if_pos ⟨hl, by omega⟩]
    omega
theorem word_read {S : ByteArray} {k : Nat} (hk : k ≤ S.size) (hc : wdC S k = 0) : isWd (S.extract k (wdK S k)) = true := by
  have hle := wdK_le hk
  have hsz := size_ext S k (wdK S k) hle.2
  have h1 : nameC S (wd1 S k) = 0 := by
    unfold wdC at hc
    by_cases h : nameC S (wd1 S k) = 0
    · exact h
    · rw [if_pos h] at hc; exact absurd hc h
  have hw1l := wd1_le hk
  have hkw : k ≤ wd1 S k := by unfold wd1; split <;> omega
  unfold isWd
  simp only [Bool.and_eq_true, decide_eq_true_eq]
  by_cases h2 : wd2 S k = true
  · -- two names
    have hsub := wd2_in h2
    have hc2 : nameC S (nameK S (wd1 S k) + 1) = 0 := by
      unfold wdC at hc
      rw [h1, if_neg (by decide), if_pos h2] at hc
      exact hc
    have hK : wdK S k = nameK S (nameK S (wd1 S k) + 1) := by unfold wdK; rw [if_pos h2]
    have h36 : byteI S k ≠ 36 ∧ byteI S (nameK S (wd1 S k)) = 35 := by
      unfold wd2 at h2
      simpa using h2
    have hw1 : wd1 S k = k := by unfold wd1; rw [if_neg h36.1]
    rw [hw1] at h1 hc2 hK h36 hsub
    have hn2 := name_ext (k := k) (K := wdK S k) hle.2 (show k ≤ nameK S k + 1 by have := nameK_ge S k hk; omega) hc2 (by rw [hK]; exact Nat.le_refl _)
    have hn1 := name_ext (k := k) (K := wdK S k) hle.2 (Nat.le_refl k) h1 (by rw [hK]; omega)
    rw [Nat.sub_self] at hn1
    have hb0 : byteI (S.extract k (wdK S k)) 0 = byteI S k := byteI_ext hle.2 0 (by rw [hK]; omega)
    have hb35 : byteI (S.extract k (wdK S k)) (nameK S k - k) = 35 := by
      rw [byteI_ext hle.2 _ (by rw [hK]; omega), show k + (nameK S k - k) = nameK S k by omega]
      exact h36.2
    have hw1' : wd1 (S.extract k (wdK S k)) 0 = 0 := by unfold wd1; rw [hb0, if_neg h36.1]
    have hw2' : wd2 (S.extract k (wdK S k)) 0 = true := by
      unfold wd2
      rw [hw1', hn1.2.2, hb0, hb35]
      simp [h36.1]
    have e1 : nameK S k + 1 - k = nameK S k - k + 1 := by omega
    rw [e1] at hn2
    have hsz2 : (S.extract k (wdK S k)).size = nameK S (nameK S k + 1) - k := by rw [hsz, hK]
    clear hsz
    generalize S.extract k (wdK S k) = w at *
    unfold wdC
    rw [hw2', hw1', hn1.2.1, hn1.2.2, if_neg (by decide), if_pos rfl, hn2.2.1]
    refine ⟨rfl, ?_⟩
    unfold wdK
    rw [hw2', hw1', if_pos rfl, hn1.2.2, hn2.2.2, hsz2]
  · have h2f : wd2 S k = false := by simpa using h2
    have hK : wdK S k = nameK S (wd1 S k) := by unfold wdK; rw [if_neg h2]
    have hn1 := name_ext (k := k) (K := wdK S k) hle.2 hkw h1 (by rw [hK]; exact Nat.le_refl _)
    have hb0 : byteI (S.extract k (wdK S k)) 0 = byteI S k := byteI_ext hle.2 0 (by rw [hK]; omega)
    have hw1' : wd1 (S.extract k (wdK S k)) 0 = wd1 S k - k := by
      unfold wd1
      rw [hb0]
      split <;> omega
    have hend : byteI (S.extract k (wdK S k)) (nameK S (wd1 S k) - k) = 0 := byteI_ge (by rw [hsz, hK]; omega)
    have hw2' : wd2 (S.extract k (wdK S k)) 0 = false := by
      unfold wd2
      rw [hw1', hn1.2.2, hend]
      simp
    have hfin : nameK (S.extract k (wdK S k)) (wd1 S k - k) = (S.extract k (wdK S k)).size := by rw [hn1.2.2, hsz, hK]
    generalize S.extract k (wdK S k) = w at *
    refine ⟨?_, ?_⟩
    · unfold wdC
      rw [hw2', hw1', hn1.2.1]
      simp
    · unfold wdK
      rw [hw2', hw1', if_neg (by decide), hfin]

/-! ### Sets of words that were read -/
theorem pair_rises : ∀ {ws : List ByteArray}, (ws.map (fun b => b.data.toList)).Pairwise (fun a b => a < b) → risesW ws = true
  | [], _ => rfl
  | [_], _ => rfl
  | x :: y :: r, h => by
    rw [List.map_cons] at h
    obtain ⟨h1, h2⟩ := List.pairwise_cons.1 h
    have hlt := h1 y.data.toList (by simp)
    rw [risesW, pair_rises h2, Bool.and_true]
    unfold leB
    rw [Go.Proofs.bytesLess_eq, Go.ByteArray.toList_eq, Go.ByteArray.toList_eq]
    rw [decide_eq_false (List.lt_asymm hlt), Bool.false_or]
    have hne : (y.data.toList == x.data.toList) = false := by
      rw [beq_eq_false_iff_ne]
      intro e
      rw [e] at hlt
      exact List.lt_irrefl _ hlt
    rw [hne]
    rfl
theorem srt_rises {ws : List ByteArray} (h : (ws.map (fun b => b.data.toList)).Nodup) : risesW (srt ws) = true := by
  apply pair_rises
  have h1 := (srtL_go (ws.map (fun b => b.data.toList)) [] List.Pairwise.nil).1
  have hp := (srt_perm ws).map (fun b : ByteArray => b.data.toList)
  have hnd : ((srt ws).map (fun b => b.data.toList)).Nodup := hp.nodup_iff.2 h
  have hs : ((srt ws).map (fun b => b.data.toList)).Pairwise (fun a b => a ≤ b) := by
    have e : (srt ws).map (fun b => b.data.toList) = srtL (ws.map (fun b => b.data.toList)) := by
      unfold srt
      rw [List.map_map]
      have e2 : ((fun b : ByteArray => b.data.toList) ∘ fun b : List UInt8 => (⟨b.toArray⟩ : ByteArray)) = id := by funext b; simp
      rw [e2, List.map_id]
    rw [e]
    exact h1
  have hboth := hs.and hnd
  exact hboth.imp (fun {a b} hab => Decidable.byContradiction fun hn => hab.2 (List.le_antisymm hab.1 (List.not_lt.1 hn)))
theorem chR_good2 {S : ByteArray} : ∀ (f k : Nat) (seen : List ByteArray) (k' n' : Nat) (ws : List ByteArray), k ≤ S.size → (∀ w, w ∈ seen → isWd w = true) → (seen.map (fun b => b.data.toList)).Nodup → chR S f k seen = .ok k' n' ws →
    ws ≠ [] ∧ (∀ w, w ∈ ws → isWd w = true) ∧ (ws.map (fun b => b.data.toList)).Nodup
  | 0, _, _, _, _, _, _, _, _, h => by simp [chR] at h
  | f + 1, k, seen, k', n', ws, hk, hw, hnd, h => by
    have hj := skp_le hk
    have hww := wdK_le hj.2
    rw [chR] at h
    by_cases hc : wdC S (skp S k) = 0
    · rw [if_neg (by rw [hc]; decide)] at h
      have hwd := word_read hj.2 hc
      split at h
      · cases h
      · rename_i hcon
        have hall : ∀ w, w ∈ seen ++ [S.extract (skp S k) (wdK S (skp S k))] → isWd w = true := by
          intro w hm
          rcases List.mem_append.1 hm with hm | hm
          · exact hw w hm
          · rw [List.mem_singleton.1 hm]
            exact hwd
        have hnd2 : ((seen ++ [S.extract (skp S k) (wdK S (skp S k))]).map (fun b => b.data.toList)).Nodup := by
          rw [List.map_append, List.map_cons, List.map_nil]
          refine List.nodup_append.2 ⟨hnd, by simp, fun a ha b hb => ?_⟩
          rw [List.mem_singleton.1 hb]
          intro e
          apply hcon
          rw [← e]
          simpa using ha
        split at h
        · have h1 := byteI_in (by assumption) (by decide : (44 : Int) ≠ 0)
          exact chR_good2 f _ _ _ _ _ (by omega) hall hnd2 h
        · split at h
          · injection h with h2 h3 h4
            subst h4
            exact ⟨by simp, hall, hnd2⟩
          · cases h
    · rw [if_pos hc] at h
      cases h

/-! ### Expressions that were read -/
theorem faultEs_all : ∀ {l : List Rx}, (∀ c, c ∈ l → faultE c = 0) → faultEs l = 0
  | [], _ => by rw [faultEs]
  | x :: r, h => by
    rw [faultEs, h x List.mem_cons_self, if_neg (by decide)]
    exact faultEs_all (fun c hc => h c (List.mem_cons_of_mem _ hc))
/-- What is read may be, and has as many as were counted. -/
def VR (S : ByteArray) (f : Nat → Nat → RO Rx) : Prop := ∀ k n k' n' x, k ≤ S.size → f k n = .ok k' n' x → faultE x = 0 ∧ rxSize x + n = n'
theorem wordsF_of {ws : List ByteArray} (hne : ws ≠ []) (hw : ∀ w, w ∈ ws → isWd w = true) (hr : risesW ws = true) : wordsF ws = 0 := by
  have hl : ws.length ≠ 0 := fun e => hne (List.eq_nil_of_length_eq_zero e)
  have ha : ¬ ws.any (fun w => !isWd w) = true := by
    intro h
    obtain ⟨w, hm, hn⟩ := List.any_eq_true.1 h
    rw [hw w hm] at hn
    cases hn
  unfold wordsF
  rw [if_neg (fun h => h.elim hl ha), if_pos hr]
theorem faultE_atom {t : Bool} {ws : List ByteArray} (h : wordsF ws = 0) : faultE (.mk 1 t ws []) = 0 ∧ rxSize (.mk 1 t ws []) = 1 := by
  have ho : ownF 1 t ws 0 = 0 := by
    unfold ownF
    rw [if_neg (by decide), if_neg (by decide), if_pos rfl]
    exact h
  refine ⟨?_, by rw [rxSize, rxsSize]⟩
  rw [faultE]
  show (if ownF 1 t ws 0 ≠ 0 then ownF 1 t ws 0 else faultEs []) = 0
  rw [ho, if_neg (by decide), faultEs]
theorem ownF_join {kind : Int} (h : kind = 2 ∨ kind = 3) {m : Nat} (hm : 2 ≤ m) : ownF kind false [] m = 0 := by
  rcases h with rfl | rfl
  · have h2 : mayH 2 m = true := by
      unfold mayH
      rw [if_neg (by decide), if_pos rfl]
      exact decide_eq_true (by omega)
    simp [ownF, h2]
  · have h2 : mayH 3 m = true := by
      unfold mayH
      rw [if_neg (by decide), if_neg (by decide), if_pos rfl]
      exact decide_eq_true hm
    simp [ownF, h2]
theorem bsR_vr {S : ByteArray} {sub : Option (Nat → Nat → RO Rx)} (hsub : ∀ f, sub = some f → VR S f) : VR S (bsR S sub) := by
  intro k n k' n' x hk h
  have hj := skp_le hk
  unfold bsR at h
  split at h
  · have hlt := byteI_in (by assumption) (by decide : (40 : Int) ≠ 0)
    cases sub with
    | none => cases h
    | some f =>
      simp only at h
      split at h
      · obtain ⟨rfl, rfl, h3, rfl⟩ := cnt_ok h
        exact ⟨by decide, by rw [rxSize, rxsSize]; omega⟩
      · split at h
        · cases h
        · rename_i k1 n1 x1 e1
          have hg := hsub f rfl (skp S k + 1) n k1 n1 x1 (by omega) e1
          split at h
          · injection h with h3 h4 h5
            subst h3 h4 h5
            exact hg
          · cases h
  · split at h
    · obtain ⟨rfl, rfl, h3, rfl⟩ := cnt_ok h
      exact ⟨by decide, by rw [rxSize, rxsSize]; omega⟩
    · split at h
      · have hlt := byteI_in (by assumption) (by decide : (91 : Int) ≠ 0)
        split at h
        · cases h
        · rename_i k1 n1 ws e1
          have hnk := notK_le (s := S) (k := skp S k + 1) (by omega)
          have hc := chR_good2 _ _ _ _ _ _ hnk.2 (by simp) (by simp) e1
          obtain ⟨rfl, rfl, h3, rfl⟩ := cnt_ok h
          have hp := srt_perm ws
          have hf := faultE_atom (t := decide (byteI S (skp S (skp S k + 1)) = 94)) (wordsF_of (ws := srt ws) (fun e => hc.1 (by have := hp.length_eq; rw [e] at this; exact List.eq_nil_of_length_eq_zero this.symm)) (fun w hw => hc.2.1 w (hp.mem_iff.1 hw)) (srt_rises hc.2.2))
          exact ⟨hf.1, by rw [hf.2]; omega⟩
      · split at h
        · cases h
        · rename_i hc
          have hwd := word_read hj.2 (by simpa using hc)
          obtain ⟨rfl, rfl, h3, rfl⟩ := cnt_ok h
          have hf := faultE_atom (t := false) (wordsF_of (ws := [S.extract (skp S k) (wdK S (skp S k))]) (by simp) (fun w hw => by rw [List.mem_singleton.1 hw]; exact hwd) rfl)
          exact ⟨hf.1, by rw [hf.2]; omega⟩
theorem sgn_lt {c : Int} {i : Nat} (h : sgn c = some i) : i < 3 := by
  unfold sgn at h
  repeat' split at h
  all_goals
    first
      | (injection h with h; omega)
      | cases h
theorem sgR_vr {S : ByteArray} : ∀ (f k n : Nat) (x : Rx) (k' n' : Nat) (y : Rx), faultE x = 0 → sgR S f k n x = .ok k' n' y → faultE y = 0 ∧ rxSize y + n = rxSize x + n'
  | 0, _, _, _, _, _, _, _, h => by cases h
  | f + 1, k, n, x, k', n', y, hx, h => by
    rw [sgR] at h
    split at h
    · injection h with h1 h2 h3
      subst h1 h2 h3
      exact ⟨hx, rfl⟩
    · rename_i i hi
      split at h
      · cases h
      · have hi3 := sgn_lt hi
        have hf : faultE (.mk ((4 + i : Nat) : Int) false [] [x]) = 0 := by
          have ho : ownF ((4 + i : Nat) : Int) false [] [x].length = 0 := by
            show ownF ((4 + i : Nat) : Int) false [] 1 = 0
            rcases (by omega : i = 0 ∨ i = 1 ∨ i = 2) with rfl | rfl | rfl <;> decide
          rw [faultE, ho, if_neg (by decide), faultEs, hx, if_neg (by decide), faultEs]
        have := sgR_vr f _ _ _ _ _ _ hf h
        rw [rxSize, rxsSize, rxsSize] at this
        exact ⟨this.1, by omega⟩
theorem ptR_vr {S : ByteArray} {sub : Option (Nat → Nat → RO Rx)} (hsub : ∀ f, sub = some f → VR S f) : VR S (ptR S sub) := by
  intro k n k' n' x hk h
  unfold ptR at h
  split at h
  · cases h
  · rename_i k1 n1 x1 e1
    have h1 := bsR_vr hsub k n k1 n1 x1 hk e1
    have h2 := sgR_vr 101 k1 n1 x1 k' n' x h1.1 h
    exact ⟨h2.1, by omega⟩
theorem jnL_vr {S : ByteArray} {kind : Int} (hkd : kind = 2 ∨ kind = 3) {next : Nat → Nat → RO Rx} {more : Nat → Option Nat} (hg : WtR S next) (hn : VR S next) (hm : WtM S more) : ∀ (f k n : Nat) (l : List Rx) (k' n' : Nat) (x : Rx), k ≤ S.size → l ≠ [] → (∀ c, c ∈ l → faultE c = 0) → jnL kind next more f k n l = .ok k' n' x → faultE x = 0 ∧ rxSize x + n = 1 + rxsSize l + n'
  | 0, _, _, _, _, _, _, _, _, _, h => by cases h
  | f + 1, k, n, l, k', n', x, hk, hl, hall, h => by
    rw [jnL] at h
    split at h
    · cases h
    · rename_i k1 n1 x1 e1
      have h1 := hn k n k1 n1 x1 hk e1
      have hw := hg k n k1 n1 x1 hk e1
      have hall2 : ∀ c, c ∈ l ++ [x1] → faultE c = 0 := fun c hc => by
        rcases List.mem_append.1 hc with hc | hc
        · exact hall c hc
        · rw [List.mem_singleton.1 hc]; exact h1.1
      split at h
      · rename_i k2 e2
        have h2 := hm k1 k2 hw.2.1 e2
        have := jnL_vr hkd hg hn hm f k2 n1 _ k' n' x h2.2 (by simp) hall2 h
        rw [rxsSize_append, rxsSize, rxsSize] at this
        exact ⟨this.1, by omega⟩
      · injection h with h3 h4 h5
        subst h3 h4 h5
        have hlen : 2 ≤ (l ++ [x1]).length := by
          have : l.length ≠ 0 := fun e => hl (List.eq_nil_of_length_eq_zero e)
          simp
          omega
        have ho : ownF kind false [] (l ++ [x1]).length = 0 := ownF_join hkd hlen
        refine ⟨?_, ?_⟩
        · rw [faultE, ho, if_neg (by decide)]
          exact faultEs_all hall2
        · rw [rxSize, rxsSize_append, rxsSize, rxsSize]
          omega
theorem jnR_vr {S : ByteArray} {kind : Int} (hkd : kind = 2 ∨ kind = 3) {next : Nat → Nat → RO Rx} {more : Nat → Option Nat} (hg : WtR S next) (hn : VR S next) (hm : WtM S more) : VR S (jnR S kind next more) := by
  intro k n k' n' x hk h
  unfold jnR at h
  split at h
  · cases h
  · rename_i k1 n1 x1 e1
    have h1 := hn k n k1 n1 x1 hk e1
    have hw := hg k n k1 n1 x1 hk e1
    split at h
    · injection h with h3 h4 h5
      subst h3 h4 h5
      exact h1
    · rename_i k2 e2
      have h2 := hm k1 k2 hw.2.1 e2
      split at h
      · cases h
      · have := jnL_vr hkd hg hn hm 101 k2 (n1 + 1) _ k' n' x h2.2 (by simp) (fun c hc => by rw [List.mem_singleton.1 hc]; exact h1.1) h
        rw [rxsSize, rxsSize] at this
        exact ⟨this.1, by omega⟩
theorem alR_vr {S : ByteArray} : ∀ e : Nat, VR S (alR S e)
  | 0 => jnR_vr (.inr rfl) (jnR_wt (ptR_wt (fun f h => by cases h)) rwM_wt) (jnR_vr (.inl rfl) (ptR_wt (fun f h => by cases h)) (ptR_vr (fun f h => by cases h)) rwM_wt) alM_wt
  | e + 1 => jnR_vr (.inr rfl) (jnR_wt (ptR_wt (fun f h => by injection h with h; rw [← h]; exact alR_wt e)) rwM_wt) (jnR_vr (.inl rfl) (ptR_wt (fun f h => by injection h with h; rw [← h]; exact alR_wt e)) (ptR_vr (fun f h => by injection h with h; rw [← h]; exact alR_vr e)) rwM_wt) alM_wt
/-- What is read may be. -/
theorem xpR_may {s : ByteArray} {k n : Nat} {x : Rx} (h : xpR s = .ok k n x) : checkE x = 0 ∧ rxWt x + k ≤ 200 + 2 * s.size := by
  unfold xpR at h
  split at h
  · cases h
  · rename_i k1 n1 x1 e1
    split at h
    · injection h with h1 h2 h3
      subst h1 h2 h3
      have hv := alR_vr 64 0 0 k1 n1 x1 (Nat.zero_le _) e1
      have hg := alR_good 64 0 0 k1 n1 x1 (Nat.zero_le _) e1
      have hw := alR_wt 64 0 0 k1 n1 x1 (Nat.zero_le _) e1
      refine ⟨?_, by omega⟩
      unfold checkE
      rw [if_neg (by omega)]
      exact hv.1
    · cases h
end Go.Proofs.YtocfcnhaecmgpaaGreatDoor
