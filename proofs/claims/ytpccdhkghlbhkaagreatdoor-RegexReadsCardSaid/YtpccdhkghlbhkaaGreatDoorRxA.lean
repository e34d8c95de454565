/-
  Expressions in memory: what an expression's four cells hold, and all that they lead to; a budget that an expression, its words and its kids use up.
-/
import Derived.Test.YtpccdhkghlbhkaaGreatDoorAwk2
import Derived.Test.YtpccdhkghlbhkaaGreatDoorScanF
import Derived.Laws.OwnMore
import Derived.Deep.AppendLies
namespace Go.Proofs.YtpccdhkghlbhkaaGreatDoor
open Go.RowKit Go.Extern.Stop Go.Stop Go.Extern

/-- An expression, plain. -/
inductive Rx where
  | mk (kind : Int) (neg : Bool) (words : List ByteArray) (kids : List Rx)

/-- A slice of n elements whose cells hold xs, in a block of which P holds (where there are any). -/
def RowX (P : Nat → Prop) (w : World) (v : Value) (n : Nat) (xs : List Value) : Prop :=
  (n = 0 ∧ xs = [] ∧ ∃ a c, v = .slice a 0 c) ∨ ∃ b o c, v = .slice (some ⟨b, o, none⟩) n c ∧ P b ∧ b < w.heap.size ∧ ∀ j u, xs[j]? = some u → w.cell? ⟨b, o + j, none⟩ = some u
theorem RowX.form {P : Nat → Prop} {w : World} {v : Value} {n : Nat} {xs : List Value} (h : RowX P w v n xs) : ∃ a c, v = .slice a n c := by
  rcases h with ⟨rfl, -, a, c, e⟩ | ⟨b, o, c, e, -⟩
  · exact ⟨a, c, e⟩
  · exact ⟨_, c, e⟩
theorem RowX.move {P P' : Nat → Prop} {w w' : World} {v : Value} {n : Nat} {xs : List Value} (h : RowX P w v n xs) (hs : w.heap.size ≤ w'.heap.size) (hk : ∀ k, P k → k < w.heap.size → P' k ∧ w'.heap[k]? = w.heap[k]?) : RowX P' w' v n xs := by
  rcases h with h | ⟨b, o, c, e, hP, hlt, hc⟩
  · exact .inl h
  · have := hk b hP hlt
    exact .inr ⟨b, o, c, e, this.1, Nat.lt_of_lt_of_le hlt hs, fun j u hu => (World.cell?_of_block (a := ⟨b, o + j, none⟩) this.2).trans (hc j u hu)⟩
theorem RowX.nil (P : Nat → Prop) (w : World) : RowX P w (.slice none 0 0) 0 [] := .inl ⟨rfl, rfl, none, 0, rfl⟩
theorem RowX.of_own {P : Nat → Prop} {w : World} {B : Nat} {e : TypeId} {sz : Nat} {v : Value} {n : Nat} {xs : List Value} (h : w.ownsRow B e sz v n xs) (hP : ∀ k, v.ownBlock = some k → P k) : RowX P w v n xs := by
  rcases Nat.eq_zero_or_pos n with h1 | h1
  · have hx : xs = [] := List.eq_nil_of_length_eq_zero (by rw [h.1, h1]; simp)
    rcases h.2 with ⟨rfl, _⟩ | ⟨g, cap, cur, rfl, _⟩
    · exact .inl ⟨h1, hx, none, 0, rfl⟩
    · subst h1; exact .inl ⟨rfl, hx, _, _, rfl⟩
  · obtain ⟨g, cap, rfl, -, hlt⟩ := h.form h1
    refine .inr ⟨g, 0, cap, rfl, hP g rfl, hlt, fun j u hu => ?_⟩
    have := h.cells (g := g) rfl j u hu
    have e0 : (⟨g, 0, none⟩ : Addr).add j = ⟨g, 0 + j, none⟩ := by unfold Addr.add; split <;> simp_all
    rwa [e0] at this
/-- A row of texts, as the contracts of slices.Equal speak of it. -/
theorem RowX.strs {P : Nat → Prop} {w : World} {v : Value} {ws : List ByteArray} (h : RowX P w v ws.length (ws.map Value.string)) : StrsAt w v ws := by
  rcases h with ⟨h0, -, a, c, rfl⟩ | ⟨b, o, c, rfl, -, hlt, hc⟩
  · exact .inl ⟨a, c, rfl, List.eq_nil_of_length_eq_zero h0⟩
  · exact .inr ⟨b, o, c, rfl, hlt, fun i hi => by rw [hc i (.string (ws.getD i ByteArray.empty)) (by simp [hi, List.getD])]⟩
theorem RowX.of_strs {w : World} {v : Value} {ws : List ByteArray} (h : StrsAt w v ws) : RowX (fun _ => True) w v ws.length (ws.map Value.string) := by
  rcases h with ⟨a, c, rfl, rfl⟩ | ⟨b, o, c, rfl, hlt, hc⟩
  · exact .inl ⟨rfl, rfl, a, c, rfl⟩
  · refine .inr ⟨b, o, c, rfl, trivial, hlt, fun j u hu => ?_⟩
    have hj : j < ws.length := by have := (List.getElem?_eq_some_iff.1 hu).1; simpa using this
    rw [hc j hj]
    simp [hj] at hu
    subst hu
    simp [List.getD, hj]

/-- A slice of so many elements, which has room for them. -/
def CapV (v : Value) (n : Nat) : Prop := ∃ a c, v = .slice a n c ∧ n ≤ c
theorem CapV.nil : CapV (.slice none 0 0) 0 := ⟨none, 0, rfl, Nat.le_refl _⟩
theorem CapV.of_own {w : World} {base : Nat} {e : TypeId} {v : Value} {n : Nat} {xs : List Value} (h : w.ownsRow base e 1 v n xs) : CapV v n := by
  rcases h.2 with ⟨rfl, rfl⟩ | ⟨g, cap, cur, rfl, -, -, hc, -⟩
  · exact CapV.nil
  · exact ⟨_, cap, rfl, hc⟩
theorem CapV.le {a : Option Addr} {n c : Nat} (h : CapV (.slice a n c) n) : n ≤ c := by
  obtain ⟨a', c', e, hc⟩ := h
  simp only [Value.slice.injEq] at e
  omega

mutual
/-- Four cells that hold an expression, all whose slices lie in blocks of which P holds. -/
def ExC (P : Nat → Prop) (w : World) (cs : List Value) : Rx → Prop
  | .mk kind neg words kids => ∃ sw sk xs, cs = [.int .i64 kind, .bool neg, sw, sk] ∧ CapV sw words.length ∧ RowX P w sw words.length (words.map Value.string) ∧ RowX P w sk kids.length xs ∧ ExsC P w xs kids
/-- So many cells that hold expressions. -/
def ExsC (P : Nat → Prop) (w : World) (xs : List Value) : List Rx → Prop
  | [] => xs = []
  | x :: r => ∃ cs rest, xs = cs ++ rest ∧ ExC P w cs x ∧ ExsC P w rest r
end

theorem exs_move {P P' : Nat → Prop} {w w' : World} (hs : w.heap.size ≤ w'.heap.size) (hk : ∀ k, P k → k < w.heap.size → P' k ∧ w'.heap[k]? = w.heap[k]?) :
    ∀ n : Nat, (∀ x : Rx, SizeOf.sizeOf x < n → ∀ cs, ExC P w cs x → ExC P' w' cs x) ∧ (∀ l : List Rx, SizeOf.sizeOf l < n → ∀ xs, ExsC P w xs l → ExsC P' w' xs l) := by
  intro n
  induction n with
  | zero => exact ⟨fun _ h => absurd h (Nat.not_lt_zero _), fun _ h => absurd h (Nat.not_lt_zero _)⟩
  | succ n ih =>
    refine ⟨fun x hx cs h => ?_, fun l hl xs h => ?_⟩
    · cases x with
      | mk kind neg words kids =>
        simp only [Rx.mk.sizeOf_spec] at hx
        unfold ExC at h ⊢
        obtain ⟨sw, sk', xs, e, hcv, h1, h2, h3⟩ := h
        exact ⟨sw, sk', xs, e, hcv, h1.move hs hk, h2.move hs hk, ih.2 kids (by omega) xs h3⟩
    · cases l with
      | nil => unfold ExsC at h ⊢; exact h
      | cons x r =>
        simp only [List.cons.sizeOf_spec] at hl
        unfold ExsC at h ⊢
        obtain ⟨cs, rest, e, h1, h2⟩ := h
        exact ⟨cs, rest, e, ih.1 x (by omega) cs h1, ih.2 r (by omega) rest h2⟩
theorem ExC.move {P P' : Nat → Prop} {w w' : World} {cs : List Value} {x : Rx} (h : ExC P w cs x) (hs : w.heap.size ≤ w'.heap.size) (hk : ∀ k, P k → k < w.heap.size → P' k ∧ w'.heap[k]? = w.heap[k]?) : ExC P' w' cs x :=
  (exs_move hs hk (SizeOf.sizeOf x + 1)).1 x (by omega) cs h
theorem ExsC.move {P P' : Nat → Prop} {w w' : World} {xs : List Value} {l : List Rx} (h : ExsC P w xs l) (hs : w.heap.size ≤ w'.heap.size) (hk : ∀ k, P k → k < w.heap.size → P' k ∧ w'.heap[k]? = w.heap[k]?) : ExsC P' w' xs l :=
  (exs_move hs hk (SizeOf.sizeOf l + 1)).2 l (by omega) xs h
theorem ExC.step {P : Nat → Prop} {w w' : World} {cs : List Value} {x : Rx} (h : ExC P w cs x) (hb : Below w.heap.size w w') : ExC P w' cs x := h.move hb.size fun k hP hk => ⟨hP, hb.block k hk⟩
theorem ExsC.step {P : Nat → Prop} {w w' : World} {xs : List Value} {l : List Rx} (h : ExsC P w xs l) (hb : Below w.heap.size w w') : ExsC P w' xs l := h.move hb.size fun k hP hk => ⟨hP, hb.block k hk⟩
theorem RowX.step {P : Nat → Prop} {w w' : World} {v : Value} {n : Nat} {xs : List Value} (h : RowX P w v n xs) (hb : Below w.heap.size w w') : RowX P w' v n xs := h.move hb.size fun k hP hk => ⟨hP, hb.block k hk⟩
theorem ExsC.snoc {P : Nat → Prop} {w : World} {cs : List Value} {x : Rx} (hx : ExC P w cs x) : ∀ {l : List Rx} {xs : List Value}, ExsC P w xs l → ExsC P w (xs ++ cs) (l ++ [x])
  | [], xs, h => by
    unfold ExsC at h
    subst h
    exact ⟨cs, [], by simp, hx, by unfold ExsC; rfl⟩
  | y :: r, xs, h => by
    unfold ExsC at h
    obtain ⟨c0, rest, rfl, h1, h2⟩ := h
    exact ⟨c0, rest ++ cs, by simp, h1, ExsC.snoc hx h2⟩
theorem ExsC.nil {P : Nat → Prop} {w : World} : ExsC P w [] [] := by unfold ExsC; rfl
theorem ExC.form {P : Nat → Prop} {w : World} {cs : List Value} {x : Rx} (h : ExC P w cs x) : ∃ k t a l c a' l' c', cs = [.int .i64 k, .bool t, .slice a l c, .slice a' l' c'] := by
  cases x with
  | mk kind neg words kids =>
    unfold ExC at h
    obtain ⟨sw, sk', xs, e, -, h1, h2, -⟩ := h
    obtain ⟨a, c, rfl⟩ := h1.form
    obtain ⟨a', c', rfl⟩ := h2.form
    exact ⟨_, _, _, _, _, _, _, _, e⟩
/-- What four cells in this form say of the expression. -/
theorem ExC.open {P : Nat → Prop} {w : World} {k : Int} {t : Bool} {v v' : Value} {kind : Int} {neg : Bool} {words : List ByteArray} {kids : List Rx} (h : ExC P w [.int .i64 k, .bool t, v, v'] (.mk kind neg words kids)) :
    k = kind ∧ t = neg ∧ RowX P w v words.length (words.map Value.string) ∧ ∃ xs, RowX P w v' kids.length xs ∧ ExsC P w xs kids := by
  unfold ExC at h
  obtain ⟨sw, sk', xs, e, -, h1, h2, h3⟩ := h
  simp only [List.cons.injEq, Value.int.injEq, Value.bool.injEq, true_and, and_true] at e
  obtain ⟨rfl, rfl, rfl, rfl⟩ := e
  exact ⟨rfl, rfl, h1, xs, h2, h3⟩
theorem ExC.cap {P : Nat → Prop} {w : World} {k : Int} {t : Bool} {v v' : Value} {kind : Int} {neg : Bool} {words : List ByteArray} {kids : List Rx} (h : ExC P w [.int .i64 k, .bool t, v, v'] (.mk kind neg words kids)) : CapV v words.length := by
  unfold ExC at h
  obtain ⟨sw, sk', xs, e, hcv, -⟩ := h
  simp only [List.cons.injEq, Value.int.injEq, Value.bool.injEq, true_and, and_true] at e
  obtain ⟨rfl, rfl, rfl, rfl⟩ := e
  exact hcv
/-- An expression's own four cells within a row. -/
theorem ExsC.at' {P : Nat → Prop} {w : World} : ∀ {l : List Rx} {xs : List Value} {i : Nat} {x : Rx}, ExsC P w xs l → l[i]? = some x → ∃ c0 c1 c2 c3, ExC P w [c0, c1, c2, c3] x ∧
    xs[4 * i]? = some c0 ∧ xs[4 * i + 1]? = some c1 ∧ xs[4 * i + 2]? = some c2 ∧ xs[4 * i + 3]? = some c3
  | [], _, _, _, _, h => by simp at h
  | y :: r, xs, i, x, hv, h => by
    unfold ExsC at hv
    obtain ⟨cs, rest, rfl, hy, hr⟩ := hv
    obtain ⟨k, t, a, l, c, a', l', c', rfl⟩ := hy.form
    cases i with
    | zero =>
      have e : y = x := by simpa using h
      subst e
      exact ⟨_, _, _, _, hy, rfl, rfl, rfl, rfl⟩
    | succ i =>
      obtain ⟨c0, c1, c2, c3, hx, h0, h1, h2, h3⟩ := ExsC.at' hr (i := i) (x := x) (by simpa using h)
      have go : ∀ j, ([.int .i64 k, .bool t, .slice a l c, .slice a' l' c'] ++ rest : List Value)[4 * (i + 1) + j]? = rest[4 * i + j]? := fun j => by
        rw [List.getElem?_append_right (by simp; omega)]
        congr 1
        simp
        omega
      exact ⟨c0, c1, c2, c3, hx, (go 0).trans h0, (go 1).trans h1, (go 2).trans h2, (go 3).trans h3⟩
theorem rx_mem {l : List Rx} {i : Nat} {x : Rx} (h : l[i]? = some x) : SizeOf.sizeOf x < SizeOf.sizeOf l := List.sizeOf_lt_of_mem (List.mem_of_getElem? h)
/-- Four cells from a place on. -/
def Four (w : World) (b o : Nat) (c0 c1 c2 c3 : Value) : Prop := b < w.heap.size ∧ w.cell? ⟨b, o, none⟩ = some c0 ∧ w.cell? ⟨b, o + 1, none⟩ = some c1 ∧ w.cell? ⟨b, o + 2, none⟩ = some c2 ∧ w.cell? ⟨b, o + 3, none⟩ = some c3
theorem Four.step {w w' : World} {b o : Nat} {c0 c1 c2 c3 : Value} (h : Four w b o c0 c1 c2 c3) (hb : Below w.heap.size w w') : Four w' b o c0 c1 c2 c3 := by
  obtain ⟨h0, h1, h2, h3, h4⟩ := h
  have e : ∀ i, w'.cell? ⟨b, i, none⟩ = w.cell? ⟨b, i, none⟩ := fun i => hb.cell (p := ⟨b, i, none⟩) h0
  refine ⟨Nat.lt_of_lt_of_le h0 hb.size, ?_, ?_, ?_, ?_⟩ <;> rw [e] <;> assumption
theorem four_new (w : World) (ty : TypeId) (c0 c1 c2 c3 : Value) : Four (w.alloc (.cells #[c0, c1, c2, c3] ty)) w.heap.size 0 c0 c1 c2 c3 := by
  have h := heap_alloc_new w (.cells #[c0, c1, c2, c3] ty)
  refine ⟨by simp, ?_, ?_, ?_, ?_⟩ <;> (rw [Lib.cell_of_heap h]; rfl)
theorem Four.box {w : World} {b : Nat} {c0 c1 c2 c3 : Value} (h : Four w b 0 c0 c1 c2 c3) : w.cell? ⟨b, 0, none⟩ = some c0 ∧ w.cell? ⟨b, 1, none⟩ = some c1 ∧ w.cell? ⟨b, 2, none⟩ = some c2 ∧ w.cell? ⟨b, 3, none⟩ = some c3 :=
  ⟨h.2.1, h.2.2.1, h.2.2.2.1, h.2.2.2.2⟩
/-- An element of a row of expressions, in a later world. -/
theorem ex_at {P : Nat → Prop} {w wr : World} {a : Option Addr} {l c : Nat} {xs : List Value} {kids : List Rx} (hr : RowX P w (.slice a l c) kids.length xs) (hv : ExsC P w xs kids) {i : Nat} {x : Rx} (hx : kids[i]? = some x) (hb : Below w.heap.size w wr) :
    ∃ b o k t a2 l2 c2 a3 l3 c3, a = some ⟨b, o, none⟩ ∧ ExC P w [.int .i64 k, .bool t, .slice a2 l2 c2, .slice a3 l3 c3] x ∧
      Four wr b (o + i * 4) (.int .i64 k) (.bool t) (.slice a2 l2 c2) (.slice a3 l3 c3) := by
  obtain ⟨d0, d1, d2, d3, hvx, e0, e1, e2, e3⟩ := ExsC.at' hv hx
  obtain ⟨k2, t2, a2, l2, c2, a3, l3, c3, ed⟩ := hvx.form
  simp only [List.cons.injEq, and_true] at ed
  obtain ⟨rfl, rfl, rfl, rfl⟩ := ed
  have hlt := (List.getElem?_eq_some_iff.1 hx).1
  rcases hr with ⟨h0, -⟩ | ⟨b, o, c, e, -, hbl, hc⟩
  · omega
  injection e with e
  refine ⟨b, o, _, _, _, _, _, _, _, _, e, hvx, ?_⟩
  have hj : ∀ j u, xs[4 * i + j]? = some u → wr.cell? ⟨b, o + i * 4 + j, none⟩ = some u := fun j u hu => by
    rw [show o + i * 4 + j = o + (4 * i + j) by omega]
    exact (hb.cell (p := ⟨b, _, none⟩) hbl).trans (hc _ _ hu)
  exact ⟨Nat.lt_of_lt_of_le hbl hb.size, hj 0 _ e0, hj 1 _ e1, hj 2 _ e2, hj 3 _ e3⟩
/-- An element of a row of texts, in a later world. -/
theorem text_at {P : Nat → Prop} {w wr : World} {a : Option Addr} {l c : Nat} {ws : List ByteArray} (hr : RowX P w (.slice a l c) ws.length (ws.map Value.string)) {i : Nat} {y : ByteArray} (hy : ws[i]? = some y) (hb : Below w.heap.size w wr) :
    ∃ b o, a = some ⟨b, o, none⟩ ∧ b < wr.heap.size ∧ wr.cell? ⟨b, o + i, none⟩ = some (.string y) := by
  have hlt := (List.getElem?_eq_some_iff.1 hy).1
  rcases hr with ⟨h0, -⟩ | ⟨b, o, c, e, -, hbl, hc⟩
  · omega
  injection e with e
  exact ⟨b, o, e, Nat.lt_of_lt_of_le hbl hb.size, (hb.cell (p := ⟨b, _, none⟩) hbl).trans (hc i _ (by simp [hy]))⟩

/-! ### A budget -/
def leftW : List ByteArray → Int → Int
  | [], n => n
  | w :: r, n => if n < 0 then n else leftW r (n - (1 + min (w.size : Int) 100000))
mutual
/-- What an expression leaves of a budget. -/
def leftE : Rx → Int → Int
  | .mk _ _ words kids, n => leftEs kids (leftW words (n - 1))
def leftEs : List Rx → Int → Int
  | [], n => n
  | x :: r, n => if n < 0 then n else leftEs r (leftE x n)
end
theorem leftW_neg : ∀ (l : List ByteArray) (n : Int), n < 0 → leftW l n = n
  | [], n, _ => by rw [leftW]
  | w :: r, n, h => by rw [leftW, if_pos h]
theorem leftEs_neg : ∀ (l : List Rx) (n : Int), n < 0 → leftEs l n = n
  | [], n, _ => by rw [leftEs]
  | x :: r, n, h => by rw [leftEs, if_pos h]
theorem leftW_bd : ∀ (l : List ByteArray) (n : Int), -100001 ≤ n → -100001 ≤ leftW l n ∧ leftW l n ≤ n
  | [], n, h => by rw [leftW]; omega
  | w :: r, n, h => by
    rw [leftW]
    split
    · omega
    · have := leftW_bd r (n - (1 + min (w.size : Int) 100000)) (by omega)
      omega
mutual
theorem leftE_bd : ∀ (x : Rx) (n : Int), 0 ≤ n → -100001 ≤ leftE x n ∧ leftE x n ≤ n - 1
  | .mk k t words kids, n, h => by
    have h1 := leftW_bd words (n - 1) (by omega)
    have h2 := leftEs_bd kids (leftW words (n - 1)) h1.1
    rw [leftE]
    omega
theorem leftEs_bd : ∀ (l : List Rx) (n : Int), -100001 ≤ n → -100001 ≤ leftEs l n ∧ leftEs l n ≤ n
  | [], n, h => by rw [leftEs]; omega
  | x :: r, n, h => by
    rw [leftEs]
    split
    · omega
    · have h1 := leftE_bd x n (by omega)
      have h2 := leftEs_bd r (leftE x n) h1.1
      omega
end
def wordsWt : List ByteArray → Nat
  | [] => 0
  | w :: r => 1 + min w.size 100000 + wordsWt r
mutual
/-- How many expressions, words and bytes. -/
def rxWt : Rx → Nat
  | .mk _ _ words kids => 1 + wordsWt words + rxsWt kids
def rxsWt : List Rx → Nat
  | [] => 0
  | x :: r => rxWt x + rxsWt r
end
theorem leftW_wt : ∀ (l : List ByteArray) (n : Int), 0 ≤ leftW l n → leftW l n = n - wordsWt l
  | [], n, _ => by rw [leftW, wordsWt]; omega
  | w :: r, n, h => by
    rw [leftW] at h ⊢
    split
    · rw [if_pos (by assumption)] at h; omega
    · rw [if_neg (by assumption)] at h
      rw [leftW_wt r _ h, wordsWt]
      omega
mutual
theorem leftE_wt : ∀ (x : Rx) (n : Int), 0 ≤ leftE x n → leftE x n = n - rxWt x
  | .mk k t words kids, n, h => by
    rw [leftE] at h ⊢
    have h1 := leftEs_wt kids _ h
    have h2 : 0 ≤ leftW words (n - 1) := by omega
    rw [h1, leftW_wt words _ h2, rxWt]
    omega
theorem leftEs_wt : ∀ (l : List Rx) (n : Int), 0 ≤ leftEs l n → leftEs l n = n - rxsWt l
  | [], n, _ => by rw [leftEs, rxsWt]; omega
  | x :: r, n, h => by
    rw [leftEs] at h ⊢
    split
    · rw [if_pos (by assumption)] at h; omega
    · rw [if_neg (by assumption)] at h
      have h1 := leftEs_wt r _ h
      have h2 : 0 ≤ leftE x n := by omega
      rw [h1, leftE_wt x n h2, rxsWt]
      omega
end
theorem wt_of_left {x : Rx} (h : ¬ leftE x 600 < 0) : rxWt x ≤ 600 := by
  have := leftE_wt x 600 (by omega)
  have := leftE_bd x 600 (by omega)
  omega
theorem wt_mem : ∀ {l : List Rx} {i : Nat} {x : Rx}, l[i]? = some x → rxWt x ≤ rxsWt l
  | [], _, _, h => by simp at h
  | y :: r, 0, x, h => by
    obtain rfl : y = x := by simpa using h
    rw [rxsWt]; omega
  | y :: r, i + 1, x, h => by
    have := wt_mem (l := r) (i := i) (x := x) (by simpa using h)
    rw [rxsWt]; omega
theorem len_wt : ∀ l : List Rx, l.length ≤ rxsWt l
  | [] => Nat.zero_le _
  | .mk k t ws ks :: r => by
    have := len_wt r
    rw [rxsWt, rxWt, List.length_cons]
    omega
theorem wlen_wt : ∀ l : List ByteArray, l.length ≤ wordsWt l
  | [] => Nat.zero_le _
  | w :: r => by
    have := wlen_wt r
    rw [wordsWt, List.length_cons]
    omega
end Go.Proofs.YtpccdhkghlbhkaaGreatDoor
