/-
  Values in memory: what a value's six cells hold, and all that they lead to; a list that grows at its end.
-/
import Derived.Test.YtajmlkephefapaaGreatDoorTreeE
import Derived.Laws.OwnMore
import Derived.Deep.AppendLies
namespace Go.Proofs.YtajmlkephefapaaGreatDoor
open Go.RowKit Go.Extern.Stop Go.Stop Go.Extern Go.WideMaps

/-- A slice of n elements whose cells hold xs, in a block of which P holds (where there are any). -/
def RowIn (P : Nat → Prop) (w : World) (v : Value) (n : Nat) (xs : List Value) : Prop :=
  (n = 0 ∧ xs = [] ∧ ∃ a c, v = .slice a 0 c) ∨ ∃ b o c, v = .slice (some ⟨b, o, none⟩) n c ∧ P b ∧ b < w.heap.size ∧ ∀ j u, xs[j]? = some u → w.cell? ⟨b, o + j, none⟩ = some u
theorem RowIn.form {P : Nat → Prop} {w : World} {v : Value} {n : Nat} {xs : List Value} (h : RowIn P w v n xs) : ∃ a c, v = .slice a n c := by
  rcases h with ⟨rfl, -, a, c, e⟩ | ⟨b, o, c, e, -⟩
  · exact ⟨a, c, e⟩
  · exact ⟨_, c, e⟩
theorem RowIn.move {P P' : Nat → Prop} {w w' : World} {v : Value} {n : Nat} {xs : List Value} (h : RowIn P w v n xs) (hs : w.heap.size ≤ w'.heap.size) (hk : ∀ k, P k → k < w.heap.size → P' k ∧ w'.heap[k]? = w.heap[k]?) : RowIn P' w' v n xs := by
  rcases h with h | ⟨b, o, c, e, hP, hlt, hc⟩
  · exact .inl h
  · have := hk b hP hlt
    exact .inr ⟨b, o, c, e, this.1, Nat.lt_of_lt_of_le hlt hs, fun j u hu => (World.cell?_of_block (a := ⟨b, o + j, none⟩) this.2).trans (hc j u hu)⟩
theorem RowIn.nil (P : Nat → Prop) (w : World) : RowIn P w (.slice none 0 0) 0 [] := .inl ⟨rfl, rfl, none, 0, rfl⟩
theorem RowIn.of_own {P : Nat → Prop} {w : World} {B : Nat} {e : TypeId} {sz : Nat} {v : Value} {n : Nat} {xs : List Value} (h : w.ownsRow B e sz v n xs) (hP : ∀ k, v.ownBlock = some k → P k) (h0 : n = 0 → v = .slice none 0 0) : RowIn P w v n xs := by
  rcases Nat.eq_zero_or_pos n with h1 | h1
  · have hx : xs = [] := List.eq_nil_of_length_eq_zero (by rw [h.1, h1]; simp)
    exact .inl ⟨h1, hx, none, 0, h0 h1⟩
  · obtain ⟨g, cap, rfl, -, hlt⟩ := h.form h1
    refine .inr ⟨g, 0, cap, rfl, hP g rfl, hlt, fun j u hu => ?_⟩
    have := h.cells (g := g) rfl j u hu
    have e0 : (⟨g, 0, none⟩ : Addr).add j = ⟨g, 0 + j, none⟩ := by unfold Addr.add; split <;> simp_all
    rwa [e0] at this

mutual
/-- Six cells that hold a value, all whose slices lie in blocks of which P holds. -/
def ValC (P : Nat → Prop) (w : World) (cs : List Value) : Val → Prop
  | .mk kind text num list keys at' => ∃ sl sk xs, cs = [.int .i64 kind, .string text, .int .u64 num, sl, sk, .int .i64 at'] ∧ RowIn P w sk keys.length (keys.map Value.string) ∧ RowIn P w sl list.length xs ∧ ValsC P w xs list
/-- So many cells that hold values. -/
def ValsC (P : Nat → Prop) (w : World) (xs : List Value) : List Val → Prop
  | [] => xs = []
  | x :: r => ∃ cs rest, xs = cs ++ rest ∧ ValC P w cs x ∧ ValsC P w rest r
end

theorem vals_move {P P' : Nat → Prop} {w w' : World} (hs : w.heap.size ≤ w'.heap.size) (hk : ∀ k, P k → k < w.heap.size → P' k ∧ w'.heap[k]? = w.heap[k]?) :
    ∀ n : Nat, (∀ x : Val, SizeOf.sizeOf x < n → ∀ cs, ValC P w cs x → ValC P' w' cs x) ∧ (∀ l : List Val, SizeOf.sizeOf l < n → ∀ xs, ValsC P w xs l → ValsC P' w' xs l) := by
  intro n
  induction n with
  | zero => exact ⟨fun _ h => absurd h (Nat.not_lt_zero _), fun _ h => absurd h (Nat.not_lt_zero _)⟩
  | succ n ih =>
    refine ⟨fun x hx cs h => ?_, fun l hl xs h => ?_⟩
    · cases x with
      | mk kind text num list keys at' =>
        simp only [Val.mk.sizeOf_spec] at hx
        unfold ValC at h ⊢
        obtain ⟨sl, sk', xs, e, h1, h2, h3⟩ := h
        exact ⟨sl, sk', xs, e, h1.move hs hk, h2.move hs hk, ih.2 list (by omega) xs h3⟩
    · cases l with
      | nil => unfold ValsC at h ⊢; exact h
      | cons x r =>
        simp only [List.cons.sizeOf_spec] at hl
        unfold ValsC at h ⊢
        obtain ⟨cs, rest, e, h1, h2⟩ := h
        exact ⟨cs, rest, e, ih.1 x (by omega) cs h1, ih.2 r (by omega) rest h2⟩
theorem ValC.move {P P' : Nat → Prop} {w w' : World} {cs : List Value} {x : Val} (h : ValC P w cs x) (hs : w.heap.size ≤ w'.heap.size) (hk : ∀ k, P k → k < w.heap.size → P' k ∧ w'.heap[k]? = w.heap[k]?) : ValC P' w' cs x :=
  (vals_move hs hk (SizeOf.sizeOf x + 1)).1 x (by omega) cs h
theorem ValsC.move {P P' : Nat → Prop} {w w' : World} {xs : List Value} {l : List Val} (h : ValsC P w xs l) (hs : w.heap.size ≤ w'.heap.size) (hk : ∀ k, P k → k < w.heap.size → P' k ∧ w'.heap[k]? = w.heap[k]?) : ValsC P' w' xs l :=
  (vals_move hs hk (SizeOf.sizeOf l + 1)).2 l (by omega) xs h
theorem ValC.step {P : Nat → Prop} {w w' : World} {cs : List Value} {x : Val} (h : ValC P w cs x) (hb : Below w.heap.size w w') : ValC P w' cs x := h.move hb.size fun k hP hk => ⟨hP, hb.block k hk⟩
theorem ValC.keeps {P D : Nat → Prop} {w w' : World} {cs : List Value} {x : Val} (h : ValC P w cs x) (hk : Keeps D w w') (hD : ∀ k, P k → ¬ D k) : ValC P w' cs x := h.move hk.size fun k hP hlt => ⟨hP, hk.block k hlt (hD k hP)⟩
theorem ValsC.keeps {P D : Nat → Prop} {w w' : World} {xs : List Value} {l : List Val} (h : ValsC P w xs l) (hk : Keeps D w w') (hD : ∀ k, P k → ¬ D k) : ValsC P w' xs l := h.move hk.size fun k hP hlt => ⟨hP, hk.block k hlt (hD k hP)⟩
theorem ValsC.snoc {P : Nat → Prop} {w : World} {cs : List Value} {x : Val} (hx : ValC P w cs x) : ∀ {l : List Val} {xs : List Value}, ValsC P w xs l → ValsC P w (xs ++ cs) (l ++ [x])
  | [], xs, h => by
    unfold ValsC at h
    subst h
    exact ⟨cs, [], by simp, hx, by unfold ValsC; rfl⟩
  | y :: r, xs, h => by
    unfold ValsC at h
    obtain ⟨c0, rest, rfl, h1, h2⟩ := h
    exact ⟨c0, rest ++ cs, by simp, h1, ValsC.snoc hx h2⟩
theorem ValsC.nil {P : Nat → Prop} {w : World} : ValsC P w [] [] := by unfold ValsC; rfl
theorem ValC.form {P : Nat → Prop} {w : World} {cs : List Value} {x : Val} (h : ValC P w cs x) : ∃ k t n a l c a' l' c' z, cs = [.int .i64 k, .string t, .int .u64 n, .slice a l c, .slice a' l' c', .int .i64 z] := by
  cases x with
  | mk kind text num list keys at' =>
    unfold ValC at h
    obtain ⟨sl, sk', xs, e, h1, h2, -⟩ := h
    obtain ⟨a, c, rfl⟩ := h2.form
    obtain ⟨a', c', rfl⟩ := h1.form
    exact ⟨_, _, _, _, _, _, _, _, _, _, e⟩

/-! ### A list that grows -/
/-- Six cells stored one behind the other. -/
def set6 (w : World) (b o : Nat) (c0 c1 c2 c3 c4 c5 : Value) : World :=
  (((((w.setCell ⟨b, o, none⟩ c0).setCell ⟨b, o + 1, none⟩ c1).setCell ⟨b, o + 2, none⟩ c2).setCell ⟨b, o + 3, none⟩ c3).setCell ⟨b, o + 4, none⟩ c4).setCell ⟨b, o + 5, none⟩ c5
theorem set_at_end {α : Type} (xs : List α) (z : List α) (k : Nat) (v : α) : (xs ++ z).set (xs.length + k) v = xs ++ z.set k v := by
  rw [List.set_append, if_neg (by omega)]; congr 2; omega
theorem own_set6 {w : World} {B g n cap : Nat} {e : TypeId} {xs : List Value} {z0 z1 z2 z3 z4 z5 : Value} (h : w.ownsRow B e 6 (.slice (some ⟨g, 0, none⟩) n cap) n (xs ++ [z0, z1, z2, z3, z4, z5])) (o : Nat) (ho : o = xs.length) (c0 c1 c2 c3 c4 c5 : Value) :
    (set6 w g o c0 c1 c2 c3 c4 c5).ownsRow B e 6 (.slice (some ⟨g, 0, none⟩) n cap) n (xs ++ [c0, c1, c2, c3, c4, c5]) ∧ Keeps (· = g) w (set6 w g o c0 c1 c2 c3 c4 c5) := by
  subst ho
  unfold set6
  have h0 := (h.stored (xs.length + 0) c0).1
  have h1 := (h0.stored (xs.length + 1) c1).1
  have h2 := (h1.stored (xs.length + 2) c2).1
  have h3 := (h2.stored (xs.length + 3) c3).1
  have h4 := (h3.stored (xs.length + 4) c4).1
  have h5 := (h4.stored (xs.length + 5) c5).1
  simp only [set_at_end, List.set_cons_zero, List.set_cons_succ] at h5
  have k0 : Keeps (· = g) w (w.setCell ⟨g, xs.length, none⟩ c0) := Keeps.setCell (D := (· = g)) (Keeps.refl _ w) (q := ⟨g, xs.length, none⟩) (.inr rfl) c0
  have k1 := k0.setCell (q := ⟨g, xs.length + 1, none⟩) (.inr rfl) c1
  have k2 := k1.setCell (q := ⟨g, xs.length + 2, none⟩) (.inr rfl) c2
  have k3 := k2.setCell (q := ⟨g, xs.length + 3, none⟩) (.inr rfl) c3
  have k4 := k3.setCell (q := ⟨g, xs.length + 4, none⟩) (.inr rfl) c4
  exact ⟨h5, k4.setCell (q := ⟨g, xs.length + 5, none⟩) (.inr rfl) c5⟩

/-- A variable in block L that holds a list of the call's own (no block of it below B). -/
structure ListSt (B L : Nat) (E : Nat → Prop) (vs : List Val) (v : Value) (xs : List Value) (w : World) : Prop where
  cell : w.cell? ⟨L, 0, none⟩ = some v
  fz : w.frozen? ⟨L, 0, none⟩ = false
  lt : L < w.heap.size
  own : w.ownsRow B 27 6 v vs.length xs
  vals : ValsC (fun k => B ≤ k ∧ k ≠ L ∧ some k ≠ v.ownBlock ∧ E k) w xs vs
  nil : vs = [] → v = .slice none 0 0
/-- What a list's call may turn. -/
def Dirty (L : Nat) (v : Value) (k : Nat) : Prop := k = L ∨ v.ownBlock = some k
theorem ownsRow_keeps {D : Nat → Prop} {w w' : World} {B : Nat} {e : TypeId} {sz : Nat} {v : Value} {n : Nat} {xs : List Value} (h : w.ownsRow B e sz v n xs) (hk : Keeps D w w') (hD : ∀ k, v.ownBlock = some k → ¬ D k) : w'.ownsRow B e sz v n xs := by
  refine ⟨h.1, ?_⟩
  rcases h.2 with hn | ⟨g, cap, cur, rfl, hb, hg, rest⟩
  · exact .inl hn
  · refine .inr ⟨g, cap, cur, rfl, hb, ?_, rest⟩
    rw [hk.block g (Array.getElem?_eq_some_iff.1 hg).1 (hD g rfl)]
    exact hg
theorem ListSt.keeps {D : Nat → Prop} {B L : Nat} {E : Nat → Prop} {vs : List Val} {v : Value} {xs : List Value} {w w' : World} (h : ListSt B L E vs v xs w) (hk : Keeps D w w') (hL : ¬ D L) (hv : ∀ k, v.ownBlock = some k → ¬ D k) (hP : ∀ k, B ≤ k → k < w.heap.size → k ≠ L → some k ≠ v.ownBlock → E k → ¬ D k) : ListSt B L E vs v xs w' := by
  have e := hk.block L h.lt hL
  exact ⟨(World.cell?_of_block (a := ⟨L, 0, none⟩) e).trans h.cell, (World.frozen?_of_block (a := ⟨L, 0, none⟩) e).trans h.fz, Nat.lt_of_lt_of_le h.lt hk.size, ownsRow_keeps h.own hk hv,
    h.vals.move hk.size fun k hP' hlt => ⟨hP', hk.block k hlt (hP k hP'.1 hlt hP'.2.1 hP'.2.2.1 hP'.2.2.2)⟩, h.nil⟩
theorem ListSt.step {B L : Nat} {E : Nat → Prop} {vs : List Val} {v : Value} {xs : List Value} {w w' : World} (h : ListSt B L E vs v xs w) (hb : Below w.heap.size w w') : ListSt B L E vs v xs w' :=
  h.keeps (D := fun _ => False) (.of_below hb) (fun e => e) (fun _ _ e => e) (fun _ _ _ _ _ _ e => e)
theorem ListSt.weaken {B L : Nat} {E E' : Nat → Prop} {vs : List Val} {v : Value} {xs : List Value} {w : World} (h : ListSt B L E vs v xs w) (hE : ∀ k, k < w.heap.size → E k → E' k) : ListSt B L E' vs v xs w :=
  ⟨h.cell, h.fz, h.lt, h.own, h.vals.move (Nat.le_refl _) fun k hk hlt => ⟨⟨hk.1, hk.2.1, hk.2.2.1, hE k hlt hk.2.2.2⟩, rfl⟩, h.nil⟩
/-- The list's own row is no other block whose first cell is no number. -/
theorem ListSt.row_ne {B L : Nat} {E : Nat → Prop} {vs : List Val} {v : Value} {xs : List Value} {w : World} (h : ListSt B L E vs v xs w) {b : Nat} {u : Value} (hc : w.cell? ⟨b, 0, none⟩ = some u) (hu : ∀ k, u ≠ .int .i64 k) : v.ownBlock ≠ some b := by
  intro e
  have hnil := h.nil
  have hown := h.own
  have hvals := h.vals
  cases vs with
  | nil => rw [hnil rfl] at e; cases e
  | cons x r =>
    unfold ValsC at hvals
    obtain ⟨cs, rest, rfl, hx, -⟩ := hvals
    obtain ⟨k, t, n, a, l, c, a', l', c', z, rfl⟩ := hx.form
    have := hown.cells e 0 (.int .i64 k) rfl
    have e0 : (⟨b, 0, none⟩ : Addr).add 0 = ⟨b, 0, none⟩ := by unfold Addr.add; split <;> simp_all
    rw [e0, hc] at this
    injection this with this
    exact hu k this
theorem ListSt.row_ne' {B L : Nat} {E : Nat → Prop} {vs : List Val} {v : Value} {xs : List Value} {w : World} (h : ListSt B L E vs v xs w) {b : Nat} {u : Value} (hc : w.cell? ⟨b, 1, none⟩ = some u) (hu : ∀ k, u ≠ .string k) : v.ownBlock ≠ some b := by
  intro e
  have hnil := h.nil
  have hown := h.own
  have hvals := h.vals
  cases vs with
  | nil => rw [hnil rfl] at e; cases e
  | cons x r =>
    unfold ValsC at hvals
    obtain ⟨cs, rest, rfl, hx, -⟩ := hvals
    obtain ⟨k, t, n, a, l, c, a', l', c', z, rfl⟩ := hx.form
    have := hown.cells e 1 (.string t) rfl
    have e0 : (⟨b, 0, none⟩ : Addr).add 1 = ⟨b, 1, none⟩ := by unfold Addr.add; split <;> simp_all
    rw [e0, hc] at this
    injection this with this
    exact hu t this
theorem ListSt.slice {B L : Nat} {E : Nat → Prop} {vs : List Val} {v : Value} {xs : List Value} {w : World} (h : ListSt B L E vs v xs w) : ∃ a c, v = .slice a vs.length c := by
  rcases h.own.2 with ⟨rfl, h0⟩ | ⟨g, cap, cur, rfl, -⟩
  · exact ⟨none, 0, by rw [h0]⟩
  · exact ⟨_, cap, rfl⟩
end Go.Proofs.YtajmlkephefapaaGreatDoor
