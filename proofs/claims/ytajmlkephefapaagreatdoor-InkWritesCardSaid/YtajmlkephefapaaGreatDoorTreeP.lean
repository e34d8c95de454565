/-
  Package tree by contracts, fourteenth part: how many values, how deep.
-/
import Derived.Test.YtajmlkephefapaaGreatDoorTreeO
namespace Go.Proofs.YtajmlkephefapaaGreatDoor
open Go.RowKit Go.Extern.Stop Go.Stop Go.Extern Go.WideMaps

theorem w64 (n : Int) (h : -9223372036854775808 ≤ n ∧ n ≤ 9223372036854775807) : wrap64 n = n := by unfold wrap64; omega
/-! ### Counting -/
mutual
def vsize : Val → Nat
  | .mk k _ _ list _ _ => 1 + if k = 5 ∨ k = 6 then lsize list else 0
def lsize : List Val → Nat
  | [] => 0
  | x :: r => vsize x + lsize r
end
mutual
def vdeep : Val → Nat
  | .mk k _ _ list _ _ => if k = 5 ∨ k = 6 then ldeep list + 1 else 0
def ldeep : List Val → Nat
  | [] => 0
  | x :: r => max (vdeep x) (ldeep r)
end
theorem lsize_append : ∀ (l r : List Val), lsize (l ++ r) = lsize l + lsize r
  | [], r => by simp [lsize]
  | x :: l, r => by
    rw [List.cons_append, lsize, lsize, lsize_append l r]
    omega
theorem ldeep_append : ∀ (l r : List Val), ldeep (l ++ r) = max (ldeep l) (ldeep r)
  | [], r => by simp [ldeep]
  | x :: l, r => by
    rw [List.cons_append, ldeep, ldeep, ldeep_append l r]
    omega
theorem lsize_take {l : List Val} {i : Nat} {x : Val} (h : l[i]? = some x) : lsize (l.take (i + 1)) = lsize (l.take i) + vsize x := by
  have hi := (List.getElem?_eq_some_iff.1 h).1
  rw [List.take_add_one, h]
  simp [lsize_append, lsize]
theorem ldeep_take {l : List Val} {i : Nat} {x : Val} (h : l[i]? = some x) : ldeep (l.take (i + 1)) = max (ldeep (l.take i)) (vdeep x) := by
  rw [List.take_add_one, h]
  simp [ldeep_append, ldeep]
theorem lsize_le {l : List Val} (i : Nat) : lsize (l.take i) ≤ lsize l := by
  have := lsize_append (l.take i) (l.drop i)
  rw [List.take_append_drop] at this
  omega
theorem ldeep_le {l : List Val} (i : Nat) : ldeep (l.take i) ≤ ldeep l := by
  have := ldeep_append (l.take i) (l.drop i)
  rw [List.take_append_drop] at this
  omega

theorem vsize_pos (x : Val) : 1 ≤ vsize x := by cases x; unfold vsize; omega
theorem length_le_lsize : ∀ l : List Val, l.length ≤ lsize l
  | [] => Nat.zero_le _
  | x :: r => by
    have := vsize_pos x
    have := length_le_lsize r
    rw [lsize, List.length_cons]
    omega
mutual
theorem vdeep_size : ∀ x : Val, vdeep x ≤ vsize x
  | .mk k _ _ list _ _ => by
    have := ldeep_size list
    unfold vdeep vsize
    split <;> omega
theorem ldeep_size : ∀ l : List Val, ldeep l ≤ lsize l
  | [] => by simp [ldeep]
  | x :: r => by
    have := vdeep_size x
    have := ldeep_size r
    rw [ldeep, lsize]
    omega
end
/-! ### An item of a row -/
/-- A value's own six cells. -/
theorem ValsC.at' {P : Nat → Prop} {w : World} : ∀ {l : List Val} {xs : List Value} {i : Nat} {x : Val}, ValsC P w xs l → l[i]? = some x → ∃ c0 c1 c2 c3 c4 c5, ValC P w [c0, c1, c2, c3, c4, c5] x ∧
    xs[6 * i]? = some c0 ∧ xs[6 * i + 1]? = some c1 ∧ xs[6 * i + 2]? = some c2 ∧ xs[6 * i + 3]? = some c3 ∧ xs[6 * i + 4]? = some c4 ∧ xs[6 * i + 5]? = some c5
  | [], _, _, _, _, h => by simp at h
  | y :: r, xs, i, x, hv, h => by
    unfold ValsC at hv
    obtain ⟨cs, rest, rfl, hy, hr⟩ := hv
    obtain ⟨k, t, n, a, l, c, a', l', c', z, rfl⟩ := hy.form
    cases i with
    | zero =>
      have e : y = x := by simpa using h
      subst e
      exact ⟨_, _, _, _, _, _, hy, rfl, rfl, rfl, rfl, rfl, rfl⟩
    | succ i =>
      obtain ⟨c0, c1, c2, c3, c4, c5, hx, h0, h1, h2, h3, h4, h5⟩ := ValsC.at' hr (i := i) (x := x) (by simpa using h)
      have go : ∀ j, ([.int .i64 k, .string t, .int .u64 n, .slice a l c, .slice a' l' c', .int .i64 z] ++ rest : List Value)[6 * (i + 1) + j]? = rest[6 * i + j]? := fun j => by
        rw [List.getElem?_append_right (by simp; omega)]
        congr 1
        simp
        omega
      exact ⟨c0, c1, c2, c3, c4, c5, hx, (go 0).trans h0, (go 1).trans h1, (go 2).trans h2, (go 3).trans h3, (go 4).trans h4, (go 5).trans h5⟩
theorem sizeOf_mem {l : List Val} {i : Nat} {x : Val} (h : l[i]? = some x) : SizeOf.sizeOf x < SizeOf.sizeOf l := List.sizeOf_lt_of_mem (List.mem_of_getElem? h)

def SizeRel (w : World) (list : List Val) (g : Nat) (u v : Value) (wr : World) : Prop :=
  ∃ i : Nat, i ≤ list.length ∧ g = list.length - i ∧ v = .int .i64 i ∧ u = .int .i64 (1 + lsize (list.take i) : Nat) ∧ Below w.heap.size w wr
set_option maxRecDepth 100000 in
set_option maxHeartbeats 4000000 in
theorem size_go (P : Nat → Prop) : ∀ (m : Nat) (x : Val), SizeOf.sizeOf x < m → vsize x ≤ 1000000000 → ∀ (w : World) (k : Int) (t : ByteArray) (n : Int) (a : Option Addr) (l c : Nat) (a' : Option Addr) (l' c' : Nat) (z : Int),
    ValC P w [.int .i64 k, .string t, .int .u64 n, .slice a l c, .slice a' l' c', .int .i64 z] x →
    Calls Tryz.prog 13 #[.agg #[.int .i64 k, .string t, .int .u64 n, .slice a l c, .slice a' l' c', .int .i64 z]] w fun e w' => e = .returned (.int .i64 (vsize x)) ∧ Below w.heap.size w w' := by
  intro m
  induction m with
  | zero => intro x hx; exact absurd hx (Nat.not_lt_zero _)
  | succ m ih =>
    intro x hx hsz w k t n a l c a' l' c' z hv
    have IH := Lib.hid ih
    clear ih
    cases x with
    | mk k1 t1 n1 list keys z1 =>
      unfold ValC at hv
      obtain ⟨sl, sk', xs, e, hk, hl, hvs⟩ := hv
      injection e with e0 e
      injection e0 with _ e0
      subst e0
      injection e with _ e
      injection e with _ e
      injection e with e1 e
      subst e1
      have HROW := Lib.hid hl
      have HVS := Lib.hid hvs
      obtain ⟨a0, c0, es⟩ := hl.form
      injection es with ea el ec
      subst ea; subst el; subst ec
      clear hk hl hvs e
      simp only [Val.mk.sizeOf_spec] at hx
      have HH := Lib.hid (fun w => holds_any k t n a list.length c a' l' c' z w)
      unfold vsize at hsz ⊢
      have HX := Lib.hid hx
      clear hx
      by_cases ho : k = 5 ∨ k = 6
      · rw [decide_eq_true ho] at HH
        rw [if_pos ho] at hsz ⊢
        have HSZ := Lib.hid hsz
        clear hsz ho
        go_enter Tryz.func13, Tryz.ntmps13
        go_wp2_with fail
        refine (HH.out _).mono ?_
        rintro e w1 ⟨rfl, b1⟩
        have hbw := (sbelow_new w (.cells #[.int .i64 k, .string t, .int .u64 n, .slice a list.length c, .slice a' l' c', .int .i64 z] 27)).trans (b1.mono (sbelow_new w _).size)
        have h6 : SixAt (w.alloc (.cells #[.int .i64 k, .string t, .int .u64 n, .slice a list.length c, .slice a' l' c', .int .i64 z] 27)) w.heap.size _ _ _ _ _ _ := heap_alloc_new w _
        obtain ⟨-, -, -, s3, -, -⟩ := (h6.step b1).cells
        have H1 : Hid (SizeRel w list list.length (.int .i64 1) (.int .i64 0) w1) := Lib.hid ⟨0, Nat.zero_le _, by omega, rfl, by simp [lsize], hbw⟩
        clear b1 h6 hbw
        go_wp2_with fail
        go_loopg [3, 11] list.length (fun g u v wr => SizeRel w list g u v wr)
        case atStart => exact H1.out
        case round =>
          obtain ⟨i, hi, hgk, rfl, rfl, hbel⟩ := hrel
          by_cases hlt : i < list.length
          · obtain ⟨x, hx⟩ : ∃ x, list[i]? = some x := ⟨_, List.getElem?_eq_getElem hlt⟩
            obtain ⟨d0, d1, d2, d3, d4, d5, hvx, e0, e1, e2, e3, e4, e5⟩ := ValsC.at' HVS.out hx
            obtain ⟨b, o, rfl, hc⟩ : ∃ b o, a = some ⟨b, o, none⟩ ∧ b < w.heap.size ∧ ∀ j u, xs[j]? = some u → w.cell? ⟨b, o + j, none⟩ = some u := by
              rcases HROW.out with ⟨h0, -⟩ | ⟨b, o, c, e, -, hlt, hc⟩
              · omega
              · injection e with e; exact ⟨b, o, e, hlt, hc⟩
            obtain ⟨k2, t2, n2, a2, l2, c2, a3, l3, c3, z2, ed⟩ := hvx.form
            simp only [List.cons.injEq, and_true] at ed
            obtain ⟨rfl, rfl, rfl, rfl, rfl, rfl⟩ := ed
            have hj : ∀ j u, xs[6 * i + j]? = some u → wr.cell? ⟨b, o + i * 6 + j, none⟩ = some u := fun j u hu => by
              rw [show o + i * 6 + j = o + (6 * i + j) by omega]
              exact (hbel.cell (p := ⟨b, _, none⟩) hc.1).trans (hc.2 _ _ hu)
            have f0 := hj 0 _ e0
            rw [Nat.add_zero] at f0
            have f1 := hj 1 _ e1
            have f2 := hj 2 _ e2
            have f3 := hj 3 _ e3
            have f4 := hj 4 _ e4
            have f5 := hj 5 _ e5
            have hst := lsize_take hx
            have hle := lsize_le (l := list) (i + 1)
            have hsx : SizeOf.sizeOf x < m := by have := sizeOf_mem hx; have := HX.out; omega
            have hvs : vsize x ≤ 1000000000 := by have := HSZ.out; omega
            have bn := sbelow_new wr (.cells #[.int .i64 k2, .string t2, .int .u64 n2, .slice a2 l2 c2, .slice a3 l3 c3, .int .i64 z2] 27)
            have HC := Lib.hid (IH.out x hsx hvs _ _ _ _ _ _ _ _ _ _ _ (hvx.step (hbel.trans (bn.mono hbel.size))))
            have HBN := Lib.hid (hbel.trans (bn.mono hbel.size))
            have HST := Lib.hid hst
            have hub : 1 + lsize (list.take i) + vsize x ≤ 1000000000 := by have := HSZ.out; omega
            have HUB := Lib.hid hub
            clear e0 e1 e2 e3 e4 e5 hc hx hvx hj hst hle hsx hvs bn hub
            generalize lsize (list.take i) = p at *
            generalize hvz : vsize x = y at *
            have HVZ := Lib.hid hvz
            clear hvz
            go_wp2_with fail
            refine HC.out.mono ?_
            rintro e w4 ⟨rfl, b4⟩
            go_wp2_with fail
            go_roundg (list.length - (i + 1))
            case measure => omega
            case rel =>
              have h1 := HUB.out
              have h2 := HST.out
              have h3 := HVZ.out
              have h4 := HSZ.out
              have h5 := length_le_lsize list
              refine ⟨i + 1, by omega, rfl, ?_, ?_, HBN.out.trans (b4.mono HBN.out.size)⟩
              · rw [w64 _ (by omega)]
                rfl
              · rw [h2, w64 _ (by omega)]
                congr 1
                omega
          · obtain rfl : i = list.length := by omega
            rw [List.take_length]
            go_wp2_with fail
            go_ret
            exact ⟨rfl, hbel⟩
      · rw [decide_eq_false ho] at HH
        rw [if_neg ho] at hsz ⊢
        clear ho
        go_enter Tryz.func13, Tryz.ntmps13
        go_wp2_with fail
        refine (HH.out _).mono ?_
        rintro e w1 ⟨rfl, b1⟩
        go_wp2_with fail
        go_ret
        exact ⟨rfl, (sbelow_new _ _).trans (b1.mono (sbelow_new w _).size)⟩
def DeepRel (w : World) (list : List Val) (g : Nat) (u v : Value) (wr : World) : Prop :=
  ∃ i : Nat, i ≤ list.length ∧ g = list.length - i ∧ v = .int .i64 i ∧ u = .int .i64 (ldeep (list.take i) : Nat) ∧ Below w.heap.size w wr
set_option maxRecDepth 100000 in
set_option maxHeartbeats 4000000 in
theorem deep_go (P : Nat → Prop) : ∀ (m : Nat) (x : Val), SizeOf.sizeOf x < m → vsize x ≤ 1000000000 → ∀ (w : World) (k : Int) (t : ByteArray) (n : Int) (a : Option Addr) (l c : Nat) (a' : Option Addr) (l' c' : Nat) (z : Int),
    ValC P w [.int .i64 k, .string t, .int .u64 n, .slice a l c, .slice a' l' c', .int .i64 z] x →
    Calls Tryz.prog 15 #[.agg #[.int .i64 k, .string t, .int .u64 n, .slice a l c, .slice a' l' c', .int .i64 z]] w fun e w' => e = .returned (.int .i64 (vdeep x)) ∧ Below w.heap.size w w' := by
  intro m
  induction m with
  | zero => intro x hx; exact absurd hx (Nat.not_lt_zero _)
  | succ m ih =>
    intro x hx hsz w k t n a l c a' l' c' z hv
    have IH := Lib.hid ih
    clear ih
    cases x with
    | mk k1 t1 n1 list keys z1 =>
      unfold ValC at hv
      obtain ⟨sl, sk', xs, e, hk, hl, hvs⟩ := hv
      injection e with e0 e
      injection e0 with _ e0
      subst e0
      injection e with _ e
      injection e with _ e
      injection e with e1 e
      subst e1
      have HROW := Lib.hid hl
      have HVS := Lib.hid hvs
      obtain ⟨a0, c0, es⟩ := hl.form
      injection es with ea el ec
      subst ea; subst el; subst ec
      clear hk hl hvs e
      simp only [Val.mk.sizeOf_spec] at hx
      have HH := Lib.hid (fun w => holds_any k t n a list.length c a' l' c' z w)
      unfold vsize at hsz
      unfold vdeep
      have HX := Lib.hid hx
      clear hx
      by_cases ho : k = 5 ∨ k = 6
      · rw [decide_eq_true ho] at HH
        rw [if_pos ho] at hsz ⊢
        have HSZ := Lib.hid hsz
        clear hsz ho
        go_enter Tryz.func15, Tryz.ntmps15
        go_wp2_with fail
        refine (HH.out _).mono ?_
        rintro e w1 ⟨rfl, b1⟩
        have hbw := (sbelow_new w (.cells #[.int .i64 k, .string t, .int .u64 n, .slice a list.length c, .slice a' l' c', .int .i64 z] 27)).trans (b1.mono (sbelow_new w _).size)
        have h6 : SixAt (w.alloc (.cells #[.int .i64 k, .string t, .int .u64 n, .slice a list.length c, .slice a' l' c', .int .i64 z] 27)) w.heap.size _ _ _ _ _ _ := heap_alloc_new w _
        obtain ⟨-, -, -, s3, -, -⟩ := (h6.step b1).cells
        have H1 : Hid (DeepRel w list list.length (.int .i64 0) (.int .i64 0) w1) := Lib.hid ⟨0, Nat.zero_le _, by omega, rfl, by simp [ldeep], hbw⟩
        clear b1 h6 hbw
        go_wp2_with fail
        go_loopg [3, 12] list.length (fun g u v wr => DeepRel w list g u v wr)
        case atStart => exact H1.out
        case round =>
          obtain ⟨i, hi, hgk, rfl, rfl, hbel⟩ := hrel
          by_cases hlt : i < list.length
          · obtain ⟨x, hx⟩ : ∃ x, list[i]? = some x := ⟨_, List.getElem?_eq_getElem hlt⟩
            obtain ⟨d0, d1, d2, d3, d4, d5, hvx, e0, e1, e2, e3, e4, e5⟩ := ValsC.at' HVS.out hx
            obtain ⟨b, o, rfl, hc⟩ : ∃ b o, a = some ⟨b, o, none⟩ ∧ b < w.heap.size ∧ ∀ j u, xs[j]? = some u → w.cell? ⟨b, o + j, none⟩ = some u := by
              rcases HROW.out with ⟨h0, -⟩ | ⟨b, o, c, e, -, hlt, hc⟩
              · omega
              · injection e with e; exact ⟨b, o, e, hlt, hc⟩
            obtain ⟨k2, t2, n2, a2, l2, c2, a3, l3, c3, z2, ed⟩ := hvx.form
            simp only [List.cons.injEq, and_true] at ed
            obtain ⟨rfl, rfl, rfl, rfl, rfl, rfl⟩ := ed
            have hj : ∀ j u, xs[6 * i + j]? = some u → wr.cell? ⟨b, o + i * 6 + j, none⟩ = some u := fun j u hu => by
              rw [show o + i * 6 + j = o + (6 * i + j) by omega]
              exact (hbel.cell (p := ⟨b, _, none⟩) hc.1).trans (hc.2 _ _ hu)
            have f0 := hj 0 _ e0
            rw [Nat.add_zero] at f0
            have f1 := hj 1 _ e1
            have f2 := hj 2 _ e2
            have f3 := hj 3 _ e3
            have f4 := hj 4 _ e4
            have f5 := hj 5 _ e5
            have hst := ldeep_take hx
            have hle := ldeep_le (l := list) (i + 1)
            have hsx : SizeOf.sizeOf x < m := by have := sizeOf_mem hx; have := HX.out; omega
            have hvs : vsize x ≤ 1000000000 := by have h1 := HSZ.out; have h2 := lsize_take hx; have h3 := lsize_le (l := list) (i + 1); omega
            have bn := sbelow_new wr (.cells #[.int .i64 k2, .string t2, .int .u64 n2, .slice a2 l2 c2, .slice a3 l3 c3, .int .i64 z2] 27)
            have HC := Lib.hid (IH.out x hsx hvs _ _ _ _ _ _ _ _ _ _ _ (hvx.step (hbel.trans (bn.mono hbel.size))))
            have HBN := Lib.hid (hbel.trans (bn.mono hbel.size))
            have HST := Lib.hid hst
            have hub : ldeep list ≤ 1000000000 ∧ ldeep (list.take i) ≤ ldeep list ∧ vdeep x ≤ ldeep list := ⟨by have h1 := HSZ.out; have := ldeep_size list; omega, ldeep_le i, by have := hst; have := hle; omega⟩
            have HUB := Lib.hid hub
            clear e0 e1 e2 e3 e4 e5 hc hx hvx hj hst hle hsx hvs bn hub
            generalize ldeep (list.take i) = p at *
            generalize hvz : vdeep x = y at *
            have HVZ := Lib.hid hvz
            clear hvz
            go_wp2_with fail
            refine HC.out.mono ?_
            rintro e w4 ⟨rfl, b4⟩
            go_wp2_with fail
            go_roundg (list.length - (i + 1))
            case measure => omega
            case rel =>
              have h2 := HST.out
              have h4 := HSZ.out
              have h5 := length_le_lsize list
              refine ⟨i + 1, by omega, rfl, ?_, ?_, HBN.out.trans (b4.mono HBN.out.size)⟩
              · rw [w64 _ (by omega)]
                rfl
              · rw [h2]
                congr 1
                omega
          · obtain rfl : i = list.length := by omega
            rw [List.take_length]
            have hub : ldeep list ≤ 1000000000 := by have h1 := HSZ.out; have := ldeep_size list; omega
            generalize hp : ldeep list = p at *
            have HP := Lib.hid hp
            clear hp
            go_wp2_with fail
            go_ret
            exact ⟨by rw [HP.out]; rfl, hbel⟩
      · rw [decide_eq_false ho] at HH
        rw [if_neg ho] at hsz ⊢
        clear ho
        go_enter Tryz.func15, Tryz.ntmps15
        go_wp2_with fail
        refine (HH.out _).mono ?_
        rintro e w1 ⟨rfl, b1⟩
        go_wp2_with fail
        go_ret
        exact ⟨rfl, (sbelow_new _ _).trans (b1.mono (sbelow_new w _).size)⟩
end Go.Proofs.YtajmlkephefapaaGreatDoor
