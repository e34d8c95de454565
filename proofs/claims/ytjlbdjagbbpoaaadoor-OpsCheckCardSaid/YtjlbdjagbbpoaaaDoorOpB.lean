/-
  Package ops by contracts, first part: rows of ops in memory; Pushes, Grows; the document's Count; what makes the document's ops of the program's.
-/
import Derived.Test.YtjlbdjagbbpoaaaDoorHdE
namespace Go.Proofs.YtjlbdjagbbpoaaaDoor
open Go.RowKit Go.Extern.Stop Go.Stop Go.Extern

/-- A row of ops. -/
def OpsAt (w : World) (v : Value) (c : List (Int × Int)) : Prop :=
  (∃ a cap, v = .slice a 0 cap ∧ c = []) ∨ ∃ b off cap, v = .slice (some ⟨b, off, none⟩) c.length cap ∧ b < w.heap.size ∧
    ∀ i o, c[i]? = some o → w.cell? ⟨b, off + i * 2, none⟩ = some (.int .i64 o.1) ∧ w.cell? ⟨b, off + i * 2 + 1, none⟩ = some (.int .i64 o.2)
theorem OpsAt.form {w : World} {v : Value} {c : List (Int × Int)} (h : OpsAt w v c) : ∃ a cap, v = .slice a c.length cap := by
  rcases h with ⟨a, cap, rfl, rfl⟩ | ⟨b, off, cap, rfl, -⟩
  · exact ⟨a, cap, rfl⟩
  · exact ⟨_, cap, rfl⟩
theorem OpsAt.at {w w' : World} {a : Option Addr} {n cap : Nat} {c : List (Int × Int)} (h : OpsAt w (.slice a n cap) c) {i : Nat} {o : Int × Int} (hi : c[i]? = some o) (hb : Below w.heap.size w w') :
    ∃ b off, a = some ⟨b, off, none⟩ ∧ w'.cell? ⟨b, off + i * 2, none⟩ = some (.int .i64 o.1) ∧ w'.cell? ⟨b, off + i * 2 + 1, none⟩ = some (.int .i64 o.2) := by
  rcases h with ⟨a, cap, -, rfl⟩ | ⟨b, off, cap, e, hlt, hc⟩
  · simp at hi
  · injection e with e
    obtain ⟨h0, h1⟩ := hc i o hi
    exact ⟨b, off, e, (hb.cell (p := ⟨b, off + i * 2, none⟩) hlt).trans h0, (hb.cell (p := ⟨b, off + i * 2 + 1, none⟩) hlt).trans h1⟩
theorem OpsAt.step {w w' : World} {v : Value} {c : List (Int × Int)} (h : OpsAt w v c) (hb : Below w.heap.size w w') : OpsAt w' v c := by
  rcases h with h | ⟨b, off, cap, e, hlt, hc⟩
  · exact .inl h
  · exact .inr ⟨b, off, cap, e, Nat.lt_of_lt_of_le hlt hb.size, fun i o hi => ⟨(hb.cell (p := ⟨b, off + i * 2, none⟩) hlt).trans (hc i o hi).1, (hb.cell (p := ⟨b, off + i * 2 + 1, none⟩) hlt).trans (hc i o hi).2⟩⟩
theorem countI_take {c : List (Int × Int)} {i : Nat} {o : Int × Int} (h : c[i]? = some o) (k : Int) : countI (c.take (i + 1)) k = countI (c.take i) k + if o.1 = k then 1 else 0 := by
  rw [List.take_add_one, h, Option.toList_some, countI_append, countI_cons]
  rfl
/-- On the way through a row, counting. -/
def CountR (w : World) (c : List (Int × Int)) (f : Nat → Int) (g : Nat) (u n : Value) (wr : World) : Prop :=
  ∃ (i : Nat) (x : Int), i ≤ c.length ∧ g = c.length - i ∧ u = .int .i64 i ∧ n = .int .i64 x ∧ x = f i ∧ Below w.heap.size w wr
theorem countI_take_le (c : List (Int × Int)) (i : Nat) (k : Int) : countI (c.take i) k ≤ c.length := Nat.le_trans (countI_le _ _) (by rw [List.length_take]; omega)

set_option maxRecDepth 100000 in
set_option maxHeartbeats 2000000 in
theorem pushes_any (c : List (Int × Int)) (v : Value) (w : World) (hv : OpsAt w v c) (hl : c.length ≤ 10000) :
    Calls Tryd.prog 33 #[v] w fun e w' => e = .returned (.int .i64 (countI c 3 : Nat)) ∧ Below w.heap.size w w' := by
  obtain ⟨a, cap, rfl⟩ := hv.form
  have HV := Lib.hid hv
  have H0 : Hid (CountR w c (fun i => (countI (c.take i) 3 : Nat)) c.length (.int .i64 0) (.int .i64 0) w) := Lib.hid ⟨0, 0, Nat.zero_le _, by omega, rfl, rfl, rfl, Below.refl _ _⟩
  clear hv
  go_enter Tryd.func33, Tryd.ntmps33
  go_wp2_with fail
  go_loopg [8, 3] c.length (fun g u n wr => CountR w c (fun i => (countI (c.take i) 3 : Nat)) g u n wr)
  case atStart => exact H0.out
  case round =>
    obtain ⟨i, x, hi, hgi, rfl, rfl, hx, hb⟩ := hrel
    simp only at hx
    have HX := Lib.hid hx
    have HB := Lib.hid hb
    by_cases hlt : i < c.length
    · obtain ⟨o, ho⟩ : ∃ o, c[i]? = some o := ⟨_, List.getElem?_eq_getElem hlt⟩
      obtain ⟨b, off, rfl, c0, c1⟩ := HV.out.at ho hb
      have HE := Lib.hid (countI_take ho 3)
      have hle := countI_take_le c i 3
      have hx0 : -10000 ≤ x ∧ x ≤ 10000 := by omega
      clear hle hx
      have HB1 := Lib.hid (hb.trans ((below_new wr (.cells #[.int .i64 o.1, .int .i64 o.2] 60)).mono hb.size))
      obtain ⟨o1, o2⟩ := o
      clear ho hb HB
      by_cases hk : o1 = 3
      · subst hk
        rw [if_pos rfl] at HE
        go_wp2_with fail
        go_roundg (c.length - (i + 1))
        case measure => omega
        case rel => exact ⟨i + 1, x + 1, by omega, rfl, by go_num, by first | rfl | go_num, by have := HX.out; have := HE.out; simp only; omega, HB1.out⟩
      · have q : (o1 == 3) = false := by simpa using hk
        rw [if_neg hk] at HE
        clear hk
        go_wp2_with fail
        go_roundg (c.length - (i + 1))
        case measure => omega
        case rel => exact ⟨i + 1, x, by omega, rfl, by go_num, by first | rfl | go_num, by have := HX.out; have := HE.out; simp only; omega, HB1.out⟩
    · obtain rfl : i = c.length := by omega
      clear hb
      rw [List.take_length] at hx
      have HX2 := Lib.hid hx
      clear hx
      go_wp2_with fail
      go_ret
      exact ⟨by rw [← HX2.out]; rfl, HB.out⟩
set_option maxRecDepth 100000 in
set_option maxHeartbeats 2000000 in
theorem rcount_any (c : List (Int × Int)) (v : Value) (k : Int) (w : World) (hv : OpsAt w v c) (hl : c.length ≤ 10000) :
    Calls Tryd.prog 31 #[v, .int .i64 k] w fun e w' => e = .returned (.int .i64 (countI c k : Nat)) ∧ Below w.heap.size w w' := by
  obtain ⟨a, cap, rfl⟩ := hv.form
  have HV := Lib.hid hv
  have H0 : Hid (CountR w c (fun i => (countI (c.take i) k : Nat)) c.length (.int .i64 0) (.int .i64 0) w) := Lib.hid ⟨0, 0, Nat.zero_le _, by omega, rfl, rfl, rfl, Below.refl _ _⟩
  clear hv
  go_enter Tryd.func31, Tryd.ntmps31
  go_wp2_with fail
  go_loopg [10, 5] c.length (fun g u n wr => CountR w c (fun i => (countI (c.take i) k : Nat)) g u n wr)
  case atStart => exact H0.out
  case round =>
    obtain ⟨i, x, hi, hgi, rfl, rfl, hx, hb⟩ := hrel
    simp only at hx
    have HX := Lib.hid hx
    have HB := Lib.hid hb
    by_cases hlt : i < c.length
    · obtain ⟨o, ho⟩ : ∃ o, c[i]? = some o := ⟨_, List.getElem?_eq_getElem hlt⟩
      obtain ⟨b, off, rfl, c0, c1⟩ := HV.out.at ho hb
      have HE := Lib.hid (countI_take ho k)
      have hle := countI_take_le c i k
      have hx0 : -10000 ≤ x ∧ x ≤ 10000 := by omega
      clear hle hx
      have HB1 := Lib.hid (hb.trans ((below_new wr (.cells #[.int .i64 o.1, .int .i64 o.2] 71)).mono hb.size))
      obtain ⟨o1, o2⟩ := o
      clear ho hb HB
      by_cases hk : o1 = k
      · subst hk
        rw [if_pos rfl] at HE
        go_wp2_with fail
        go_roundg (c.length - (i + 1))
        case measure => omega
        case rel => exact ⟨i + 1, x + 1, by omega, rfl, by go_num, by first | rfl | go_num, by have := HX.out; have := HE.out; simp only; omega, HB1.out⟩
      · have q : (o1 == k) = false := by simpa using hk
        rw [if_neg hk] at HE
        clear hk
        go_wp2_with fail
        go_roundg (c.length - (i + 1))
        case measure => omega
        case rel => exact ⟨i + 1, x, by omega, rfl, by go_num, by first | rfl | go_num, by have := HX.out; have := HE.out; simp only; omega, HB1.out⟩
    · obtain rfl : i = c.length := by omega
      clear hb
      rw [List.take_length] at hx
      have HX2 := Lib.hid hx
      clear hx
      go_wp2_with fail
      go_ret
      exact ⟨by rw [← HX2.out]; rfl, HB.out⟩
set_option maxRecDepth 100000 in
set_option maxHeartbeats 2000000 in
theorem grows_any (c : List (Int × Int)) (v : Value) (w : World) (hv : OpsAt w v c) (hl : c.length ≤ 10000) :
    Calls Tryd.prog 34 #[v] w fun e w' => e = .returned (.int .i64 ((countI c 3 : Nat) - (countI c 1 : Nat))) ∧ Below w.heap.size w w' := by
  obtain ⟨a, cap, rfl⟩ := hv.form
  have HP := Lib.hid (pushes_any c _ w hv hl)
  have HV := Lib.hid hv
  obtain ⟨m, hm⟩ : ∃ m, m = countI c 3 := ⟨_, rfl⟩
  have hml : m ≤ 10000 := by rw [hm]; exact Nat.le_trans (countI_le _ _) hl
  rw [← hm] at HP ⊢
  clear hv hm
  go_enter Tryd.func34, Tryd.ntmps34
  go_wp2_with fail
  refine HP.out.mono ?_
  rintro e w1 ⟨rfl, b1⟩
  have H0 : Hid (CountR w c (fun i => (m : Int) - (countI (c.take i) 1 : Nat)) c.length (.int .i64 0) (.int .i64 m) w1) := Lib.hid ⟨0, m, Nat.zero_le _, by omega, rfl, rfl, (Int.sub_zero _).symm, b1⟩
  clear b1 HP
  go_wp2_with fail
  go_loopg [10, 3] c.length (fun g u n wr => CountR w c (fun i => (m : Int) - (countI (c.take i) 1 : Nat)) g u n wr)
  case atStart => exact H0.out
  case round =>
    obtain ⟨i, x, hi, hgi, rfl, rfl, hx, hb⟩ := hrel
    simp only at hx
    have HX := Lib.hid hx
    have HB := Lib.hid hb
    by_cases hlt : i < c.length
    · obtain ⟨o, ho⟩ : ∃ o, c[i]? = some o := ⟨_, List.getElem?_eq_getElem hlt⟩
      obtain ⟨b, off, rfl, c0, c1⟩ := HV.out.at ho hb
      have HE := Lib.hid (countI_take ho 1)
      have hle := countI_take_le c i 1
      have hx0 : -10000 ≤ x ∧ x ≤ 10000 := by omega
      clear hle hx
      have HB1 := Lib.hid (hb.trans ((below_new wr (.cells #[.int .i64 o.1, .int .i64 o.2] 60)).mono hb.size))
      obtain ⟨o1, o2⟩ := o
      clear ho hb HB
      by_cases hk : o1 = 1
      · subst hk
        rw [if_pos rfl] at HE
        go_wp2_with fail
        go_roundg (c.length - (i + 1))
        case measure => omega
        case rel => exact ⟨i + 1, x - 1, by omega, rfl, by go_num, by first | rfl | go_num, by have := HX.out; have := HE.out; simp only; omega, HB1.out⟩
      · have q : (o1 == 1) = false := by simpa using hk
        rw [if_neg hk] at HE
        clear hk
        go_wp2_with fail
        go_roundg (c.length - (i + 1))
        case measure => omega
        case rel => exact ⟨i + 1, x, by omega, rfl, by go_num, rfl, by have := HX.out; have := HE.out; simp only; omega, HB1.out⟩
    · obtain rfl : i = c.length := by omega
      clear hb
      rw [List.take_length] at hx
      have HX2 := Lib.hid hx
      clear hx
      go_wp2_with fail
      go_ret
      exact ⟨by rw [← HX2.out]; rfl, HB.out⟩

/-! ### The document's ops -/
def opCells (c : List (Int × Int)) : List Value := c.flatMap fun o => [.int .i64 o.1, .int .i64 o.2]
theorem opCells_length (c : List (Int × Int)) : (opCells c).length = c.length * 2 := by unfold opCells; rw [List.length_flatMap]; simp; induction c with | nil => rfl | cons a c ih => simp [ih]; omega
theorem opCells_append (a b : List (Int × Int)) : opCells (a ++ b) = opCells a ++ opCells b := by unfold opCells; rw [List.flatMap_append]
theorem opCells_one (c : List (Int × Int)) : ∀ u ∈ opCells c, u.oneCell' = true := by
  intro u hu
  obtain ⟨o, -, ho⟩ := List.mem_flatMap.1 hu
  simp at ho
  rcases ho with rfl | rfl <;> rfl
theorem opCells_at : ∀ {c : List (Int × Int)} {i : Nat} {o : Int × Int}, c[i]? = some o → (opCells c)[i * 2]? = some (.int .i64 o.1) ∧ (opCells c)[i * 2 + 1]? = some (.int .i64 o.2)
  | [], _, _, h => by simp at h
  | a :: c, 0, o, h => by
    obtain rfl : a = o := by simpa using h
    exact ⟨rfl, rfl⟩
  | a :: c, i + 1, o, h => by
    have := opCells_at (c := c) (i := i) (o := o) (by simpa using h)
    have e : opCells (a :: c) = .int .i64 a.1 :: .int .i64 a.2 :: opCells c := rfl
    rw [e, show (i + 1) * 2 = i * 2 + 1 + 1 by omega]
    exact this
theorem OpsAt.own {w : World} {base : Nat} {T : TypeId} {v : Value} {n : Nat} {c : List (Int × Int)} (h : w.ownsRow base T 2 v n (opCells c)) (hn : n = c.length) : OpsAt w v c := by
  subst hn
  have hc := h
  obtain ⟨h1, h2⟩ := h
  rcases h2 with ⟨rfl, h3⟩ | ⟨g, cap, cur, rfl, hg, hh, h3, h4, h5, h6⟩
  · exact .inl ⟨none, 0, rfl, List.eq_nil_of_length_eq_zero h3⟩
  · refine .inr ⟨g, 0, cap, rfl, (Array.getElem?_eq_some_iff.1 hh).1, fun i o ho => ?_⟩
    obtain ⟨k0, k1⟩ := opCells_at ho
    have e0 : ∀ j, (⟨g, 0, none⟩ : Addr).add j = ⟨g, 0 + j, none⟩ := fun j => by unfold Addr.add; split <;> simp_all
    have a0 := hc.cells (g := g) rfl _ _ k0
    have a1 := hc.cells (g := g) rfl _ _ k1
    rw [e0] at a0 a1
    exact ⟨a0, by rw [Nat.add_assoc]; exact a1⟩
theorem infoROp : (Tryd.prog.info? 71).map (fun i => (i.zero, i.size, i.bytes)) = some (some (.agg #[.int .i64 0, .int .i64 0]), 2, 16) := by kernel_rfl
def ToR (w : World) (c : List (Int × Int)) (g : Nat) (u n : Value) (wr : World) : Prop :=
  ∃ i : Nat, i ≤ c.length ∧ g = c.length - i ∧ u = .int .i64 i ∧ wr.ownsRow w.heap.size 71 2 n i (opCells (c.take i)) ∧ Below w.heap.size w wr
set_option maxRecDepth 100000 in
set_option maxHeartbeats 2000000 in
theorem to_any (c : List (Int × Int)) (v : Value) (w : World) (hv : OpsAt w v c) (hl : c.length ≤ 10000) :
    Calls Tryd.prog 30 #[v] w fun e w' => ∃ u, e = .returned u ∧ w'.ownsRow w.heap.size 71 2 u c.length (opCells c) ∧ Below w.heap.size w w' := by
  obtain ⟨a, cap, rfl⟩ := hv.form
  obtain ⟨i0, hi, hz0, hz1, hz2⟩ := info_parts infoROp
  have HV := Lib.hid hv
  have H0 : Hid (ToR w c c.length (.int .i64 0) (.slice none 0 0) w) := Lib.hid ⟨0, Nat.zero_le _, by omega, rfl, World.ownsRow_nil _ _ _ _, Below.refl _ _⟩
  clear hv
  go_enter Tryd.func30, Tryd.ntmps30
  go_wp2_with fail
  go_loopg [8, 3] c.length (fun g u n wr => ToR w c g u n wr)
  case atStart => exact H0.out
  case round =>
    obtain ⟨i, hil, hgi, rfl, hown, hb⟩ := hrel
    have HB := Lib.hid hb
    have HO := Lib.hid hown
    by_cases hlt : i < c.length
    · obtain ⟨o, ho⟩ : ∃ o, c[i]? = some o := ⟨_, List.getElem?_eq_getElem hlt⟩
      obtain ⟨b, off, rfl, c0, c1⟩ := HV.out.at ho hb
      have HE : Hid (opCells (c.take (i + 1)) = opCells (c.take i) ++ opCells [o]) := Lib.hid (by rw [List.take_add_one, ho, Option.toList_some, opCells_append])
      have hsz := hb.size
      have HO2 : Hid (((wr.alloc (.cells #[.int .i64 o.1, .int .i64 o.2] 60)).alloc (.cells #[.int .i64 o.1, .int .i64 o.2] 71)).ownsRow w.heap.size 71 2 u3 i (opCells (c.take i))) := Lib.hid ((hown.alloc _).alloc _)
      have HB2 : Hid (Below w.heap.size w ((wr.alloc (.cells #[.int .i64 o.1, .int .i64 o.2] 60)).alloc (.cells #[.int .i64 o.1, .int .i64 o.2] 71))) := Lib.hid ((hb.alloc hb.size _).alloc (by simp; omega) _)
      have HN : Hid (((wr.alloc (.cells #[.int .i64 o.1, .int .i64 o.2] 60)).alloc (.cells #[.int .i64 o.1, .int .i64 o.2] 71)).heap[wr.heap.size + 1]? = some (.cells #[.int .i64 o.1, .int .i64 o.2] 71 (0, 0))) := Lib.hid (by
        have := heap_alloc_new (wr.alloc (.cells #[.int .i64 o.1, .int .i64 o.2] 60)) (.cells #[.int .i64 o.1, .int .i64 o.2] 71)
        rwa [World.size_alloc] at this)
      obtain ⟨o1, o2⟩ := o
      clear ho hb hown HB HO
      go_wp2_with (at_builtin; refine wpList_append_own _ rfl _ _ 47 rfl w.heap.size 71 i0 (.agg #[.int .i64 0, .int .i64 0]) 2 16 Tryd.underlying47 hi hz0 hz1 hz2 rfl (by decide) _ _ _ rfl HO2.out ⟨wr.heap.size + 1, 0, none⟩ 1 1 (opCells [(o1, o2)]) rfl rfl ?_ (opCells_one _) ?_ ?_ ?_ ?_)
      · intro j u hu
        first
        | exact hu
        | (have e0 : (⟨wr.heap.size + 1, 0, none⟩ : Addr).add j = ⟨wr.heap.size + 1, j, none⟩ := by unfold Addr.add; split <;> simp_all
           rw [e0, Lib.cell_of_heap HN.out, List.getElem?_toArray]
           exact hu)
      · unfold maxLen; omega
      · omega
      · (try simp only [World.size_alloc]); omega
      intro v4 w4 hown4 hgrow4 _
      have hB4 : Below w.heap.size w w4 := HB2.out.grown hgrow4 (by simp; omega) (fun k' e => (HO2.out.lt k' e).1)
      rw [← HE.out] at hown4
      have HN4 : Hid (ToR w c (c.length - (i + 1)) (.int .i64 ((i : Int) + 1)) v4 w4) := Lib.hid ⟨i + 1, by omega, rfl, by go_num, hown4, hB4⟩
      clear hown4 hgrow4 hB4 HO2 HB2 HN
      go_wp2_with fail
      go_roundg (c.length - (i + 1))
      case measure => omega
      case rel => exact HN4.out
    · obtain rfl : i = c.length := by omega
      rw [List.take_length] at HO
      clear hb hown
      go_wp2_with fail
      go_ret
      exact ⟨_, rfl, HO.out, HB.out⟩
end Go.Proofs.YtjlbdjagbbpoaaaDoor
