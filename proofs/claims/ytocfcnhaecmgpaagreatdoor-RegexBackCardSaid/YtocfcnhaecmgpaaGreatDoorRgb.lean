/-
  Expressions in memory once more, where the words' capacities are told too; such an expression among a law's arguments.
  Package regex's text of an expression, by contract: Join over any row of texts, atomText, bracketed, kidsText, text.
  Package regex's text of an expression, by contract: kidsText, text, Print.
  Package regex's text of an expression, by contract: text, Print.
-/
import Derived.Test.YtocfcnhaecmgpaaGreatDoorLiftRx
import Derived.Test.YtocfcnhaecmgpaaGreatDoorRga
import Derived.Test.YtocfcnhaecmgpaaGreatDoorShelf
import Derived.Test.YtocfcnhaecmgpaaGreatDoorReg
namespace Go.Proofs.YtocfcnhaecmgpaaGreatDoor
open Go.ChangeShapes Go.WideShapes Go.ChangeAt Go.RowKit Go.Deep Go.Extern.Stop Go.Stop Go.Extern

mutual
/-- Four cells that hold an expression, whose words lie in a slice of that capacity at least. -/
def ExD (P : Nat → Prop) (w : World) (cs : List Value) : Rx → Prop
  | .mk kind neg words kids => ∃ a c sk xs, cs = [.int .i64 kind, .bool neg, .slice a words.length c, sk] ∧ words.length ≤ c ∧ RowX P w (.slice a words.length c) words.length (words.map Value.string) ∧ RowX P w sk kids.length xs ∧ ExsD P w xs kids
def ExsD (P : Nat → Prop) (w : World) (xs : List Value) : List Rx → Prop
  | [] => xs = []
  | x :: r => ∃ cs rest, xs = cs ++ rest ∧ ExD P w cs x ∧ ExsD P w rest r
end
mutual
theorem ExD.toC {P : Nat → Prop} {w : World} : ∀ {x : Rx} {cs : List Value}, ExD P w cs x → ExC P w cs x
  | .mk kind neg words kids, cs, h => by
    unfold ExD at h
    unfold ExC
    obtain ⟨a, c, sk, xs, e, hc, h1, h2, h3⟩ := h
    exact ⟨_, _, xs, e, ⟨a, c, rfl, hc⟩, h1, h2, ExsD.toC h3⟩
theorem ExsD.toC {P : Nat → Prop} {w : World} : ∀ {l : List Rx} {xs : List Value}, ExsD P w xs l → ExsC P w xs l
  | [], xs, h => by unfold ExsD at h; unfold ExsC; exact h
  | x :: r, xs, h => by
    unfold ExsD at h
    unfold ExsC
    obtain ⟨cs, rest, e, h1, h2⟩ := h
    exact ⟨cs, rest, e, ExD.toC h1, ExsD.toC h2⟩
end
mutual
theorem ExC.toD {P : Nat → Prop} {w : World} : ∀ {x : Rx} {cs : List Value}, ExC P w cs x → ExD P w cs x
  | .mk kind neg words kids, cs, h => by
    unfold ExC at h
    unfold ExD
    obtain ⟨sw, sk, xs, e, ⟨a, c, rfl, hc⟩, h1, h2, h3⟩ := h
    exact ⟨a, c, sk, xs, e, hc, h1, h2, ExsC.toD h3⟩
theorem ExsC.toD {P : Nat → Prop} {w : World} : ∀ {l : List Rx} {xs : List Value}, ExsC P w xs l → ExsD P w xs l
  | [], xs, h => by unfold ExsC at h; unfold ExsD; exact h
  | x :: r, xs, h => by
    unfold ExsC at h
    unfold ExsD
    obtain ⟨cs, rest, e, h1, h2⟩ := h
    exact ⟨cs, rest, e, ExC.toD h1, ExsC.toD h2⟩
end
mutual
theorem ExD.step {P : Nat → Prop} {w w' : World} (hb : Below w.heap.size w w') : ∀ {x : Rx} {cs : List Value}, ExD P w cs x → ExD P w' cs x
  | .mk kind neg words kids, cs, h => by
    unfold ExD at h ⊢
    obtain ⟨a, c, sk, xs, e, hc, h1, h2, h3⟩ := h
    exact ⟨a, c, sk, xs, e, hc, h1.step hb, h2.step hb, ExsD.step hb h3⟩
theorem ExsD.step {P : Nat → Prop} {w w' : World} (hb : Below w.heap.size w w') : ∀ {l : List Rx} {xs : List Value}, ExsD P w xs l → ExsD P w' xs l
  | [], xs, h => by unfold ExsD at h ⊢; exact h
  | x :: r, xs, h => by
    unfold ExsD at h ⊢
    obtain ⟨cs, rest, e, h1, h2⟩ := h
    exact ⟨cs, rest, e, ExD.step hb h1, ExsD.step hb h2⟩
end
theorem ExsD.at' {P : Nat → Prop} {w : World} : ∀ {l : List Rx} {xs : List Value} {i : Nat} {x : Rx}, ExsD P w xs l → l[i]? = some x → ∃ c0 c1 c2 c3, ExD P w [c0, c1, c2, c3] x ∧
    xs[4 * i]? = some c0 ∧ xs[4 * i + 1]? = some c1 ∧ xs[4 * i + 2]? = some c2 ∧ xs[4 * i + 3]? = some c3
  | [], _, _, _, _, h => by simp at h
  | y :: r, xs, i, x, hv, h => by
    unfold ExsD at hv
    obtain ⟨cs, rest, rfl, hy, hr⟩ := hv
    obtain ⟨k, t, a, l, c, a', l', c', rfl⟩ := hy.toC.form
    cases i with
    | zero =>
      have e : y = x := by simpa using h
      subst e
      exact ⟨_, _, _, _, hy, rfl, rfl, rfl, rfl⟩
    | succ i =>
      obtain ⟨c0, c1, c2, c3, hx, h0, h1, h2, h3⟩ := ExsD.at' hr (i := i) (x := x) (by simpa using h)
      have go : ∀ j, ([.int .i64 k, .bool t, .slice a l c, .slice a' l' c'] ++ rest : List Value)[4 * (i + 1) + j]? = rest[4 * i + j]? := fun j => by
        rw [List.getElem?_append_right (by simp; omega)]
        congr 1
        simp
        omega
      exact ⟨c0, c1, c2, c3, hx, (go 0).trans h0, (go 1).trans h1, (go 2).trans h2, (go 3).trans h3⟩
theorem exd_at {P : Nat → Prop} {w wr : World} {a : Option Addr} {l c : Nat} {xs : List Value} {kids : List Rx} (hr : RowX P w (.slice a l c) kids.length xs) (hv : ExsD P w xs kids) {i : Nat} {x : Rx} (hx : kids[i]? = some x) (hb : Below w.heap.size w wr) :
    ∃ b o k t a2 l2 c2 a3 l3 c3, a = some ⟨b, o, none⟩ ∧ ExD P w [.int .i64 k, .bool t, .slice a2 l2 c2, .slice a3 l3 c3] x ∧
      Four wr b (o + i * 4) (.int .i64 k) (.bool t) (.slice a2 l2 c2) (.slice a3 l3 c3) := by
  obtain ⟨d0, d1, d2, d3, hvx, e0, e1, e2, e3⟩ := ExsD.at' hv hx
  obtain ⟨k2, t2, a2, l2, c2, a3, l3, c3, ed⟩ := hvx.toC.form
  simp only [List.cons.injEq, and_true] at ed
  obtain ⟨rfl, rfl, rfl, rfl⟩ := ed
  have hlt := (List.getElem?_eq_some_iff.1 hx).1
  rcases hr with ⟨h0, -⟩ | ⟨b, o, c, e, -, hbl, hc⟩
  · omega
  injection e with e
  refine ⟨b, o, _, _, _, _, _, _, _, _, e, hvx, ?_⟩
  have hj : ∀ j u, xs[4 * i + j]? = some u → wr.cell? ⟨b, o + i * 4 + j, none⟩ = some u := fun j u hu => by
    rw [show o + i * 4 + j = o + (4 * i + j) by omega]
    exact (hb.cell (p := ⟨b, _, none⟩) hbl).trans (hc _ _ hu)
  exact ⟨Nat.lt_of_lt_of_le hbl hb.size, hj 0 _ e0, hj 1 _ e1, hj 2 _ e2, hj 3 _ e3⟩
theorem ExD.open {P : Nat → Prop} {w : World} {k : Int} {t : Bool} {a : Option Addr} {l c : Nat} {v' : Value} {kind : Int} {neg : Bool} {words : List ByteArray} {kids : List Rx} (h : ExD P w [.int .i64 k, .bool t, .slice a l c, v'] (.mk kind neg words kids)) :
    k = kind ∧ t = neg ∧ l = words.length ∧ words.length ≤ c ∧ RowX P w (.slice a words.length c) words.length (words.map Value.string) ∧ ∃ xs, RowX P w v' kids.length xs ∧ ExsD P w xs kids := by
  unfold ExD at h
  obtain ⟨a2, c2, sk', xs, e, h0, h1, h2, h3⟩ := h
  simp only [List.cons.injEq, Value.int.injEq, Value.bool.injEq, Value.slice.injEq, true_and, and_true] at e
  obtain ⟨rfl, rfl, ⟨rfl, rfl, rfl⟩, rfl⟩ := e
  exact ⟨rfl, rfl, rfl, h0, h1, xs, h2, h3⟩

/-! ### Among the arguments -/
theorem exsD_of {P : Nat → Prop} {W : World} {b : Nat} : ∀ (kids : List Rx) (o : Nat), (∀ i x, kids[i]? = some x → ∃ c0 c1 c2 c3, ExD P W [c0, c1, c2, c3] x ∧ W.cell? ⟨b, o + i * 4, none⟩ = some c0 ∧ W.cell? ⟨b, o + i * 4 + 1, none⟩ = some c1 ∧ W.cell? ⟨b, o + i * 4 + 2, none⟩ = some c2 ∧ W.cell? ⟨b, o + i * 4 + 3, none⟩ = some c3) →
    ∃ xs, ExsD P W xs kids ∧ ∀ j u, xs[j]? = some u → W.cell? ⟨b, o + j, none⟩ = some u
  | [], o, _ => ⟨[], by unfold ExsD; rfl, fun j u h => by simp at h⟩
  | x :: r, o, h => by
    obtain ⟨c0, c1, c2, c3, hx, h0, h1, h2, h3⟩ := h 0 x rfl
    obtain ⟨xs, hr, hc⟩ := exsD_of r (o + 4) (fun i y hy => by
      obtain ⟨d0, d1, d2, d3, hy', k0, k1, k2, k3⟩ := h (i + 1) y (by simpa using hy)
      rw [show o + (i + 1) * 4 = o + 4 + i * 4 by omega] at k0 k1 k2 k3
      exact ⟨d0, d1, d2, d3, hy', k0, k1, k2, k3⟩)
    refine ⟨[c0, c1, c2, c3] ++ xs, by unfold ExsD; exact ⟨_, _, rfl, hx, hr⟩, fun j u hj => ?_⟩
    simp only [Nat.zero_mul, Nat.add_zero] at h0 h1 h2 h3
    match j, hj with
    | 0, hj => simp at hj; subst hj; simpa using h0
    | 1, hj => simp at hj; subst hj; exact h1
    | 2, hj => simp at hj; subst hj; exact h2
    | 3, hj => simp at hj; subst hj; exact h3
    | j + 4, hj =>
      have := hc j u (by simpa using hj)
      rwa [show o + 4 + j = o + (j + 4) by omega] at this
section
variable {H : Type} {enc : TypeId × Value → H}
theorem strsD_of_cells {W : World} {fuel : Nat} {cs : List Value} {x : DataW H × List MemPlace} (hf : DataW.trod enc Tryz.prog W 0 (fun _ => true) true fuel 22 cs = some x) : ∃ a c ws, cs = [.slice a ws.length c] ∧ ws.length ≤ c ∧ StrsAt W (.slice a ws.length c) ws := by
  rcases open_strings Tryz.underlying22 Tryz.underlying9 Tryz.cellsStrX hf with ⟨hcs, -⟩ | ⟨a, len, cap, ss, hcs, _, hl, hm, hz, -, hcell, -⟩
  · exact ⟨none, 0, [], hcs, Nat.le_refl _, .inl ⟨none, 0, rfl, rfl⟩⟩
  · simp only [if_true] at hz
    by_cases h0 : len = 0
    · subst h0; exact ⟨some a, cap, [], hcs, Nat.zero_le _, .inl ⟨some a, cap, rfl, rfl⟩⟩
    · obtain ⟨b, off, spot⟩ := a
      have hspot : spot = none := by simpa [Addr.add] using World.cell?_spot (hcell 0 (by omega))
      subst hspot
      have hl2 : (ss.take len).length = len := by simp; omega
      have hbl : b < W.heap.size := by
        have := World.block_lt_of_cell? W _ (hcell 0 (by omega))
        simpa [Addr.add] using this
      refine ⟨some ⟨b, off, none⟩, cap, ss.take len, by rw [hl2]; exact hcs, by omega, .inr ⟨b, off, cap, rfl, hbl, fun i hi => ?_⟩⟩
      have hi' : i < len := by omega
      have hc := hcell i (by omega)
      rw [add_plain] at hc
      rw [hc]
      simp [List.getD, hi']
theorem exd_of_cells {W : World} : ∀ (fuel : Nat) {cs : List Value} {x : DataW H × List MemPlace}, DataW.trod enc Tryz.prog W 0 (fun _ => true) true fuel 25 cs = some x → ∃ e : Rx, cs.length = 4 ∧ ExD (fun _ => True) W cs e := by
  intro fuel
  induction fuel using Nat.strongRecOn with
  | _ fuel ih =>
    intro cs x hf
    obtain ⟨y0, y1, y2, y3, n, hn, hl, h0, h1, h2, h3⟩ := trod_struct4n Tryz.underlying25 hf
    rw [Tryz.cellsXExpr] at hl
    rw [Tryz.cellsIntX] at h0
    rw [Tryz.cellsBoolX] at h1
    rw [Tryz.cellsStrsX] at h2
    rw [Tryz.cellsXExprs] at h3
    match cs, hl with
    | [u0, u1, u2, u3], _ =>
      obtain ⟨k, e0, -, -⟩ := DataW.trod_int Tryz.underlying3 h0
      obtain ⟨t, e1, -⟩ := DataW.trod_bool Tryz.underlying4 h1
      obtain ⟨aw, cw, ws, e2, hcw, hws⟩ := strsD_of_cells h2
      simp at e0 e1 e2
      subst e0 e1 e2
      have hws' := RowX.of_strs hws
      rcases DataW.trod_slice Tryz.underlying23 h3 with ⟨e3, -⟩ | ⟨a, len, cap, elems, rest, m, hm, e3, -, -, -, -, hel, hget, -, -⟩
      · simp at e3
        subst e3
        refine ⟨.mk k t ws [], rfl, ?_⟩
        unfold ExD
        exact ⟨_, _, _, [], rfl, hcw, hws', RowX.nil _ _, by unfold ExsD; rfl⟩
      · simp at e3
        subst e3
        by_cases hz : len = 0
        · subst hz
          refine ⟨.mk k t ws [], rfl, ?_⟩
          unfold ExD
          exact ⟨_, _, _, [], rfl, hcw, hws', .inl ⟨rfl, rfl, _, _, rfl⟩, by unfold ExsD; rfl⟩
        · rw [Tryz.cellsXExpr] at hget
          have key : ∀ i, i < len → ∃ e : Rx, ∃ c0 c1 c2 c3, ExD (fun _ => True) W [c0, c1, c2, c3] e ∧ W.cell? (a.add (i * 4)) = some c0 ∧ W.cell? (a.add (i * 4 + 1)) = some c1 ∧ W.cell? (a.add (i * 4 + 2)) = some c2 ∧ W.cell? (a.add (i * 4 + 3)) = some c3 := by
            intro i hi
            have hg := hget i hi
            rw [List.getElem?_eq_getElem (by omega : i < elems.length)] at hg
            obtain ⟨cs', hc, ht⟩ := Option.bind_eq_some_iff.1 hg
            obtain ⟨_, hcl, hat⟩ := World.cells?_some hc
            obtain ⟨e, -, he⟩ := ih m (by omega) ht
            match cs', hcl with
            | [c0, c1, c2, c3], _ =>
              refine ⟨e, c0, c1, c2, c3, he, ?_, ?_, ?_, ?_⟩
              · have := hat 0 (by simp); rw [Go.Deep.add_add] at this; simpa using this
              · have := hat 1 (by simp); rw [Go.Deep.add_add] at this; simpa using this
              · have := hat 2 (by simp); rw [Go.Deep.add_add] at this; simpa using this
              · have := hat 3 (by simp); rw [Go.Deep.add_add] at this; simpa using this
          obtain ⟨b, off, spot⟩ := a
          have hspot : spot = none := by
            obtain ⟨_, _, _, _, _, -, hx, -⟩ := key 0 (by omega)
            simpa [Addr.add] using World.cell?_spot hx
          subst hspot
          have hbl : b < W.heap.size := by
            obtain ⟨_, _, _, _, _, -, hx, -⟩ := key 0 (by omega)
            have := World.block_lt_of_cell? W _ hx
            simpa [Addr.add] using this
          obtain ⟨kids, hkl, hR⟩ := listX_of key
          obtain ⟨xs, hxs, hc⟩ := exsD_of (P := fun _ => True) (W := W) (b := b) kids off (fun i y hy => by
            obtain ⟨c0, c1, c2, c3, he, k0, k1, k2, k3⟩ := hR i y hy
            rw [add_plain] at k0 k1 k2 k3
            exact ⟨c0, c1, c2, c3, he, k0, by simpa [Nat.add_assoc] using k1, by simpa [Nat.add_assoc] using k2, by simpa [Nat.add_assoc] using k3⟩)
          refine ⟨.mk k t ws kids, rfl, ?_⟩
          unfold ExD
          exact ⟨_, _, _, xs, rfl, hcw, hws', .inr ⟨b, off, cap, by rw [hkl], trivial, hbl, hc⟩, hxs⟩
theorem exd_of_trod {W : World} {v : Value} {d : DataW H} {ps : List MemPlace} (h : DataW.Trod enc Tryz.prog W 0 (fun _ => true) true 25 v d ps) :
    ∃ k t a l c a' l' c' e, v = .agg #[.int .i64 k, .bool t, .slice a l c, .slice a' l' c'] ∧ ExD (fun _ => True) W [.int .i64 k, .bool t, .slice a l c, .slice a' l' c'] e := by
  obtain ⟨fuel, hf⟩ := h
  obtain ⟨e, hl, he⟩ := exd_of_cells fuel hf
  cases v with
  | agg cs =>
    obtain ⟨l⟩ := cs
    simp only [Value.cells] at hl he
    obtain ⟨k, t, a, n, c, a', n', c', rfl⟩ := he.toC.form
    exact ⟨_, _, _, _, _, _, _, _, e, rfl, he⟩
  | _ => simp [Value.cells] at hl
end
end Go.Proofs.YtocfcnhaecmgpaaGreatDoor

namespace Go.Proofs.YtocfcnhaecmgpaaGreatDoor
open Go.RowKit Go.Extern.Stop Go.Stop Go.Extern

theorem join_row (P : Nat → Prop) (ws : List ByteArray) (sep : ByteArray) (hn : ws.length ≤ 1000000) (hlen : (Lib.join (ws.map (·.data.toList)) sep.data.toList).length ≤ 140737488355328) (w : World) (a : Option Addr) (c : Nat) (hr : RowX P w (.slice a ws.length c) ws.length (ws.map Value.string)) (hc : ws.length ≤ c) :
    Calls Tryz.prog 91 #[.slice a ws.length c, .string sep] w fun e w' => e = .returned (.string ⟨(Lib.join (ws.map (·.data.toList)) sep.data.toList).toArray⟩) ∧ Below w.heap.size w w' := by
  rcases hr with ⟨h0, -, a', c', e⟩ | ⟨b, o, c', e, -, hlt, hcell⟩
  · have hw : ws = [] := List.eq_nil_of_length_eq_zero h0
    subst hw
    refine (Tryz.strings_Join_none a c sep w).mono ?_
    rintro e w' ⟨rfl, rfl⟩
    exact ⟨rfl, Below.refl _ _⟩
  · simp only [Value.slice.injEq] at e
    obtain ⟨rfl, -, rfl⟩ := e
    exact Tryz.strings_Join b o c ws sep w (fun j x hx => hcell j _ (by simp [hx])) hlt (by omega) hc hlen
set_option maxRecDepth 100000 in
set_option maxHeartbeats 2000000 in
theorem bracketed_any (k : Int) (t : Bool) (a1 : Option Addr) (l1 c1 : Nat) (a2 : Option Addr) (l2 c2 : Nat) (k6 : Int) (t6 : Bool) (a6 : Option Addr) (l6 c6 : Nat) (a7 : Option Addr) (n7 c7 : Nat) (w : World) :
    Calls Tryz.prog 92 #[.agg #[.int .i64 k, .bool t, .slice a1 l1 c1, .slice a2 l2 c2], .agg #[.int .i64 k6, .bool t6, .slice a6 l6 c6, .slice a7 n7 c7]] w fun e w' =>
      e = .returned (.bool (if k6 = 2 then decide (0 < n7) && decide (k ≠ 3) else decide (k6 = 3))) ∧ Below w.heap.size w w' := by
  have H0 := Lib.hid (TwoX.start w 25 (.int .i64 k) (.bool t) (.slice a1 l1 c1) (.slice a2 l2 c2) (.int .i64 k6) (.bool t6) (.slice a6 l6 c6) (.slice a7 n7 c7))
  obtain ⟨p0, p1, p2, p3⟩ := H0.out.sa.box
  obtain ⟨q0, q1, q2, q3⟩ := H0.out.sb.box
  by_cases h2 : k6 = 2
  · subst h2
    rw [if_pos rfl]
    by_cases h0 : 0 < n7
    · have hd : decide (0 < n7) = true := decide_eq_true h0
      rw [hd, Bool.true_and]
      by_cases h3 : k = 3
      · subst h3
        go_enter Tryz.func92, Tryz.ntmps92
        go_wp2_with fail
        go_ret
        exact ⟨rfl, H0.out.below⟩
      · have hne : (k != 3) = true := bne_iff_ne.2 h3
        rw [decide_eq_true h3]
        clear h3
        go_enter Tryz.func92, Tryz.ntmps92
        go_wp2_with fail
        go_ret
        exact ⟨rfl, H0.out.below⟩
    · have hd : decide (0 < n7) = false := decide_eq_false h0
      rw [hd, Bool.false_and]
      go_enter Tryz.func92, Tryz.ntmps92
      go_wp2_with fail
      go_ret
      exact ⟨rfl, H0.out.below⟩
  · have hne : (k6 == 2) = false := beq_eq_false_iff_ne.2 h2
    rw [if_neg h2]
    clear h2
    by_cases h3 : k6 = 3
    · subst h3
      go_enter Tryz.func92, Tryz.ntmps92
      go_wp2_with fail
      go_ret
      exact ⟨rfl, H0.out.below⟩
    · have hne2 : (k6 == 3) = false := beq_eq_false_iff_ne.2 h3
      rw [decide_eq_false h3]
      clear h3
      go_enter Tryz.func92, Tryz.ntmps92
      go_wp2_with fail
      go_ret
      exact ⟨rfl, H0.out.below⟩

theorem cat3 (a : List UInt8) (l : List UInt8) (b : List UInt8) : (⟨a.toArray⟩ : ByteArray) ++ ⟨l.toArray⟩ ++ ⟨b.toArray⟩ = ⟨(a ++ (l ++ b)).toArray⟩ := by
  apply ByteArray.ext
  simp [List.append_assoc]
theorem cat2 (a b : List UInt8) : (⟨a.toArray⟩ : ByteArray) ++ ⟨b.toArray⟩ = ⟨(a ++ b).toArray⟩ := by
  apply ByteArray.ext
  simp
theorem ret_s {a b : ByteArray} (h : a = b) : Ending.returned (.string a) = .returned (.string b) := by rw [h]
set_option maxRecDepth 100000 in
set_option maxHeartbeats 4000000 in
theorem atomText_any (P : Nat → Prop) (k : Int) (t : Bool) (ws : List ByteArray) (kids : List Rx) (hwt : wordsWt ws ≤ 60000) (w : World) (a : Option Addr) (l c : Nat) (a' : Option Addr) (l' c' : Nat)
    (hv : ExD P w [.int .i64 k, .bool t, .slice a l c, .slice a' l' c'] (.mk k t ws kids)) :
    Calls Tryz.prog 65 #[.agg #[.int .i64 k, .bool t, .slice a l c, .slice a' l' c']] w fun e w' => e = .returned (.string ⟨(atomT t ws).toArray⟩) ∧ Below w.heap.size w w' := by
  obtain ⟨-, -, rfl, hcap, hk, -⟩ := hv.open
  have hlen := wordsT_len ws (by omega)
  have hwl := wlen_wt ws
  have HJ := Lib.hid (fun W (hb : Below w.heap.size w W) => join_row P ws ⟨#[44]⟩ (by omega) (by show (wordsT ws).length ≤ _; omega) W a c (hk.step hb) hcap)
  rw [show Lib.join (ws.map (·.data.toList)) (⟨#[44]⟩ : ByteArray).data.toList = wordsT ws from rfl] at HJ
  have HB := Lib.hid (sbelow_new w (.cells #[.int .i64 k, .bool t, .slice a ws.length c, .slice a' l' c'] 25))
  have HF := Lib.hid (four_new w 25 (.int .i64 k) (.bool t) (.slice a ws.length c) (.slice a' l' c'))
  obtain ⟨p0, p1, p2, p3⟩ := HF.out.box
  have HA : Hid (atomT t ws = if t then 91 :: 94 :: (wordsT ws ++ [93]) else if 1 < ws.length then 91 :: (wordsT ws ++ [93]) else wordsT ws) := Lib.hid rfl
  generalize atomT t ws = at1 at *
  generalize wordsT ws = wt1 at *
  have HLEN : Hid (wt1.length ≤ 60000) := Lib.hid (by omega)
  have hsz : (⟨wt1.toArray⟩ : ByteArray).size = wt1.length := by simp [ByteArray.size]
  clear hv hk hcap hlen hwl hwt
  cases t with
  | true =>
    have ha := HA.out
    rw [if_pos rfl] at ha
    have HA2 := Lib.hid ha
    clear ha HA
    go_enter Tryz.func65, Tryz.ntmps65
    go_wp2_with fail
    refine (HJ.out _ HB.out).mono ?_
    rintro e w2 ⟨rfl, b2⟩
    have HF2 := Lib.hid (HF.out.step b2)
    have HB2 := Lib.hid (HB.out.trans (b2.mono HB.out.size))
    clear p0 p1 p2 p3 b2
    obtain ⟨p0, p1, p2, p3⟩ := HF2.out.box
    have hl := HLEN.out
    go_wp2_with fail
    go_ret
    refine ⟨ret_s ?_, HB2.out⟩
    rw [HA2.out]
    exact cat3 [91, 94] wt1 [93]
  | false =>
    have ha := HA.out
    rw [if_neg (by decide)] at ha
    have HA2 := Lib.hid ha
    clear ha HA
    by_cases h1 : 1 < ws.length
    · have ha := HA2.out
      rw [if_pos h1] at ha
      have HA3 := Lib.hid ha
      clear ha HA2
      go_enter Tryz.func65, Tryz.ntmps65
      go_wp2_with fail
      refine (HJ.out _ HB.out).mono ?_
      rintro e w2 ⟨rfl, b2⟩
      have HF2 := Lib.hid (HF.out.step b2)
      have HB2 := Lib.hid (HB.out.trans (b2.mono HB.out.size))
      clear p0 p1 p2 p3 b2
      obtain ⟨p0, p1, p2, p3⟩ := HF2.out.box
      have hl := HLEN.out
      go_wp2_with fail
      go_ret
      refine ⟨ret_s ?_, HB2.out⟩
      rw [HA3.out]
      exact cat3 [91] wt1 [93]
    · have ha := HA2.out
      rw [if_neg h1] at ha
      subst ha
      go_enter Tryz.func65, Tryz.ntmps65
      go_wp2_with fail
      refine (HJ.out _ HB.out).mono ?_
      rintro e w2 ⟨rfl, b2⟩
      have HF2 := Lib.hid (HF.out.step b2)
      have HB2 := Lib.hid (HB.out.trans (b2.mono HB.out.size))
      clear p0 p1 p2 p3 b2
      obtain ⟨p0, p1, p2, p3⟩ := HF2.out.box
      go_wp2_with fail
      go_ret
      exact ⟨rfl, HB2.out⟩
end Go.Proofs.YtocfcnhaecmgpaaGreatDoor

namespace Go.Proofs.YtocfcnhaecmgpaaGreatDoor
open Go.RowKit Go.Extern.Stop Go.Stop Go.Extern

/-- The kids' texts, as texts in memory. -/
def kidsB (k : Int) (l : List Rx) : List ByteArray := (kidsT k l).map (fun b => ⟨b.toArray⟩)
theorem kidsB_len (k : Int) (l : List Rx) : (kidsB k l).length = l.length := by unfold kidsB; rw [List.length_map, kidsT_len]
theorem kidsB_data (k : Int) (l : List Rx) : (kidsB k l).map (·.data.toList) = kidsT k l := by
  unfold kidsB
  rw [List.map_map]
  have : ((fun x : ByteArray => x.data.toList) ∘ fun b : List UInt8 => (⟨b.toArray⟩ : ByteArray)) = id := by
    funext b; simp
  rw [this, List.map_id]
theorem kidsB_take {k : Int} {l : List Rx} {i : Nat} {x : Rx} (h : l[i]? = some x) : ((kidsB k l).map Value.string).take (i + 1) = ((kidsB k l).map Value.string).take i ++ [Value.string ⟨(brT (brk k x) (textE x)).toArray⟩] := by
  have e : (kidsB k l)[i]? = some ⟨(brT (brk k x) (textE x)).toArray⟩ := by
    unfold kidsB
    rw [List.getElem?_map, kidsT_at k h]
    rfl
  rw [List.take_add_one, List.getElem?_map, e]
  rfl
theorem Four.grown {w w' : World} {b o : Nat} {c0 c1 c2 c3 : Value} {row : Option Nat} (h : Four w b o c0 c1 c2 c3) (hg : w.grownBy w' row) (hne : some b ≠ row) : Four w' b o c0 c1 c2 c3 := by
  obtain ⟨h0, h1, h2, h3, h4⟩ := h
  have e : ∀ i, w'.cell? ⟨b, i, none⟩ = w.cell? ⟨b, i, none⟩ := fun i => World.cell?_of_block (a := ⟨b, i, none⟩) (hg.block b h0 hne)
  refine ⟨Nat.lt_of_lt_of_le h0 hg.size, ?_, ?_, ?_, ?_⟩ <;> rw [e] <;> assumption
theorem own_form {w : World} {base : Nat} {e : TypeId} {v : Value} {n : Nat} {xs : List Value} (h : w.ownsRow base e 1 v n xs) : ∃ a c, v = .slice a n c ∧ n ≤ c := by
  rcases h.2 with ⟨rfl, rfl⟩ | ⟨g, cap, cur, rfl, -, -, hc, -⟩
  · exact ⟨none, 0, rfl, Nat.le_refl _⟩
  · exact ⟨_, cap, rfl, hc⟩

/-- On the way through the kids. -/
structure KdSt (w0 : World) (k : Int) (t : Bool) (v2 v3 : Value) (kids : List Rx) (i : Nat) (u : Value) (w : World) : Prop where
  box : Four w w0.heap.size 0 (.int .i64 k) (.bool t) v2 v3
  own : w.ownsRow (w0.heap.size + 1) 9 1 u i (((kidsB k kids).map Value.string).take i)
  below : Below w0.heap.size w0 w
section
variable {w0 w w' : World} {k : Int} {t : Bool} {v2 v3 u u' : Value} {kids : List Rx} {i : Nat} {y : Rx}
theorem KdSt.step (h : KdSt w0 k t v2 v3 kids i u w) (hb : Below w.heap.size w w') : KdSt w0 k t v2 v3 kids i u w' :=
  ⟨h.box.step hb, ownX_up h.own hb, h.below.trans (hb.mono h.below.size)⟩
theorem KdSt.push (h : KdSt w0 k t v2 v3 kids i u w) (hy : kids[i]? = some y) (hg : w.grownBy w' u.ownBlock) (ho : w'.ownsRow (w0.heap.size + 1) 9 1 u' (i + 1) (((kidsB k kids).map Value.string).take i ++ [Value.string ⟨(brT (brk k y) (textE y)).toArray⟩])) :
    KdSt w0 k t v2 v3 kids (i + 1) u' w' :=
  ⟨h.box.grown hg (fun e => by have := (h.own.lt _ e.symm).1; omega), by rw [kidsB_take hy]; exact ho,
    h.below.grown hg h.below.size (fun q e => by have := (h.own.lt q e).1; omega)⟩
end

/-- What text answers of the kids. -/
def TxSpec (P : Nat → Prop) (w : World) (y : Rx) : Prop := ∀ W, Below w.heap.size w W → ∀ (k : Int) (t : Bool) (a : Option Addr) (l c : Nat) (a' : Option Addr) (l' c' : Nat), ExD P W [.int .i64 k, .bool t, .slice a l c, .slice a' l' c'] y →
  Calls Tryz.prog 35 #[.agg #[.int .i64 k, .bool t, .slice a l c, .slice a' l' c']] W fun e w' => e = .returned (.string ⟨(textE y).toArray⟩) ∧ Below W.heap.size W w'

theorem brT_t (s : List UInt8) : brT true s = 40 :: (s ++ [41]) := rfl
theorem brT_f (s : List UInt8) : brT false s = s := rfl
set_option maxRecDepth 100000 in
set_option maxHeartbeats 8000000 in
theorem kidsText_of (P : Nat → Prop) (k : Int) (t : Bool) (ws : List ByteArray) (kids : List Rx) (sep : ByteArray) (hsep : sep.size ≤ 1) (hkw : rxsWt kids ≤ 60000) (w : World) (a : Option Addr) (l c : Nat) (a' : Option Addr) (l' c' : Nat)
    (hv : ExD P w [.int .i64 k, .bool t, .slice a l c, .slice a' l' c'] (.mk k t ws kids)) (HC : Hid (∀ (i : Nat) (y : Rx), kids[i]? = some y → TxSpec P w y)) :
    Calls Tryz.prog 66 #[.agg #[.int .i64 k, .bool t, .slice a l c, .slice a' l' c'], .string sep] w fun e w' => e = .returned (.string ⟨(Lib.join (kidsT k kids) sep.data.toList).toArray⟩) ∧ Below w.heap.size w w' := by
  obtain ⟨-, -, rfl, -, -, xs, hl, hvs⟩ := hv.open
  obtain ⟨_, _, es⟩ := hl.form
  simp only [Value.slice.injEq] at es
  obtain ⟨-, el, -⟩ := es
  subst el
  have HROW := Lib.hid hl
  have HVS := Lib.hid hvs
  have hkl := len_wt kids
  have HI : Hid (kids.length ≤ 60000) := Lib.hid (by omega)
  have HKW := Lib.hid hkw
  have hlens := kidsT_lens k kids (by omega)
  have hjl := join_len_le (kidsT k kids) sep.data.toList (by rw [← Lib.size_eq]; exact hsep)
  rw [kidsT_len] at hjl
  have HJ := Lib.hid (fun W a c (hr : RowX (fun _ => True) W (.slice a kids.length c) (kidsB k kids).length ((kidsB k kids).map Value.string)) (hc : kids.length ≤ c) => by
    have h := join_row (fun _ => True) (kidsB k kids) sep (by rw [kidsB_len]; omega) (by rw [kidsB_data]; omega) W a c (by rw [kidsB_len] at hr ⊢; exact hr) (by rw [kidsB_len]; exact hc)
    rw [kidsB_data, kidsB_len] at h
    exact h)
  have HB0 := Lib.hid (sbelow_new w (.cells #[.int .i64 k, .bool t, .slice a ws.length c, .slice a' kids.length c'] 25))
  have hF := four_new w 25 (.int .i64 k) (.bool t) (.slice a ws.length c) (.slice a' kids.length c')
  have H0 : Hid (KdSt w k t (.slice a ws.length c) (.slice a' kids.length c') kids 0 (.slice none 0 0) (w.alloc (.cells #[.int .i64 k, .bool t, .slice a ws.length c, .slice a' kids.length c'] 25))) := Lib.hid ⟨hF, World.ownsRow_nil _ _ _ _, HB0.out⟩
  obtain ⟨p0, p1, p2, p3⟩ := hF.box
  generalize hjt : Lib.join (kidsT k kids) sep.data.toList = jt at *
  clear hv hl hvs hkl hkw hlens hjl hF hjt hsep HB0
  go_enter Tryz.func66, Tryz.ntmps66
  go_wp2_with fail
  generalize w.alloc (.cells #[.int .i64 k, .bool t, .slice a ws.length c, .slice a' kids.length c'] 25) = w1 at *
  clear p0 p1 p2 p3
  go_loopg [5, 12] kids.length (fun g u v wr => ∃ i : Nat, i ≤ kids.length ∧ g = kids.length - i ∧ v = .int .i64 i ∧ KdSt w k t (.slice a ws.length c) (.slice a' kids.length c') kids i u wr)
  case atStart => exact ⟨0, Nat.zero_le _, by omega, rfl, H0.out⟩
  case round =>
    clear H0
    obtain ⟨i, hi, hgk, rfl, hst⟩ := hrel
    have HST := Lib.hid hst
    obtain ⟨ua, uc, rfl, huc⟩ := own_form hst.own
    clear hst
    by_cases hlt : i < kids.length
    · obtain ⟨y, hy⟩ : ∃ y, kids[i]? = some y := ⟨_, List.getElem?_eq_getElem hlt⟩
      obtain ⟨b1, o1, k6, t6, a6, l6, c6, a7, l7, c7, rfl, hvx, hE1⟩ := exd_at HROW.out HVS.out hy HST.out.below
      have bn := sbelow_new wr (.cells #[.int .i64 k6, .bool t6, .slice a6 l6 c6, .slice a7 l7 c7] 25)
      have HN := Lib.hid (four_new wr 25 (.int .i64 k6) (.bool t6) (.slice a6 l6 c6) (.slice a7 l7 c7))
      have H1 := Lib.hid (HST.out.step bn)
      have HY := Lib.hid hy
      have HCC := Lib.hid (HC.out i y hy _ H1.out.below _ _ _ _ _ _ _ _ (hvx.step H1.out.below))
      have HBR : Hid (brk k y = (if k6 = 2 then decide (0 < l7) && decide (k ≠ 3) else decide (k6 = 3))) := Lib.hid (by
        cases y with
        | mk ky ty wy kyy =>
          obtain ⟨rfl, -, -, -, -, xs2, hr2, -⟩ := hvx.open
          obtain ⟨_, _, es⟩ := hr2.form
          simp only [Value.slice.injEq] at es
          obtain ⟨-, el, -⟩ := es
          subst el
          rfl)
      have HBK := Lib.hid (fun W => bracketed_any k t a ws.length c (some ⟨b1, o1, none⟩) kids.length c' k6 t6 a6 l6 c6 a7 l7 c7 W)
      rw [← HBR.out] at HBK
      have HSZ : Hid ((textE y).length ≤ 1000000) := Lib.hid (by
        have h1 := HKW.out
        have h2 := wt_mem hy
        have h3 := textE_len y (by omega)
        omega)
      clear HBR
      obtain ⟨-, g0, g1, g2, g3⟩ := hE1
      obtain ⟨n0, n1, n2, n3⟩ := HN.out.box
      clear hy bn hvx huc HC
      go_wp2_with fail
      refine HCC.out.mono ?_
      rintro e w4 ⟨rfl, b4⟩
      have HN4 := Lib.hid (HN.out.step b4)
      have H4 := Lib.hid (H1.out.step b4)
      clear b4 n0 n1 n2 n3 g0 g1 g2 g3 HN H1 HCC
      obtain ⟨n0, n1, n2, n3⟩ := HN4.out.box
      obtain ⟨p0, p1, p2, p3⟩ := H4.out.box.box
      go_wp2_with fail
      refine (HBK.out _).mono ?_
      rintro e w6 ⟨rfl, b6⟩
      have H6 := Lib.hid (H4.out.step b6)
      clear b6 n0 n1 n2 n3 p0 p1 p2 p3 HN4 H4 HBK
      generalize hbr : brk k y = br at *
      have HBR := Lib.hid hbr
      clear hbr
      generalize hty : textE y = ty at *
      have HTY := Lib.hid hty
      clear hty
      have hl := HSZ.out
      have hsz : (⟨ty.toArray⟩ : ByteArray).size = ty.length := by simp [ByteArray.size]
      cases br with
      | true =>
        have HX : Hid ((⟨#[40]⟩ : ByteArray) ++ ⟨ty.toArray⟩ ++ ⟨#[41]⟩ = ⟨(brT (brk k y) (textE y)).toArray⟩) := Lib.hid (by
          rw [HBR.out, HTY.out, brT_t]
          exact cat3 [40] ty [41])
        have hrow : RowX (fun _ => True) (w6.alloc (.cells #[.string (ByteArray.mk #[40] ++ ByteArray.mk ty.toArray ++ ByteArray.mk #[41])] 9)) (.slice (some ⟨w6.heap.size, 0, none⟩) 1 1) [((ByteArray.mk #[40] ++ ByteArray.mk ty.toArray ++ ByteArray.mk #[41]) : ByteArray)].length ([((ByteArray.mk #[40] ++ ByteArray.mk ty.toArray ++ ByteArray.mk #[41]) : ByteArray)].map Value.string) := .inr ⟨w6.heap.size, 0, 1, rfl, trivial, by simp, fun j u hu => by
          match j, hu with
          | 0, hu =>
            simp at hu
            subst hu
            rw [Lib.cell_of_heap (heap_alloc_new w6 _)]
            rfl⟩
        have HRW := Lib.hid hrow
        have HOWN := Lib.hid ((H6.out.step (sbelow_new w6 (.cells #[.string (ByteArray.mk #[40] ++ ByteArray.mk ty.toArray ++ ByteArray.mk #[41])] 9))))
        clear hrow
        go_wp2_with (at_builtin; refine wpList_append_words (P := fun _ => True) _ rfl _ _ rfl (w.heap.size + 1) _ i _ rfl HOWN.out.own _ [(ByteArray.mk #[40] ++ ByteArray.mk ty.toArray ++ ByteArray.mk #[41])] rfl HRW.out ?boundA ?baseA ?mainA)
        case boundA => have := HI.out; simp; omega
        case baseA => have := HOWN.out.box.1; omega
        intro u8 w8 hown8 hgrow8
        have H8 := Lib.hid (HOWN.out.push HY.out hgrow8 (by rw [← HX.out]; exact hown8))
        obtain ⟨ua8, uc8, rfl, -⟩ := own_form hown8
        clear hown8 hgrow8
        go_wp2_with fail
        go_roundg (kids.length - (i + 1))
        case measure => omega
        case rel => exact ⟨i + 1, by omega, rfl, by first | rfl | (rw [w64x _ (by have := HI.out; omega)]; rfl), H8.out⟩
      | false =>
        have HX : Hid ((⟨ty.toArray⟩ : ByteArray) = ⟨(brT (brk k y) (textE y)).toArray⟩) := Lib.hid (by rw [HBR.out, HTY.out, brT_f])
        have hrow : RowX (fun _ => True) (w6.alloc (.cells #[.string (ByteArray.mk ty.toArray)] 9)) (.slice (some ⟨w6.heap.size, 0, none⟩) 1 1) [((ByteArray.mk ty.toArray) : ByteArray)].length ([((ByteArray.mk ty.toArray) : ByteArray)].map Value.string) := .inr ⟨w6.heap.size, 0, 1, rfl, trivial, by simp, fun j u hu => by
          match j, hu with
          | 0, hu =>
            simp at hu
            subst hu
            rw [Lib.cell_of_heap (heap_alloc_new w6 _)]
            rfl⟩
        have HRW := Lib.hid hrow
        have HOWN := Lib.hid ((H6.out.step (sbelow_new w6 (.cells #[.string (ByteArray.mk ty.toArray)] 9))))
        clear hrow
        go_wp2_with (at_builtin; refine wpList_append_words (P := fun _ => True) _ rfl _ _ rfl (w.heap.size + 1) _ i _ rfl HOWN.out.own _ [(ByteArray.mk ty.toArray)] rfl HRW.out ?boundB ?baseB ?mainB)
        case boundB => have := HI.out; simp; omega
        case baseB => have := HOWN.out.box.1; omega
        intro u8 w8 hown8 hgrow8
        have H8 := Lib.hid (HOWN.out.push HY.out hgrow8 (by rw [← HX.out]; exact hown8))
        obtain ⟨ua8, uc8, rfl, -⟩ := own_form hown8
        clear hown8 hgrow8
        go_wp2_with fail
        go_roundg (kids.length - (i + 1))
        case measure => omega
        case rel => exact ⟨i + 1, by omega, rfl, by first | rfl | (rw [w64x _ (by have := HI.out; omega)]; rfl), H8.out⟩
    · obtain rfl : i = kids.length := by omega
      have hr := RowX.of_own (P := fun _ => True) HST.out.own (fun _ _ => trivial)
      have hk : ((kidsB k kids).map Value.string).take kids.length = (kidsB k kids).map Value.string := List.take_of_length_le (by rw [List.length_map, kidsB_len]; exact Nat.le_refl _)
      rw [hk] at hr
      have HRW : Hid (RowX (fun _ => True) wr (.slice ua kids.length uc) (kidsB k kids).length ((kidsB k kids).map Value.string)) := Lib.hid (by rw [kidsB_len]; exact hr)
      clear hr hk
      go_wp2_with fail
      refine (HJ.out _ _ _ HRW.out huc).mono ?_
      rintro e w4 ⟨rfl, b4⟩
      go_wp2_with fail
      go_ret
      exact ⟨rfl, HST.out.below.trans (b4.mono HST.out.below.size)⟩

end Go.Proofs.YtocfcnhaecmgpaaGreatDoor

namespace Go.Proofs.YtocfcnhaecmgpaaGreatDoor
open Go.RowKit Go.Extern.Stop Go.Stop Go.Extern

/-! ### text -/
set_option maxRecDepth 100000 in
set_option maxHeartbeats 8000000 in
theorem xtext_go (P : Nat → Prop) : ∀ (m : Nat) (x : Rx), SizeOf.sizeOf x < m → rxWt x ≤ 60000 → faultE x = 0 → ∀ (w : World) (k : Int) (t : Bool) (a : Option Addr) (l c : Nat) (a' : Option Addr) (l' c' : Nat),
    ExD P w [.int .i64 k, .bool t, .slice a l c, .slice a' l' c'] x →
    Calls Tryz.prog 35 #[.agg #[.int .i64 k, .bool t, .slice a l c, .slice a' l' c']] w fun e w' => e = .returned (.string ⟨(textE x).toArray⟩) ∧ Below w.heap.size w w' := by
  intro m
  induction m with
  | zero => intro x hx; exact absurd hx (Nat.not_lt_zero _)
  | succ m ih =>
    intro x hx hsz hf w k t a l c a' l' c' hv
    cases x with
    | mk k1 t1 words kids =>
      have HV := Lib.hid hv
      obtain ⟨rfl, rfl, rfl, -, -, xs, hl, -⟩ := hv.open
      obtain ⟨_, _, es⟩ := hl.form
      simp only [Value.slice.injEq] at es
      obtain ⟨-, el, -⟩ := es
      subst el
      simp only [Rx.mk.sizeOf_spec] at hx
      rw [rxWt] at hsz
      obtain ⟨h1, h2⟩ := faultE_zero hf
      obtain ⟨hk0, hk6, hmay, -, -⟩ := ownF_zero h1
      have HSZ : Hid (rxsWt kids ≤ 60000) := Lib.hid (by omega)
      have HWT : Hid (wordsWt words ≤ 60000) := Lib.hid (by omega)
      have HKS : Hid (∀ (i : Nat) (y : Rx), kids[i]? = some y → TxSpec P w y) := Lib.hid (fun i y hy W hb k t a l c a' l' c' hvy =>
        ih y (by have := rx_mem hy; omega) (by have := wt_mem hy; omega) (faultEs_zero h2 hy) W k t a l c a' l' c' hvy)
      have HB := Lib.hid (sbelow_new w (.cells #[.int .i64 k, .bool t, .slice a words.length c, .slice a' kids.length c'] 25))
      have HF := Lib.hid (four_new w 25 (.int .i64 k) (.bool t) (.slice a words.length c) (.slice a' kids.length c'))
      obtain ⟨p0, p1, p2, p3⟩ := HF.out.box
      clear hv hl hx hsz hf ih h1 h2 hmay
      obtain rfl | rfl | rfl | rfl | rfl | rfl | rfl : k = 0 ∨ k = 1 ∨ k = 2 ∨ k = 3 ∨ k = 4 ∨ k = 5 ∨ k = 6 := by omega
      · rw [textE, if_pos rfl]
        go_enter Tryz.func35, Tryz.ntmps35
        go_wp2_with fail
        go_ret
        exact ⟨rfl, HB.out⟩
      · have HT : Hid (textE (.mk 1 t words kids) = atomT t words) := Lib.hid (by rw [textE, if_neg (by decide), if_pos rfl])
        have HA := Lib.hid (fun W (hb : Below w.heap.size w W) => atomText_any P 1 t words kids HWT.out W a words.length c a' kids.length c' (HV.out.step hb))
        rw [← HT.out] at HA
        generalize textE (.mk 1 t words kids) = tx at *
        go_enter Tryz.func35, Tryz.ntmps35
        go_wp2_with fail
        refine (HA.out _ HB.out).mono ?_
        rintro e w2 ⟨rfl, b2⟩
        go_wp2_with fail
        go_ret
        exact ⟨rfl, HB.out.trans (b2.mono HB.out.size)⟩
      · by_cases h0 : kids.length = 0
        · rw [textE, if_neg (by decide), if_neg (by decide), if_pos ⟨rfl, h0⟩]
          have h0i : ((kids.length : Int) == 0) = true := beq_iff_eq.2 (by omega)
          clear h0
          go_enter Tryz.func35, Tryz.ntmps35
          go_wp2_with fail
          go_ret
          exact ⟨rfl, HB.out⟩
        · have hne : ((kids.length : Int) == 0) = false := beq_eq_false_iff_ne.2 (by omega)
          have HT : Hid (textE (.mk 2 t words kids) = Lib.join (kidsT 2 kids) [32]) := Lib.hid (by rw [textE, if_neg (by decide), if_neg (by decide), if_neg (fun h => h0 h.2)]; exact List.append_nil _)
          have HK := Lib.hid (fun W (hb : Below w.heap.size w W) => kidsText_of P 2 t words kids ⟨#[32]⟩ (by decide) HSZ.out W a words.length c a' kids.length c' (HV.out.step hb) (Lib.hid (fun i y hy W2 hb2 => HKS.out i y hy W2 (hb.trans (hb2.mono hb.size)))))
          rw [show (⟨#[32]⟩ : ByteArray).data.toList = [32] from rfl] at HK
          rw [← HT.out] at HK
          generalize textE (.mk 2 t words kids) = tx at *
          go_enter Tryz.func35, Tryz.ntmps35
          go_wp2_with fail
          refine (HK.out _ HB.out).mono ?_
          rintro e w2 ⟨rfl, b2⟩
          go_wp2_with fail
          go_ret
          exact ⟨rfl, HB.out.trans (b2.mono HB.out.size)⟩
      · have hz : True := trivial
        have HT : Hid (textE (.mk 3 t words kids) = Lib.join (kidsT 3 kids) [124]) := Lib.hid (by rw [textE, if_neg (by decide), if_neg (by decide), if_neg (fun h => absurd h.1 (by decide))]; exact List.append_nil _)
        have HK := Lib.hid (fun W (hb : Below w.heap.size w W) => kidsText_of P 3 t words kids ⟨#[124]⟩ (by decide) HSZ.out W a words.length c a' kids.length c' (HV.out.step hb) (Lib.hid (fun i y hy W2 hb2 => HKS.out i y hy W2 (hb.trans (hb2.mono hb.size)))))
        rw [show (⟨#[124]⟩ : ByteArray).data.toList = [124] from rfl] at HK
        rw [← HT.out] at HK
        generalize textE (.mk 3 t words kids) = tx at *
        go_enter Tryz.func35, Tryz.ntmps35
        go_wp2_with fail
        refine (HK.out _ HB.out).mono ?_
        rintro e w2 ⟨rfl, b2⟩
        go_wp2_with fail
        go_ret
        exact ⟨rfl, HB.out.trans (b2.mono HB.out.size)⟩
      · have HT : Hid (textE (.mk 4 t words kids) = Lib.join (kidsT 4 kids) [] ++ [42]) := Lib.hid (by rw [textE, if_neg (by decide), if_neg (by decide), if_neg (by simp)]; rfl)
        have HK := Lib.hid (fun W (hb : Below w.heap.size w W) => kidsText_of P 4 t words kids ⟨#[]⟩ (by decide) HSZ.out W a words.length c a' kids.length c' (HV.out.step hb) (Lib.hid (fun i y hy W2 hb2 => HKS.out i y hy W2 (hb.trans (hb2.mono hb.size)))))
        have hl : (Lib.join (kidsT 4 kids) []).length ≤ 1000000 := by
          have h1 := kidsT_lens 4 kids (by have := HSZ.out; omega)
          have h2 := join_len_le (kidsT 4 kids) [] (Nat.zero_le _)
          rw [kidsT_len] at h2
          have := HSZ.out
          omega
        rw [show (⟨#[]⟩ : ByteArray).data.toList = [] from rfl] at HK
        generalize textE (.mk 4 t words kids) = tx at *
        generalize Lib.join (kidsT 4 kids) [] = jt at *
        have hsz : (⟨jt.toArray⟩ : ByteArray).size = jt.length := by simp [ByteArray.size]
        have hbig2 : (jt.length : Int) + 1 ≤ 9223372036854775807 := by omega
        have hw1 : IntKind.i64.wrap ((4 : Int) - 4) = 0 := by decide
        have hw2 : IntKind.i64.wrap (0 : Int) = 0 := by decide
        have henc : Utf8.encode 42 = ⟨#[42]⟩ := by rfl
        go_enter Tryz.func35, Tryz.ntmps35
        go_wp2_with fail
        generalize w.alloc (.cells #[.int .i64 4, .bool t, .slice a words.length c, .slice a' kids.length c'] 25) = w1 at *
        have hI := HF.out.step (Below.refl w1.heap.size w1).drew
        have hB := HB.out.trans ((Below.refl w1.heap.size w1).drew.mono HB.out.size)
        have kk := hI.box
        clear p0 p1 p2 p3
        refine region_T (fun W : World => W.cell? ⟨w.heap.size, 0, none⟩ = some (.int .i64 4) ∧ W.cell? ⟨w.heap.size, 1, none⟩ = some (.bool t) ∧ W.cell? ⟨w.heap.size, 2, none⟩ = some (.slice a words.length c) ∧ W.cell? ⟨w.heap.size, 3, none⟩ = some (.slice a' kids.length c')) 7 (by kernel_rfl) ?_
        refine wpT_take (i := 0) (v := .agg #[.int .i64 4, .bool t, .slice a words.length c, .slice a' kids.length c']) rfl (by kernel_rfl) (by kernel_rfl) (by kernel_rfl) (by kernel_rfl) (by kernel_rfl) (by kernel_rfl) (by kernel_rfl) (by kernel_rfl) (fun _ _ _ h => h) (Or.inl ⟨by rfl, ?_⟩) kk ?_
        · rintro w' ⟨s0, s1, s2, s3⟩
          go_simp
        try simp only [Act.put]
        refine wpT_take (i := 2) (v := .pointer (some ⟨w.heap.size, 0, none⟩)) rfl (by kernel_rfl) (by kernel_rfl) (by kernel_rfl) (by kernel_rfl) (by kernel_rfl) (by kernel_rfl) (by kernel_rfl) (by kernel_rfl) (fun _ _ _ h => h) (Or.inl ⟨by rfl, ?_⟩) kk ?_
        · rintro w' ⟨s0, s1, s2, s3⟩
          go_simp
        try simp only [Act.put]
        refine wpT_take (i := 3) (v := .int .i64 4) rfl (by kernel_rfl) (by kernel_rfl) (by kernel_rfl) (by kernel_rfl) (by kernel_rfl) (by kernel_rfl) (by kernel_rfl) (by kernel_rfl) (fun _ _ _ h => h) (Or.inl ⟨by rfl, ?_⟩) kk ?_
        · rintro w' ⟨s0, s1, s2, s3⟩
          go_simp
        try simp only [Act.put]
        refine wpT_take (i := 4) (v := .int .i64 0) rfl (by kernel_rfl) (by kernel_rfl) (by kernel_rfl) (by kernel_rfl) (by kernel_rfl) (by kernel_rfl) (by kernel_rfl) (by kernel_rfl) (fun _ _ _ h => h) (Or.inl ⟨by rfl, ?_⟩) kk ?_
        · rintro w' ⟨s0, s1, s2, s3⟩
          go_simp
        try simp only [Act.put]
        refine wpT_take (i := 5) (v := .int .u8 42) rfl (by kernel_rfl) (by kernel_rfl) (by kernel_rfl) (by kernel_rfl) (by kernel_rfl) (by kernel_rfl) (by kernel_rfl) (by kernel_rfl) (fun _ _ _ h => h) (Or.inl ⟨by rfl, ?_⟩) kk ?_
        · rintro w' ⟨s0, s1, s2, s3⟩
          go_simp
          all_goals rfl
        try simp only [Act.put]
        refine wpT_take (i := 6) (v := .string ⟨#[42]⟩) rfl (by kernel_rfl) (by kernel_rfl) (by kernel_rfl) (by kernel_rfl) (by kernel_rfl) (by kernel_rfl) (by kernel_rfl) (by kernel_rfl) (fun _ _ _ h => h) (Or.inl ⟨by rfl, ?_⟩) kk ?_
        · rintro w' ⟨s0, s1, s2, s3⟩
          go_simp
        try simp only [Act.put]
        refine wpT_one (i := 1) (by kernel_rfl) rfl ?_
        intro KK hKK
        go_simp
        refine (HK.out _ hB).mono ?_
        rintro e w5 ⟨rfl, b5⟩
        replace hI := hI.step b5
        replace hB := hB.trans (b5.mono hB.size)
        refine hKK _ _ ⟨fun _ => hI.box, ?_⟩
        clear hKK b5
        try simp only [Act.put]
        refine wpT_tail 7 2 rfl rfl (by kernel_rfl) (by kernel_rfl) ?_
        simp only [List.drop_succ_cons, List.drop_zero]
        go_wp2_with fail
        go_ret
        refine ⟨ret_s ?_, hB⟩
        rw [HT.out]
        exact cat2 jt [42]
      · have HT : Hid (textE (.mk 5 t words kids) = Lib.join (kidsT 5 kids) [] ++ [43]) := Lib.hid (by rw [textE, if_neg (by decide), if_neg (by decide), if_neg (by simp)]; rfl)
        have HK := Lib.hid (fun W (hb : Below w.heap.size w W) => kidsText_of P 5 t words kids ⟨#[]⟩ (by decide) HSZ.out W a words.length c a' kids.length c' (HV.out.step hb) (Lib.hid (fun i y hy W2 hb2 => HKS.out i y hy W2 (hb.trans (hb2.mono hb.size)))))
        have hl : (Lib.join (kidsT 5 kids) []).length ≤ 1000000 := by
          have h1 := kidsT_lens 5 kids (by have := HSZ.out; omega)
          have h2 := join_len_le (kidsT 5 kids) [] (Nat.zero_le _)
          rw [kidsT_len] at h2
          have := HSZ.out
          omega
        rw [show (⟨#[]⟩ : ByteArray).data.toList = [] from rfl] at HK
        generalize textE (.mk 5 t words kids) = tx at *
        generalize Lib.join (kidsT 5 kids) [] = jt at *
        have hsz : (⟨jt.toArray⟩ : ByteArray).size = jt.length := by simp [ByteArray.size]
        have hbig2 : (jt.length : Int) + 1 ≤ 9223372036854775807 := by omega
        have hw1 : IntKind.i64.wrap ((5 : Int) - 4) = 1 := by decide
        have hw2 : IntKind.i64.wrap (1 : Int) = 1 := by decide
        have henc : Utf8.encode 43 = ⟨#[43]⟩ := by rfl
        go_enter Tryz.func35, Tryz.ntmps35
        go_wp2_with fail
        generalize w.alloc (.cells #[.int .i64 5, .bool t, .slice a words.length c, .slice a' kids.length c'] 25) = w1 at *
        have hI := HF.out.step (Below.refl w1.heap.size w1).drew
        have hB := HB.out.trans ((Below.refl w1.heap.size w1).drew.mono HB.out.size)
        have kk := hI.box
        clear p0 p1 p2 p3
        refine region_T (fun W : World => W.cell? ⟨w.heap.size, 0, none⟩ = some (.int .i64 5) ∧ W.cell? ⟨w.heap.size, 1, none⟩ = some (.bool t) ∧ W.cell? ⟨w.heap.size, 2, none⟩ = some (.slice a words.length c) ∧ W.cell? ⟨w.heap.size, 3, none⟩ = some (.slice a' kids.length c')) 7 (by kernel_rfl) ?_
        refine wpT_take (i := 0) (v := .agg #[.int .i64 5, .bool t, .slice a words.length c, .slice a' kids.length c']) rfl (by kernel_rfl) (by kernel_rfl) (by kernel_rfl) (by kernel_rfl) (by kernel_rfl) (by kernel_rfl) (by kernel_rfl) (by kernel_rfl) (fun _ _ _ h => h) (Or.inl ⟨by rfl, ?_⟩) kk ?_
        · rintro w' ⟨s0, s1, s2, s3⟩
          go_simp
        try simp only [Act.put]
        refine wpT_take (i := 2) (v := .pointer (some ⟨w.heap.size, 0, none⟩)) rfl (by kernel_rfl) (by kernel_rfl) (by kernel_rfl) (by kernel_rfl) (by kernel_rfl) (by kernel_rfl) (by kernel_rfl) (by kernel_rfl) (fun _ _ _ h => h) (Or.inl ⟨by rfl, ?_⟩) kk ?_
        · rintro w' ⟨s0, s1, s2, s3⟩
          go_simp
        try simp only [Act.put]
        refine wpT_take (i := 3) (v := .int .i64 5) rfl (by kernel_rfl) (by kernel_rfl) (by kernel_rfl) (by kernel_rfl) (by kernel_rfl) (by kernel_rfl) (by kernel_rfl) (by kernel_rfl) (fun _ _ _ h => h) (Or.inl ⟨by rfl, ?_⟩) kk ?_
        · rintro w' ⟨s0, s1, s2, s3⟩
          go_simp
        try simp only [Act.put]
        refine wpT_take (i := 4) (v := .int .i64 1) rfl (by kernel_rfl) (by kernel_rfl) (by kernel_rfl) (by kernel_rfl) (by kernel_rfl) (by kernel_rfl) (by kernel_rfl) (by kernel_rfl) (fun _ _ _ h => h) (Or.inl ⟨by rfl, ?_⟩) kk ?_
        · rintro w' ⟨s0, s1, s2, s3⟩
          go_simp
        try simp only [Act.put]
        refine wpT_take (i := 5) (v := .int .u8 43) rfl (by kernel_rfl) (by kernel_rfl) (by kernel_rfl) (by kernel_rfl) (by kernel_rfl) (by kernel_rfl) (by kernel_rfl) (by kernel_rfl) (fun _ _ _ h => h) (Or.inl ⟨by rfl, ?_⟩) kk ?_
        · rintro w' ⟨s0, s1, s2, s3⟩
          go_simp
          all_goals rfl
        try simp only [Act.put]
        refine wpT_take (i := 6) (v := .string ⟨#[43]⟩) rfl (by kernel_rfl) (by kernel_rfl) (by kernel_rfl) (by kernel_rfl) (by kernel_rfl) (by kernel_rfl) (by kernel_rfl) (by kernel_rfl) (fun _ _ _ h => h) (Or.inl ⟨by rfl, ?_⟩) kk ?_
        · rintro w' ⟨s0, s1, s2, s3⟩
          go_simp
        try simp only [Act.put]
        refine wpT_one (i := 1) (by kernel_rfl) rfl ?_
        intro KK hKK
        go_simp
        refine (HK.out _ hB).mono ?_
        rintro e w5 ⟨rfl, b5⟩
        replace hI := hI.step b5
        replace hB := hB.trans (b5.mono hB.size)
        refine hKK _ _ ⟨fun _ => hI.box, ?_⟩
        clear hKK b5
        try simp only [Act.put]
        refine wpT_tail 7 2 rfl rfl (by kernel_rfl) (by kernel_rfl) ?_
        simp only [List.drop_succ_cons, List.drop_zero]
        go_wp2_with fail
        go_ret
        refine ⟨ret_s ?_, hB⟩
        rw [HT.out]
        exact cat2 jt [43]
      · have HT : Hid (textE (.mk 6 t words kids) = Lib.join (kidsT 6 kids) [] ++ [63]) := Lib.hid (by rw [textE, if_neg (by decide), if_neg (by decide), if_neg (by simp)]; rfl)
        have HK := Lib.hid (fun W (hb : Below w.heap.size w W) => kidsText_of P 6 t words kids ⟨#[]⟩ (by decide) HSZ.out W a words.length c a' kids.length c' (HV.out.step hb) (Lib.hid (fun i y hy W2 hb2 => HKS.out i y hy W2 (hb.trans (hb2.mono hb.size)))))
        have hl : (Lib.join (kidsT 6 kids) []).length ≤ 1000000 := by
          have h1 := kidsT_lens 6 kids (by have := HSZ.out; omega)
          have h2 := join_len_le (kidsT 6 kids) [] (Nat.zero_le _)
          rw [kidsT_len] at h2
          have := HSZ.out
          omega
        rw [show (⟨#[]⟩ : ByteArray).data.toList = [] from rfl] at HK
        generalize textE (.mk 6 t words kids) = tx at *
        generalize Lib.join (kidsT 6 kids) [] = jt at *
        have hsz : (⟨jt.toArray⟩ : ByteArray).size = jt.length := by simp [ByteArray.size]
        have hbig2 : (jt.length : Int) + 1 ≤ 9223372036854775807 := by omega
        have hw1 : IntKind.i64.wrap ((6 : Int) - 4) = 2 := by decide
        have hw2 : IntKind.i64.wrap (2 : Int) = 2 := by decide
        have henc : Utf8.encode 63 = ⟨#[63]⟩ := by rfl
        go_enter Tryz.func35, Tryz.ntmps35
        go_wp2_with fail
        generalize w.alloc (.cells #[.int .i64 6, .bool t, .slice a words.length c, .slice a' kids.length c'] 25) = w1 at *
        have hI := HF.out.step (Below.refl w1.heap.size w1).drew
        have hB := HB.out.trans ((Below.refl w1.heap.size w1).drew.mono HB.out.size)
        have kk := hI.box
        clear p0 p1 p2 p3
        refine region_T (fun W : World => W.cell? ⟨w.heap.size, 0, none⟩ = some (.int .i64 6) ∧ W.cell? ⟨w.heap.size, 1, none⟩ = some (.bool t) ∧ W.cell? ⟨w.heap.size, 2, none⟩ = some (.slice a words.length c) ∧ W.cell? ⟨w.heap.size, 3, none⟩ = some (.slice a' kids.length c')) 7 (by kernel_rfl) ?_
        refine wpT_take (i := 0) (v := .agg #[.int .i64 6, .bool t, .slice a words.length c, .slice a' kids.length c']) rfl (by kernel_rfl) (by kernel_rfl) (by kernel_rfl) (by kernel_rfl) (by kernel_rfl) (by kernel_rfl) (by kernel_rfl) (by kernel_rfl) (fun _ _ _ h => h) (Or.inl ⟨by rfl, ?_⟩) kk ?_
        · rintro w' ⟨s0, s1, s2, s3⟩
          go_simp
        try simp only [Act.put]
        refine wpT_take (i := 2) (v := .pointer (some ⟨w.heap.size, 0, none⟩)) rfl (by kernel_rfl) (by kernel_rfl) (by kernel_rfl) (by kernel_rfl) (by kernel_rfl) (by kernel_rfl) (by kernel_rfl) (by kernel_rfl) (fun _ _ _ h => h) (Or.inl ⟨by rfl, ?_⟩) kk ?_
        · rintro w' ⟨s0, s1, s2, s3⟩
          go_simp
        try simp only [Act.put]
        refine wpT_take (i := 3) (v := .int .i64 6) rfl (by kernel_rfl) (by kernel_rfl) (by kernel_rfl) (by kernel_rfl) (by kernel_rfl) (by kernel_rfl) (by kernel_rfl) (by kernel_rfl) (fun _ _ _ h => h) (Or.inl ⟨by rfl, ?_⟩) kk ?_
        · rintro w' ⟨s0, s1, s2, s3⟩
          go_simp
        try simp only [Act.put]
        refine wpT_take (i := 4) (v := .int .i64 2) rfl (by kernel_rfl) (by kernel_rfl) (by kernel_rfl) (by kernel_rfl) (by kernel_rfl) (by kernel_rfl) (by kernel_rfl) (by kernel_rfl) (fun _ _ _ h => h) (Or.inl ⟨by rfl, ?_⟩) kk ?_
        · rintro w' ⟨s0, s1, s2, s3⟩
          go_simp
        try simp only [Act.put]
        refine wpT_take (i := 5) (v := .int .u8 63) rfl (by kernel_rfl) (by kernel_rfl) (by kernel_rfl) (by kernel_rfl) (by kernel_rfl) (by kernel_rfl) (by kernel_rfl) (by kernel_rfl) (fun _ _ _ h => h) (Or.inl ⟨by rfl, ?_⟩) kk ?_
        · rintro w' ⟨s0, s1, s2, s3⟩
          go_simp
          all_goals rfl
        try simp only [Act.put]
        refine wpT_take (i := 6) (v := .string ⟨#[63]⟩) rfl (by kernel_rfl) (by kernel_rfl) (by kernel_rfl) (by kernel_rfl) (by kernel_rfl) (by kernel_rfl) (by kernel_rfl) (by kernel_rfl) (fun _ _ _ h => h) (Or.inl ⟨by rfl, ?_⟩) kk ?_
        · rintro w' ⟨s0, s1, s2, s3⟩
          go_simp
        try simp only [Act.put]
        refine wpT_one (i := 1) (by kernel_rfl) rfl ?_
        intro KK hKK
        go_simp
        refine (HK.out _ hB).mono ?_
        rintro e w5 ⟨rfl, b5⟩
        replace hI := hI.step b5
        replace hB := hB.trans (b5.mono hB.size)
        refine hKK _ _ ⟨fun _ => hI.box, ?_⟩
        clear hKK b5
        try simp only [Act.put]
        refine wpT_tail 7 2 rfl rfl (by kernel_rfl) (by kernel_rfl) ?_
        simp only [List.drop_succ_cons, List.drop_zero]
        go_wp2_with fail
        go_ret
        refine ⟨ret_s ?_, hB⟩
        rw [HT.out]
        exact cat2 jt [63]
end Go.Proofs.YtocfcnhaecmgpaaGreatDoor
