/-
  The law's copy of an expression, by contract; append(words, ws...) at any row of texts.
-/
import Derived.Test.YtpccdhkghlbhkaaGreatDoorRxL
import Derived.Test.YtpccdhkghlbhkaaGreatDoorAppW
import Derived.Test.YtpccdhkghlbhkaaGreatDoorReg
import Derived.Deep.AppendLies
import Derived.Deep.AppendSrc
namespace Go.Proofs.YtpccdhkghlbhkaaGreatDoor
open Go.RowKit Go.Extern.Stop Go.Stop Go.Extern

/-- Four cells in a block of their own. -/
def QuadAt (ty : TypeId) (w : World) (b : Nat) (c0 c1 c2 c3 : Value) : Prop := w.heap[b]? = some (.cells #[c0, c1, c2, c3] ty (0, 0))
/-- Four cells stored one behind the other. -/
def set4 (w : World) (b o : Nat) (c0 c1 c2 c3 : Value) : World :=
  (((w.setCell ⟨b, o, none⟩ c0).setCell ⟨b, o + 1, none⟩ c1).setCell ⟨b, o + 2, none⟩ c2).setCell ⟨b, o + 3, none⟩ c3
section
variable {ty : TypeId} {w w' : World} {b : Nat} {c0 c1 c2 c3 : Value}
theorem QuadAt.cells (h : QuadAt ty w b c0 c1 c2 c3) : w.cell? ⟨b, 0, none⟩ = some c0 ∧ w.cell? ⟨b, 1, none⟩ = some c1 ∧ w.cell? ⟨b, 2, none⟩ = some c2 ∧ w.cell? ⟨b, 3, none⟩ = some c3 :=
  ⟨by rw [Lib.cell_of_heap h]; rfl, by rw [Lib.cell_of_heap h]; rfl, by rw [Lib.cell_of_heap h]; rfl, by rw [Lib.cell_of_heap h]; rfl⟩
theorem QuadAt.lt (h : QuadAt ty w b c0 c1 c2 c3) : b < w.heap.size := (Array.getElem?_eq_some_iff.1 h).1
theorem QuadAt.step (h : QuadAt ty w b c0 c1 c2 c3) (hb : Below w.heap.size w w') : QuadAt ty w' b c0 c1 c2 c3 := (hb.block b h.lt).trans h
theorem QuadAt.grown {row : Option Nat} (h : QuadAt ty w b c0 c1 c2 c3) (hg : w.grownBy w' row) (hne : row ≠ some b) : QuadAt ty w' b c0 c1 c2 c3 := by
  unfold QuadAt
  rw [hg.block b h.lt (fun e => hne e.symm)]
  exact h
theorem QuadAt.far (h : QuadAt ty w b c0 c1 c2 c3) {q : Addr} (hq : b ≠ q.block) (u : Value) : QuadAt ty (w.setCell q u) b c0 c1 c2 c3 := (heap_setCell_other _ _ _ _ hq).trans h
theorem QuadAt.fz (h : QuadAt ty w b c0 c1 c2 c3) (i : Nat) : w.frozen? ⟨b, i, none⟩ = false := by
  unfold World.frozen?
  rw [h]
  simp
theorem QuadAt.put0 (h : QuadAt ty w b c0 c1 c2 c3) (u : Value) : QuadAt ty (w.setCell ⟨b, 0, none⟩ u) b u c1 c2 c3 := heap_setCell_same w b 0 _ _ u h
theorem QuadAt.put1 (h : QuadAt ty w b c0 c1 c2 c3) (u : Value) : QuadAt ty (w.setCell ⟨b, 1, none⟩ u) b c0 u c2 c3 := heap_setCell_same w b 1 _ _ u h
theorem QuadAt.put2 (h : QuadAt ty w b c0 c1 c2 c3) (u : Value) : QuadAt ty (w.setCell ⟨b, 2, none⟩ u) b c0 c1 u c3 := heap_setCell_same w b 2 _ _ u h
theorem QuadAt.put3 (h : QuadAt ty w b c0 c1 c2 c3) (u : Value) : QuadAt ty (w.setCell ⟨b, 3, none⟩ u) b c0 c1 c2 u := heap_setCell_same w b 3 _ _ u h
theorem QuadAt.set4 (h : QuadAt ty w b c0 c1 c2 c3) (d0 d1 d2 d3 : Value) : QuadAt ty (set4 w b 0 d0 d1 d2 d3) b d0 d1 d2 d3 := by
  have h0 : QuadAt ty (w.setCell ⟨b, 0, none⟩ d0) b d0 c1 c2 c3 := heap_setCell_same w b 0 _ _ d0 h
  have h1 : QuadAt ty _ b d0 d1 c2 c3 := heap_setCell_same _ b 1 _ _ d1 h0
  exact (h1.put2 d2).put3 d3
theorem QuadAt.keeps {D : Nat → Prop} (h : QuadAt ty w b c0 c1 c2 c3) (hk : Keeps D w w') (hD : ¬ D b) : QuadAt ty w' b c0 c1 c2 c3 := (hk.block b h.lt hD).trans h
theorem quad_new (w : World) (ty : TypeId) (c0 c1 c2 c3 : Value) : QuadAt ty (w.alloc (.cells #[c0, c1, c2, c3] ty)) w.heap.size c0 c1 c2 c3 := heap_alloc_new w _
end
theorem infoRExpr : (Tryz.prog.info? 33).map (fun i => (i.zero, i.size, i.bytes)) = some (some (.agg #[.int .i64 0, .bool false, .slice none 0 0, .slice none 0 0]), 4, 64) := by kernel_rfl
theorem keeps_set4 (w : World) (b o : Nat) (c0 c1 c2 c3 : Value) : Keeps (· = b) w (set4 w b o c0 c1 c2 c3) := by
  have k0 : Keeps (· = b) w (w.setCell ⟨b, o, none⟩ c0) := Keeps.setCell (D := (· = b)) (Keeps.refl _ w) (q := ⟨b, o, none⟩) (.inr rfl) c0
  have k1 := k0.setCell (q := ⟨b, o + 1, none⟩) (.inr rfl) c1
  have k2 := k1.setCell (q := ⟨b, o + 2, none⟩) (.inr rfl) c2
  exact k2.setCell (q := ⟨b, o + 3, none⟩) (.inr rfl) c3
/-- Which blocks of the copy stay as they are. -/
def KeptX (n : Nat) (vL : Value) (q : Nat) : Prop := n + 3 ≤ q ∧ vL.ownBlock ≠ some q
/-- On the way through the kids. -/
structure CpSt (w0 : World) (k : Int) (t : Bool) (sw sk : Value) (words : List ByteArray) (vs : List Rx) (vW vL : Value) (xs : List Value) (w : World) : Prop where
  src : QuadAt 26 w w0.heap.size (.int .i64 k) (.bool t) sw sk
  res : QuadAt 33 w (w0.heap.size + 1) (.int .i64 0) (.bool false) (.slice none 0 0) (.slice none 0 0)
  out : QuadAt 33 w (w0.heap.size + 2) (.int .i64 k) (.bool t) vW vL
  own : w.ownsRow (w0.heap.size + 3) 33 4 vL vs.length xs
  vals : ExsC (KeptX w0.heap.size vL) w xs vs
  words : RowX (KeptX w0.heap.size vL) w vW words.length (words.map Value.string)
  below : Below w0.heap.size w0 w
section
variable {w0 : World} {k : Int} {t : Bool} {sw sk : Value} {words : List ByteArray} {vs : List Rx} {vW vL : Value} {xs : List Value} {w w' : World}
theorem CpSt.step (h : CpSt w0 k t sw sk words vs vW vL xs w) (hb : Below w.heap.size w w') : CpSt w0 k t sw sk words vs vW vL xs w' :=
  ⟨h.src.step hb, h.res.step hb, h.out.step hb, ownX_up h.own hb, h.vals.step hb, h.words.step hb, h.below.trans (hb.mono h.below.size)⟩
theorem CpSt.list (h : CpSt w0 k t sw sk words vs vW vL xs w) : ∃ a c, vL = .slice a vs.length c := by
  rcases h.own.2 with ⟨rfl, h0⟩ | ⟨g, cap, cur, rfl, -⟩
  · exact ⟨none, 0, by rw [h0]⟩
  · exact ⟨_, cap, rfl⟩
theorem CpSt.lt3 (h : CpSt w0 k t sw sk words vs vW vL xs w) : w0.heap.size + 3 ≤ w.heap.size := h.out.lt
/-- One kid more. -/
theorem CpSt.push {w1 : World} {g cap B n : Nat} {cs : List Value} {x : Rx} (hn : n = vs.length)
    (h : CpSt w0 k t sw sk words vs vW vL xs w) (hx : ExC (fun q => B ≤ q) w cs x) (hB : w0.heap.size + 3 ≤ B) (hvB : ∀ q, vL.ownBlock = some q → q < B)
    (hown : w1.ownsRow (w0.heap.size + 3) 33 4 (.slice (some ⟨g, 0, none⟩) (n + 1) cap) (n + 1) (xs ++ cs)) (hgrow : w.grownBy w1 vL.ownBlock) (hat : vL.ownBlock = some g ∨ g = w.heap.size) :
    CpSt w0 k t sw sk words (vs ++ [x]) vW (.slice (some ⟨g, 0, none⟩) (n + 1) cap) (xs ++ cs) (w1.setCell ⟨w0.heap.size + 2, 3, none⟩ (.slice (some ⟨g, 0, none⟩) (n + 1) cap)) := by
  subst hn
  have hne : ∀ q, q < w0.heap.size + 3 → vL.ownBlock ≠ some q := fun q hq e => by have := (h.own.lt q e).1; omega
  have hg3 : w0.heap.size + 3 ≤ g := (hown.lt g rfl).1
  have hmv : ∀ q, KeptX w0.heap.size vL q → q < w.heap.size → KeptX w0.heap.size (.slice (some ⟨g, 0, none⟩) (vs.length + 1) cap) q ∧ (w1.setCell ⟨w0.heap.size + 2, 3, none⟩ (.slice (some ⟨g, 0, none⟩) (vs.length + 1) cap)).heap[q]? = w.heap[q]? := by
    rintro q ⟨h1, h2⟩ hlt
    refine ⟨⟨h1, fun e => ?_⟩, ?_⟩
    · have e' : g = q := by injection e
      subst e'
      rcases hat with e | e
      · exact h2 e
      · omega
    · rw [heap_setCell_other _ _ _ _ (by show q ≠ w0.heap.size + 2; omega), hgrow.block q hlt (fun e => h2 e.symm)]
  have hsz : w.heap.size ≤ (w1.setCell ⟨w0.heap.size + 2, 3, none⟩ (.slice (some ⟨g, 0, none⟩) (vs.length + 1) cap)).heap.size := by rw [World.size_setCell]; exact hgrow.size
  refine ⟨?_, ?_, ?_, ?_, ?_, ?_, ?_⟩
  · exact (h.src.grown hgrow (hne _ (by omega))).far (by show w0.heap.size ≠ w0.heap.size + 2; omega) _
  · exact (h.res.grown hgrow (hne _ (by omega))).far (by show w0.heap.size + 1 ≠ w0.heap.size + 2; omega) _
  · exact (h.out.grown hgrow (hne _ (by omega))).put3 _
  · rw [List.length_append, List.length_singleton]
    exact ownX_keeps hown (D := (· = w0.heap.size + 2)) (Keeps.setCell (D := (· = w0.heap.size + 2)) (Keeps.refl _ _) (q := ⟨w0.heap.size + 2, 3, none⟩) (.inr rfl) _) (fun q e => by
      have e' : g = q := by injection e
      show q ≠ w0.heap.size + 2
      omega)
  · exact ExsC.snoc (hx.move hsz fun q hq hlt => hmv q ⟨by omega, fun e => by have := hvB q e; omega⟩ hlt) (h.vals.move hsz hmv)
  · exact h.words.move hsz hmv
  · exact ((h.below.grown hgrow h.below.size (fun q e => by have := (h.own.lt q e).1; omega)).setCell (p := ⟨w0.heap.size + 2, 3, none⟩) (by show w0.heap.size ≤ w0.heap.size + 2; omega) _)
end

/-- What the copy's call answers. -/
def XToOut (w : World) (k : Int) (t : Bool) (x : Rx) (e : Ending) (w' : World) : Prop :=
  ∃ (a : Option Addr) (l c : Nat) (a' : Option Addr) (l' c' : Nat), e = .returned (.agg #[.int .i64 k, .bool t, .slice a l c, .slice a' l' c']) ∧
    ExC (fun q => w.heap.size ≤ q) w' [.int .i64 k, .bool t, .slice a l c, .slice a' l' c'] x ∧ Below w.heap.size w w'
set_option maxRecDepth 100000 in
set_option maxHeartbeats 8000000 in
theorem xto_go (P : Nat → Prop) : ∀ (m : Nat) (x : Rx), SizeOf.sizeOf x < m → rxWt x ≤ 1000000 → ∀ (w : World) (k : Int) (t : Bool) (a : Option Addr) (l c : Nat) (a' : Option Addr) (l' c' : Nat),
    ExC P w [.int .i64 k, .bool t, .slice a l c, .slice a' l' c'] x →
    Calls Tryz.prog 10 #[.agg #[.int .i64 k, .bool t, .slice a l c, .slice a' l' c']] w (XToOut w k t x) := by
  intro m
  induction m with
  | zero => intro x hx; exact absurd hx (Nat.not_lt_zero _)
  | succ m ih =>
    intro x hx hsz w k t a l c a' l' c' hv
    have IH := Lib.hid ih
    clear ih
    obtain ⟨i0, hi, hz0, hz1, hz2⟩ := info_parts infoRExpr
    cases x with
    | mk k1 t1 words kids =>
      rw [rxWt] at hsz
      obtain ⟨rfl, rfl, hk, xs, hl, hvs⟩ := hv.open
      have HROW := Lib.hid hl
      have HVS := Lib.hid hvs
      have HK := Lib.hid hk
      obtain ⟨_, _, es⟩ := hl.form
      simp only [Value.slice.injEq] at es
      obtain ⟨-, el, -⟩ := es
      subst el
      obtain ⟨_, _, es⟩ := hk.form
      simp only [Value.slice.injEq] at es
      obtain ⟨-, el, -⟩ := es
      subst el
      have hll : rxsWt kids ≤ 1000000 := by omega
      have hwl : words.length ≤ 1000000 := by have := wlen_wt words; omega
      have HLL := Lib.hid hll
      have HWL := Lib.hid hwl
      simp only [Rx.mk.sizeOf_spec] at hx
      have HX := Lib.hid hx
      clear hk hl hvs hx hsz hll hwl hv
      have hS1 := quad_new w 26 (.int .i64 k) (.bool t) (.slice a words.length c) (.slice a' kids.length c')
      have hb1 := sbelow_new w (.cells #[.int .i64 k, .bool t, .slice a words.length c, .slice a' kids.length c'] 26)
      generalize hw1 : w.alloc (.cells #[.int .i64 k, .bool t, .slice a words.length c, .slice a' kids.length c'] 26) = w1 at *
      have hz1' : w1.heap.size = w.heap.size + 1 := by rw [← hw1, World.size_alloc]
      have hR1 := quad_new w1 33 (.int .i64 0) (.bool false) (.slice none 0 0) (.slice none 0 0)
      rw [hz1'] at hR1
      have hb2 := sbelow_new w1 (.cells #[.int .i64 0, .bool false, .slice none 0 0, .slice none 0 0] 33)
      have hS2 := hS1.step hb2
      have hz2' : (w1.alloc (.cells #[.int .i64 0, .bool false, .slice none 0 0, .slice none 0 0] 33)).heap.size = w.heap.size + 2 := by rw [World.size_alloc, hz1']
      have hB2 := hb1.trans (hb2.mono hb1.size)
      generalize hw2 : w1.alloc (.cells #[.int .i64 0, .bool false, .slice none 0 0, .slice none 0 0] 33) = w2 at *
      have hO3 := quad_new w2 33 (.int .i64 k) (.bool t) (.slice none 0 0) (.slice none 0 0)
      rw [hz2'] at hO3
      have hb3 := sbelow_new w2 (.cells #[.int .i64 k, .bool t, .slice none 0 0, .slice none 0 0] 33)
      have hS3 := hS2.step hb3
      have hR3 := hR1.step hb3
      have hz3' : (w2.alloc (.cells #[.int .i64 k, .bool t, .slice none 0 0, .slice none 0 0] 33)).heap.size = w.heap.size + 3 := by rw [World.size_alloc, hz2']
      have hB3 := hB2.trans (hb3.mono hB2.size)
      obtain ⟨p0, p1, p2, p3⟩ := hS2.cells
      obtain ⟨-, -, q2, -⟩ := hS3.cells
      obtain ⟨-, -, r2, -⟩ := hO3.cells
      have rf := hO3.fz 2
      have HS3 := Lib.hid hS3
      have HR3 := Lib.hid hR3
      have HO3 := Lib.hid hO3
      have HB3 := Lib.hid hB3
      have HZ3 := Lib.hid hz3'
      have hwl := HWL.out
      have hK3 := HK.out.move (P' := P) hB3.size (fun q hq hlt => ⟨hq, hB3.block q hlt⟩)
      have HK3 := Lib.hid hK3
      have hs1 : w1.heap.size = w.heap.size + 1 := hz1'
      have hs2 : w2.heap.size = w.heap.size + 2 := hz2'
      clear hS1 hS2 hS3 hR1 hR3 hO3 hb1 hb2 hb3 hB2 hB3 hK3
      go_enter Tryz.func10, Tryz.ntmps10
      go_wp2_with (at_builtin; refine wpList_append_words (P := P) _ rfl _ _ rfl (w.heap.size + 3) (.slice none 0 0) 0 [] rfl (World.ownsRow_nil _ _ _ _) _ words rfl HK3.out ?bound ?base ?main)
      case bound => omega
      case base => rw [HZ3.out]; exact Nat.le_refl _
      intro vW wK hownK hgrowK
      generalize hw3 : w2.alloc (.cells #[.int .i64 k, .bool t, .slice none 0 0, .slice none 0 0] 33) = w3 at *
      have hbK : Below w3.heap.size w3 wK := ⟨hgrowK.os, hgrowK.tape, hgrowK.output, hgrowK.size, fun q hq => hgrowK.block q hq (fun e => by cases e)⟩
      have hlK := hownK.lt
      have hKc : RowX (KeptX w.heap.size (.slice none 0 0)) (wK.setCell ⟨w.heap.size + 2, 2, none⟩ vW) vW words.length (words.map Value.string) := by
        have hown' := ownX_keeps hownK (D := (· = w.heap.size + 2)) (Keeps.setCell (D := (· = w.heap.size + 2)) (Keeps.refl _ _) (q := ⟨w.heap.size + 2, 2, none⟩) (.inr rfl) vW) (fun q e h => by have := (hlK q e).1; omega)
        exact RowX.of_own hown' (fun q e => ⟨(hlK q e).1, fun h => by cases h⟩)
      have H0 : Hid (CpSt w k t (.slice a words.length c) (.slice a' kids.length c') words [] vW (.slice none 0 0) [] (wK.setCell ⟨w.heap.size + 2, 2, none⟩ vW)) := Lib.hid
        ⟨(HS3.out.step hbK).far (by show w.heap.size ≠ w.heap.size + 2; omega) _, (HR3.out.step hbK).far (by show w.heap.size + 1 ≠ w.heap.size + 2; omega) _, (HO3.out.step hbK).put2 _, World.ownsRow_nil _ _ _ _, ExsC.nil, hKc,
          (HB3.out.trans (hbK.mono HB3.out.size)).setCell (p := ⟨w.heap.size + 2, 2, none⟩) (by show w.heap.size ≤ w.heap.size + 2; omega) _⟩
      have hcap : CapV vW words.length := by have h := CapV.of_own hownK; simpa using h
      obtain ⟨aK, cK, rfl⟩ := hKc.form
      have HCAP := Lib.hid hcap
      clear hcap
      have d2 : wK.cell? ⟨w.heap.size + 2, 2, none⟩ = some (.slice none 0 0) := ((HO3.out.step hbK).cells).2.2.1
      have df : wK.frozen? ⟨w.heap.size + 2, 2, none⟩ = false := (HO3.out.step hbK).fz 2
      have p3K : wK.cell? ⟨w.heap.size, 3, none⟩ = some (.slice a' kids.length c') := ((HS3.out.step hbK).cells).2.2.2
      clear hownK hgrowK hbK hlK hKc p0 p1 p2 p3 q2 r2 rf hw1 hw2 hw3 hz1' hz2' hz3' hs1 hs2
      go_wp2_with fail
      generalize wK.setCell ⟨w.heap.size + 2, 2, none⟩ (.slice aK words.length cK) = w4 at *
      clear d2 df p3K HS3 HR3 HO3 HB3 HZ3 HK3
      go_loopg [20] kids.length (fun g v wr => ∃ (i : Nat) (vL : Value) (ys : List Value), i ≤ kids.length ∧ g = kids.length - i ∧ v = .int .i64 i ∧ CpSt w k t (.slice a words.length c) (.slice a' kids.length c') words (kids.take i) (.slice aK words.length cK) vL ys wr)
      case atStart => exact ⟨0, _, _, Nat.zero_le _, by omega, rfl, by rw [List.take_zero]; exact H0.out⟩
      case round =>
        obtain ⟨i, vL, ys, hi', hgk, rfl, hst⟩ := hrel
        have HST := Lib.hid hst
        by_cases hlt : i < kids.length
        · obtain ⟨x, hx⟩ : ∃ x, kids[i]? = some x := ⟨_, List.getElem?_eq_getElem hlt⟩
          have hwx := wt_mem hx
          have hsx : SizeOf.sizeOf x < m := by have := rx_mem hx; have := HX.out; omega
          have hvsz : rxWt x ≤ 1000000 := by have := HLL.out; omega
          have htake : kids.take (i + 1) = kids.take i ++ [x] := by rw [List.take_add_one, hx]; rfl
          have hlen : (kids.take i).length = i := by rw [List.length_take]; omega
          obtain ⟨b1, o1, k6, t6, a6, l6, c6, a7, l7, c7, rfl, hvx, hE1⟩ := ex_at HROW.out HVS.out hx hst.below
          have HC := Lib.hid (fun W (hb : Below w.heap.size w W) => IH.out x hsx hvsz W _ _ _ _ _ _ _ _ (hvx.step hb))
          have hb5 := sbelow_new wr (.cells #[.int .i64 k6, .bool t6, .slice a6 l6 c6, .slice a7 l7 c7] 26)
          have hst5 := hst.step hb5
          have hq5 : wr.heap.size < (wr.alloc (.cells #[.int .i64 k6, .bool t6, .slice a6 l6 c6, .slice a7 l7 c7] 26)).heap.size := by simp
          have hS5 := quad_new wr 26 (.int .i64 k6) (.bool t6) (.slice a6 l6 c6) (.slice a7 l7 c7)
          have hvl : ∀ q, vL.ownBlock = some q → q < wr.heap.size := fun q e => (hst.own.lt q e).2
          obtain ⟨va, vc, rfl⟩ := hst.list
          rw [hlen] at *
          obtain ⟨-, g0, g1, g2, g3⟩ := hE1
          clear hx hwx hsx hvsz hvx hst hb5
          go_wp2_with fail
          generalize wr.alloc (.cells #[.int .i64 k6, .bool t6, .slice a6 l6 c6, .slice a7 l7 c7] 26) = w5 at *
          have hd5 := hst5.step (Below.refl w5.heap.size w5).drew
          have hBW := hd5.below
          refine region_T (fun W' : World => W'.cell? ⟨w.heap.size + 2, 3, none⟩ = some (.slice va i vc) ∧ QuadAt 26 W' wr.heap.size (.int .i64 k6) (.bool t6) (.slice a6 l6 c6) (.slice a7 l7 c7)) 5 (by kernel_rfl) ?_
          have hS0 : (fun W' : World => W'.cell? ⟨w.heap.size + 2, 3, none⟩ = some (.slice va i vc) ∧ QuadAt 26 W' wr.heap.size (.int .i64 k6) (.bool t6) (.slice a6 l6 c6) (.slice a7 l7 c7)) w5.drew := ⟨hd5.out.cells.2.2.2, hS5.step (Below.refl w5.heap.size w5).drew⟩
          refine wpT_take (i := 0) (v := .pointer (some ⟨w.heap.size + 2, 3, none⟩)) rfl (by kernel_rfl) (by kernel_rfl) (by kernel_rfl) (by kernel_rfl) (by kernel_rfl) (by kernel_rfl) (by kernel_rfl) (by kernel_rfl) (fun _ _ _ h => h) (Or.inl ⟨by rfl, ?_⟩) hS0 ?_
          · rintro w' -
            go_simp
          try simp only [Act.put]
          refine wpT_take (i := 1) (v := .slice va i vc) rfl (by kernel_rfl) (by kernel_rfl) (by kernel_rfl) (by kernel_rfl) (by kernel_rfl) (by kernel_rfl) (by kernel_rfl) (by kernel_rfl) (fun _ _ _ h => h) (Or.inl ⟨by rfl, ?_⟩) hS0 ?_
          · rintro w' ⟨s0, -⟩
            go_simp
          try simp only [Act.put]
          refine wpT_take (i := 2) (v := .agg #[.int .i64 k6, .bool t6, .slice a6 l6 c6, .slice a7 l7 c7]) rfl (by kernel_rfl) (by kernel_rfl) (by kernel_rfl) (by kernel_rfl) (by kernel_rfl) (by kernel_rfl) (by kernel_rfl) (by kernel_rfl) (fun _ _ _ h => h) (Or.inl ⟨by rfl, ?_⟩) hS0 ?_
          · rintro w' ⟨-, s1⟩
            obtain ⟨y0, y1, y2, y3⟩ := s1.cells
            go_simp
          try simp only [Act.put]
          refine wpT_one (i := 3) (by kernel_rfl) rfl ?_
          intro KK hKK
          go_simp
          refine (HC.out _ hBW).mono ?_
          rintro e w6 ⟨aa, la, ca, ab, lb, cb, rfl, hvx6, b6⟩
          have hst6 := hd5.step b6
          have hS6 : (fun W' : World => W'.cell? ⟨w.heap.size + 2, 3, none⟩ = some (.slice va i vc) ∧ QuadAt 26 W' wr.heap.size (.int .i64 k6) (.bool t6) (.slice a6 l6 c6) (.slice a7 l7 c7)) w6 := ⟨hst6.out.cells.2.2.2, hS0.2.step b6⟩
          refine hKK _ _ ⟨fun _ => hS6, ?_⟩
          clear hKK
          try simp only [Act.put]
          have hb7 := sbelow_new w6 (.cells #[.int .i64 k6, .bool t6, .slice aa la ca, .slice ab lb cb] 33)
          have hst7 := hst6.step hb7
          have hvx7 := hvx6.step hb7
          have hN7 := heap_alloc_new w6 (.cells #[.int .i64 k6, .bool t6, .slice aa la ca, .slice ab lb cb] 33)
          have hS7 : (fun W' : World => W'.cell? ⟨w.heap.size + 2, 3, none⟩ = some (.slice va i vc) ∧ QuadAt 26 W' wr.heap.size (.int .i64 k6) (.bool t6) (.slice a6 l6 c6) (.slice a7 l7 c7)) (w6.alloc (.cells #[.int .i64 k6, .bool t6, .slice aa la ca, .slice ab lb cb] 33)) := ⟨hst7.out.cells.2.2.2, hS6.2.step hb7⟩
          have hz6 : w.heap.size + 3 ≤ (w6.alloc (.cells #[.int .i64 k6, .bool t6, .slice aa la ca, .slice ab lb cb] 33)).heap.size := hst7.out.lt
          refine wpT_one (i := 4) (by kernel_rfl) rfl ?_
          intro KK hKK
          go_simp
          refine hKK _ _ ⟨fun _ => hS7, ?_⟩
          clear hKK hS0
          try simp only [Act.put]
          refine wpT_tail 5 3 rfl rfl (by kernel_rfl) (by kernel_rfl) ?_
          have hown7 := hst7.own
          rw [show (kids.take i).length = i by rw [List.length_take]; omega] at hown7
          have hil : i ≤ 1000000 := by have := len_wt kids; have := HLL.out; omega
          simp only [List.drop_succ_cons, List.drop_zero]
          refine wpList_append_lies _ rfl _ _ 31 rfl (w.heap.size + 3) 33 i0 (.agg #[.int .i64 0, .bool false, .slice none 0 0, .slice none 0 0]) 4 64 Tryz.underlying31 hi hz0 hz1 hz2 rfl (by decide) _ _ _ rfl hown7 ⟨w6.heap.size, 0, none⟩ 1 1 [.int .i64 k6, .bool t6, .slice aa la ca, .slice ab lb cb] rfl rfl (World.news_of_block hN7) ?ones (by decide) ?len ?bytes hz6 _ rfl ?main6
          case ones => intro y hy; simp only [List.mem_cons, List.not_mem_nil, or_false] at hy; rcases hy with rfl | rfl | rfl | rfl <;> rfl
          case len => unfold maxLen; omega
          case bytes => omega
          intro g cap w8 hown8 hgrow8 hat8 hlt8
          have hst8 := hst7.push (n := i) (by rw [List.length_take]; omega) hvx7 hst5.lt3 (fun q e => Nat.lt_trans (hvl q e) hq5) hown8 hgrow8 hat8
          have hrow : (Value.slice va i vc).ownBlock ≠ some (w.heap.size + 2) := fun e => by have := (hown7.lt _ e).1; omega
          have d3 := (hst7.out.grown hgrow8 hrow).cells.2.2.2
          have df := (hst7.out.grown hgrow8 hrow).fz 3
          clear hown8 hgrow8 hat8 hlt8 hst7 hst6 hd5 hst5 hvx7 hvx6 hS7 hS6 hS5 hN7 hown7 hb7 hrow
          have HST8 := Lib.hid hst8
          clear hst8
          go_wp2_with fail
          go_roundg (kids.length - (i + 1))
          case measure => omega
          case rel => exact ⟨i + 1, _, _, by omega, rfl, rfl, by rw [htake]; exact HST8.out⟩
        · obtain rfl : i = kids.length := by omega
          rw [List.take_length] at hst
          obtain ⟨va, vc, rfl⟩ := hst.list
          obtain ⟨s0, s1, s2, s3⟩ := hst.out.cells
          obtain ⟨r0, r1, r2, r3⟩ := hst.res.cells
          have rf := hst.res.fz
          obtain ⟨q0, q1, q2, q3⟩ := (hst.res.set4 (.int .i64 k) (.bool t) (.slice aK words.length cK) (.slice va kids.length vc)).cells
          have hk4 := keeps_set4 wr (w.heap.size + 1) 0 (.int .i64 k) (.bool t) (.slice aK words.length cK) (.slice va kids.length vc)
          have hbl : Below w.heap.size w (set4 wr (w.heap.size + 1) 0 (.int .i64 k) (.bool t) (.slice aK words.length cK) (.slice va kids.length vc)) := by
            unfold set4
            exact (((hst.below.setCell (p := ⟨w.heap.size + 1, 0, none⟩) (Nat.le_succ _) _).setCell (p := ⟨w.heap.size + 1, 0 + 1, none⟩) (Nat.le_succ _) _).setCell (p := ⟨w.heap.size + 1, 0 + 2, none⟩) (Nat.le_succ _) _).setCell (p := ⟨w.heap.size + 1, 0 + 3, none⟩) (Nat.le_succ _) _
          have hmv : ∀ q, KeptX w.heap.size (.slice va kids.length vc) q → q < wr.heap.size → w.heap.size ≤ q ∧ (set4 wr (w.heap.size + 1) 0 (.int .i64 k) (.bool t) (.slice aK words.length cK) (.slice va kids.length vc)).heap[q]? = wr.heap[q]? :=
            fun q hq hlt => ⟨by have := hq.1; omega, hk4.block q hlt (by have := hq.1; omega)⟩
          have hown9 := ownX_keeps hst.own hk4 (fun q e => by have := (hst.own.lt q e).1; omega)
          have hval : ExC (fun q => w.heap.size ≤ q) (set4 wr (w.heap.size + 1) 0 (.int .i64 k) (.bool t) (.slice aK words.length cK) (.slice va kids.length vc)) [.int .i64 k, .bool t, .slice aK words.length cK, .slice va kids.length vc] (.mk k t words kids) := by
            unfold ExC
            exact ⟨_, _, ys, rfl, HCAP.out, hst.words.move hk4.size hmv, RowX.of_own hown9 (fun q e => by have := (hst.own.lt q e).1; omega), hst.vals.move hk4.size hmv⟩
          have HVAL := Lib.hid hval
          have HBL := Lib.hid hbl
          clear hval hbl hk4 hmv hown9 hst
          have rf0 := rf 0
          have rf1 := rf 1
          have rf2 := rf 2
          have rf3 := rf 3
          clear rf
          go_wp2_with fail
          unfold set4 at q0 q1 q2 q3 HVAL HBL
          exact bodyPost_ret (v := .agg #[.int .i64 k, .bool t, .slice aK words.length cK, .slice va kids.length vc]) (by simp [results, Tryz.results10, go_sem, q0, q1, q2, q3]) rfl ⟨_, _, _, _, _, _, rfl, HVAL.out, HBL.out⟩
end Go.Proofs.YtpccdhkghlbhkaaGreatDoor
