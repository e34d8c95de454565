/-
  Package tree by contracts, third part: a text in quotes, built byte by byte.
-/
import Derived.Test.YtajmlkephefapaaGreatDoorTreeC
namespace Go.Proofs.YtajmlkephefapaaGreatDoor
open Go.RowKit Go.Extern.Stop Go.Stop Go.Extern

theorem BldAt.step {B b : Nat} {bs : List Value} {w w' : World} (h : BldAt B b bs w) (hb : Below w.heap.size w w') : BldAt B b bs w' := by
  have hg := grown_of_below hb
  have key : ∀ p, Lib.BuilderAtF 80 5 B b p bs w → Lib.BuilderAtF 80 5 B b p bs w' := by
    rintro p ⟨hB, v, hbk, hown, hne⟩
    refine ⟨hB, v, ?_, hown.kept hg (by cases hv : v.ownBlock <;> simp), hne⟩
    rw [hg.block b (Array.getElem?_eq_some_iff.1 hbk).1 (by simp)]
    exact hbk
  exact h.imp (key _) (key _)
/-- What a builder holds; as long as it holds nothing it has no buffer. -/
structure TxSt (b : Nat) (l : List UInt8) (w : World) : Prop where
  bld : BldAt b b (Lib.byteCells l) w
  nil0 : l = [] → w.cell? ⟨b, 1, none⟩ = some (.slice none 0 0)
theorem TxSt.lt {b : Nat} {l : List UInt8} {w : World} (h : TxSt b l w) : b < w.heap.size := by
  rcases h.bld with h | h <;> exact h.lt
theorem TxSt.step {b : Nat} {l : List UInt8} {w w' : World} (h : TxSt b l w) (hb : Below w.heap.size w w') : TxSt b l w' :=
  ⟨h.bld.step hb, fun e => (hb.cell (p := ⟨b, 1, none⟩) h.lt).trans (h.nil0 e)⟩
theorem TxSt.drew {b : Nat} {l : List UInt8} {w : World} (h : TxSt b l w) : TxSt b l w.drew := ⟨h.bld.imp (fun h => h) (fun h => h), h.nil0⟩
theorem ScanAt.stepB {w w' : World} {b B : Nat} {s : ByteArray} {j : Int} (h : ScanAt w b s j) (hb : Below B w w') (hB : b < B) : ScanAt w' b s j :=
  ⟨Nat.lt_of_lt_of_le h.1 hb.size, (hb.cell (p := ⟨b, 0, none⟩) hB).trans h.2.1, (hb.cell (p := ⟨b, 1, none⟩) hB).trans h.2.2.1, fun i => (hb.frozen (p := ⟨b, i, none⟩) hB).trans (h.2.2.2 i)⟩
/-- A block of a place, whole. -/
def ScanB (w : World) (b : Nat) (s : ByteArray) (j : Int) : Prop := w.heap[b]? = some (.cells #[.string s, .int .i64 j] 58 (0, 0))
theorem ScanB.new (w : World) (s : ByteArray) (j : Int) : ScanB (w.alloc (.cells #[.string s, .int .i64 j] 58)) w.heap.size s j := heap_alloc_new w _
theorem ScanB.cell0 {w : World} {b : Nat} {s : ByteArray} {j : Int} (h : ScanB w b s j) : w.cell? ⟨b, 0, none⟩ = some (.string s) := by rw [Lib.cell_of_heap h]; rfl
theorem ScanB.cell1 {w : World} {b : Nat} {s : ByteArray} {j : Int} (h : ScanB w b s j) : w.cell? ⟨b, 1, none⟩ = some (.int .i64 j) := by rw [Lib.cell_of_heap h]; rfl
theorem ScanB.others {w w' : World} {b q : Nat} {s : ByteArray} {j : Int} (h : ScanB w q s j) (hk : Others b w w') (hne : q ≠ b) : ScanB w' q s j :=
  hk q _ h (fun e => hne (by injection e)) (fun c fz e => by injection e with _ e; exact absurd e (by decide))
theorem TxSt.new (w : World) : TxSt w.heap.size [] (w.alloc (.cells #[.pointer none, .slice none 0 0] 80)) := ⟨BldAt.new w, fun _ => by simp⟩
/-- A cell of the builder's own block is stored nowhere else. -/
theorem TxSt.far {b : Nat} {l : List UInt8} {w : World} (h : TxSt b l w) {q : Addr} (hq : q.block < b) (v : Value) : TxSt b l (w.setCell q v) := by
  have hh : ∀ k, b ≤ k → (w.setCell q v).heap[k]? = w.heap[k]? := fun k hk => heap_setCell_other w q k v (by omega)
  have key : ∀ p, Lib.BuilderAtF 80 5 b b p (Lib.byteCells l) w → Lib.BuilderAtF 80 5 b b p (Lib.byteCells l) (w.setCell q v) := by
    rintro p ⟨hB, v', hbk, hown, hne⟩
    refine ⟨hB, v', ?_, ?_, hne⟩
    · rw [hh b (Nat.le_refl _)]; exact hbk
    · refine ⟨hown.1, ?_⟩
      rcases hown.2 with hn | ⟨g, cap, cur, fz, hv, hbg, hg, rest⟩
      · exact .inl hn
      · exact .inr ⟨g, cap, cur, fz, hv, hbg, by rw [hh g hbg]; exact hg, rest⟩
  exact ⟨h.bld.imp (key _) (key _), fun e => (World.cell?_setCell_other _ _ _ _ (by rintro rfl; exact absurd hq (Nat.lt_irrefl _))).trans (h.nil0 e)⟩

theorem FaultAt.parts {w : World} {fb : Nat} {c a : Int} (h : FaultAt w fb c a) : c ≠ 0 ∧ fb < w.heap.size ∧ w.cell? ⟨fb, 0, none⟩ = some (.int .i64 c) ∧ w.cell? ⟨fb, 1, none⟩ = some (.int .i64 a) := by
  rcases h with ⟨-, h⟩ | ⟨h0, fb', e, h1, h2, h3⟩
  · cases h
  · have e : fb = fb' := by
      unfold pf at e
      injection e with _ e
      injection e with e
      injection e with e
      injection e with e
    subst e
    exact ⟨h0, h1, h2, h3⟩
theorem FaultAt.mk {w : World} {fb : Nat} {c a : Int} (h0 : c ≠ 0) (h1 : fb < w.heap.size) (h2 : w.cell? ⟨fb, 0, none⟩ = some (.int .i64 c)) (h3 : w.cell? ⟨fb, 1, none⟩ = some (.int .i64 a)) : FaultAt w fb c a :=
  .inr ⟨h0, fb, rfl, h1, h2, h3⟩
theorem FaultAt.block {w w' : World} {fb : Nat} {c a : Int} (h : FaultAt w fb c a) (hs : w.heap.size ≤ w'.heap.size) (hb : w'.heap[fb]? = w.heap[fb]?) : FaultAt w' fb c a := by
  obtain ⟨h0, h1, h2, h3⟩ := h.parts
  exact .mk h0 (Nat.lt_of_lt_of_le h1 hs) ((World.cell?_of_block (a := ⟨fb, 0, none⟩) hb).trans h2) ((World.cell?_of_block (a := ⟨fb, 1, none⟩) hb).trans h3)

/-- What a byte's writing leaves. -/
def Written (b : Nat) (l : List UInt8) (w : World) (e : Ending) (w' : World) : Prop :=
  e = .returned .nilIface ∧ TxSt b l w' ∧ Below b w w' ∧ ∀ fb c a, FaultAt w fb c a → FaultAt w' fb c a
theorem told_write (b : Nat) (l : List UInt8) (c : UInt8) (w : World) (h : TxSt b l w) (hl : l.length ≤ 200000) :
    Calls Tryz.prog 75 #[.pointer (some ⟨b, 0, none⟩), .int .u8 (c.toNat : Int)] w (Written b (l ++ [c]) w) := by
  have hbs : Lib.byteCells l ++ [Value.int .u8 (c.toNat : Int)] = Lib.byteCells (l ++ [c]) := by simp [Lib.byteCells]
  refine (writeByte_any b b (Lib.byteCells l) (c.toNat : Int) w h.bld (by rw [Lib.byteCells_length]; omega) (Nat.le_of_lt h.lt)).mono ?_
  rintro e w' ⟨rfl, ⟨h1, h2, -⟩, hfar, -⟩
  rw [hbs] at h1
  refine ⟨rfl, ⟨h1, fun e => absurd e (by simp)⟩, h2, fun fb c a hf => ?_⟩
  obtain ⟨h0, hlt, hc0, hc1⟩ := hf.parts
  have hp : ∃ p, w.cell? ⟨b, 0, none⟩ = some (.pointer p) := by
    rcases h.bld with h | h
    · exact ⟨_, h.cell0⟩
    · exact ⟨_, h.cell0⟩
  have hfb : fb ≠ b := by
    rintro rfl
    obtain ⟨p, hp⟩ := hp
    rw [hp] at hc0
    cases hc0
  have hv : ∃ v, w.cell? ⟨b, 1, none⟩ = some v ∧ w.ownsRowF b 5 1 v (Lib.byteCells l).length (Lib.byteCells l) := by
    rcases h.bld with ⟨-, v, hbk, hown, -⟩ | ⟨-, v, hbk, hown, -⟩
    · exact ⟨v, by rw [Lib.cell_of_heap hbk]; rfl, hown⟩
    · exact ⟨v, by rw [Lib.cell_of_heap hbk]; rfl, hown⟩
  obtain ⟨v, hcv, hown⟩ := hv
  refine hf.block h2.size (hfar fb hlt hfb fun v' hv' => ?_)
  rw [hcv] at hv'
  injection hv' with hv'
  subst hv'
  cases l with
  | nil =>
    have := h.nil0 rfl
    rw [hcv] at this
    injection this with this
    subst this
    intro e
    cases e
  | cons x r =>
    intro e
    have := hown.cells e 0 (.int .u8 x.toNat) (by simp [Lib.byteCells])
    have e0 : (⟨fb, 0, none⟩ : Addr).add 0 = ⟨fb, 0, none⟩ := by unfold Addr.add; split <;> simp_all
    rw [e0, hc0] at this
    injection this with this
    injection this with this
    cases this

/-! ### text -/
/-- What a text's reading answers. -/
def TextOut (w : World) (s : ByteArray) (Q : Tx) (e : Ending) (w' : World) : Prop :=
  (Q.c = 0 ∧ e = .returned (.tuple #[.agg #[.string s, .int .i64 Q.k], .string ⟨Q.t.toArray⟩, .nilIface]) ∧ Below w.heap.size w w') ∨
  (Q.c ≠ 0 ∧ ∃ fb j : Nat, j ≤ s.size ∧ e = .returned (.tuple #[.agg #[.string s, .int .i64 j], .string ⟨#[]⟩, pf fb]) ∧ FaultAt w' fb Q.c Q.a ∧ Below w.heap.size w w')

structure TextGo (s : ByteArray) (Q : Tx) (w0 : World) (j : Nat) (l : List UInt8) (wr : World) : Prop where
  in' : j ≤ s.size
  len : l.length ≤ j
  go : Q = { txtR s j with t := l ++ (txtR s j).t }
  inn : ScanAt wr w0.heap.size s j
  res : ScanAt wr (w0.heap.size + 1) ⟨#[]⟩ 0
  told : TxSt (w0.heap.size + 1 + 1) l wr
  below : Below w0.heap.size w0 wr
structure TextOff (s : ByteArray) (Q : Tx) (w0 : World) (j fb : Nat) (wr : World) : Prop where
  in' : j ≤ s.size
  off : Q.c ≠ 0
  fault : FaultAt wr fb Q.c Q.a
  inn : ScanAt wr w0.heap.size s j
  res : ScanAt wr (w0.heap.size + 1) ⟨#[]⟩ 0
  below : Below w0.heap.size w0 wr
def TextRel (s : ByteArray) (Q : Tx) (w0 : World) (n : Nat) (e : Value) (wr : World) : Prop :=
  ∃ j : Nat, (e = .nilIface ∧ n = s.size - j + 1 ∧ ∃ l, TextGo s Q w0 j l wr) ∨ ∃ fb, e = pf fb ∧ n = 0 ∧ TextOff s Q w0 j fb wr

set_option maxRecDepth 100000 in
set_option maxHeartbeats 2000000 in
theorem text_any (s : ByteArray) (k : Nat) (hs : s.size ≤ 100000) (hk : k ≤ s.size) (w : World) :
    Calls Tryz.prog 58 #[.agg #[.string s, .int .i64 k]] w (TextOut w s (quoR s k)) := by
  have HT : Hid (∀ w, Calls Tryz.prog 86 #[.agg #[.string s, .int .i64 k], .int .u8 34] w fun e w' => ∃ (v : Value) (j : Nat), e = .returned (.tuple #[.agg #[.string s, .int .i64 j], v]) ∧ Below w.heap.size w w' ∧
      ((v = .nilIface ∧ byteI s k = 34 ∧ j = k + 1) ∨ (∃ fb, v = pf fb ∧ FaultAt w' fb (missC s k) k ∧ byteI s k ≠ 34 ∧ j = k))) := by
    refine Lib.hid (fun w => ?_)
    by_cases h : byteI s k = 34
    · refine (take_is s k hs (byteI_pos (by rw [h]; decide)) 34 h w).mono ?_
      rintro e w' ⟨rfl, hb⟩
      exact ⟨_, _, rfl, hb, .inl ⟨rfl, h, rfl⟩⟩
    · refine (take_not s k hs hk 34 (fun h' => h h'.1) w).mono ?_
      rintro e w' ⟨fb, rfl, hf, hb⟩
      exact ⟨_, _, rfl, hb, .inr ⟨fb, rfl, hf, h, rfl⟩⟩
  have H0 := Lib.hid (InScan.new w s k 58)
  go_enter Tryz.func58, Tryz.ntmps58
  go_wp2_with fail
  have hsz : ((w.alloc (.cells #[.string s, .int .i64 k] 58)).alloc (.cells #[.string ⟨#[]⟩, .int .i64 0] 58)).heap.size = w.heap.size + 1 + 1 := by simp
  have hT0 := TxSt.new ((w.alloc (.cells #[.string s, .int .i64 k] 58)).alloc (.cells #[.string ⟨#[]⟩, .int .i64 0] 58))
  rw [hsz] at hT0
  have h00 := H0.out.step (sbelow_new _ (.cells #[.pointer none, .slice none 0 0] 80))
  refine (HT.out _).mono ?_
  rintro e w1 ⟨v, j, rfl, b1, hv⟩
  have h01 := h00.step b1
  have hT1 := hT0.step b1
  clear hsz h00
  obtain ⟨x0, c0, c1, cf⟩ := h01.own
  have HR : Hid (∃ n, TextRel s (quoR s k) w n v ((w1.setCell ⟨w.heap.size, 0, none⟩ (.string s)).setCell ⟨w.heap.size, 1, none⟩ (.int .i64 j))) := by
    refine Lib.hid ?_
    have i1 := h01.own.set s j
    have i2 := h01.res.farPut (r := w.heap.size) (by omega) s j
    have i3 := (h01.below.setCell (p := ⟨w.heap.size, 0, none⟩) (Nat.le_refl _) (.string s)).setCell (p := ⟨w.heap.size, 1, none⟩) (Nat.le_refl _) (.int .i64 j)
    rcases hv with ⟨rfl, h34, rfl⟩ | ⟨fb, rfl, hf, h34, rfl⟩
    · have hlt := byteI_pos (s := s) (k := k) (by rw [h34]; decide)
      exact ⟨_, k + 1, .inl ⟨rfl, rfl, [], hlt, Nat.zero_le _, by unfold quoR; rw [if_pos h34]; rfl, i1, i2, (hT1.far (q := ⟨w.heap.size, 0, none⟩) (by show w.heap.size < _; omega) _).far (q := ⟨w.heap.size, 1, none⟩) (by show w.heap.size < _; omega) _, i3⟩⟩
    · refine ⟨_, j, .inr ⟨fb, rfl, rfl, hk, ?_, ?_, i1, i2, i3⟩⟩
      · unfold quoR; rw [if_neg h34]; exact missC_ne s j
      · have := hf.set h01.own s j
        unfold quoR; rw [if_neg h34]; exact this
  clear hv h01 hT0 hT1 b1
  obtain ⟨n, hn⟩ := HR.out
  have HN := Lib.hid hn
  clear hn HR
  go_wp2_with fail
  go_loopg [6] n (fun n e wr => TextRel s (quoR s k) w n e wr)
  case atStart => exact HN.out
  case round =>
    obtain ⟨j, ⟨rfl, hn, l, hG⟩ | ⟨fb, rfl, hn, hO⟩⟩ := hrel
    · have HG := Lib.hid hG
      have HNN := Lib.hid hn
      have hin := hG.in'
      have hll := hG.len
      obtain ⟨x0, c0, c1, cf⟩ := hG.inn
      obtain ⟨y0, r0, r1, rf⟩ := hG.res
      clear hG hn
      by_cases h34 : byteI s j = 34
      · have hlt := byteI_pos (s := s) (k := j) (by rw [h34]; decide)
        have hH := fun w => has_is s j 34 hs hlt h34 w
        have hQ : quoR s k = ⟨0, 0, j + 1, l⟩ := by
          have := HG.out.go
          rw [txtR_end h34] at this
          simpa using this
        rw [hQ]
        generalize j + 1 = j' at *
        have HH := Lib.hid hH
        clear hQ hH h34
        go_wp2_with fail
        refine (HH.out _).mono ?_
        rintro e w1 ⟨rfl, b1⟩
        have g1 := HG.out.inn.step b1
        have g2 := HG.out.res.step b1
        have g3 := HG.out.told.step b1
        have g4 := HG.out.below.trans (b1.mono HG.out.below.size)
        have bn := sbelow_new w1 (.cells #[.string s, .int .i64 j'] 58)
        have k2 := g2.step bn
        have k3 := g3.step bn
        have k4 := g4.trans (bn.mono g4.size)
        have kn := ScanB.new w1 s j'
        have hq2 : w.heap.size + 1 + 1 < w1.heap.size := g3.lt
        clear bn g1 g2 g3 g4
        have K := Lib.hid (And.intro k2 (And.intro k3 (And.intro k4 kn)))
        clear k2 k3 k4 kn
        go_wp2_with fail
        generalize w1.alloc (.cells #[.string s, .int .i64 j'] 58) = w2 at *
        generalize w1.heap.size = q at *
        have i2 : ScanAt w2.drew (w.heap.size + 1) ⟨#[]⟩ 0 := K.out.1
        have i3 : TxSt (w.heap.size + 1 + 1) l w2.drew := K.out.2.1.drew
        have i4 : Below w.heap.size w w2.drew := K.out.2.2.1.drew
        have iq : ScanB w2.drew q s j' := K.out.2.2.2
        have n0 := iq.cell0
        have n1 := iq.cell1
        go_region_with (first
          | (go_at_call 46; refine (bldString_any _ _ l _ i3.bld (Nat.le_of_lt i3.lt)).mono ?_; rintro e w' ⟨rfl, -, hb, hk⟩; replace i2 := i2.stepB hb (by omega); replace iq := iq.others hk (by omega); replace i4 := i4.trans (hb.mono (by omega)); have y0 := iq.cell0; have y1 := iq.cell1; have x0 := i2.2.1; have x1 := i2.2.2.1; have xf := i2.2.2.2))
        all_goals
          obtain ⟨q0, q1⟩ := i2.put s j'
          have hb4 := ((i4.setCell (p := ⟨w.heap.size + 1, 0, none⟩) (by simp) (.string s)).setCell (p := ⟨w.heap.size + 1, 1, none⟩) (by simp) (.int .i64 j'))
          go_wp2
          exact bodyPost_ret (v := .tuple #[.agg #[.string s, .int .i64 j'], .string ⟨l.toArray⟩, .nilIface]) (by simp [results, Tryz.results58, go_sem, q0, q1]) rfl (.inl ⟨rfl, rfl, hb4⟩)
      · have hH := fun w => has_not s j 34 hs hin (fun h => h34 h.1) w
        have HH := Lib.hid hH
        clear hH
        go_wp2_with fail
        refine (HH.out _).mono ?_
        rintro e w1 ⟨rfl, b1⟩
        have g1 := HG.out.inn.step b1
        have g2 := HG.out.res.step b1
        have g3 := HG.out.told.step b1
        have g4 := HG.out.below.trans (b1.mono HG.out.below.size)
        have bn := sbelow_new w1 (.cells #[.string s, .int .i64 j] 58)
        have k1 := g1.step bn
        have k2 := g2.step bn
        have k3 := g3.step bn
        have k4 := g4.trans (bn.mono g4.size)
        have K := Lib.hid (And.intro k1 (And.intro k2 (And.intro k3 k4)))
        have hx1 : w.heap.size < w1.heap.size := g1.1
        have d0 := g1.2.1
        have d1 := g1.2.2.1
        clear bn g1 g2 g3 g4 k1 k2 k3 k4
        by_cases hc : (signR s j).c = 0
        · have hok := signR_ok hc
          have hS : ∀ w, Calls Tryz.prog 92 #[.agg #[.string s, .int .i64 j]] w (SignYes w s (signR s j).k ((signR s j).b.toNat : Int)) := fun w => by
            have := sign_any s j hs hin w
            unfold SignOut at this
            rwa [if_pos hc] at this
          have hgo : quoR s k = { txtR s (signR s j).k with t := (l ++ [(signR s j).b]) ++ (txtR s (signR s j).k).t } := by
            have := HG.out.go
            rw [txtR_go h34 hc] at this
            rw [this]
            simp
          generalize (signR s j).k = j' at *
          generalize (signR s j).b = b at *
          have HS := Lib.hid hS
          have HGO := Lib.hid hgo
          clear hS hgo hc
          go_wp2_with fail
          refine (HS.out _).mono ?_
          rintro e w2 ⟨rfl, b2⟩
          have i1 := (K.out.1.step b2).set s j'
          have i2 := (K.out.2.1.step b2).farPut (r := w.heap.size) (by omega) s j'
          have i3 := ((K.out.2.2.1.step b2).far (q := ⟨w.heap.size, 0, none⟩) (by show w.heap.size < _; omega) (.string s)).far (q := ⟨w.heap.size, 1, none⟩) (by show w.heap.size < _; omega) (.int .i64 j')
          have i4 := ((K.out.2.2.2.trans (b2.mono K.out.2.2.2.size)).setCell (p := ⟨w.heap.size, 0, none⟩) (Nat.le_refl _) (.string s)).setCell (p := ⟨w.heap.size, 1, none⟩) (Nat.le_refl _) (.int .i64 j')
          obtain ⟨z0, e0, e1, ef⟩ := K.out.1.step b2
          have I := Lib.hid (And.intro i1 (And.intro i2 (And.intro i3 i4)))
          clear i1 i2 i3 i4
          go_wp2_with fail
          generalize (w2.setCell ⟨w.heap.size, 0, none⟩ (.string s)).setCell ⟨w.heap.size, 1, none⟩ (.int .i64 j') = w3 at *
          refine (told_write _ l b _ I.out.2.2.1 (by omega)).mono ?_
          rintro e w4 ⟨rfl, hT4, b4, -⟩
          have m1 := I.out.1.stepB b4 (by omega)
          have m2 := I.out.2.1.stepB b4 (by omega)
          have m4 := I.out.2.2.2.trans (b4.mono (by omega))
          have M := Lib.hid (And.intro m1 (And.intro m2 (And.intro hT4 m4)))
          clear m1 m2 m4 hT4
          go_wp2_with fail
          go_roundg (s.size - j' + 1)
          case measure => have := HNN.out; omega
          case rel => exact ⟨j', .inl ⟨rfl, rfl, l ++ [b], hok.2, by simp; omega, HGO.out, M.out.1, M.out.2.1, M.out.2.2.1, M.out.2.2.2⟩⟩
        · have her := signR_er hin hc
          have hS : ∀ w, Calls Tryz.prog 92 #[.agg #[.string s, .int .i64 j]] w (SignNo w s (signR s j).k (signR s j).c (signR s j).a) := fun w => by
            have := sign_any s j hs hin w
            unfold SignOut at this
            rwa [if_neg hc] at this
          have hq : (quoR s k).c = (signR s j).c ∧ (quoR s k).a = (signR s j).a := by
            have := HG.out.go
            rw [txtR_er h34 hc] at this
            rw [this]
            exact ⟨rfl, rfl⟩
          rw [her.1] at hS
          generalize (signR s j).c = c at *
          generalize (signR s j).a = a at *
          have HS := Lib.hid hS
          have HQ := Lib.hid hq
          clear hS hq her
          go_wp2_with fail
          refine (HS.out _).mono ?_
          rintro e w2 ⟨fb, rfl, hf, b2⟩
          have i1 := (K.out.1.step b2).set s j
          have i2 := (K.out.2.1.step b2).farPut (r := w.heap.size) (by omega) s j
          have i3 := ((K.out.2.2.1.step b2).far (q := ⟨w.heap.size, 0, none⟩) (by show w.heap.size < _; omega) (.string s)).far (q := ⟨w.heap.size, 1, none⟩) (by show w.heap.size < _; omega) (.int .i64 j)
          have i4 := ((K.out.2.2.2.trans (b2.mono K.out.2.2.2.size)).setCell (p := ⟨w.heap.size, 0, none⟩) (Nat.le_refl _) (.string s)).setCell (p := ⟨w.heap.size, 1, none⟩) (Nat.le_refl _) (.int .i64 j)
          have i5 := hf.set (K.out.1.step b2) s j
          obtain ⟨z0, e0, e1, ef⟩ := K.out.1.step b2
          have I := Lib.hid (And.intro i1 (And.intro i2 (And.intro i3 (And.intro i4 i5))))
          clear i1 i2 i3 i4 i5 hf
          unfold pf
          go_wp2_with fail
          generalize (w2.setCell ⟨w.heap.size, 0, none⟩ (.string s)).setCell ⟨w.heap.size, 1, none⟩ (.int .i64 j) = w3 at *
          refine (told_write _ l 0 _ I.out.2.2.1 (by omega)).mono ?_
          rintro e w4 ⟨rfl, hT4, b4, hF4⟩
          have m1 := I.out.1.stepB b4 (by omega)
          have m2 := I.out.2.1.stepB b4 (by omega)
          have m4 := I.out.2.2.2.1.trans (b4.mono (by omega))
          have m5 := hF4 _ _ _ I.out.2.2.2.2
          have M := Lib.hid (And.intro m1 (And.intro m2 (And.intro m4 m5)))
          clear m1 m2 m4 m5 hT4 hF4
          go_wp2_with fail
          go_roundg 0
          case measure => have := HNN.out; omega
          case rel => exact ⟨j, .inr ⟨fb, rfl, rfl, hin, by rw [HQ.out.1]; exact hc, by rw [HQ.out.1, HQ.out.2]; exact M.out.2.2.2, M.out.1, M.out.2.1, M.out.2.2.1⟩⟩
    · have HO := Lib.hid hO
      obtain ⟨x0, c0, c1, cf⟩ := hO.inn
      obtain ⟨y0, r0, r1, rf⟩ := hO.res
      obtain ⟨q0, q1⟩ := HO.out.res.put s j
      have hb := ((HO.out.below.setCell (p := ⟨w.heap.size + 1, 0, none⟩) (by simp) (.string s)).setCell (p := ⟨w.heap.size + 1, 1, none⟩) (by simp) (.int .i64 j))
      have hf := HO.out.fault.set HO.out.res s j
      have Q0 := Lib.hid q0
      have Q1 := Lib.hid q1
      have HF := Lib.hid hf
      clear hO q0 q1 hf hn
      unfold pf
      go_wp2
      have q0 := Q0.out
      have q1 := Q1.out
      exact bodyPost_ret (v := .tuple #[.agg #[.string s, .int .i64 j], .string ⟨#[]⟩, pf fb]) (by simp [results, Tryz.results58, go_sem, q0, q1, pf]) rfl (.inr ⟨HO.out.off, fb, j, HO.out.in', rfl, HF.out, hb⟩)
end Go.Proofs.YtajmlkephefapaaGreatDoor
