/-
  Package tree by contracts, eighth part: what stands between brackets, item by item.
-/
import Derived.Test.YtajmlkephefapaaGreatDoorTreeI
namespace Go.Proofs.YtajmlkephefapaaGreatDoor
open Go.RowKit Go.Extern.Stop Go.Stop Go.Extern Go.WideMaps

theorem keeps_at (w : World) (b i : Nat) (v : Value) : Keeps (· = b) w (w.setCell ⟨b, i, none⟩ v) := Keeps.setCell (D := (· = b)) (Keeps.refl _ _) (q := ⟨b, i, none⟩) (.inr rfl) v
theorem ArrSt.own {E : Nat → Prop} {B L Db d W : Nat} {vs : List Val} {ks : List ByteArray} {w : World} (h : ArrSt E B L Db d W vs ks w) {b : Nat} {s : ByteArray} {j : Int} (hs : ScanS w b s j) (hb : W ≤ b) (hE : ∀ k, E k → k ≠ b) (i : Nat) (u : Value) : ArrSt E B L Db d W vs ks (w.setCell ⟨b, i, none⟩ u) := by
  obtain ⟨⟨v, xs, hl, hv⟩, hn, hlt, hle⟩ := h
  have hk := keeps_at w b i u
  exact ⟨⟨v, xs, hl.keeps hk (by omega) (fun q e e' => hl.row_ne hs.1.2.1 (fun k e => by cases e) (by rw [← e']; exact e)) (fun q _ _ _ _ hq => hE q hq), hv⟩, hn.keeps hk (by omega), hlt, by rw [World.size_setCell]; exact hle⟩
theorem ObjSt.own {F : Nat → Prop} {B L K M mb Db d W : Nat} {vs : List Val} {ks : List ByteArray} {w : World} (h : ObjSt F B L K M mb Db d W vs ks w) {b : Nat} {s : ByteArray} {j : Int} (hs : ScanS w b s j) (hb : W ≤ b) (hE : ∀ k, F k → k ≠ b) (i : Nat) (u : Value) : ObjSt F B L K M mb Db d W vs ks (w.setCell ⟨b, i, none⟩ u) := by
  obtain ⟨⟨v, xs, kv, hl, hv, hks, hkv⟩, hset, hn, hmap, hlt, hne, hle⟩ := h
  have hk := keeps_at w b i u
  refine ⟨⟨v, xs, kv, hl.keeps hk (by omega) (fun q e e' => hl.row_ne hs.1.2.1 (fun k e => by cases e) (by rw [← e']; exact e)) (fun q _ _ _ _ hq => hE q hq.1), hv, hks.keeps hk (by omega) (fun q e e' => ?_), hkv⟩, hset.keeps hk (by omega), hn.keeps hk (by omega),
    (World.cell?_setCell_other _ _ _ _ (by intro e; injection e with e; omega)).trans hmap, hlt, hne, by rw [World.size_setCell]; exact hle⟩
  subst e'
  rcases hks.own.2 with ⟨rfl, -⟩ | ⟨g, cap, cur, rfl, -, hg, -⟩
  · cases e
  · have e' : g = q := by injection e
    subst e'
    obtain ⟨cur', fz, hc⟩ := hs.2
    rw [hg] at hc
    injection hc with hc
    injection hc with _ hc
    exact absurd hc (by decide)
theorem ObjSt.step {F : Nat → Prop} {B L K M mb Db d W : Nat} {vs : List Val} {ks : List ByteArray} {w w' : World} (h : ObjSt F B L K M mb Db d W vs ks w) (hb : Below w.heap.size w w') : ObjSt F B L K M mb Db d W vs ks w' := by
  obtain ⟨⟨v, xs, kv, hl, hv, hks, hkv⟩, hset, hn, hmap, hlt, hne, hle⟩ := h
  exact ⟨⟨v, xs, kv, hl.step hb, hv, hks.step hb, hkv⟩, hset.step hb, hn.keeps (D := fun _ => False) (.of_below hb) (fun e => e), (hb.cell (p := ⟨M, 0, none⟩) (by show M < _; omega)).trans hmap, hlt, hne, Nat.le_trans hle hb.size⟩
theorem ArrE.own {L W : Nat} {w : World} (h : ArrE L w) (hL : L < W) {b : Nat} (hb : W ≤ b) (i : Nat) (u : Value) : ArrE L (w.setCell ⟨b, i, none⟩ u) := by
  obtain ⟨a, l, c, h⟩ := h
  exact ⟨a, l, c, (World.cell?_setCell_other _ _ _ _ (by intro e; injection e with e; omega)).trans h⟩
theorem ObjEnd.own {K L W : Nat} {w : World} (h : ObjEnd K L w) (hL : L < W ∧ K < W) {b : Nat} (hb : W ≤ b) (i : Nat) (u : Value) : ObjEnd K L (w.setCell ⟨b, i, none⟩ u) := by
  obtain ⟨a, l, c, a', l', c', h1, h2⟩ := h
  exact ⟨a, l, c, a', l', c', (World.cell?_setCell_other _ _ _ _ (by intro e; injection e with e; omega)).trans h1, (World.cell?_setCell_other _ _ _ _ (by intro e; injection e with e; omega)).trans h2⟩
theorem ArrSt.ends {E : Nat → Prop} {B L Db d W : Nat} {vs : List Val} {ks : List ByteArray} {w : World} (h : ArrSt E B L Db d W vs ks w) : ArrE L w := by
  obtain ⟨⟨v, xs, hl, hv⟩, -⟩ := h
  obtain ⟨a, c, rfl⟩ := hl.slice
  exact ⟨a, _, c, hl.cell⟩
theorem ObjSt.ends {F : Nat → Prop} {B L K M mb Db d W : Nat} {vs : List Val} {ks : List ByteArray} {w : World} (h : ObjSt F B L K M mb Db d W vs ks w) : ObjEnd K L w := by
  obtain ⟨⟨v, xs, kv, hl, hv, hks, hkv⟩, -⟩ := h
  obtain ⟨a, c, rfl⟩ := hl.slice
  obtain ⟨a', c', rfl⟩ := hks.slice
  exact ⟨a', _, c', a, _, c, hks.cell, hl.cell⟩

/-- What a row's call answers. -/
def RowOut (St : List Val → List ByteArray → World → Prop) (StE : World → Prop) (D : Nat → Prop) (w : World) (s : ByteArray) (d : Nat) (b : Int) (k : Nat) (e : Ending) (w' : World) : Prop :=
  (∃ (j : Nat) (vs : List Val) (ks : List ByteArray), RowRel s d b k (.ok j vs ks) ∧ e = .returned (.tuple #[.agg #[.string s, .int .i64 (j : Nat)], .nilIface]) ∧ St vs ks w' ∧ Keeps D w w') ∨
  (∃ (ec : Int) (ea fb j : Nat), RowRel s d b k (.er ec ea) ∧ j ≤ s.size ∧ e = .returned (.tuple #[.agg #[.string s, .int .i64 j], pf fb]) ∧ FaultAt w' fb ec ea ∧ StE w' ∧ Keeps D w w')
/-- On the way through a row, standing at j. -/
structure TRowC (D : Nat → Prop) (w0 : World) (s : ByteArray) (j : Nat) (wr : World) : Prop where
  in' : j ≤ s.size
  own : ScanS wr w0.heap.size s j
  res : ScanS wr (w0.heap.size + 1) ⟨#[]⟩ 0
  keeps : Keeps (fun k => D k ∨ w0.heap.size ≤ k) w0 wr
def RowL (St : List Val → List ByteArray → World → Prop) (StE : World → Prop) (D : Nat → Prop) (w0 : World) (s : ByteArray) (d : Nat) (b : Int) (p0 : Nat) (n : Nat) (e m : Value) (wr : World) : Prop :=
  ∃ j : Nat, TRowC D w0 s j wr ∧
    ((∃ vs ks, e = .nilIface ∧ m = .bool true ∧ n = s.size - j + 1 ∧ St vs ks wr ∧ vs.length ≤ j ∧ ks.length = vs.length ∧ ∀ o, I s d b (sk s j) ks o → I s d b p0 [] (o.pre vs ks)) ∨
     (∃ vs ks, e = .nilIface ∧ m = .bool false ∧ n = 0 ∧ St vs ks wr ∧ (byteI s j = shutI b → I s d b p0 [] (.ok (j + 1) vs ks)) ∧ (byteI s j ≠ shutI b → I s d b p0 [] (.er (missC s j) j))) ∨
     (∃ (ec : Int) (ea fb : Nat), e = pf fb ∧ m = .bool true ∧ n = 0 ∧ StE wr ∧ FaultAt wr fb ec ea ∧ I s d b p0 [] (.er ec ea)))
theorem Keeps.row {D : Nat → Prop} {w w' : World} (h : Keeps (fun k => D k ∨ w.heap.size ≤ k) w w') : Keeps D w w' :=
  ⟨h.os, h.tape, h.output, h.size, fun k hk hD => h.block k hk (fun e => e.elim hD (fun e => by omega))⟩
theorem Handle.keeps {D : Nat → Prop} {w w' : World} (h : Handle w) (hk : Keeps D w w') (hD : ¬ D 0) : Handle w' := (World.cell?_of_block (a := ⟨0, 0, none⟩) (hk.block 0 h.pos hD)).trans h
theorem TRowC.step {D : Nat → Prop} {w0 w w' : World} {s : ByteArray} {j : Nat} (h : TRowC D w0 s j w) (hb : Below w.heap.size w w') : TRowC D w0 s j w' := ⟨h.in', h.own.step hb, h.res.step hb, h.keeps.next hb⟩
theorem TRowC.fr {D : Nat → Prop} {w0 w w' : World} {s : ByteArray} {j : Nat} (h : TRowC D w0 s j w) (hf : Fr D w0.heap.size w w') : TRowC D w0 s j w' := ⟨h.in', hf.1 _ _ _ h.own, hf.1 _ _ _ h.res, h.keeps.trans hf.2⟩
theorem TRowC.set {D : Nat → Prop} {w0 w : World} {s : ByteArray} {j : Nat} (h : TRowC D w0 s j w) (m : Nat) (hm : m ≤ s.size) : TRowC D w0 s m ((w.setCell ⟨w0.heap.size, 0, none⟩ (.string s)).setCell ⟨w0.heap.size, 1, none⟩ (.int .i64 m)) :=
  ⟨hm, h.own.set s m, (h.res.far (q := ⟨w0.heap.size, 0, none⟩) (by show _ ≠ w0.heap.size; omega) _).far (q := ⟨w0.heap.size, 1, none⟩) (by show _ ≠ w0.heap.size; omega) _,
    (h.keeps.setCell (q := ⟨w0.heap.size, 0, none⟩) (.inl (Nat.le_refl _)) _).setCell (q := ⟨w0.heap.size, 1, none⟩) (.inl (Nat.le_refl _)) _⟩
theorem TRowC.out {D : Nat → Prop} {w0 w : World} {s : ByteArray} {j : Nat} (h : TRowC D w0 s j w) (z : Int) :
    (resSet w0 w s z).cell? ⟨w0.heap.size + 1, 0, none⟩ = some (.string s) ∧ (resSet w0 w s z).cell? ⟨w0.heap.size + 1, 1, none⟩ = some (.int .i64 z) ∧ Keeps D w0 (resSet w0 w s z) :=
  ⟨(h.res.1.put s z).1, (h.res.1.put s z).2, Keeps.row ((h.keeps.setCell (.inl (by simp)) _).setCell (.inl (by simp)) _)⟩

/-- A place's block stays one when its first cell is stored. -/
theorem ScanS.far' {w : World} {b : Nat} {s : ByteArray} {j : Int} (h : ScanS w b s j) (i : Nat) (s' : ByteArray) : ScanS (w.setCell ⟨b, 0, none⟩ (.string s')) b s' j := by
  have ne : ∀ i j : Nat, i ≠ j → (⟨b, i, none⟩ : Addr) ≠ ⟨b, j, none⟩ := fun i j h e => h (by injection e)
  exact ⟨⟨by rw [World.size_setCell]; exact h.1.1, World.cell?_setCell_same _ _ _ h.1.2.1, (World.cell?_setCell_other _ _ _ _ (ne 0 1 (by decide))).trans h.1.2.2.1, fun i => by rw [World.frozen?_setCell]; exact h.1.2.2.2 i⟩, cells_setCell h.2 _ _⟩

set_option maxRecDepth 100000 in
set_option maxHeartbeats 8000000 in
theorem row_arr (s : ByteArray) (d B L Db k : Nat) (hs : s.size ≤ 100000) (hk : byteI s k = 91) (hV : ValueSpec s d) (w : World) (hg : Handle w) (hB : B ≤ L) (hB0 : 0 < B) (h : ArrSt (fun k => w.heap.size + 2 ≤ k) B L Db d w.heap.size [] [] w) :
    Calls Tryz.prog 93 #[.agg #[.string s, .int .i64 k], .int .u8 91, .int .u8 93, .func (.func 94) #[] #[.pointer (some ⟨Db, 0, none⟩), .pointer (some ⟨L, 0, none⟩)]] w (RowOut (ArrSt (fun k => w.heap.size + 2 ≤ k) B L Db d w.heap.size) (ArrE L) (· = L) w s d 91 k) := by
  have hklt := byteI_pos (s := s) (k := k) (by rw [hk]; decide)
  have HT := Lib.hid (fun w => take_is s k hs hklt 91 hk w)
  have hk1 : k + 1 ≤ s.size := hklt
  have HS : Hid (∀ w, Calls Tryz.prog 53 #[.agg #[.string s, .int .i64 (k + 1 : Nat)]] w fun e w' => e = .returned (.agg #[.string s, .int .i64 (sk s (k + 1) : Nat)]) ∧ Below w.heap.size w w') := Lib.hid (fun w => skip_any s (k + 1) hs hk1 w)
  have hsk := sk_le s (k + 1) hk1
  have hD0 : ¬ (· = L) 0 := by show ¬ 0 = L; omega
  have HL : Hid (∀ o, RowRel s d 91 k o ↔ ((byteI s (sk s (k + 1)) = 93 ∧ o = .ok (sk s (k + 1) + 1) [] []) ∨ (byteI s (sk s (k + 1)) ≠ 93 ∧ I s d 91 (sk s (k + 1)) [] o))) := Lib.hid (fun o => Iff.rfl)
  have hsz : (w.alloc (.cells #[.string s, .int .i64 k] 58)).heap.size = w.heap.size + 1 := by simp
  have hR0 : TRowC (· = L) w s k ((w.alloc (.cells #[.string s, .int .i64 k] 58)).alloc (.cells #[.string ⟨#[]⟩, .int .i64 0] 58)) :=
    ⟨by omega, (ScanS.new w s k).step (sbelow_new _ _), by have := ScanS.new (w.alloc (.cells #[.string s, .int .i64 k] 58)) ⟨#[]⟩ 0; rw [hsz] at this; exact this, .of_below ((sbelow_new _ _).trans ((sbelow_new _ _).mono (by simp)))⟩
  have hS0 := (h.step (sbelow_new w (.cells #[.string s, .int .i64 k] 58))).step (sbelow_new _ (.cells #[.string ⟨#[]⟩, .int .i64 0] 58))
  have HR0 := Lib.hid hR0
  have HS0 := Lib.hid hS0
  have HH := Lib.hid hg
  have HLT : Hid (L < w.heap.size) := Lib.hid h.lt.1
  have hElow : ∀ q, (fun k => w.heap.size + 2 ≤ k) q → q ≠ w.heap.size ∧ q ≠ w.heap.size + 1 := fun q h => by have h : w.heap.size + 2 ≤ q := h; exact ⟨by omega, by omega⟩
  clear hR0 hS0 h hsz hk
  obtain ⟨k1, hk1e⟩ : ∃ k1, k1 = k + 1 := ⟨_, rfl⟩
  rw [← hk1e] at HT HS hsk HL hk1
  generalize hp : sk s k1 = p at *
  have HP := Lib.hid hp
  have HK1 := Lib.hid hk1e
  clear hp hk1e
  go_enter Tryz.func93, Tryz.ntmps93
  go_wp2_with fail
  refine (HT.out _).mono ?_
  rintro e w1 ⟨rfl, b1⟩
  have hr1 := HR0.out.step b1
  have hs1 := HS0.out.step b1
  have HR1 := Lib.hid (hr1.set k1 hk1)
  have HS1 := Lib.hid ((hs1.own hr1.own (Nat.le_refl _) (fun q h => (hElow q h).1) 0 (.string s)).own (hr1.own.far' 0 s) (Nat.le_refl _) (fun q h => (hElow q h).1) 1 (.int .i64 k1))
  obtain ⟨-, c0, c1, cf⟩ := hr1.own.1
  clear hr1 hs1
  go_wp2_with fail
  generalize (w1.setCell ⟨w.heap.size, 0, none⟩ (.string s)).setCell ⟨w.heap.size, 1, none⟩ (.int .i64 k1) = w2 at *
  refine (HS.out _).mono ?_
  rintro e w3 ⟨rfl, b3⟩
  have HR3 := Lib.hid (HR1.out.step b3)
  have HS3 := Lib.hid (HS1.out.step b3)
  by_cases hempty : byteI s p = 93
  · have hplt := byteI_pos (s := s) (k := p) (by rw [hempty]; decide)
    have hHas := fun w => has_is s p 93 hs hplt hempty w
    have hrel := (HL.out (.ok (p + 1) [] [])).2 (.inl ⟨hempty, rfl⟩)
    generalize p + 1 = p1 at *
    have HHas := Lib.hid hHas
    have HREL := Lib.hid hrel
    clear hHas hrel hempty
    go_wp2_with fail
    refine (HHas.out _).mono ?_
    rintro e w4 ⟨rfl, b4⟩
    have hr4 := HR3.out.step b4
    have hs4 := HS3.out.step b4
    obtain ⟨m4, r0, r1, rf⟩ := hr4.res.1
    have hr4' := hr4.step (sbelow_new w4 (.cells #[.string s, .int .i64 p1] 58))
    have HR4 := Lib.hid hr4'
    have HO := Lib.hid ((((hs4.own hr4.res (by omega) (fun q h => (hElow q h).2) 0 (.string s)).own (hr4.res.far' 0 s) (by omega) (fun q h => (hElow q h).2) 1 (.int .i64 p1))).step (sbelow_new _ (.cells #[.string s, .int .i64 p1] 58)))
    have HQ := Lib.hid (hr4.out p1)
    clear hs4 hr4 hr4'
    go_wp2_with fail
    obtain ⟨q0, q1, hkp⟩ := HQ.out
    unfold resSet at q0 q1 hkp
    exact bodyPost_ret (v := .tuple #[.agg #[.string s, .int .i64 p1], .nilIface]) (by simp [results, Tryz.results93, go_sem, q0, q1, m4]) rfl (.inl ⟨p1, [], [], HREL.out, rfl, HO.out, hkp.next (sbelow_new _ _)⟩)
  · have hHas := fun w => has_not s p 93 hs hsk.2 (fun h => hempty h.1) w
    have HHas := Lib.hid hHas
    have HREL : Hid (∀ o, I s d 91 p [] o → RowRel s d 91 k o) := Lib.hid (fun o hI => (HL.out o).2 (.inr ⟨hempty, hI⟩))
    clear hHas hempty HL
    go_wp2_with fail
    refine (HHas.out _).mono ?_
    rintro e w4 ⟨rfl, b4⟩
    have hr5 := (HR3.out.step b4).step (sbelow_new w4 (.cells #[.string s, .int .i64 p] 58))
    have hs5 := (HS3.out.step b4).step (sbelow_new w4 (.cells #[.string s, .int .i64 p] 58))
    have HRL : Hid (RowL (ArrSt (fun k => w.heap.size + 2 ≤ k) B L Db d w.heap.size) (ArrE L) (· = L) w s d 91 p (s.size - k1 + 1) .nilIface (.bool true) (w4.alloc (.cells #[.string s, .int .i64 p] 58))) :=
      Lib.hid ⟨k1, hr5, .inl ⟨[], [], rfl, rfl, rfl, hs5, Nat.zero_le _, rfl, fun o hI => by rw [HP.out] at hI; rw [Outs.pre_nil]; exact hI⟩⟩
    clear hr5 hs5
    go_wp2_with fail
    generalize w4.alloc (.cells #[.string s, .int .i64 p] 58) = w5 at *
    go_loopg [10, 13] (s.size - k1 + 1) (fun n e m wr => RowL (ArrSt (fun k => w.heap.size + 2 ≤ k) B L Db d w.heap.size) (ArrE L) (· = L) w s d 91 p n e m wr)
    case atStart => exact HRL.out
    case round =>
      obtain ⟨j, hC, ⟨vs, ks, rfl, rfl, hn, hst, hlen, hkl, hcont⟩ | ⟨vs, ks, rfl, rfl, hn, hst, hf1, hf2⟩ | ⟨ec, ea, fb, rfl, rfl, hn, hst, hfa, hI⟩⟩ := hrel
      · have HC := Lib.hid hC
        have HST := Lib.hid hst
        have HCO := Lib.hid hcont
        have HN := Lib.hid hn
        have HKL := Lib.hid hkl
        have hin := hC.in'
        obtain ⟨-, c0, c1, cf⟩ := hC.own.1
        have hgr : Handle wr := HH.out.keeps hC.keeps (fun e => e.elim hD0 (fun e => by have := HH.out.pos; omega))
        have hsz2 : w.heap.size + 2 ≤ wr.heap.size := hC.res.1.1
        have hIt := arr_item (fun k => w.heap.size + 2 ≤ k) s d B L Db w.heap.size j vs ks hs hin hV wr hgr hB hB0 (by omega) (fun k hk => by show w.heap.size + 2 ≤ k; omega) hst
        have HIT := Lib.hid hIt
        clear hC hst hcont hn hkl hIt hgr
        go_wp2_with fail
        refine HIT.out.mono ?_
        rintro e w6 (⟨jj, q, x, key, hkr, hv, rfl, hst6, hfr6⟩ | ⟨ec, ea, fb, jj, hI, hjj, rfl, hf, hse, hfr⟩)
        · have hjl := sk_le s j hin
          have hql := keyR_ok hjl.2 hkr
          have hvf := V.fits hql.2 hv
          have hvf1 : q < jj ∧ jj ≤ s.size := hvf
          have hml := sk_le s jj hvf1.2
          have hc6 := HC.out.fr hfr6
          obtain ⟨-, c0', c1', cf'⟩ := hc6.own.1
          have HC7 := Lib.hid (hc6.set (sk s jj) hml.2)
          have HS7 := Lib.hid ((hst6.own hc6.own (Nat.le_refl _) (fun q h => (hElow q h).1) 0 (.string s)).own (hc6.own.far' 0 s) (Nat.le_refl _) (fun q h => (hElow q h).1) 1 (.int .i64 (sk s jj : Nat)))
          have HKR := Lib.hid hkr
          have HVV := Lib.hid hv
          generalize hm : sk s jj = m at *
          have HM := Lib.hid hm
          clear hkr hv hvf hst6 hfr6 hc6 c0 c1 cf hm
          go_wp2_with fail
          generalize (w6.setCell ⟨w.heap.size, 0, none⟩ (.string s)).setCell ⟨w.heap.size, 1, none⟩ (.int .i64 m) = w7 at *
          obtain ⟨-, e0, e1, ef⟩ := HC7.out.own.1
          by_cases hcomma : byteI s m = 44
          · have hmlt := byteI_pos (s := s) (k := m) (by rw [hcomma]; decide)
            have hH2 := fun w => has_is s m 44 hs hmlt hcomma w
            have hmo : ∀ o, I s d 91 (sk s (m + 1)) (ks ++ [key]) o → I s d 91 p [] (o.pre (vs ++ [x]) (ks ++ [key])) := fun o hI => by
              rw [← Outs.pre_cons]
              exact HCO.out _ (by
                have := W.more d 91 (sk s j) ks q key jj x o HKR.out HVV.out (by rw [HM.out]; exact hcomma) (by rw [HM.out]; exact hI)
                exact this)
            obtain ⟨m1, hm1⟩ : ∃ m1, m1 = m + 1 := ⟨_, rfl⟩
            rw [← hm1] at hH2 hmo
            have hm1l : m1 ≤ s.size := by omega
            have hm1j : j < m1 := by omega
            have HH2 := Lib.hid hH2
            have HMO := Lib.hid hmo
            clear hH2 hmo hm1 hcomma
            go_wp2_with fail
            refine (HH2.out _).mono ?_
            rintro e w8 ⟨rfl, b8⟩
            have hc8 := HC7.out.step b8
            have hs8 := HS7.out.step b8
            obtain ⟨-, g0, g1, gf⟩ := hc8.own.1
            have HC9 := Lib.hid (hc8.set m1 hm1l)
            have HS9 := Lib.hid ((hs8.own hc8.own (Nat.le_refl _) (fun q h => (hElow q h).1) 0 (.string s)).own (hc8.own.far' 0 s) (Nat.le_refl _) (fun q h => (hElow q h).1) 1 (.int .i64 m1))
            clear hc8 hs8
            go_wp2_with fail
            go_roundg (s.size - m1 + 1)
            case measure => have := HN.out; omega
            case rel => exact ⟨m1, HC9.out, .inl ⟨vs ++ [x], ks ++ [key], rfl, rfl, rfl, HS9.out, by rw [List.length_append, List.length_singleton]; omega, by have := HKL.out; rw [List.length_append, List.length_append, List.length_singleton, List.length_singleton]; omega, HMO.out⟩⟩
          · have hH2 := fun w => has_not s m 44 hs hml.2 (fun h => hcomma h.1) w
            have hfin1 : byteI s m = shutI 91 → I s d 91 p [] (.ok (m + 1) (vs ++ [x]) (ks ++ [key])) := fun e => by
              have := HCO.out _ (W.last d 91 (sk s j) ks q key jj x HKR.out HVV.out (by rw [HM.out]; exact e))
              rw [HM.out] at this
              exact this
            have hfin2 : byteI s m ≠ shutI 91 → I s d 91 p [] (.er (missC s m) m) := fun e => by
              have := HCO.out _ (W.sep d 91 (sk s j) ks q key jj x HKR.out HVV.out (by rw [HM.out]; exact e) (by rw [HM.out]; exact hcomma))
              rw [HM.out] at this
              exact this
            have HH2 := Lib.hid hH2
            have HF1 := Lib.hid hfin1
            have HF2 := Lib.hid hfin2
            clear hH2 hfin1 hfin2 hcomma
            go_wp2_with fail
            refine (HH2.out _).mono ?_
            rintro e w8 ⟨rfl, b8⟩
            have hc8 := HC7.out.step b8
            have hs8 := HS7.out.step b8
            obtain ⟨-, g0, g1, gf⟩ := hc8.own.1
            have HC9 := Lib.hid (hc8.set m hml.2)
            have HS9 := Lib.hid ((hs8.own hc8.own (Nat.le_refl _) (fun q h => (hElow q h).1) 0 (.string s)).own (hc8.own.far' 0 s) (Nat.le_refl _) (fun q h => (hElow q h).1) 1 (.int .i64 m))
            clear hc8 hs8
            go_wp2_with fail
            go_roundg 0
            case measure => have := HN.out; omega
            case rel => exact ⟨m, HC9.out, .inr (.inl ⟨vs ++ [x], ks ++ [key], rfl, rfl, rfl, HS9.out, HF1.out, HF2.out⟩)⟩
        · have hc6 := HC.out.fr hfr
          have HI' := Lib.hid (HCO.out _ hI)
          obtain ⟨-, c0', c1', cf'⟩ := hc6.own.1
          have HC7 := Lib.hid (hc6.set jj hjj)
          have HS7 := Lib.hid ((hse.own HLT.out (Nat.le_refl w.heap.size) 0 (.string s)).own HLT.out (Nat.le_refl w.heap.size) 1 (.int .i64 jj))
          have HF7 := Lib.hid (hf.set hc6.own.1 s jj)
          clear hfr hse hf hI hc6 c0 c1 cf
          unfold pf
          go_wp2_with fail
          go_roundg 0
          case measure => have := HN.out; omega
          case rel => exact ⟨jj, HC7.out, .inr (.inr ⟨ec, ea, fb, rfl, rfl, rfl, HS7.out, HF7.out, HI'.out⟩)⟩
      · have HC := Lib.hid hC
        have HST := Lib.hid hst
        have hin := hC.in'
        obtain ⟨-, c0, c1, cf⟩ := hC.own.1
        by_cases hshut : byteI s j = 93
        · have hjlt := byteI_pos (s := s) (k := j) (by rw [hshut]; decide)
          have hT2 := fun w => take_is s j hs hjlt 93 hshut w
          have hrel := HREL.out _ (hf1 hshut)
          generalize j + 1 = j1 at *
          have HT2 := Lib.hid hT2
          have HRR := Lib.hid hrel
          clear hC hst hf1 hf2 hT2 hrel hn hshut
          go_wp2_with fail
          refine (HT2.out _).mono ?_
          rintro e w6 ⟨rfl, b6⟩
          have hc6 := HC.out.step b6
          have hs6 := HST.out.step b6
          obtain ⟨m6, r0, r1, rf⟩ := hc6.res.1
          have HO := Lib.hid ((hs6.own hc6.res (by omega) (fun q h => (hElow q h).2) 0 (.string s)).own (hc6.res.far' 0 s) (by omega) (fun q h => (hElow q h).2) 1 (.int .i64 j1))
          have HQ := Lib.hid (hc6.out j1)
          clear hc6 hs6
          go_wp2_with fail
          obtain ⟨q0, q1, hkp⟩ := HQ.out
          unfold resSet at q0 q1 hkp
          exact bodyPost_ret (v := .tuple #[.agg #[.string s, .int .i64 j1], .nilIface]) (by simp [results, Tryz.results93, go_sem, q0, q1]) rfl (.inl ⟨j1, vs, ks, HRR.out, rfl, HO.out, hkp⟩)
        · have HT2 := Lib.hid (fun w => take_not s j hs hin 93 (fun h => hshut h.1) w)
          have HRR := Lib.hid (HREL.out _ (hf2 hshut))
          clear hC hst hf1 hf2 hn hshut
          go_wp2_with fail
          refine (HT2.out _).mono ?_
          rintro e w6 ⟨fb, rfl, hf, b6⟩
          have hc6 := HC.out.step b6
          have hs6 := HST.out.step b6
          obtain ⟨m6, r0, r1, rf⟩ := hc6.res.1
          have HO := Lib.hid (((hs6.own hc6.res (by omega) (fun q h => (hElow q h).2) 0 (.string s)).own (hc6.res.far' 0 s) (by omega) (fun q h => (hElow q h).2) 1 (.int .i64 j)).ends)
          have HF6 := Lib.hid (hf.set hc6.res.1 s j)
          have HQ := Lib.hid (hc6.out j)
          clear hc6 hs6 hf
          unfold pf
          go_wp2_with fail
          obtain ⟨q0, q1, hkp⟩ := HQ.out
          unfold resSet at q0 q1 hkp
          exact bodyPost_ret (v := .tuple #[.agg #[.string s, .int .i64 j], pf fb]) (by simp [results, Tryz.results93, go_sem, q0, q1, pf]) rfl (.inr ⟨missC s j, j, fb, j, HRR.out, hin, rfl, HF6.out, HO.out, hkp⟩)
      · have hin := hC.in'
        obtain ⟨-, c0, c1, cf⟩ := hC.own.1
        obtain ⟨m6, r0, r1, rf⟩ := hC.res.1
        have HRR := Lib.hid (HREL.out _ hI)
        have HO := Lib.hid ((hst.own HLT.out (Nat.le_succ w.heap.size) 0 (.string s)).own HLT.out (Nat.le_succ w.heap.size) 1 (.int .i64 j))
        have HF6 := Lib.hid (hfa.set hC.res.1 s j)
        have HQ := Lib.hid (hC.out j)
        clear hC hst hfa hI hn
        unfold pf
        go_wp2_with fail
        obtain ⟨q0, q1, hkp⟩ := HQ.out
        unfold resSet at q0 q1 hkp
        exact bodyPost_ret (v := .tuple #[.agg #[.string s, .int .i64 j], pf fb]) (by simp [results, Tryz.results93, go_sem, q0, q1, pf]) rfl (.inr ⟨ec, ea, fb, j, HRR.out, hin, rfl, HF6.out, HO.out, hkp⟩)

set_option maxRecDepth 100000 in
set_option maxHeartbeats 8000000 in
theorem row_obj (s : ByteArray) (d B L K M mb Db k : Nat) (hs : s.size ≤ 100000) (hk : byteI s k = 123) (hV : ValueSpec s d) (w : World) (hg : Handle w) (hB : B ≤ L ∧ B ≤ K ∧ B ≤ mb) (hB0 : 0 < B) (h : ObjSt (fun k => w.heap.size + 2 ≤ k) B L K M mb Db d w.heap.size [] [] w) :
    Calls Tryz.prog 93 #[.agg #[.string s, .int .i64 k], .int .u8 123, .int .u8 125, .func (.func 95) #[] #[.pointer (some ⟨M, 0, none⟩), .pointer (some ⟨Db, 0, none⟩), .pointer (some ⟨K, 0, none⟩), .pointer (some ⟨L, 0, none⟩)]] w (RowOut (ObjSt (fun k => w.heap.size + 2 ≤ k) B L K M mb Db d w.heap.size) (ObjEnd K L) (ObjD L K mb) w s d 123 k) := by
  have hklt := byteI_pos (s := s) (k := k) (by rw [hk]; decide)
  have HT := Lib.hid (fun w => take_is s k hs hklt 123 hk w)
  have hk1 : k + 1 ≤ s.size := hklt
  have HS : Hid (∀ w, Calls Tryz.prog 53 #[.agg #[.string s, .int .i64 (k + 1 : Nat)]] w fun e w' => e = .returned (.agg #[.string s, .int .i64 (sk s (k + 1) : Nat)]) ∧ Below w.heap.size w w') := Lib.hid (fun w => skip_any s (k + 1) hs hk1 w)
  have hsk := sk_le s (k + 1) hk1
  have hD0 : ¬ (ObjD L K mb) 0 := by show ¬ (0 = L ∨ 0 = K ∨ 0 = mb); omega
  have HL : Hid (∀ o, RowRel s d 123 k o ↔ ((byteI s (sk s (k + 1)) = 125 ∧ o = .ok (sk s (k + 1) + 1) [] []) ∨ (byteI s (sk s (k + 1)) ≠ 125 ∧ I s d 123 (sk s (k + 1)) [] o))) := Lib.hid (fun o => Iff.rfl)
  have hsz : (w.alloc (.cells #[.string s, .int .i64 k] 58)).heap.size = w.heap.size + 1 := by simp
  have hR0 : TRowC (ObjD L K mb) w s k ((w.alloc (.cells #[.string s, .int .i64 k] 58)).alloc (.cells #[.string ⟨#[]⟩, .int .i64 0] 58)) :=
    ⟨by omega, (ScanS.new w s k).step (sbelow_new _ _), by have := ScanS.new (w.alloc (.cells #[.string s, .int .i64 k] 58)) ⟨#[]⟩ 0; rw [hsz] at this; exact this, .of_below ((sbelow_new _ _).trans ((sbelow_new _ _).mono (by simp)))⟩
  have hS0 := (h.step (sbelow_new w (.cells #[.string s, .int .i64 k] 58))).step (sbelow_new _ (.cells #[.string ⟨#[]⟩, .int .i64 0] 58))
  have HR0 := Lib.hid hR0
  have HS0 := Lib.hid hS0
  have HH := Lib.hid hg
  have HLT : Hid (L < w.heap.size ∧ K < w.heap.size) := Lib.hid ⟨h.lt.1, h.lt.2.1⟩
  have hElow : ∀ q, (fun k => w.heap.size + 2 ≤ k) q → q ≠ w.heap.size ∧ q ≠ w.heap.size + 1 := fun q h => by have h : w.heap.size + 2 ≤ q := h; exact ⟨by omega, by omega⟩
  clear hR0 hS0 h hsz hk
  obtain ⟨k1, hk1e⟩ : ∃ k1, k1 = k + 1 := ⟨_, rfl⟩
  rw [← hk1e] at HT HS hsk HL hk1
  generalize hp : sk s k1 = p at *
  have HP := Lib.hid hp
  have HK1 := Lib.hid hk1e
  clear hp hk1e
  go_enter Tryz.func93, Tryz.ntmps93
  go_wp2_with fail
  refine (HT.out _).mono ?_
  rintro e w1 ⟨rfl, b1⟩
  have hr1 := HR0.out.step b1
  have hs1 := HS0.out.step b1
  have HR1 := Lib.hid (hr1.set k1 hk1)
  have HS1 := Lib.hid ((hs1.own hr1.own (Nat.le_refl _) (fun q h => (hElow q h).1) 0 (.string s)).own (hr1.own.far' 0 s) (Nat.le_refl _) (fun q h => (hElow q h).1) 1 (.int .i64 k1))
  obtain ⟨-, c0, c1, cf⟩ := hr1.own.1
  clear hr1 hs1
  go_wp2_with fail
  generalize (w1.setCell ⟨w.heap.size, 0, none⟩ (.string s)).setCell ⟨w.heap.size, 1, none⟩ (.int .i64 k1) = w2 at *
  refine (HS.out _).mono ?_
  rintro e w3 ⟨rfl, b3⟩
  have HR3 := Lib.hid (HR1.out.step b3)
  have HS3 := Lib.hid (HS1.out.step b3)
  by_cases hempty : byteI s p = 125
  · have hplt := byteI_pos (s := s) (k := p) (by rw [hempty]; decide)
    have hHas := fun w => has_is s p 125 hs hplt hempty w
    have hrel := (HL.out (.ok (p + 1) [] [])).2 (.inl ⟨hempty, rfl⟩)
    generalize p + 1 = p1 at *
    have HHas := Lib.hid hHas
    have HREL := Lib.hid hrel
    clear hHas hrel hempty
    go_wp2_with fail
    refine (HHas.out _).mono ?_
    rintro e w4 ⟨rfl, b4⟩
    have hr4 := HR3.out.step b4
    have hs4 := HS3.out.step b4
    obtain ⟨m4, r0, r1, rf⟩ := hr4.res.1
    have hr4' := hr4.step (sbelow_new w4 (.cells #[.string s, .int .i64 p1] 58))
    have HR4 := Lib.hid hr4'
    have HO := Lib.hid ((((hs4.own hr4.res (by omega) (fun q h => (hElow q h).2) 0 (.string s)).own (hr4.res.far' 0 s) (by omega) (fun q h => (hElow q h).2) 1 (.int .i64 p1))).step (sbelow_new _ (.cells #[.string s, .int .i64 p1] 58)))
    have HQ := Lib.hid (hr4.out p1)
    clear hs4 hr4 hr4'
    go_wp2_with fail
    obtain ⟨q0, q1, hkp⟩ := HQ.out
    unfold resSet at q0 q1 hkp
    exact bodyPost_ret (v := .tuple #[.agg #[.string s, .int .i64 p1], .nilIface]) (by simp [results, Tryz.results93, go_sem, q0, q1, m4]) rfl (.inl ⟨p1, [], [], HREL.out, rfl, HO.out, hkp.next (sbelow_new _ _)⟩)
  · have hHas := fun w => has_not s p 125 hs hsk.2 (fun h => hempty h.1) w
    have HHas := Lib.hid hHas
    have HREL : Hid (∀ o, I s d 123 p [] o → RowRel s d 123 k o) := Lib.hid (fun o hI => (HL.out o).2 (.inr ⟨hempty, hI⟩))
    clear hHas hempty HL
    go_wp2_with fail
    refine (HHas.out _).mono ?_
    rintro e w4 ⟨rfl, b4⟩
    have hr5 := (HR3.out.step b4).step (sbelow_new w4 (.cells #[.string s, .int .i64 p] 58))
    have hs5 := (HS3.out.step b4).step (sbelow_new w4 (.cells #[.string s, .int .i64 p] 58))
    have HRL : Hid (RowL (ObjSt (fun k => w.heap.size + 2 ≤ k) B L K M mb Db d w.heap.size) (ObjEnd K L) (ObjD L K mb) w s d 123 p (s.size - k1 + 1) .nilIface (.bool true) (w4.alloc (.cells #[.string s, .int .i64 p] 58))) :=
      Lib.hid ⟨k1, hr5, .inl ⟨[], [], rfl, rfl, rfl, hs5, Nat.zero_le _, rfl, fun o hI => by rw [HP.out] at hI; rw [Outs.pre_nil]; exact hI⟩⟩
    clear hr5 hs5
    go_wp2_with fail
    generalize w4.alloc (.cells #[.string s, .int .i64 p] 58) = w5 at *
    go_loopg [10, 13] (s.size - k1 + 1) (fun n e m wr => RowL (ObjSt (fun k => w.heap.size + 2 ≤ k) B L K M mb Db d w.heap.size) (ObjEnd K L) (ObjD L K mb) w s d 123 p n e m wr)
    case atStart => exact HRL.out
    case round =>
      obtain ⟨j, hC, ⟨vs, ks, rfl, rfl, hn, hst, hlen, hkl, hcont⟩ | ⟨vs, ks, rfl, rfl, hn, hst, hf1, hf2⟩ | ⟨ec, ea, fb, rfl, rfl, hn, hst, hfa, hI⟩⟩ := hrel
      · have HC := Lib.hid hC
        have HST := Lib.hid hst
        have HCO := Lib.hid hcont
        have HN := Lib.hid hn
        have HKL := Lib.hid hkl
        have hin := hC.in'
        obtain ⟨-, c0, c1, cf⟩ := hC.own.1
        have hgr : Handle wr := HH.out.keeps hC.keeps (fun e => e.elim hD0 (fun e => by have := HH.out.pos; omega))
        have hsz2 : w.heap.size + 2 ≤ wr.heap.size := hC.res.1.1
        have hIt := obj_item (fun k => w.heap.size + 2 ≤ k) s d B L K M mb Db w.heap.size j vs ks hs hin hV wr hgr hB hB0 (by omega) (by omega) (fun k hk => by show w.heap.size + 2 ≤ k; omega) hst
        have HIT := Lib.hid hIt
        clear hC hst hcont hn hkl hIt hgr
        go_wp2_with fail
        refine HIT.out.mono ?_
        rintro e w6 (⟨jj, q, x, key, hkr, hv, rfl, hst6, hfr6⟩ | ⟨ec, ea, fb, jj, hI, hjj, rfl, hf, hse, hfr⟩)
        · have hjl := sk_le s j hin
          have hql := keyR_ok hjl.2 hkr
          have hvf := V.fits hql.2 hv
          have hvf1 : q < jj ∧ jj ≤ s.size := hvf
          have hml := sk_le s jj hvf1.2
          have hc6 := HC.out.fr hfr6
          obtain ⟨-, c0', c1', cf'⟩ := hc6.own.1
          have HC7 := Lib.hid (hc6.set (sk s jj) hml.2)
          have HS7 := Lib.hid ((hst6.own hc6.own (Nat.le_refl _) (fun q h => (hElow q h).1) 0 (.string s)).own (hc6.own.far' 0 s) (Nat.le_refl _) (fun q h => (hElow q h).1) 1 (.int .i64 (sk s jj : Nat)))
          have HKR := Lib.hid hkr
          have HVV := Lib.hid hv
          generalize hm : sk s jj = m at *
          have HM := Lib.hid hm
          clear hkr hv hvf hst6 hfr6 hc6 c0 c1 cf hm
          go_wp2_with fail
          generalize (w6.setCell ⟨w.heap.size, 0, none⟩ (.string s)).setCell ⟨w.heap.size, 1, none⟩ (.int .i64 m) = w7 at *
          obtain ⟨-, e0, e1, ef⟩ := HC7.out.own.1
          by_cases hcomma : byteI s m = 44
          · have hmlt := byteI_pos (s := s) (k := m) (by rw [hcomma]; decide)
            have hH2 := fun w => has_is s m 44 hs hmlt hcomma w
            have hmo : ∀ o, I s d 123 (sk s (m + 1)) (ks ++ [key]) o → I s d 123 p [] (o.pre (vs ++ [x]) (ks ++ [key])) := fun o hI => by
              rw [← Outs.pre_cons]
              exact HCO.out _ (by
                have := W.more d 123 (sk s j) ks q key jj x o HKR.out HVV.out (by rw [HM.out]; exact hcomma) (by rw [HM.out]; exact hI)
                exact this)
            obtain ⟨m1, hm1⟩ : ∃ m1, m1 = m + 1 := ⟨_, rfl⟩
            rw [← hm1] at hH2 hmo
            have hm1l : m1 ≤ s.size := by omega
            have hm1j : j < m1 := by omega
            have HH2 := Lib.hid hH2
            have HMO := Lib.hid hmo
            clear hH2 hmo hm1 hcomma
            go_wp2_with fail
            refine (HH2.out _).mono ?_
            rintro e w8 ⟨rfl, b8⟩
            have hc8 := HC7.out.step b8
            have hs8 := HS7.out.step b8
            obtain ⟨-, g0, g1, gf⟩ := hc8.own.1
            have HC9 := Lib.hid (hc8.set m1 hm1l)
            have HS9 := Lib.hid ((hs8.own hc8.own (Nat.le_refl _) (fun q h => (hElow q h).1) 0 (.string s)).own (hc8.own.far' 0 s) (Nat.le_refl _) (fun q h => (hElow q h).1) 1 (.int .i64 m1))
            clear hc8 hs8
            go_wp2_with fail
            go_roundg (s.size - m1 + 1)
            case measure => have := HN.out; omega
            case rel => exact ⟨m1, HC9.out, .inl ⟨vs ++ [x], ks ++ [key], rfl, rfl, rfl, HS9.out, by rw [List.length_append, List.length_singleton]; omega, by have := HKL.out; rw [List.length_append, List.length_append, List.length_singleton, List.length_singleton]; omega, HMO.out⟩⟩
          · have hH2 := fun w => has_not s m 44 hs hml.2 (fun h => hcomma h.1) w
            have hfin1 : byteI s m = shutI 123 → I s d 123 p [] (.ok (m + 1) (vs ++ [x]) (ks ++ [key])) := fun e => by
              have := HCO.out _ (W.last d 123 (sk s j) ks q key jj x HKR.out HVV.out (by rw [HM.out]; exact e))
              rw [HM.out] at this
              exact this
            have hfin2 : byteI s m ≠ shutI 123 → I s d 123 p [] (.er (missC s m) m) := fun e => by
              have := HCO.out _ (W.sep d 123 (sk s j) ks q key jj x HKR.out HVV.out (by rw [HM.out]; exact e) (by rw [HM.out]; exact hcomma))
              rw [HM.out] at this
              exact this
            have HH2 := Lib.hid hH2
            have HF1 := Lib.hid hfin1
            have HF2 := Lib.hid hfin2
            clear hH2 hfin1 hfin2 hcomma
            go_wp2_with fail
            refine (HH2.out _).mono ?_
            rintro e w8 ⟨rfl, b8⟩
            have hc8 := HC7.out.step b8
            have hs8 := HS7.out.step b8
            obtain ⟨-, g0, g1, gf⟩ := hc8.own.1
            have HC9 := Lib.hid (hc8.set m hml.2)
            have HS9 := Lib.hid ((hs8.own hc8.own (Nat.le_refl _) (fun q h => (hElow q h).1) 0 (.string s)).own (hc8.own.far' 0 s) (Nat.le_refl _) (fun q h => (hElow q h).1) 1 (.int .i64 m))
            clear hc8 hs8
            go_wp2_with fail
            go_roundg 0
            case measure => have := HN.out; omega
            case rel => exact ⟨m, HC9.out, .inr (.inl ⟨vs ++ [x], ks ++ [key], rfl, rfl, rfl, HS9.out, HF1.out, HF2.out⟩)⟩
        · have hc6 := HC.out.fr hfr
          have HI' := Lib.hid (HCO.out _ hI)
          obtain ⟨-, c0', c1', cf'⟩ := hc6.own.1
          have HC7 := Lib.hid (hc6.set jj hjj)
          have HS7 := Lib.hid ((hse.own HLT.out (Nat.le_refl w.heap.size) 0 (.string s)).own HLT.out (Nat.le_refl w.heap.size) 1 (.int .i64 jj))
          have HF7 := Lib.hid (hf.set hc6.own.1 s jj)
          clear hfr hse hf hI hc6 c0 c1 cf
          unfold pf
          go_wp2_with fail
          go_roundg 0
          case measure => have := HN.out; omega
          case rel => exact ⟨jj, HC7.out, .inr (.inr ⟨ec, ea, fb, rfl, rfl, rfl, HS7.out, HF7.out, HI'.out⟩)⟩
      · have HC := Lib.hid hC
        have HST := Lib.hid hst
        have hin := hC.in'
        obtain ⟨-, c0, c1, cf⟩ := hC.own.1
        by_cases hshut : byteI s j = 125
        · have hjlt := byteI_pos (s := s) (k := j) (by rw [hshut]; decide)
          have hT2 := fun w => take_is s j hs hjlt 125 hshut w
          have hrel := HREL.out _ (hf1 hshut)
          generalize j + 1 = j1 at *
          have HT2 := Lib.hid hT2
          have HRR := Lib.hid hrel
          clear hC hst hf1 hf2 hT2 hrel hn hshut
          go_wp2_with fail
          refine (HT2.out _).mono ?_
          rintro e w6 ⟨rfl, b6⟩
          have hc6 := HC.out.step b6
          have hs6 := HST.out.step b6
          obtain ⟨m6, r0, r1, rf⟩ := hc6.res.1
          have HO := Lib.hid ((hs6.own hc6.res (by omega) (fun q h => (hElow q h).2) 0 (.string s)).own (hc6.res.far' 0 s) (by omega) (fun q h => (hElow q h).2) 1 (.int .i64 j1))
          have HQ := Lib.hid (hc6.out j1)
          clear hc6 hs6
          go_wp2_with fail
          obtain ⟨q0, q1, hkp⟩ := HQ.out
          unfold resSet at q0 q1 hkp
          exact bodyPost_ret (v := .tuple #[.agg #[.string s, .int .i64 j1], .nilIface]) (by simp [results, Tryz.results93, go_sem, q0, q1]) rfl (.inl ⟨j1, vs, ks, HRR.out, rfl, HO.out, hkp⟩)
        · have HT2 := Lib.hid (fun w => take_not s j hs hin 125 (fun h => hshut h.1) w)
          have HRR := Lib.hid (HREL.out _ (hf2 hshut))
          clear hC hst hf1 hf2 hn hshut
          go_wp2_with fail
          refine (HT2.out _).mono ?_
          rintro e w6 ⟨fb, rfl, hf, b6⟩
          have hc6 := HC.out.step b6
          have hs6 := HST.out.step b6
          obtain ⟨m6, r0, r1, rf⟩ := hc6.res.1
          have HO := Lib.hid (((hs6.own hc6.res (by omega) (fun q h => (hElow q h).2) 0 (.string s)).own (hc6.res.far' 0 s) (by omega) (fun q h => (hElow q h).2) 1 (.int .i64 j)).ends)
          have HF6 := Lib.hid (hf.set hc6.res.1 s j)
          have HQ := Lib.hid (hc6.out j)
          clear hc6 hs6 hf
          unfold pf
          go_wp2_with fail
          obtain ⟨q0, q1, hkp⟩ := HQ.out
          unfold resSet at q0 q1 hkp
          exact bodyPost_ret (v := .tuple #[.agg #[.string s, .int .i64 j], pf fb]) (by simp [results, Tryz.results93, go_sem, q0, q1, pf]) rfl (.inr ⟨missC s j, j, fb, j, HRR.out, hin, rfl, HF6.out, HO.out, hkp⟩)
      · have hin := hC.in'
        obtain ⟨-, c0, c1, cf⟩ := hC.own.1
        obtain ⟨m6, r0, r1, rf⟩ := hC.res.1
        have HRR := Lib.hid (HREL.out _ hI)
        have HO := Lib.hid ((hst.own HLT.out (Nat.le_succ w.heap.size) 0 (.string s)).own HLT.out (Nat.le_succ w.heap.size) 1 (.int .i64 j))
        have HF6 := Lib.hid (hfa.set hC.res.1 s j)
        have HQ := Lib.hid (hC.out j)
        clear hC hst hfa hI hn
        unfold pf
        go_wp2_with fail
        obtain ⟨q0, q1, hkp⟩ := HQ.out
        unfold resSet at q0 q1 hkp
        exact bodyPost_ret (v := .tuple #[.agg #[.string s, .int .i64 j], pf fb]) (by simp [results, Tryz.results93, go_sem, q0, q1, pf]) rfl (.inr ⟨ec, ea, fb, j, HRR.out, hin, rfl, HF6.out, HO.out, hkp⟩)

end Go.Proofs.YtajmlkephefapaaGreatDoor
