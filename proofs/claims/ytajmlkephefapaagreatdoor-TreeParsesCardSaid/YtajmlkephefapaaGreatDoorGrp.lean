/-
  TreeParses' law, by contract.
  TreeParses' law, by contract: the body.
  The statement TreeParses, proved: for every two texts, and in whatever memory, the law answers true and each argument reads afterwards as it did; what it lists of package-level variables is tied to the program's text.
-/
import Derived.Test.YtajmlkephefapaaGreatDoorGrj
import Derived.Test.YtajmlkephefapaaGreatDoorGrm
import Derived.Test.YtajmlkephefapaaGreatDoorGts
import Derived.Test.YtajmlkephefapaaGreatDoorGtr
import Derived.Deep.RegionHeld3
import Derived.Test.YtajmlkephefapaaGreatDoorLift
namespace Go.Proofs.YtajmlkephefapaaGreatDoor
open Go.RowKit Go.Extern.Stop Go.Stop Go.Extern Go.WideMaps

/-- The value of a text that is none. -/
def noVal : Val := .mk 0 ⟨#[]⟩ 0 [] [] 0
theorem noVal_at (P : Nat → Prop) (w : World) : ValC P w [.int .i64 0, .string ⟨#[]⟩, .int .u64 0, .slice none 0 0, .slice none 0 0, .int .i64 0] noVal := by
  unfold noVal ValC
  exact ⟨_, _, [], rfl, RowIn.nil _ _, RowIn.nil _ _, ValsC.nil⟩
/-- A text's value, or none with an error. -/
def OutVal (s : ByteArray) (o : Out) (x : Val) (code : Int) (at' : Nat) : Prop := (o = .ok s.size x ∧ code = 0 ∧ at' = 0) ∨ (o = .er code at' ∧ x = noVal)
theorem tp_uni {w w' : World} {s : ByteArray} {e : Ending} (h : TParseOut w s e w') :
    ∃ (o : Out) (x : Val) (ev : Value) (code : Int) (at' : Nat) (k : Int) (t : ByteArray) (n : Int) (a : Option Addr) (l c : Nat) (a' : Option Addr) (l' c' : Nat) (z : Int), Whole s o ∧ OutVal s o x code at' ∧
      e = .returned (.tuple #[.agg #[.int .i64 k, .string t, .int .u64 n, .slice a l c, .slice a' l' c', .int .i64 z], ev]) ∧ ErrIs w' ev code at' ∧
      ValC (fun q => w.heap.size ≤ q) w' [.int .i64 k, .string t, .int .u64 n, .slice a l c, .slice a' l' c', .int .i64 z] x ∧ Below w.heap.size w w' := by
  rcases h with ⟨x, k, t, n, a, l, c, a', l', c', z, hW, rfl, hv, hb⟩ | ⟨ec, ea, fb, hW, rfl, hf, hb⟩
  · exact ⟨_, x, .nilIface, 0, 0, k, t, n, a, l, c, a', l', c', z, hW, .inl ⟨rfl, rfl, rfl⟩, rfl, ErrIs.nilE _ _, hv, hb⟩
  · exact ⟨_, noVal, pf fb, ec, ea, 0, ⟨#[]⟩, 0, none, 0, 0, none, 0, 0, 0, hW, .inr ⟨rfl, rfl⟩, rfl, hf, noVal_at _ _, hb⟩
theorem t5_uni {w w' : World} {s : ByteArray} {o : Out} {x : Val} {code : Int} {at' : Nat} {e : Ending} (ho : OutVal s o x code at') (h : T5pOut w s o e w') :
    ∃ (k : Int) (t : ByteArray) (n : Int) (a : Option Addr) (l c : Nat) (a' : Option Addr) (l' c' : Nat) (z : Int),
      e = .returned (.tuple #[.agg #[.int .i64 k, .string t, .int .u64 n, .slice a l c, .slice a' l' c', .int .i64 z], .int .i64 code, .int .i64 at']) ∧
      ValC (fun q => w.heap.size ≤ q) w' [.int .i64 k, .string t, .int .u64 n, .slice a l c, .slice a' l' c', .int .i64 z] x ∧ Below w.heap.size w w' := by
  rcases h with ⟨x', k, t, n, a, l, c, a', l', c', z, rfl, rfl, hv, hb⟩ | ⟨ec, ea, rfl, rfl, hb⟩
  · rcases ho with ⟨h1, rfl, rfl⟩ | ⟨h1, -⟩
    · injection h1 with _ h1
      subst h1
      exact ⟨_, _, _, _, _, _, _, _, _, _, rfl, hv, hb⟩
    · cases h1
  · rcases ho with ⟨h1, -⟩ | ⟨h1, rfl⟩
    · cases h1
    · injection h1 with h1 h2
      subst h1 h2
      exact ⟨_, _, _, _, _, _, _, _, _, _, rfl, noVal_at _ _, hb⟩
/-- What the law wants of the value. -/
structure Good5 (x : Val) : Prop where
  full : fullV x
  size : vsize x ≤ 1000000000
  keys : keysOk x
theorem good_uni {s : ByteArray} {o : Out} {x : Val} {code : Int} {at' : Nat} (hs : s.size ≤ 1000000) (hW : Whole s o) (ho : OutVal s o x code at') : Good5 x := by
  rcases ho with ⟨rfl, -, -⟩ | ⟨-, rfl⟩
  · have := whole_small hs hW
    exact ⟨whole_full hs hW, by omega, this.2.1⟩
  · refine ⟨?_, ?_, ?_⟩
    · unfold noVal; rw [fullV, fullL]; exact ⟨.inr rfl, .inr rfl, .inr (.inr rfl), .inr rfl, by simp, trivial⟩
    · unfold noVal vsize; rw [if_neg (by decide)]; omega
    · unfold noVal; rw [keysOk, keysOkL]; exact ⟨by simp, trivial⟩
/-- As many values as keys. -/
def evenV : Val → Prop
  | .mk k _ _ list keys _ => keys ≠ [] → k = 6 ∧ keys.length = list.length
theorem leaf_even {s : ByteArray} {k j : Nat} {x : Val} (h : leafR s k = .ok j x) : evenV x := by
  have key : ∀ (kind : Int) (t : ByteArray) (n z : Int), evenV (.mk kind t n [] [] z) := fun _ _ _ _ h => absurd rfl h
  have hw : ∀ (kind : Int) (l : List UInt8), wordO s k kind l = .ok j x → evenV x := by
    intro kind l h
    unfold wordO at h
    split at h
    · injection h with _ e; subst e; exact key _ _ _ _
    · cases h
  unfold leafR at h
  split at h
  · exact hw _ _ h
  · split at h
    · exact hw _ _ h
    · split at h
      · exact hw _ _ h
      · split at h
        · split at h
          · injection h with _ e; subst e; exact key _ _ _ _
          · cases h
        · split at h
          · injection h with _ e; subst e; exact key _ _ _ _
          · cases h
def Say.Ev : Say → Prop
  | .v _ _ (.ok _ x) => evenV x
  | .i _ _ _ _ (.ok _ xs kk) => kk.length = xs.length
  | _ => True
theorem W.even {s : ByteArray} {g : Say} (h : W s g) : g.Ev := by
  induction h with
  | leaf d k h0 =>
    cases ho : leafR s k with
    | er c a => trivial
    | ok j x => exact leaf_even ho
  | deep d k h0 h1 => trivial
  | none d k h0 h1 h2 => intro h; exact absurd (by split <;> rfl) h
  | some d k o h0 h1 h2 hI ih =>
    cases o with
    | er c a => trivial
    | ok j vs kk =>
      show evenV (.mk (kindT (byteI s k)) ⟨#[]⟩ 0 vs (if byteI s k = 91 then [] else kk) k)
      intro h
      rcases h0 with h0 | h0
      · rw [h0] at h; exact absurd rfl h
      · rw [h0]
        exact ⟨rfl, by rw [if_neg (by decide)]; exact ih⟩
  | key d b p ks c a h0 => trivial
  | val d b p ks q key c a h0 hV ih => trivial
  | last d b p ks q key j v h0 hV h1 ih => rfl
  | sep d b p ks q key j v h0 hV h1 h2 ih => trivial
  | more d b p ks q key j v o h0 hV h1 hI ihV ihI =>
    cases o with
    | er c a => trivial
    | ok J vs kk =>
      show (key :: kk).length = (v :: vs).length
      rw [List.length_cons, List.length_cons]
      exact congrArg (· + 1) ihI
theorem even_uni {s : ByteArray} {o : Out} {x : Val} {code : Int} {at' : Nat} (hW : Whole s o) (ho : OutVal s o x code at') : evenV x := by
  rcases ho with ⟨rfl, -, -⟩ | ⟨-, rfl⟩
  · rcases hW with ⟨_, h⟩ | ⟨h0, o1, hV, h⟩
    · cases h
    rcases h with ⟨c, a, _, h⟩ | ⟨j, v, rfl, ⟨hj, h⟩ | ⟨_, h⟩⟩
    · cases h
    · have e : x = v := by injection h
      subst e
      exact (W.even hV : (Say.v 0 (sk s 0) (.ok _ x)).Ev)
    · cases h
  · intro h; exact absurd rfl h
end Go.Proofs.YtajmlkephefapaaGreatDoor

namespace Go.Proofs.YtajmlkephefapaaGreatDoor
open Go.RowKit Go.Extern.Stop Go.Stop Go.Extern Go.WideMaps

mutual
theorem clean_of_full : ∀ x : Val, fullV x → cleanV x
  | .mk k t n list keys z, h => by
    rw [fullV] at h
    rw [cleanV]
    exact ⟨h.2.2.1, cleanL_of_full list h.2.2.2.2.2⟩
theorem cleanL_of_full : ∀ l : List Val, fullL l → cleanL l
  | [], _ => by rw [cleanL]; trivial
  | x :: r, h => by
    rw [fullL] at h
    rw [cleanL]
    exact ⟨clean_of_full x h.1, cleanL_of_full r h.2⟩
end
/-- On the way behind both parses. -/
structure LwSt (w : World) (P1 P2 : Nat → Prop) (q1 q2 : Nat) (k1 : Int) (t1 : ByteArray) (n1 : Int) (v1 v1' : Value) (z1 : Int) (k2 : Int) (t2 : ByteArray) (n2 : Int) (v2 v2' : Value) (z2 : Int) (ev : Value) (code at' : Int) (x : Val) (W : World) : Prop where
  s1 : SixAt W q1 (.int .i64 k1) (.string t1) (.int .u64 n1) v1 v1' (.int .i64 z1)
  s2 : SixR W q2 (.int .i64 k2) (.string t2) (.int .u64 n2) v2 v2' (.int .i64 z2)
  x1 : ValC P1 W [.int .i64 k1, .string t1, .int .u64 n1, v1, v1', .int .i64 z1] x
  x2 : ValC P2 W [.int .i64 k2, .string t2, .int .u64 n2, v2, v2', .int .i64 z2] x
  er : ErrIs W ev code at'
  hg : Handle W
  below : Below w.heap.size w W
section
variable {w : World} {P1 P2 : Nat → Prop} {q1 q2 : Nat} {k1 : Int} {t1 : ByteArray} {n1 : Int} {v1 v1' : Value} {z1 : Int} {k2 : Int} {t2 : ByteArray} {n2 : Int} {v2 v2' : Value} {z2 : Int} {ev : Value} {code at' : Int} {x : Val} {W W' : World}
theorem LwSt.step (h : LwSt w P1 P2 q1 q2 k1 t1 n1 v1 v1' z1 k2 t2 n2 v2 v2' z2 ev code at' x W) (hb : Below W.heap.size W W') : LwSt w P1 P2 q1 q2 k1 t1 n1 v1 v1' z1 k2 t2 n2 v2 v2' z2 ev code at' x W' :=
  ⟨h.s1.stepN hb, h.s2.step hb, h.x1.step hb, h.x2.step hb, h.er.keep hb, h.hg.below hb, h.below.trans (hb.mono h.below.size)⟩
theorem LwSt.cells (h : LwSt w P1 P2 q1 q2 k1 t1 n1 v1 v1' z1 k2 t2 n2 v2 v2' z2 ev code at' x W) :
    W.cell? ⟨q1, 0, none⟩ = some (.int .i64 k1) ∧ W.cell? ⟨q1, 1, none⟩ = some (.string t1) ∧ W.cell? ⟨q1, 2, none⟩ = some (.int .u64 n1) ∧ W.cell? ⟨q1, 3, none⟩ = some v1 ∧ W.cell? ⟨q1, 4, none⟩ = some v1' ∧ W.cell? ⟨q1, 5, none⟩ = some (.int .i64 z1) ∧
    W.cell? ⟨q2, 0, none⟩ = some (.int .i64 k2) ∧ W.cell? ⟨q2, 1, none⟩ = some (.string t2) ∧ W.cell? ⟨q2, 2, none⟩ = some (.int .u64 n2) ∧ W.cell? ⟨q2, 3, none⟩ = some v2 ∧ W.cell? ⟨q2, 4, none⟩ = some v2' ∧ W.cell? ⟨q2, 5, none⟩ = some (.int .i64 z2) := by
  obtain ⟨a0, a1, a2, a3, a4, a5⟩ := h.s1.cells
  obtain ⟨b0, b1, b2, b3, b4, b5⟩ := h.s2.cells
  exact ⟨a0, a1, a2, a3, a4, a5, b0, b1, b2, b3, b4, b5⟩
end
set_option maxRecDepth 100000 in
set_option maxHeartbeats 16000000 in
theorem treeParses_any (s key : ByteArray) (w : World) (hg : Handle w) : Calls Tryz.prog 3 #[.string s, .string key] w fun e w' => e = .returned (.bool true) ∧ Below w.heap.size w w' := by
  have HG := Lib.hid hg
  clear hg
  go_enter Tryz.func3, Tryz.ntmps3
  go_wp2_with fail
  refine (awake5_any _ HG.out).mono ?_
  rintro e w1 ⟨rfl, b1⟩
  have HB1 := Lib.hid b1
  clear b1
  by_cases h3000 : 3000 < s.size
  · have h : (3000 : Int) < (s.size : Int) := by omega
    clear h3000
    go_wp2_with fail
    go_ret
    exact ⟨rfl, HB1.out⟩
  have h : ¬ (3000 : Int) < (s.size : Int) := by omega
  by_cases h100 : 100 < key.size
  · have h' : (100 : Int) < (key.size : Int) := by omega
    clear h3000 h100
    go_wp2_with fail
    go_ret
    exact ⟨rfl, HB1.out⟩
  have h' : ¬ (100 : Int) < (key.size : Int) := by omega
  have HS : Hid (s.size ≤ 3000) := Lib.hid (by omega)
  clear h3000 h100
  go_wp2_with fail
  refine (tparse_any s (by have := HS.out; unfold maxLen; omega) _ (HG.out.below HB1.out)).mono ?_
  intro e w2 hout
  obtain ⟨o, x, ev, code, at', k1, t1, n1, a1, l1, c1, a1', l1', c1', z1, hW, ho, rfl, he, hx, b2⟩ := tp_uni hout
  clear hout
  have HGD := Lib.hid (good_uni (by have := HS.out; omega) hW ho)
  have HEV := Lib.hid (even_uni hW ho)
  have HOV := Lib.hid ho
  have HP5 := Lib.hid (fun W => t5parse_any s o hW W)
  have b3 := sbelow_new w2 (.cells #[.int .i64 k1, .string t1, .int .u64 n1, .slice a1 l1 c1, .slice a1' l1' c1', .int .i64 z1] 27)
  have HB3 := Lib.hid ((HB1.out.trans (b2.mono HB1.out.size)).trans (b3.mono (HB1.out.trans (b2.mono HB1.out.size)).size))
  have HE3 := Lib.hid (he.keep b3)
  have HX3 := Lib.hid (hx.step b3)
  have H63 : Hid (SixAt (w2.alloc (.cells #[.int .i64 k1, .string t1, .int .u64 n1, .slice a1 l1 c1, .slice a1' l1' c1', .int .i64 z1] 27)) w2.heap.size (.int .i64 k1) (.string t1) (.int .u64 n1) (.slice a1 l1 c1) (.slice a1' l1' c1') (.int .i64 z1)) := Lib.hid (six_new w2 _ _ _ _ _ _)
  clear b2 b3 he hx hW ho HB1
  go_upto_region 6 with (fail)
  generalize w2.alloc (.cells #[.int .i64 k1, .string t1, .int .u64 n1, .slice a1 l1 c1, .slice a1' l1' c1', .int .i64 z1] 27) = w3 at *
  generalize w2.heap.size = q1 at *
  go_wp2_with fail
  refine (HP5.out _).mono ?_
  intro e w4 hout
  obtain ⟨k2, t2, n2, a2, l2, c2, a2', l2', c2', z2, rfl, hx2, b4⟩ := t5_uni HOV.out hout
  clear hout
  have b5 := sbelow_new w4 (.cells #[.int .i64 k2, .string t2, .int .u64 n2, .slice a2 l2 c2, .slice a2' l2' c2', .int .i64 z2] 34)
  have b45 := b4.trans (b5.mono b4.size)
  have HL : Hid (LwSt w _ _ q1 w4.heap.size k1 t1 n1 (.slice a1 l1 c1) (.slice a1' l1' c1') z1 k2 t2 n2 (.slice a2 l2 c2) (.slice a2' l2' c2') z2 ev code at' x (w4.alloc (.cells #[.int .i64 k2, .string t2, .int .u64 n2, .slice a2 l2 c2, .slice a2' l2' c2', .int .i64 z2] 34))) :=
    Lib.hid ⟨H63.out.stepN b45, heap_alloc_new w4 _, HX3.out.step b45, hx2.step b5, HE3.out.keep b45, HG.out.below (HB3.out.trans (b45.mono HB3.out.size)), HB3.out.trans (b45.mono HB3.out.size)⟩
  clear b4 b5 b45 hx2 H63 HX3 HE3 HB3 HG HP5 HOV
  go_upto_region 7 with (fail)
  generalize w4.alloc (.cells #[.int .i64 k2, .string t2, .int .u64 n2, .slice a2 l2 c2, .slice a2' l2' c2', .int .i64 z2] 34) = w5 at *
  generalize w4.heap.size = q2 at *
  have hI := HL.out.step (Below.refl w5.heap.size w5).drew
  have kk := hI.cells
  clear HL
  have hM := Nat.lt_succ_self (SizeOf.sizeOf x)
  go_region_held3 (fun W => W.cell? ⟨q1, 0, none⟩ = some (.int .i64 k1) ∧ W.cell? ⟨q1, 1, none⟩ = some (.string t1) ∧ W.cell? ⟨q1, 2, none⟩ = some (.int .u64 n1) ∧ W.cell? ⟨q1, 3, none⟩ = some (.slice a1 l1 c1) ∧ W.cell? ⟨q1, 4, none⟩ = some (.slice a1' l1' c1') ∧ W.cell? ⟨q1, 5, none⟩ = some (.int .i64 z1) ∧
      W.cell? ⟨q2, 0, none⟩ = some (.int .i64 k2) ∧ W.cell? ⟨q2, 1, none⟩ = some (.string t2) ∧ W.cell? ⟨q2, 2, none⟩ = some (.int .u64 n2) ∧ W.cell? ⟨q2, 3, none⟩ = some (.slice a2 l2 c2) ∧ W.cell? ⟨q2, 4, none⟩ = some (.slice a2' l2' c2') ∧ W.cell? ⟨q2, 5, none⟩ = some (.int .i64 z2))
    (first | exact kk | exact hI.cells)
    (first
      | (go_at_call 9; (with_reducible refine (lawIs_err _ code at' _ hI.er hI.hg).mono ?_); rintro e w6 ⟨rfl, b6⟩; replace hI := hI.step b6; clear b6)
      | (go_at_call 11; (with_reducible refine (to_go _ _ x hM HGD.out.size HGD.out.keys (clean_of_full _ HGD.out.full) _ _ _ _ _ _ _ _ _ _ _ hI.x1).mono ?_); rintro e w6 ⟨aa, la, ca, ab, lb, cb, rfl, hvx, b6⟩; replace hI := hI.step b6; clear b6)
      | (go_at_call 10; (with_reducible refine (same5t_go _ _ _ x hM HGD.out.size HGD.out.keys _ _ _ _ _ _ _ _ _ _ _ _ _ _ _ _ _ _ _ _ _ hvx hI.x2).mono ?_); rintro e w6 ⟨rfl, b6⟩; replace hI := hI.step b6; clear b6 hvx)
      | (go_at_call 12; (with_reducible refine (clean5_go _ _ x hM HGD.out.size HGD.out.full _ _ _ _ _ _ _ _ _ _ _ hvx).mono ?_); rintro e w6 ⟨rfl, b6⟩; replace hI := hI.step b6; clear b6 hvx)
      | (go_at_call 13; (with_reducible refine (size_go _ _ x hM HGD.out.size _ _ _ _ _ _ _ _ _ _ _ hI.x1).mono ?_); rintro e w6 ⟨rfl, b6⟩; replace hI := hI.step b6; clear b6)
      | (go_at_call 14; (with_reducible refine (rsize5_go _ _ x hM HGD.out.size _ _ _ _ _ _ _ _ _ _ _ hI.x2).mono ?_); rintro e w6 ⟨rfl, b6⟩; replace hI := hI.step b6; clear b6)
      | (go_at_call 15; (with_reducible refine (deep_go _ _ x hM HGD.out.size _ _ _ _ _ _ _ _ _ _ _ hI.x1).mono ?_); rintro e w6 ⟨rfl, b6⟩; replace hI := hI.step b6; clear b6)
      | (go_at_call 16; (with_reducible refine (rdeep5_go _ _ x hM HGD.out.size _ _ _ _ _ _ _ _ _ _ _ hI.x2).mono ?_); rintro e w6 ⟨rfl, b6⟩; replace hI := hI.step b6; clear b6))
  have HI := Lib.hid hI
  clear kk hI hM
  cases x with
  | mk k t n list keys z =>
  have hx1 := HI.out.x1
  have hx2 := HI.out.x2
  have HKO := Lib.hid HGD.out.keys
  have HFU := Lib.hid HGD.out.full
  have HSZ := Lib.hid HGD.out.size
  unfold ValC at hx1 hx2
  obtain ⟨sl, sk', xs, e, hk, hl, hvs⟩ := hx1
  obtain ⟨sl2, sk2, xs2, e2, hkk2, hll2, hvs2⟩ := hx2
  simp only [List.cons.injEq, Value.int.injEq, Value.string.injEq, true_and, and_true] at e e2
  obtain ⟨rfl, rfl, rfl, rfl, rfl, rfl⟩ := e
  obtain ⟨rfl, rfl, rfl, rfl, rfl, rfl⟩ := e2
  obtain ⟨_, _, es⟩ := hl.form
  simp only [Value.slice.injEq] at es
  obtain ⟨-, el, -⟩ := es
  subst el
  obtain ⟨_, _, es⟩ := hll2.form
  simp only [Value.slice.injEq] at es
  obtain ⟨-, el, -⟩ := es
  subst el
  obtain ⟨_, _, es⟩ := hk.form
  simp only [Value.slice.injEq] at es
  obtain ⟨-, el, -⟩ := es
  subst el
  obtain ⟨_, _, es⟩ := hkk2.form
  simp only [Value.slice.injEq] at es
  obtain ⟨-, el, -⟩ := es
  subst el
  have hkl : keys.length ≤ 1000000 := by have h := HKO.out; rw [keysOk] at h; exact h.1
  have HROW2 := Lib.hid hll2
  have HVS2 := Lib.hid hvs2
  have HKR2 := Lib.hid hkk2
  obtain ⟨a0, a1_, a2_, a3_, a4_, a5_, -⟩ := HI.out.cells
  rcases key_first keys key with ⟨hidx, hno⟩ | ⟨i, hidx, hil, hki, hnoj⟩
  · have HNO := Lib.hid hno
    have HGET := Lib.hid (get_no key k2 t2 n2 z2 a1 list.length c1 a1' c1' keys w6 hk hidx hkl)
    clear hk hl hvs hkk2 hll2 hvs2 hno hidx HEV
    go_wp2_with fail
    refine HGET.out.mono ?_
    rintro e w7 ⟨rfl, b7⟩
    have b8 := sbelow_new w7 (.cells #[.int .i64 0, .string ⟨#[]⟩, .int .u64 0, .slice none 0 0, .slice none 0 0, .int .i64 0] 27)
    have b78 := b7.trans (b8.mono b7.size)
    have H8 := Lib.hid (HI.out.step b78)
    have H68 := Lib.hid (six_new w7 (.int .i64 0) (.string ⟨#[]⟩) (.int .u64 0) (.slice none 0 0) (.slice none 0 0) (.int .i64 0))
    have HK8 : Hid (RowIn _ _ (.slice a2' keys.length c2') keys.length (keys.map Value.string)) := Lib.hid (HKR2.out.move (w' := w7.alloc (.cells #[.int .i64 0, .string ⟨#[]⟩, .int .u64 0, .slice none 0 0, .slice none 0 0, .int .i64 0] 27)) b78.size (fun q hq hlt => ⟨hq, b78.block q hlt⟩))
    clear a0 a1_ a2_ a3_ a4_ a5_ b7 b8 b78 HI HKR2 HROW2 HVS2 HGET
    go_upto_region 10 with (fail)
    generalize w7.alloc (.cells #[.int .i64 0, .string ⟨#[]⟩, .int .u64 0, .slice none 0 0, .slice none 0 0, .int .i64 0] 27) = w8 at *
    generalize w7.heap.size = q3 at *
    obtain ⟨-, -, -, -, -, -, -, -, -, -, a4_, -⟩ := H8.out.cells
    go_wp2_with fail
    go_loopg [76] keys.length (fun g v wr => ∃ i : Nat, i ≤ keys.length ∧ g = keys.length - i ∧ v = .int .i64 i ∧ wr = w8)
    case atStart => exact ⟨0, Nat.zero_le _, rfl, rfl, rfl⟩
    case round =>
      obtain ⟨i, hi, hgk, rfl, rfl⟩ := hrel
      have HGK := Lib.hid hgk
      clear hgk
      by_cases hlt : i < keys.length
      · have hli : (i : Int) < (keys.length : Int) := by omega
        have hib : (i : Int) ≤ 1000000 := by omega
        obtain ⟨y, hy⟩ : ∃ y, keys[i]? = some y := ⟨_, List.getElem?_eq_getElem hlt⟩
        obtain ⟨b2, o2, rfl, e1⟩ := key_at HK8.out hy (Below.refl _ _)
        have heq : (y.toList == key.toList) = false := by
          rw [Go.ByteArray.toList_eq, Go.ByteArray.toList_eq]
          exact beq_eq_false_iff_ne.2 (fun e => HNO.out i hlt (by rw [hy]; exact congrArg some (ByteArray.ext (Array.toList_inj.1 e))))
        clear hy
        go_wp2_with fail
        go_roundg (keys.length - (i + 1))
        case measure => have := HGK.out; omega
        case rel => exact ⟨i + 1, by omega, rfl, rfl, rfl⟩
      · obtain rfl : i = keys.length := by omega
        obtain ⟨s0, s1, s2, s3, s4, s5⟩ := H68.out.cells
        have HTO := Lib.hid (to_go (fun _ => True) _ noVal (Nat.lt_succ_self _) (by unfold noVal vsize; rw [if_neg (by decide)]; omega) (by unfold noVal; rw [keysOk, keysOkL]; exact ⟨by simp, trivial⟩) (by unfold noVal; rw [cleanV, cleanL]; exact ⟨.inr (.inr rfl), trivial⟩) wr _ _ _ _ _ _ _ _ _ _ (noVal_at _ _))
        clear hi hlt
        go_wp2_with fail
        refine HTO.out.mono ?_
        rintro e w9 ⟨aa, la, ca, ab, lb, cb, rfl, hvx, b9⟩
        have HSM := Lib.hid (same5t_go _ (fun _ => True) _ noVal (Nat.lt_succ_self _) (by unfold noVal vsize; rw [if_neg (by decide)]; omega) (by unfold noVal; rw [keysOk, keysOkL]; exact ⟨by simp, trivial⟩) w9 _ _ _ _ _ _ _ _ _ _ 0 ⟨#[]⟩ 0 none 0 0 none 0 0 0 hvx (noVal_at _ _))
        have HB9 := Lib.hid (H8.out.below.trans (b9.mono H8.out.below.size))
        clear hvx b9 s0 s1 s2 s3 s4 s5 a4_
        go_wp2_with fail
        refine HSM.out.mono ?_
        rintro e w10 ⟨rfl, b10⟩
        go_wp2_with fail
        go_ret
        exact ⟨rfl, HB9.out.trans (b10.mono HB9.out.size)⟩
  · have hne : keys ≠ [] := by rintro rfl; simp at hil
    obtain ⟨h6, hkl2⟩ := HEV.out hne
    subst h6
    have hil2 : i < list.length := by omega
    obtain ⟨y, hy⟩ : ∃ y, list[i]? = some y := ⟨_, List.getElem?_eq_getElem hil2⟩
    have hfu : fullL list := by have h := HFU.out; rw [fullV] at h; exact h.2.2.2.2.2
    have hko : keysOkL list := by have h := HKO.out; rw [keysOk] at h; exact h.2
    have hll : lsize list + 1 ≤ 1000000000 := by have h := HSZ.out; unfold vsize at h; rw [if_pos (.inr rfl)] at h; omega
    have hvy : vsize y ≤ 1000000000 := by have h1 := lsize_take hy; have h2 := lsize_le (l := list) (i + 1); omega
    have HYF := Lib.hid (fullL_at hfu hy)
    have HYK := Lib.hid (keysOkL_at hko hy)
    have HYS := Lib.hid hvy
    have HGET := Lib.hid (get_ok key t2 n2 z2 a1 c1 a1' c1' list keys i y w6 ⟨⟨_, hl, hvs⟩, hk⟩ hy hidx hkl HYF.out hvy (by have := length_le_lsize list; omega))
    have HY := Lib.hid hy
    have HKI := Lib.hid hki
    have HNJ := Lib.hid hnoj
    have HIL := Lib.hid (And.intro hil hil2)
    clear hk hl hvs hkk2 hll2 hvs2 hidx hki hnoj hne HEV hkl2 hfu hko hy hil hil2 hvy
    go_wp2_with fail
    refine HGET.out.mono ?_
    rintro e w7 ⟨k6, t6, n6, a6, l6, c6, a7, l7, c7, z6, rfl, hvy, b7⟩
    have b8 := sbelow_new w7 (.cells #[.int .i64 k6, .string t6, .int .u64 n6, .slice a6 l6 c6, .slice a7 l7 c7, .int .i64 z6] 27)
    have b78 := b7.trans (b8.mono b7.size)
    have H8 := Lib.hid (HI.out.step b78)
    have H68 := Lib.hid (six_new w7 (.int .i64 k6) (.string t6) (.int .u64 n6) (.slice a6 l6 c6) (.slice a7 l7 c7) (.int .i64 z6))
    have HVY := Lib.hid (hvy.step b8)
    have HK8 : Hid (RowIn _ _ (.slice a2' keys.length c2') keys.length (keys.map Value.string)) := Lib.hid (HKR2.out.move (w' := w7.alloc (.cells #[.int .i64 k6, .string t6, .int .u64 n6, .slice a6 l6 c6, .slice a7 l7 c7, .int .i64 z6] 27)) b78.size (fun q hq hlt => ⟨hq, b78.block q hlt⟩))
    have HR8 : Hid (RowIn _ _ (.slice a2 list.length c2) list.length xs2) := Lib.hid (HROW2.out.move (w' := w7.alloc (.cells #[.int .i64 k6, .string t6, .int .u64 n6, .slice a6 l6 c6, .slice a7 l7 c7, .int .i64 z6] 27)) b78.size (fun q hq hlt => ⟨hq, b78.block q hlt⟩))
    have HV8 : Hid (ValsC _ _ xs2 list) := Lib.hid (HVS2.out.move (w' := w7.alloc (.cells #[.int .i64 k6, .string t6, .int .u64 n6, .slice a6 l6 c6, .slice a7 l7 c7, .int .i64 z6] 27)) b78.size (fun q hq hlt => ⟨hq, b78.block q hlt⟩))
    clear a0 a1_ a2_ a3_ a4_ a5_ b7 b8 b78 HI HKR2 HROW2 HVS2 HGET hvy
    go_upto_region 10 with (fail)
    generalize w7.alloc (.cells #[.int .i64 k6, .string t6, .int .u64 n6, .slice a6 l6 c6, .slice a7 l7 c7, .int .i64 z6] 27) = w8 at *
    generalize w7.heap.size = q3 at *
    obtain ⟨-, -, -, -, -, -, -, -, -, -, a4_, -⟩ := H8.out.cells
    go_wp2_with fail
    go_loopg [76] keys.length (fun g v wr => ∃ j : Nat, j ≤ i ∧ g = keys.length - j ∧ v = .int .i64 j ∧ wr = w8)
    case atStart => exact ⟨0, Nat.zero_le _, rfl, rfl, rfl⟩
    case round =>
      obtain ⟨j, hj, hgk, rfl, rfl⟩ := hrel
      have HGK := Lib.hid hgk
      clear hgk
      have hjl : j < keys.length := by have := HIL.out; omega
      have hli : (j : Int) < (keys.length : Int) := by omega
      have hjb : (j : Int) ≤ 1000000 := by omega
      obtain ⟨yk, hyk⟩ : ∃ y, keys[j]? = some y := ⟨_, List.getElem?_eq_getElem hjl⟩
      obtain ⟨b2, o2, rfl, e1⟩ := key_at HK8.out hyk (Below.refl _ _)
      rcases Nat.lt_or_ge j i with hji | hji
      · have heq : (yk.toList == key.toList) = false := by
          rw [Go.ByteArray.toList_eq, Go.ByteArray.toList_eq]
          exact beq_eq_false_iff_ne.2 (fun e => HNJ.out j hji (by rw [hyk]; exact congrArg some (ByteArray.ext (Array.toList_inj.1 e))))
        clear hyk
        go_wp2_with fail
        go_roundg (keys.length - (j + 1))
        case measure => have := HGK.out; omega
        case rel => exact ⟨j + 1, by omega, rfl, rfl, rfl⟩
      · obtain rfl : j = i := by omega
        obtain rfl : yk = key := by
          have h := HKI.out
          rw [hyk] at h
          injection h
        have heq : (yk.toList == yk.toList) = true := by simp
        have hli2 : (j : Int) < (list.length : Int) := by have := HIL.out; omega
        have hj0 : (0 : Int) ≤ (j : Int) := by omega
        obtain ⟨bq, oq, k8, t8, n8, a8, l8, c8, a9, l9, c9, z8, rfl, hvq, hEq⟩ := el_at HR8.out HV8.out HY.out (Below.refl _ _)
        have HVQ := Lib.hid hvq
        have HEQ := Lib.hid hEq
        clear hyk hvq hEq hj hji hjl
        go_upto_region 14 with (fail)
        have HK : Hid (∀ W, Below wr.heap.size wr W → W.cell? ⟨q3, 0, none⟩ = some (.int .i64 k6) ∧ W.cell? ⟨q3, 1, none⟩ = some (.string t6) ∧ W.cell? ⟨q3, 2, none⟩ = some (.int .u64 n6) ∧ W.cell? ⟨q3, 3, none⟩ = some (.slice a6 l6 c6) ∧ W.cell? ⟨q3, 4, none⟩ = some (.slice a7 l7 c7) ∧ W.cell? ⟨q3, 5, none⟩ = some (.int .i64 z6) ∧ W.cell? ⟨q2, 3, none⟩ = some (.slice (some ⟨bq, oq, none⟩) list.length c2) ∧ W.cell? ⟨bq, oq + j * 6, none⟩ = some (.int .i64 k8) ∧ W.cell? ⟨bq, oq + j * 6 + 1, none⟩ = some (.string t8) ∧ W.cell? ⟨bq, oq + j * 6 + 2, none⟩ = some (.int .u64 n8) ∧ W.cell? ⟨bq, oq + j * 6 + 3, none⟩ = some (.slice a8 l8 c8) ∧ W.cell? ⟨bq, oq + j * 6 + 4, none⟩ = some (.slice a9 l9 c9) ∧ W.cell? ⟨bq, oq + j * 6 + 5, none⟩ = some (.int .i64 z8)) := Lib.hid (fun W hb => by
          obtain ⟨h0, h1, h2, h3, h4, h5⟩ := (H68.out.stepN hb).cells
          obtain ⟨-, g0, g1, g2, g3, g4, g5⟩ := HEQ.out.step hb
          exact ⟨h0, h1, h2, h3, h4, h5, (H8.out.step hb).cells.2.2.2.2.2.2.2.2.2.1, g0, g1, g2, g3, g4, g5⟩)
        have hB : Below wr.heap.size wr wr.drew := (Below.refl wr.heap.size wr).drew
        have kk := HK.out _ hB
        go_region_held3 (fun W => W.cell? ⟨q3, 0, none⟩ = some (.int .i64 k6) ∧ W.cell? ⟨q3, 1, none⟩ = some (.string t6) ∧ W.cell? ⟨q3, 2, none⟩ = some (.int .u64 n6) ∧ W.cell? ⟨q3, 3, none⟩ = some (.slice a6 l6 c6) ∧ W.cell? ⟨q3, 4, none⟩ = some (.slice a7 l7 c7) ∧ W.cell? ⟨q3, 5, none⟩ = some (.int .i64 z6) ∧ W.cell? ⟨q2, 3, none⟩ = some (.slice (some ⟨bq, oq, none⟩) list.length c2) ∧ W.cell? ⟨bq, oq + j * 6, none⟩ = some (.int .i64 k8) ∧ W.cell? ⟨bq, oq + j * 6 + 1, none⟩ = some (.string t8) ∧ W.cell? ⟨bq, oq + j * 6 + 2, none⟩ = some (.int .u64 n8) ∧ W.cell? ⟨bq, oq + j * 6 + 3, none⟩ = some (.slice a8 l8 c8) ∧ W.cell? ⟨bq, oq + j * 6 + 4, none⟩ = some (.slice a9 l9 c9) ∧ W.cell? ⟨bq, oq + j * 6 + 5, none⟩ = some (.int .i64 z8))
          (first | exact kk | exact HK.out _ hB)
          (first
            | (go_at_call 11; (with_reducible refine (to_go _ _ y (Nat.lt_succ_self _) HYS.out HYK.out (clean_of_full _ HYF.out) _ _ _ _ _ _ _ _ _ _ _ (HVY.out.step hB)).mono ?_); rintro e w9 ⟨aa, la, ca, ab, lb, cb, rfl, hvx, b9⟩; replace hB := hB.trans (b9.mono hB.size); clear b9)
            | (go_at_call 10; (with_reducible refine (same5t_go _ _ _ y (Nat.lt_succ_self _) HYS.out HYK.out _ _ _ _ _ _ _ _ _ _ _ _ _ _ _ _ _ _ _ _ _ hvx (HVQ.out.step hB)).mono ?_); rintro e w9 ⟨rfl, b9⟩; replace hB := hB.trans (b9.mono hB.size); clear b9 hvx))
        go_wp2_with fail
        go_ret
        exact ⟨rfl, H8.out.below.trans (hB.mono H8.out.below.size)⟩
end Go.Proofs.YtajmlkephefapaaGreatDoor

namespace Go.Proofs.YtajmlkephefapaaGreatDoor
open Go.ChangeShapes Go.WideShapes Go.ChangeAt Go.RowKit

set_option maxRecDepth 100000 in
theorem treeParses_lifted (os : Os) (started : os.Started) (H : Type) (enc : TypeId × Value → H) :
    ReturnsInHanded {} Tryz.checked os 3 .any (fun w args => (Rows.treeParsesSpec.pre enc Tryz.prog Tryz.f3 [] false w args ∧ laidMetH Tryz.prog lone w) ∧ sizedMet enc Tryz.prog Tryz.f3 (OpenSpec.ofChange Rows.treeParsesSpec) false w args)
      (Rows.treeParsesSpec.post enc Tryz.prog Tryz.f3 false true false false) := by
  refine returnsInHanded_of_change_and (C := Tryz.checked) (X := fun w _ => laidMetH Tryz.prog lone w) (fun _ _ _ hh h => h.of_heap hh) Tryz.own started (by kernel_rfl) Tryz.func3
    (ChangeSpec.witness_at (enc := enc) (C := Tryz.checked) (os := os) (X := fun w _ => laidMetH Tryz.prog lone w) false (laidWorld os) #[.string ByteArray.empty, .string ByteArray.empty] 8 rfl (by kernel_rfl) (by kernel_rfl) (by kernel_rfl) (by kernel_rfl) (by kernel_rfl) (laidWorld_met os _)) ?_
  intro W base args ds gs before hval0 hW _ _ hL _
  have hval : ∀ (j : Nat) t v, Tryz.f3.params[j]? = some t → args[j]? = some v → Value.okWide Tryz.prog W .any base t v := hval0
  have hW' := hW
  obtain ⟨p, q, hA0, hV, rfl, hfz, hnd⟩ := hW
  have hA : DataW.TrodAll enc Tryz.prog W 0 (fun _ => true) true Tryz.f3.params.toList args.toList ds p := hA0
  rw [Tryz.params3] at hA hval
  obtain ⟨v0, v1, d0, d1, p0, p1, rfl, rfl, rfl, h0, h1⟩ := trodAll_two hA
  obtain ⟨s, rfl, rfl, rfl, ws⟩ := Go.ChangeMaps.open_string Tryz.underlying9 (hval 0 9 v0 rfl rfl) h0
  obtain ⟨k, rfl, rfl, rfl, wk⟩ := Go.ChangeMaps.open_string Tryz.underlying9 (hval 1 9 v1 rfl rfl) h1
  refine (treeParses_any s k W (handle_of_laid hL)).mono fun e W' ⟨he, hb⟩ => ?_
  subst he
  exact ⟨_, rfl, law_post (by kernel_rfl) rfl (by rw [Tryz.params3]; decide +kernel) hW' hb (by simp [Rows.treeParsesSpec]) (by simp [Rows.treeParsesSpec]) (by simp [Rows.treeParsesSpec])⟩

theorem treeParses_holds : Rows.TreeParsesSaid :=
  OpenClaim.holds_of_wide 3 Tryz.f3 rfl rfl rfl rfl rfl rfl rfl ⟨rfl, rfl, rfl, rfl, rfl⟩ rfl rfl rfl rfl rfl (by kernel_rfl) Tryz.func3 (by kernel_rfl)
    (of_decide_eq_true (by kernel_rfl)) (by unfold Func.isWrapper; rw [if_neg (of_decide_eq_false (by kernel_rfl))]; exact ⟨rfl, rfl⟩)
    (fun os started H enc _ => treeParses_lifted os started H enc)

theorem treeParses_card : Rows.TreeParsesCardSaid :=
  Claim7.holds_tied_plain_at .later [] [.handle] true Rows.treeParsesCard.stood.harness true
    treeParses_holds (fun _ h => by cases h) (by kernel_rfl) (fun _ h => by cases h) treeParses_row_tie rfl ⟨rfl, rfl⟩ (by kernel_rfl) rfl
    (fun f fn hf hfn => by
      obtain rfl : f = 3 := Option.some.inj ((show Tryz.prog.funcNamed "fairlead/fairleadlaw05.TreeParses" = some 3 by kernel_rfl).symm.trans hf) |>.symm
      obtain rfl : fn = Tryz.f3 := (Option.some.inj (Tryz.func3.symm.trans hfn)).symm
      exact ⟨by kernel_rfl, fun j t ht => by
        have hk : ∀ t ∈ Tryz.f3.params.toList, Tryz.prog.wantsStandIn t = false := by rw [Tryz.params3]; decide +kernel
        exact hk t (by
          obtain ⟨hj, e⟩ := Array.getElem?_eq_some_iff.1 ht
          rw [← e]
          simp)⟩)
    (by kernel_rfl)
#print axioms treeParses_card
end Go.Proofs.YtajmlkephefapaaGreatDoor
