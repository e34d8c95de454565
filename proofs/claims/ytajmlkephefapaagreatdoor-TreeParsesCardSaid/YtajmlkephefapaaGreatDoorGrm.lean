/-
  Layer 5, plain: a text's value holds what is of its kind alone.
  The law's 'clean', the document's Size and Deep, by contract.
  The law's 'clean' by contract: a value that holds what is of its kind alone.
  Package tree's Get by contract: a member that is there, or isn't.
-/
import Derived.Test.YtajmlkephefapaaGreatDoorTreeU2
import Derived.Test.YtajmlkephefapaaGreatDoorGnb
import Derived.Test.YtajmlkephefapaaGreatDoorShelf
namespace Go.Proofs.YtajmlkephefapaaGreatDoor
open Go.RowKit Go.Extern.Stop Go.Stop Go.Extern

mutual
def pureV : Val → Prop
  | .mk k t n list keys _ => (k = 4 ∨ t = ⟨#[]⟩) ∧ (k = 3 ∨ n = 0) ∧ (k = 5 ∨ k = 6 ∨ list = []) ∧ (k = 6 ∨ keys = []) ∧ pureL list
def pureL : List Val → Prop
  | [] => True
  | x :: r => pureV x ∧ pureL r
end
def Say.Pu : Say → Prop
  | .v _ _ (.ok _ x) => pureV x
  | .i _ _ _ _ (.ok _ xs _) => pureL xs
  | _ => True
theorem leaf_pure {s : ByteArray} {k j : Nat} {x : Val} (h : leafR s k = .ok j x) : pureV x := by
  have key : ∀ (kind : Int) (t : ByteArray) (n z : Int), (kind = 4 ∨ t = ⟨#[]⟩) → (kind = 3 ∨ n = 0) → pureV (.mk kind t n [] [] z) := by
    intro kind t n z h1 h2
    rw [pureV, pureL]
    exact ⟨h1, h2, .inr (.inr rfl), .inr rfl, trivial⟩
  have hw : ∀ (kind : Int) (l : List UInt8), wordO s k kind l = .ok j x → pureV x := by
    intro kind l h
    unfold wordO at h
    split at h
    · injection h with _ e; subst e; exact key _ _ _ _ (.inr rfl) (.inr rfl)
    · cases h
  unfold leafR at h
  split at h
  · exact hw _ _ h
  · split at h
    · exact hw _ _ h
    · split at h
      · exact hw _ _ h
      · split at h
        · split at h
          · injection h with _ e; subst e; exact key _ _ _ _ (.inl rfl) (.inr rfl)
          · cases h
        · split at h
          · injection h with _ e; subst e; exact key _ _ _ _ (.inr rfl) (.inl rfl)
          · cases h
theorem W.pure {s : ByteArray} {g : Say} (h : W s g) : g.Pu := by
  induction h with
  | leaf d k h0 =>
    cases ho : leafR s k with
    | er c a => trivial
    | ok j x => exact leaf_pure ho
  | deep d k h0 h1 => trivial
  | none d k h0 h1 h2 =>
    show pureV _
    rw [pureV, pureL]
    exact ⟨.inr rfl, .inr rfl, .inr (.inr rfl), .inr (by split <;> rfl), trivial⟩
  | some d k o h0 h1 h2 hI ih =>
    cases o with
    | er c a => trivial
    | ok j vs kk =>
      show pureV _
      rw [pureV]
      rcases h0 with h0 | h0
      · exact ⟨.inr rfl, .inr rfl, .inl (by rw [h0]; rfl), .inr (by rw [h0]; rfl), ih⟩
      · exact ⟨.inr rfl, .inr rfl, .inr (.inl (by rw [h0]; rfl)), .inl (by rw [h0]; rfl), ih⟩
  | key d b p ks c a h0 => trivial
  | val d b p ks q key c a h0 hV ih => trivial
  | last d b p ks q key j v h0 hV h1 ih =>
    show pureL _
    rw [pureL, pureL]
    exact ⟨ih, trivial⟩
  | sep d b p ks q key j v h0 hV h1 h2 ih => trivial
  | more d b p ks q key j v o h0 hV h1 hI ihV ihI =>
    cases o with
    | er c a => trivial
    | ok J vs kk =>
      show pureL _
      rw [pureL]
      exact ⟨ihV, ihI⟩
mutual
theorem full_of : ∀ x : Val, pureV x → keysOk x → fullV x
  | .mk k t n list keys z, h, hk => by
    rw [pureV] at h
    rw [keysOk] at hk
    rw [fullV]
    exact ⟨h.1, h.2.1, h.2.2.1, h.2.2.2.1, hk.1, fullL_of list h.2.2.2.2 hk.2⟩
theorem fullL_of : ∀ l : List Val, pureL l → keysOkL l → fullL l
  | [], _, _ => by rw [fullL]; trivial
  | x :: r, h, hk => by
    rw [pureL] at h
    rw [keysOkL] at hk
    rw [fullL]
    exact ⟨full_of x h.1 hk.1, fullL_of r h.2 hk.2⟩
end
theorem whole_full {s : ByteArray} (hs : s.size ≤ 1000000) {x : Val} (h : Whole s (.ok s.size x)) : fullV x := by
  refine full_of x ?_ (whole_small hs h).2.1
  rcases h with ⟨_, h⟩ | ⟨h0, o1, hV, h⟩
  · cases h
  rcases h with ⟨c, a, _, h⟩ | ⟨j, v, rfl, ⟨hj, h⟩ | ⟨_, h⟩⟩
  · cases h
  · have e : x = v := by injection h
    subst e
    exact (W.pure hV : (Say.v 0 (sk s 0) (.ok _ x)).Pu)
  · cases h
end Go.Proofs.YtajmlkephefapaaGreatDoor

namespace Go.Proofs.YtajmlkephefapaaGreatDoor
open Go.RowKit Go.Extern.Stop Go.Stop Go.Extern Go.WideMaps

set_option maxRecDepth 100000 in
set_option maxHeartbeats 4000000 in
theorem rsize5_5 (P : Nat → Prop) (m : Nat) (ih : ∀ x : Val, SizeOf.sizeOf x < m → vsize x ≤ 1000000000 → ∀ (w : World) (k : Int) (t : ByteArray) (n : Int) (a : Option Addr) (l c : Nat) (a' : Option Addr) (l' c' : Nat) (z : Int),
    ValC P w [.int .i64 k, .string t, .int .u64 n, .slice a l c, .slice a' l' c', .int .i64 z] x →
    Calls Tryz.prog 14 #[.agg #[.int .i64 k, .string t, .int .u64 n, .slice a l c, .slice a' l' c', .int .i64 z]] w fun e w' => e = .returned (.int .i64 (vsize x)) ∧ Below w.heap.size w w')
    (t : ByteArray) (n z : Int) (list : List Val) (xs : List Value) (hx : SizeOf.sizeOf list < m + 1) (hsz : 1 + lsize list ≤ 1000000000) (w : World) (a : Option Addr) (c : Nat) (a' : Option Addr) (l' c' : Nat) (hl : RowIn P w (.slice a list.length c) list.length xs) (hvs : ValsC P w xs list) :
    Calls Tryz.prog 14 #[.agg #[.int .i64 5, .string t, .int .u64 n, .slice a list.length c, .slice a' l' c', .int .i64 z]] w fun e w' => e = .returned (.int .i64 (1 + lsize list : Nat)) ∧ Below w.heap.size w w' := by
  have IH := Lib.hid ih
  have HROW := Lib.hid hl
  have HVS := Lib.hid hvs
  have HX := Lib.hid hx
  have HSZ := Lib.hid hsz
  have hbw := sbelow_new w (.cells #[.int .i64 5, .string t, .int .u64 n, .slice a list.length c, .slice a' l' c', .int .i64 z] 34)
  have h6 : SixR (w.alloc (.cells #[.int .i64 5, .string t, .int .u64 n, .slice a list.length c, .slice a' l' c', .int .i64 z] 34)) w.heap.size (.int .i64 5) (.string t) (.int .u64 n) (.slice a list.length c) (.slice a' l' c') (.int .i64 z) := heap_alloc_new w _
  obtain ⟨s0, -, -, s3, -, -⟩ := h6.cells
  have H1 : Hid (SizeRel w list list.length (.int .i64 1) (.int .i64 0) (w.alloc (.cells #[.int .i64 5, .string t, .int .u64 n, .slice a list.length c, .slice a' l' c', .int .i64 z] 34))) := Lib.hid ⟨0, Nat.zero_le _, by omega, rfl, by simp [lsize], hbw⟩
  clear ih hl hvs hx hsz h6 hbw
  go_enter Tryz.func14, Tryz.ntmps14
  go_wp2_with fail
  generalize w.alloc (.cells #[.int .i64 5, .string t, .int .u64 n, .slice a list.length c, .slice a' l' c', .int .i64 z] 34) = w1 at *
  go_loopg [3, 17] list.length (fun g u v wr => SizeRel w list g u v wr)
  case atStart => exact H1.out
  case round =>
    obtain ⟨i, hi, hgk, rfl, rfl, hbel⟩ := hrel
    by_cases hlt : i < list.length
    · obtain ⟨x, hx⟩ : ∃ x, list[i]? = some x := ⟨_, List.getElem?_eq_getElem hlt⟩
      obtain ⟨d0, d1, d2, d3, d4, d5, hvx, e0, e1, e2, e3, e4, e5⟩ := ValsC.at' HVS.out hx
      obtain ⟨b, o, rfl, hc⟩ : ∃ b o, a = some ⟨b, o, none⟩ ∧ b < w.heap.size ∧ ∀ j u, xs[j]? = some u → w.cell? ⟨b, o + j, none⟩ = some u := by
        rcases HROW.out with ⟨h0, -⟩ | ⟨b, o, c, e, -, hlt, hc⟩
        · omega
        · injection e with e; exact ⟨b, o, e, hlt, hc⟩
      obtain ⟨k2, t2, n2, a2, l2, c2, a3, l3, c3, z2, ed⟩ := hvx.form
      simp only [List.cons.injEq, and_true] at ed
      obtain ⟨rfl, rfl, rfl, rfl, rfl, rfl⟩ := ed
      have hj : ∀ j u, xs[6 * i + j]? = some u → wr.cell? ⟨b, o + i * 6 + j, none⟩ = some u := fun j u hu => by
        rw [show o + i * 6 + j = o + (6 * i + j) by omega]
        exact (hbel.cell (p := ⟨b, _, none⟩) hc.1).trans (hc.2 _ _ hu)
      have f0 := hj 0 _ e0
      rw [Nat.add_zero] at f0
      have f1 := hj 1 _ e1
      have f2 := hj 2 _ e2
      have f3 := hj 3 _ e3
      have f4 := hj 4 _ e4
      have f5 := hj 5 _ e5
      have hst := lsize_take hx
      have hle := lsize_le (l := list) (i + 1)
      have hsx : SizeOf.sizeOf x < m := by have := sizeOf_mem hx; have := HX.out; omega
      have hvs : vsize x ≤ 1000000000 := by have := HSZ.out; omega
      have bn := sbelow_new wr (.cells #[.int .i64 k2, .string t2, .int .u64 n2, .slice a2 l2 c2, .slice a3 l3 c3, .int .i64 z2] 34)
      have HC := Lib.hid (IH.out x hsx hvs _ _ _ _ _ _ _ _ _ _ _ (hvx.step (hbel.trans (bn.mono hbel.size))))
      have HBN := Lib.hid (hbel.trans (bn.mono hbel.size))
      have HST := Lib.hid hst
      have hub : 1 + lsize (list.take i) + vsize x ≤ 1000000000 := by have := HSZ.out; omega
      have HUB := Lib.hid hub
      clear e0 e1 e2 e3 e4 e5 hc hx hvx hj hst hle hsx hvs bn hub
      generalize lsize (list.take i) = p at *
      generalize hvz : vsize x = y at *
      have HVZ := Lib.hid hvz
      clear hvz
      go_wp2_with fail
      refine HC.out.mono ?_
      rintro e w4 ⟨rfl, b4⟩
      go_wp2_with fail
      go_roundg (list.length - (i + 1))
      case measure => omega
      case rel =>
        have h1 := HUB.out
        have h2 := HST.out
        have h3 := HVZ.out
        have h4 := HSZ.out
        have h5 := length_le_lsize list
        refine ⟨i + 1, by omega, rfl, ?_, ?_, HBN.out.trans (b4.mono HBN.out.size)⟩
        · rw [w64 _ (by omega)]
          rfl
        · rw [h2, w64 _ (by omega)]
          congr 1
          omega
    · obtain rfl : i = list.length := by omega
      rw [List.take_length]
      go_wp2_with fail
      go_ret
      exact ⟨rfl, hbel⟩
set_option maxRecDepth 100000 in
set_option maxHeartbeats 4000000 in
theorem rsize5_6 (P : Nat → Prop) (m : Nat) (ih : ∀ x : Val, SizeOf.sizeOf x < m → vsize x ≤ 1000000000 → ∀ (w : World) (k : Int) (t : ByteArray) (n : Int) (a : Option Addr) (l c : Nat) (a' : Option Addr) (l' c' : Nat) (z : Int),
    ValC P w [.int .i64 k, .string t, .int .u64 n, .slice a l c, .slice a' l' c', .int .i64 z] x →
    Calls Tryz.prog 14 #[.agg #[.int .i64 k, .string t, .int .u64 n, .slice a l c, .slice a' l' c', .int .i64 z]] w fun e w' => e = .returned (.int .i64 (vsize x)) ∧ Below w.heap.size w w')
    (t : ByteArray) (n z : Int) (list : List Val) (xs : List Value) (hx : SizeOf.sizeOf list < m + 1) (hsz : 1 + lsize list ≤ 1000000000) (w : World) (a : Option Addr) (c : Nat) (a' : Option Addr) (l' c' : Nat) (hl : RowIn P w (.slice a list.length c) list.length xs) (hvs : ValsC P w xs list) :
    Calls Tryz.prog 14 #[.agg #[.int .i64 6, .string t, .int .u64 n, .slice a list.length c, .slice a' l' c', .int .i64 z]] w fun e w' => e = .returned (.int .i64 (1 + lsize list : Nat)) ∧ Below w.heap.size w w' := by
  have IH := Lib.hid ih
  have HROW := Lib.hid hl
  have HVS := Lib.hid hvs
  have HX := Lib.hid hx
  have HSZ := Lib.hid hsz
  have hbw := sbelow_new w (.cells #[.int .i64 6, .string t, .int .u64 n, .slice a list.length c, .slice a' l' c', .int .i64 z] 34)
  have h6 : SixR (w.alloc (.cells #[.int .i64 6, .string t, .int .u64 n, .slice a list.length c, .slice a' l' c', .int .i64 z] 34)) w.heap.size (.int .i64 6) (.string t) (.int .u64 n) (.slice a list.length c) (.slice a' l' c') (.int .i64 z) := heap_alloc_new w _
  obtain ⟨s0, -, -, s3, -, -⟩ := h6.cells
  have H1 : Hid (SizeRel w list list.length (.int .i64 1) (.int .i64 0) (w.alloc (.cells #[.int .i64 6, .string t, .int .u64 n, .slice a list.length c, .slice a' l' c', .int .i64 z] 34))) := Lib.hid ⟨0, Nat.zero_le _, by omega, rfl, by simp [lsize], hbw⟩
  clear ih hl hvs hx hsz h6 hbw
  go_enter Tryz.func14, Tryz.ntmps14
  go_wp2_with fail
  generalize w.alloc (.cells #[.int .i64 6, .string t, .int .u64 n, .slice a list.length c, .slice a' l' c', .int .i64 z] 34) = w1 at *
  go_loopg [3, 17] list.length (fun g u v wr => SizeRel w list g u v wr)
  case atStart => exact H1.out
  case round =>
    obtain ⟨i, hi, hgk, rfl, rfl, hbel⟩ := hrel
    by_cases hlt : i < list.length
    · obtain ⟨x, hx⟩ : ∃ x, list[i]? = some x := ⟨_, List.getElem?_eq_getElem hlt⟩
      obtain ⟨d0, d1, d2, d3, d4, d5, hvx, e0, e1, e2, e3, e4, e5⟩ := ValsC.at' HVS.out hx
      obtain ⟨b, o, rfl, hc⟩ : ∃ b o, a = some ⟨b, o, none⟩ ∧ b < w.heap.size ∧ ∀ j u, xs[j]? = some u → w.cell? ⟨b, o + j, none⟩ = some u := by
        rcases HROW.out with ⟨h0, -⟩ | ⟨b, o, c, e, -, hlt, hc⟩
        · omega
        · injection e with e; exact ⟨b, o, e, hlt, hc⟩
      obtain ⟨k2, t2, n2, a2, l2, c2, a3, l3, c3, z2, ed⟩ := hvx.form
      simp only [List.cons.injEq, and_true] at ed
      obtain ⟨rfl, rfl, rfl, rfl, rfl, rfl⟩ := ed
      have hj : ∀ j u, xs[6 * i + j]? = some u → wr.cell? ⟨b, o + i * 6 + j, none⟩ = some u := fun j u hu => by
        rw [show o + i * 6 + j = o + (6 * i + j) by omega]
        exact (hbel.cell (p := ⟨b, _, none⟩) hc.1).trans (hc.2 _ _ hu)
      have f0 := hj 0 _ e0
      rw [Nat.add_zero] at f0
      have f1 := hj 1 _ e1
      have f2 := hj 2 _ e2
      have f3 := hj 3 _ e3
      have f4 := hj 4 _ e4
      have f5 := hj 5 _ e5
      have hst := lsize_take hx
      have hle := lsize_le (l := list) (i + 1)
      have hsx : SizeOf.sizeOf x < m := by have := sizeOf_mem hx; have := HX.out; omega
      have hvs : vsize x ≤ 1000000000 := by have := HSZ.out; omega
      have bn := sbelow_new wr (.cells #[.int .i64 k2, .string t2, .int .u64 n2, .slice a2 l2 c2, .slice a3 l3 c3, .int .i64 z2] 34)
      have HC := Lib.hid (IH.out x hsx hvs _ _ _ _ _ _ _ _ _ _ _ (hvx.step (hbel.trans (bn.mono hbel.size))))
      have HBN := Lib.hid (hbel.trans (bn.mono hbel.size))
      have HST := Lib.hid hst
      have hub : 1 + lsize (list.take i) + vsize x ≤ 1000000000 := by have := HSZ.out; omega
      have HUB := Lib.hid hub
      clear e0 e1 e2 e3 e4 e5 hc hx hvx hj hst hle hsx hvs bn hub
      generalize lsize (list.take i) = p at *
      generalize hvz : vsize x = y at *
      have HVZ := Lib.hid hvz
      clear hvz
      go_wp2_with fail
      refine HC.out.mono ?_
      rintro e w4 ⟨rfl, b4⟩
      go_wp2_with fail
      go_roundg (list.length - (i + 1))
      case measure => omega
      case rel =>
        have h1 := HUB.out
        have h2 := HST.out
        have h3 := HVZ.out
        have h4 := HSZ.out
        have h5 := length_le_lsize list
        refine ⟨i + 1, by omega, rfl, ?_, ?_, HBN.out.trans (b4.mono HBN.out.size)⟩
        · rw [w64 _ (by omega)]
          rfl
        · rw [h2, w64 _ (by omega)]
          congr 1
          omega
    · obtain rfl : i = list.length := by omega
      rw [List.take_length]
      go_wp2_with fail
      go_ret
      exact ⟨rfl, hbel⟩
set_option maxRecDepth 100000 in
set_option maxHeartbeats 4000000 in
theorem rdeep5_5 (P : Nat → Prop) (m : Nat) (ih : ∀ x : Val, SizeOf.sizeOf x < m → vsize x ≤ 1000000000 → ∀ (w : World) (k : Int) (t : ByteArray) (n : Int) (a : Option Addr) (l c : Nat) (a' : Option Addr) (l' c' : Nat) (z : Int),
    ValC P w [.int .i64 k, .string t, .int .u64 n, .slice a l c, .slice a' l' c', .int .i64 z] x →
    Calls Tryz.prog 16 #[.agg #[.int .i64 k, .string t, .int .u64 n, .slice a l c, .slice a' l' c', .int .i64 z]] w fun e w' => e = .returned (.int .i64 (vdeep x)) ∧ Below w.heap.size w w')
    (t : ByteArray) (n z : Int) (list : List Val) (xs : List Value) (hx : SizeOf.sizeOf list < m + 1) (hsz : 1 + lsize list ≤ 1000000000) (w : World) (a : Option Addr) (c : Nat) (a' : Option Addr) (l' c' : Nat) (hl : RowIn P w (.slice a list.length c) list.length xs) (hvs : ValsC P w xs list) :
    Calls Tryz.prog 16 #[.agg #[.int .i64 5, .string t, .int .u64 n, .slice a list.length c, .slice a' l' c', .int .i64 z]] w fun e w' => e = .returned (.int .i64 (ldeep list + 1 : Nat)) ∧ Below w.heap.size w w' := by
  have IH := Lib.hid ih
  have HROW := Lib.hid hl
  have HVS := Lib.hid hvs
  have HX := Lib.hid hx
  have HSZ := Lib.hid hsz
  have hbw := sbelow_new w (.cells #[.int .i64 5, .string t, .int .u64 n, .slice a list.length c, .slice a' l' c', .int .i64 z] 34)
  have h6 : SixR (w.alloc (.cells #[.int .i64 5, .string t, .int .u64 n, .slice a list.length c, .slice a' l' c', .int .i64 z] 34)) w.heap.size (.int .i64 5) (.string t) (.int .u64 n) (.slice a list.length c) (.slice a' l' c') (.int .i64 z) := heap_alloc_new w _
  obtain ⟨s0, -, -, s3, -, -⟩ := h6.cells
  have H1 : Hid (DeepRel w list list.length (.int .i64 0) (.int .i64 0) (w.alloc (.cells #[.int .i64 5, .string t, .int .u64 n, .slice a list.length c, .slice a' l' c', .int .i64 z] 34))) := Lib.hid ⟨0, Nat.zero_le _, by omega, rfl, by simp [ldeep], hbw⟩
  clear ih hl hvs hx hsz h6 hbw
  go_enter Tryz.func16, Tryz.ntmps16
  go_wp2_with fail
  generalize w.alloc (.cells #[.int .i64 5, .string t, .int .u64 n, .slice a list.length c, .slice a' l' c', .int .i64 z] 34) = w1 at *
  go_loopg [3, 18] list.length (fun g u v wr => DeepRel w list g u v wr)
  case atStart => exact H1.out
  case round =>
    obtain ⟨i, hi, hgk, rfl, rfl, hbel⟩ := hrel
    by_cases hlt : i < list.length
    · obtain ⟨x, hx⟩ : ∃ x, list[i]? = some x := ⟨_, List.getElem?_eq_getElem hlt⟩
      obtain ⟨d0, d1, d2, d3, d4, d5, hvx, e0, e1, e2, e3, e4, e5⟩ := ValsC.at' HVS.out hx
      obtain ⟨b, o, rfl, hc⟩ : ∃ b o, a = some ⟨b, o, none⟩ ∧ b < w.heap.size ∧ ∀ j u, xs[j]? = some u → w.cell? ⟨b, o + j, none⟩ = some u := by
        rcases HROW.out with ⟨h0, -⟩ | ⟨b, o, c, e, -, hlt, hc⟩
        · omega
        · injection e with e; exact ⟨b, o, e, hlt, hc⟩
      obtain ⟨k2, t2, n2, a2, l2, c2, a3, l3, c3, z2, ed⟩ := hvx.form
      simp only [List.cons.injEq, and_true] at ed
      obtain ⟨rfl, rfl, rfl, rfl, rfl, rfl⟩ := ed
      have hj : ∀ j u, xs[6 * i + j]? = some u → wr.cell? ⟨b, o + i * 6 + j, none⟩ = some u := fun j u hu => by
        rw [show o + i * 6 + j = o + (6 * i + j) by omega]
        exact (hbel.cell (p := ⟨b, _, none⟩) hc.1).trans (hc.2 _ _ hu)
      have f0 := hj 0 _ e0
      rw [Nat.add_zero] at f0
      have f1 := hj 1 _ e1
      have f2 := hj 2 _ e2
      have f3 := hj 3 _ e3
      have f4 := hj 4 _ e4
      have f5 := hj 5 _ e5
      have hst := ldeep_take hx
      have hle := ldeep_le (l := list) (i + 1)
      have hsx : SizeOf.sizeOf x < m := by have := sizeOf_mem hx; have := HX.out; omega
      have hvs : vsize x ≤ 1000000000 := by have h1 := HSZ.out; have h2 := lsize_take hx; have h3 := lsize_le (l := list) (i + 1); omega
      have bn := sbelow_new wr (.cells #[.int .i64 k2, .string t2, .int .u64 n2, .slice a2 l2 c2, .slice a3 l3 c3, .int .i64 z2] 34)
      have HC := Lib.hid (IH.out x hsx hvs _ _ _ _ _ _ _ _ _ _ _ (hvx.step (hbel.trans (bn.mono hbel.size))))
      have HBN := Lib.hid (hbel.trans (bn.mono hbel.size))
      have HST := Lib.hid hst
      have hub : ldeep list ≤ 1000000000 ∧ ldeep (list.take i) ≤ ldeep list ∧ vdeep x ≤ ldeep list := ⟨by have h1 := HSZ.out; have := ldeep_size list; omega, ldeep_le i, by have := hst; have := hle; omega⟩
      have HUB := Lib.hid hub
      clear e0 e1 e2 e3 e4 e5 hc hx hvx hj hst hle hsx hvs bn hub
      generalize ldeep (list.take i) = p at *
      generalize hvz : vdeep x = y at *
      have HVZ := Lib.hid hvz
      clear hvz
      go_wp2_with fail
      refine HC.out.mono ?_
      rintro e w4 ⟨rfl, b4⟩
      by_cases hpy : (p : Int) < (y : Int)
      · have HPY := Lib.hid hpy
        go_wp2_with fail
        go_roundg (list.length - (i + 1))
        case measure => omega
        case rel =>
          have h2 := HST.out
          have h4 := HSZ.out
          have h5 := length_le_lsize list
          have h6 := HPY.out
          refine ⟨i + 1, by omega, rfl, ?_, ?_, HBN.out.trans (b4.mono HBN.out.size)⟩
          · rw [w64 _ (by omega)]
            rfl
          · rw [h2]
            congr 1
            omega
      · have HPY := Lib.hid hpy
        go_wp2_with fail
        go_roundg (list.length - (i + 1))
        case measure => omega
        case rel =>
          have h2 := HST.out
          have h4 := HSZ.out
          have h5 := length_le_lsize list
          have h6 := HPY.out
          refine ⟨i + 1, by omega, rfl, ?_, ?_, HBN.out.trans (b4.mono HBN.out.size)⟩
          · rw [w64 _ (by omega)]
            rfl
          · rw [h2]
            congr 1
            omega
    · obtain rfl : i = list.length := by omega
      rw [List.take_length]
      have hub : ldeep list ≤ 1000000000 := by have h1 := HSZ.out; have := ldeep_size list; omega
      generalize hp : ldeep list = p at *
      have HP := Lib.hid hp
      clear hp
      go_wp2_with fail
      go_ret
      exact ⟨by rw [HP.out]; rfl, hbel⟩
set_option maxRecDepth 100000 in
set_option maxHeartbeats 4000000 in
theorem rdeep5_6 (P : Nat → Prop) (m : Nat) (ih : ∀ x : Val, SizeOf.sizeOf x < m → vsize x ≤ 1000000000 → ∀ (w : World) (k : Int) (t : ByteArray) (n : Int) (a : Option Addr) (l c : Nat) (a' : Option Addr) (l' c' : Nat) (z : Int),
    ValC P w [.int .i64 k, .string t, .int .u64 n, .slice a l c, .slice a' l' c', .int .i64 z] x →
    Calls Tryz.prog 16 #[.agg #[.int .i64 k, .string t, .int .u64 n, .slice a l c, .slice a' l' c', .int .i64 z]] w fun e w' => e = .returned (.int .i64 (vdeep x)) ∧ Below w.heap.size w w')
    (t : ByteArray) (n z : Int) (list : List Val) (xs : List Value) (hx : SizeOf.sizeOf list < m + 1) (hsz : 1 + lsize list ≤ 1000000000) (w : World) (a : Option Addr) (c : Nat) (a' : Option Addr) (l' c' : Nat) (hl : RowIn P w (.slice a list.length c) list.length xs) (hvs : ValsC P w xs list) :
    Calls Tryz.prog 16 #[.agg #[.int .i64 6, .string t, .int .u64 n, .slice a list.length c, .slice a' l' c', .int .i64 z]] w fun e w' => e = .returned (.int .i64 (ldeep list + 1 : Nat)) ∧ Below w.heap.size w w' := by
  have IH := Lib.hid ih
  have HROW := Lib.hid hl
  have HVS := Lib.hid hvs
  have HX := Lib.hid hx
  have HSZ := Lib.hid hsz
  have hbw := sbelow_new w (.cells #[.int .i64 6, .string t, .int .u64 n, .slice a list.length c, .slice a' l' c', .int .i64 z] 34)
  have h6 : SixR (w.alloc (.cells #[.int .i64 6, .string t, .int .u64 n, .slice a list.length c, .slice a' l' c', .int .i64 z] 34)) w.heap.size (.int .i64 6) (.string t) (.int .u64 n) (.slice a list.length c) (.slice a' l' c') (.int .i64 z) := heap_alloc_new w _
  obtain ⟨s0, -, -, s3, -, -⟩ := h6.cells
  have H1 : Hid (DeepRel w list list.length (.int .i64 0) (.int .i64 0) (w.alloc (.cells #[.int .i64 6, .string t, .int .u64 n, .slice a list.length c, .slice a' l' c', .int .i64 z] 34))) := Lib.hid ⟨0, Nat.zero_le _, by omega, rfl, by simp [ldeep], hbw⟩
  clear ih hl hvs hx hsz h6 hbw
  go_enter Tryz.func16, Tryz.ntmps16
  go_wp2_with fail
  generalize w.alloc (.cells #[.int .i64 6, .string t, .int .u64 n, .slice a list.length c, .slice a' l' c', .int .i64 z] 34) = w1 at *
  go_loopg [3, 18] list.length (fun g u v wr => DeepRel w list g u v wr)
  case atStart => exact H1.out
  case round =>
    obtain ⟨i, hi, hgk, rfl, rfl, hbel⟩ := hrel
    by_cases hlt : i < list.length
    · obtain ⟨x, hx⟩ : ∃ x, list[i]? = some x := ⟨_, List.getElem?_eq_getElem hlt⟩
      obtain ⟨d0, d1, d2, d3, d4, d5, hvx, e0, e1, e2, e3, e4, e5⟩ := ValsC.at' HVS.out hx
      obtain ⟨b, o, rfl, hc⟩ : ∃ b o, a = some ⟨b, o, none⟩ ∧ b < w.heap.size ∧ ∀ j u, xs[j]? = some u → w.cell? ⟨b, o + j, none⟩ = some u := by
        rcases HROW.out with ⟨h0, -⟩ | ⟨b, o, c, e, -, hlt, hc⟩
        · omega
        · injection e with e; exact ⟨b, o, e, hlt, hc⟩
      obtain ⟨k2, t2, n2, a2, l2, c2, a3, l3, c3, z2, ed⟩ := hvx.form
      simp only [List.cons.injEq, and_true] at ed
      obtain ⟨rfl, rfl, rfl, rfl, rfl, rfl⟩ := ed
      have hj : ∀ j u, xs[6 * i + j]? = some u → wr.cell? ⟨b, o + i * 6 + j, none⟩ = some u := fun j u hu => by
        rw [show o + i * 6 + j = o + (6 * i + j) by omega]
        exact (hbel.cell (p := ⟨b, _, none⟩) hc.1).trans (hc.2 _ _ hu)
      have f0 := hj 0 _ e0
      rw [Nat.add_zero] at f0
      have f1 := hj 1 _ e1
      have f2 := hj 2 _ e2
      have f3 := hj 3 _ e3
      have f4 := hj 4 _ e4
      have f5 := hj 5 _ e5
      have hst := ldeep_take hx
      have hle := ldeep_le (l := list) (i + 1)
      have hsx : SizeOf.sizeOf x < m := by have := sizeOf_mem hx; have := HX.out; omega
      have hvs : vsize x ≤ 1000000000 := by have h1 := HSZ.out; have h2 := lsize_take hx; have h3 := lsize_le (l := list) (i + 1); omega
      have bn := sbelow_new wr (.cells #[.int .i64 k2, .string t2, .int .u64 n2, .slice a2 l2 c2, .slice a3 l3 c3, .int .i64 z2] 34)
      have HC := Lib.hid (IH.out x hsx hvs _ _ _ _ _ _ _ _ _ _ _ (hvx.step (hbel.trans (bn.mono hbel.size))))
      have HBN := Lib.hid (hbel.trans (bn.mono hbel.size))
      have HST := Lib.hid hst
      have hub : ldeep list ≤ 1000000000 ∧ ldeep (list.take i) ≤ ldeep list ∧ vdeep x ≤ ldeep list := ⟨by have h1 := HSZ.out; have := ldeep_size list; omega, ldeep_le i, by have := hst; have := hle; omega⟩
      have HUB := Lib.hid hub
      clear e0 e1 e2 e3 e4 e5 hc hx hvx hj hst hle hsx hvs bn hub
      generalize ldeep (list.take i) = p at *
      generalize hvz : vdeep x = y at *
      have HVZ := Lib.hid hvz
      clear hvz
      go_wp2_with fail
      refine HC.out.mono ?_
      rintro e w4 ⟨rfl, b4⟩
      by_cases hpy : (p : Int) < (y : Int)
      · have HPY := Lib.hid hpy
        go_wp2_with fail
        go_roundg (list.length - (i + 1))
        case measure => omega
        case rel =>
          have h2 := HST.out
          have h4 := HSZ.out
          have h5 := length_le_lsize list
          have h6 := HPY.out
          refine ⟨i + 1, by omega, rfl, ?_, ?_, HBN.out.trans (b4.mono HBN.out.size)⟩
          · rw [w64 _ (by omega)]
            rfl
          · rw [h2]
            congr 1
            omega
      · have HPY := Lib.hid hpy
        go_wp2_with fail
        go_roundg (list.length - (i + 1))
        case measure => omega
        case rel =>
          have h2 := HST.out
          have h4 := HSZ.out
          have h5 := length_le_lsize list
          have h6 := HPY.out
          refine ⟨i + 1, by omega, rfl, ?_, ?_, HBN.out.trans (b4.mono HBN.out.size)⟩
          · rw [w64 _ (by omega)]
            rfl
          · rw [h2]
            congr 1
            omega
    · obtain rfl : i = list.length := by omega
      rw [List.take_length]
      have hub : ldeep list ≤ 1000000000 := by have h1 := HSZ.out; have := ldeep_size list; omega
      generalize hp : ldeep list = p at *
      have HP := Lib.hid hp
      clear hp
      go_wp2_with fail
      go_ret
      exact ⟨by rw [HP.out]; rfl, hbel⟩
set_option maxRecDepth 100000 in
set_option maxHeartbeats 2000000 in
theorem rsize5_go (P : Nat → Prop) : ∀ (m : Nat) (x : Val), SizeOf.sizeOf x < m → vsize x ≤ 1000000000 → ∀ (w : World) (k : Int) (t : ByteArray) (n : Int) (a : Option Addr) (l c : Nat) (a' : Option Addr) (l' c' : Nat) (z : Int),
    ValC P w [.int .i64 k, .string t, .int .u64 n, .slice a l c, .slice a' l' c', .int .i64 z] x →
    Calls Tryz.prog 14 #[.agg #[.int .i64 k, .string t, .int .u64 n, .slice a l c, .slice a' l' c', .int .i64 z]] w fun e w' => e = .returned (.int .i64 (vsize x)) ∧ Below w.heap.size w w' := by
  intro m
  induction m with
  | zero => intro x hx; exact absurd hx (Nat.not_lt_zero _)
  | succ m ih =>
    intro x hx hsz w k t n a l c a' l' c' z hv
    cases x with
    | mk k1 t1 n1 list keys z1 =>
      unfold ValC at hv
      obtain ⟨sl, sk', xs, e, hk, hl, hvs⟩ := hv
      simp only [List.cons.injEq, Value.int.injEq, Value.string.injEq, true_and, and_true] at e
      obtain ⟨rfl, rfl, rfl, rfl, rfl, rfl⟩ := e
      obtain ⟨_, _, es⟩ := hl.form
      simp only [Value.slice.injEq] at es
      obtain ⟨-, el, -⟩ := es
      subst el
      simp only [Val.mk.sizeOf_spec] at hx
      unfold vsize at hsz
      unfold vsize
      by_cases h5 : k = 5
      · subst h5
        rw [if_pos (.inl rfl)] at hsz
        have := rsize5_5 P m ih t n z list xs (by omega) hsz w a c a' l' c' hl hvs
        rw [if_pos (.inl rfl)]
        exact this
      by_cases h6 : k = 6
      · subst h6
        rw [if_pos (.inr rfl)] at hsz
        have := rsize5_6 P m ih t n z list xs (by omega) hsz w a c a' l' c' hl hvs
        rw [if_pos (.inr rfl)]
        exact this
      rw [if_neg (by omega)]
      have hbw := Lib.hid (sbelow_new w (.cells #[.int .i64 k, .string t, .int .u64 n, .slice a list.length c, .slice a' l' c', .int .i64 z] 34))
      have h6' : SixR (w.alloc (.cells #[.int .i64 k, .string t, .int .u64 n, .slice a list.length c, .slice a' l' c', .int .i64 z] 34)) w.heap.size (.int .i64 k) (.string t) (.int .u64 n) (.slice a list.length c) (.slice a' l' c') (.int .i64 z) := heap_alloc_new w _
      obtain ⟨s0, -, -, s3, -, -⟩ := h6'.cells
      have e5 : (k == 5) = false := beq_eq_false_iff_ne.2 h5
      have e6 : (k == 6) = false := beq_eq_false_iff_ne.2 h6
      have n5 : (k != 5) = true := bne_iff_ne.2 h5
      have n6 : (k != 6) = true := bne_iff_ne.2 h6
      clear h6' hl hvs hk ih hx hsz
      go_enter Tryz.func14, Tryz.ntmps14
      go_wp2_with fail
      go_ret
      exact ⟨rfl, hbw.out⟩
set_option maxRecDepth 100000 in
set_option maxHeartbeats 2000000 in
theorem rdeep5_go (P : Nat → Prop) : ∀ (m : Nat) (x : Val), SizeOf.sizeOf x < m → vsize x ≤ 1000000000 → ∀ (w : World) (k : Int) (t : ByteArray) (n : Int) (a : Option Addr) (l c : Nat) (a' : Option Addr) (l' c' : Nat) (z : Int),
    ValC P w [.int .i64 k, .string t, .int .u64 n, .slice a l c, .slice a' l' c', .int .i64 z] x →
    Calls Tryz.prog 16 #[.agg #[.int .i64 k, .string t, .int .u64 n, .slice a l c, .slice a' l' c', .int .i64 z]] w fun e w' => e = .returned (.int .i64 (vdeep x)) ∧ Below w.heap.size w w' := by
  intro m
  induction m with
  | zero => intro x hx; exact absurd hx (Nat.not_lt_zero _)
  | succ m ih =>
    intro x hx hsz w k t n a l c a' l' c' z hv
    cases x with
    | mk k1 t1 n1 list keys z1 =>
      unfold ValC at hv
      obtain ⟨sl, sk', xs, e, hk, hl, hvs⟩ := hv
      simp only [List.cons.injEq, Value.int.injEq, Value.string.injEq, true_and, and_true] at e
      obtain ⟨rfl, rfl, rfl, rfl, rfl, rfl⟩ := e
      obtain ⟨_, _, es⟩ := hl.form
      simp only [Value.slice.injEq] at es
      obtain ⟨-, el, -⟩ := es
      subst el
      simp only [Val.mk.sizeOf_spec] at hx
      unfold vsize at hsz
      unfold vdeep
      by_cases h5 : k = 5
      · subst h5
        rw [if_pos (.inl rfl)] at hsz
        have := rdeep5_5 P m ih t n z list xs (by omega) hsz w a c a' l' c' hl hvs
        rw [if_pos (.inl rfl)]
        exact this
      by_cases h6 : k = 6
      · subst h6
        rw [if_pos (.inr rfl)] at hsz
        have := rdeep5_6 P m ih t n z list xs (by omega) hsz w a c a' l' c' hl hvs
        rw [if_pos (.inr rfl)]
        exact this
      rw [if_neg (by omega)]
      have hbw := Lib.hid (sbelow_new w (.cells #[.int .i64 k, .string t, .int .u64 n, .slice a list.length c, .slice a' l' c', .int .i64 z] 34))
      have h6' : SixR (w.alloc (.cells #[.int .i64 k, .string t, .int .u64 n, .slice a list.length c, .slice a' l' c', .int .i64 z] 34)) w.heap.size (.int .i64 k) (.string t) (.int .u64 n) (.slice a list.length c) (.slice a' l' c') (.int .i64 z) := heap_alloc_new w _
      obtain ⟨s0, -, -, s3, -, -⟩ := h6'.cells
      have e5 : (k == 5) = false := beq_eq_false_iff_ne.2 h5
      have e6 : (k == 6) = false := beq_eq_false_iff_ne.2 h6
      have n5 : (k != 5) = true := bne_iff_ne.2 h5
      have n6 : (k != 6) = true := bne_iff_ne.2 h6
      clear h6' hl hvs hk ih hx hsz
      go_enter Tryz.func16, Tryz.ntmps16
      go_wp2_with fail
      go_ret
      exact ⟨rfl, hbw.out⟩
end Go.Proofs.YtajmlkephefapaaGreatDoor

namespace Go.Proofs.YtajmlkephefapaaGreatDoor
open Go.RowKit Go.Extern.Stop Go.Stop Go.Extern Go.WideMaps

set_option maxRecDepth 100000 in
set_option maxHeartbeats 8000000 in
theorem clean5_go (P : Nat → Prop) : ∀ (m : Nat) (x : Val), SizeOf.sizeOf x < m → vsize x ≤ 1000000000 → fullV x → ∀ (w : World) (k : Int) (t : ByteArray) (n : Int) (a : Option Addr) (l c : Nat) (a' : Option Addr) (l' c' : Nat) (z : Int),
    ValC P w [.int .i64 k, .string t, .int .u64 n, .slice a l c, .slice a' l' c', .int .i64 z] x →
    Calls Tryz.prog 12 #[.agg #[.int .i64 k, .string t, .int .u64 n, .slice a l c, .slice a' l' c', .int .i64 z]] w fun e w' => e = .returned (.bool true) ∧ Below w.heap.size w w' := by
  intro m
  induction m with
  | zero => intro x hx; exact absurd hx (Nat.not_lt_zero _)
  | succ m ih =>
    intro x hx hsz hfu w k t n a l c a' l' c' z hv
    cases x with
    | mk k1 t1 n1 list keys z1 =>
      unfold ValC at hv
      obtain ⟨sl, sk', xs, e, hk, hl, hvs⟩ := hv
      simp only [List.cons.injEq, Value.int.injEq, Value.string.injEq, true_and, and_true] at e
      obtain ⟨rfl, rfl, rfl, rfl, rfl, rfl⟩ := e
      obtain ⟨_, _, es⟩ := hl.form
      simp only [Value.slice.injEq] at es
      obtain ⟨-, el, -⟩ := es
      subst el
      obtain ⟨_, _, es⟩ := hk.form
      simp only [Value.slice.injEq] at es
      obtain ⟨-, el, -⟩ := es
      subst el
      simp only [Val.mk.sizeOf_spec] at hx
      rw [fullV] at hfu
      obtain ⟨g1, g2, g3, g4, -, g6⟩ := hfu
      have IH := Lib.hid ih
      have HROW := Lib.hid hl
      have HVS := Lib.hid hvs
      have HX := Lib.hid hx
      have HFL := Lib.hid g6
      unfold vsize at hsz
      have hbw := sbelow_new w (.cells #[.int .i64 k, .string t, .int .u64 n, .slice a list.length c, .slice a' keys.length c', .int .i64 z] 34)
      have h6' : SixR (w.alloc (.cells #[.int .i64 k, .string t, .int .u64 n, .slice a list.length c, .slice a' keys.length c', .int .i64 z] 34)) w.heap.size (.int .i64 k) (.string t) (.int .u64 n) (.slice a list.length c) (.slice a' keys.length c') (.int .i64 z) := heap_alloc_new w _
      obtain ⟨s0, s1, s2, s3, s4, s5⟩ := h6'.cells
      have H1 := Lib.hid hbw
      clear ih hl hvs hk hx g6 h6' hbw
      by_cases h5 : k = 5
      · subst h5
        have HLL : Hid (lsize list ≤ 1000000000) := Lib.hid (by rw [if_pos (.inl rfl)] at hsz; omega)
        obtain rfl : t = ⟨#[]⟩ := by rcases g1 with h | h; exact absurd h (by decide); exact h
        obtain rfl : n = 0 := by rcases g2 with h | h; exact absurd h (by decide); exact h
        obtain rfl : keys = [] := by rcases g4 with h | h; exact absurd h (by decide); exact h
        clear g1 g2 g3 g4 hsz
        go_enter Tryz.func12, Tryz.ntmps12
        go_wp2_with fail
        generalize w.alloc (.cells #[.int .i64 5, .string ⟨#[]⟩, .int .u64 0, .slice a list.length c, .slice a' ([] : List ByteArray).length c', .int .i64 z] 34) = w1 at *
        go_loopg [48] list.length (fun g v wr => ∃ i : Nat, i ≤ list.length ∧ g = list.length - i ∧ v = .int .i64 i ∧ Below w.heap.size w wr)
        case atStart => exact ⟨0, Nat.zero_le _, rfl, rfl, H1.out⟩
        case round =>
          obtain ⟨i, hi, hgk, rfl, hbel⟩ := hrel
          by_cases hlt : i < list.length
          · obtain ⟨x, hx⟩ : ∃ x, list[i]? = some x := ⟨_, List.getElem?_eq_getElem hlt⟩
            have hli : (i : Int) < (list.length : Int) := by omega
            obtain ⟨b, o, k2, t2, n2, a2, l2, c2, a3, l3, c3, z2, rfl, hvx, hE⟩ := el_at HROW.out HVS.out hx hbel
            obtain ⟨-, f0, f1, f2, f3, f4, f5⟩ := hE
            have hsx : SizeOf.sizeOf x < m := by have := sizeOf_mem hx; have := HX.out; omega
            have hvsz : vsize x ≤ 1000000000 := by have h1 := lsize_take hx; have h2 := lsize_le (l := list) (i + 1); have h3 := HLL.out; omega
            have bn := sbelow_new wr (.cells #[.int .i64 k2, .string t2, .int .u64 n2, .slice a2 l2 c2, .slice a3 l3 c3, .int .i64 z2] 34)
            have HC := Lib.hid (IH.out x hsx hvsz (fullL_at HFL.out hx) _ _ _ _ _ _ _ _ _ _ _ (hvx.step (hbel.trans (bn.mono hbel.size))))
            have HBN := Lib.hid (hbel.trans (bn.mono hbel.size))
            have hib : (i : Int) ≤ 1000000000 := by have h1 := HLL.out; have h2 := length_le_lsize list; omega
            clear hx hvx hsx hvsz bn
            go_wp2_with fail
            refine HC.out.mono ?_
            rintro e w4 ⟨rfl, b4⟩
            go_wp2_with fail
            go_roundg (list.length - (i + 1))
            case measure => omega
            case rel => exact ⟨i + 1, by omega, rfl, rfl, HBN.out.trans (b4.mono HBN.out.size)⟩
          · obtain rfl : i = list.length := by omega
            go_wp2_with fail
            go_ret
            exact ⟨rfl, hbel⟩
      by_cases h6 : k = 6
      · subst h6
        have HLL : Hid (lsize list ≤ 1000000000) := Lib.hid (by rw [if_pos (.inr rfl)] at hsz; omega)
        obtain rfl : t = ⟨#[]⟩ := by rcases g1 with h | h; exact absurd h (by decide); exact h
        obtain rfl : n = 0 := by rcases g2 with h | h; exact absurd h (by decide); exact h
        clear g1 g2 g3 g4 hsz h5
        go_enter Tryz.func12, Tryz.ntmps12
        go_wp2_with fail
        generalize w.alloc (.cells #[.int .i64 6, .string ⟨#[]⟩, .int .u64 0, .slice a list.length c, .slice a' keys.length c', .int .i64 z] 34) = w1 at *
        go_loopg [48] list.length (fun g v wr => ∃ i : Nat, i ≤ list.length ∧ g = list.length - i ∧ v = .int .i64 i ∧ Below w.heap.size w wr)
        case atStart => exact ⟨0, Nat.zero_le _, rfl, rfl, H1.out⟩
        case round =>
          obtain ⟨i, hi, hgk, rfl, hbel⟩ := hrel
          by_cases hlt : i < list.length
          · obtain ⟨x, hx⟩ : ∃ x, list[i]? = some x := ⟨_, List.getElem?_eq_getElem hlt⟩
            have hli : (i : Int) < (list.length : Int) := by omega
            obtain ⟨b, o, k2, t2, n2, a2, l2, c2, a3, l3, c3, z2, rfl, hvx, hE⟩ := el_at HROW.out HVS.out hx hbel
            obtain ⟨-, f0, f1, f2, f3, f4, f5⟩ := hE
            have hsx : SizeOf.sizeOf x < m := by have := sizeOf_mem hx; have := HX.out; omega
            have hvsz : vsize x ≤ 1000000000 := by have h1 := lsize_take hx; have h2 := lsize_le (l := list) (i + 1); have h3 := HLL.out; omega
            have bn := sbelow_new wr (.cells #[.int .i64 k2, .string t2, .int .u64 n2, .slice a2 l2 c2, .slice a3 l3 c3, .int .i64 z2] 34)
            have HC := Lib.hid (IH.out x hsx hvsz (fullL_at HFL.out hx) _ _ _ _ _ _ _ _ _ _ _ (hvx.step (hbel.trans (bn.mono hbel.size))))
            have HBN := Lib.hid (hbel.trans (bn.mono hbel.size))
            have hib : (i : Int) ≤ 1000000000 := by have h1 := HLL.out; have h2 := length_le_lsize list; omega
            clear hx hvx hsx hvsz bn
            go_wp2_with fail
            refine HC.out.mono ?_
            rintro e w4 ⟨rfl, b4⟩
            go_wp2_with fail
            go_roundg (list.length - (i + 1))
            case measure => omega
            case rel => exact ⟨i + 1, by omega, rfl, rfl, HBN.out.trans (b4.mono HBN.out.size)⟩
          · obtain rfl : i = list.length := by omega
            go_wp2_with fail
            go_ret
            exact ⟨rfl, hbel⟩
      obtain rfl : list = [] := by rcases g3 with h | h | h; exact absurd h h5; exact absurd h h6; exact h
      obtain rfl : keys = [] := by rcases g4 with h | h; exact absurd h h6; exact h
      have n6 : (k != 6) = true := bne_iff_ne.2 h6
      clear g3 g4 h5 h6 IH HFL HX hsz HROW HVS
      by_cases hk5 : k < 5
      · by_cases h3 : k = 3
        · subst h3
          obtain rfl : t = ⟨#[]⟩ := by rcases g1 with h | h; exact absurd h (by decide); exact h
          clear g1 g2
          go_enter Tryz.func12, Tryz.ntmps12
          go_wp2_with fail
          go_loopg [48] 0 (fun g v wr => v = .int .i64 0 ∧ Below w.heap.size w wr)
          case atStart => exact ⟨rfl, H1.out⟩
          case round =>
            obtain ⟨rfl, hbel⟩ := hrel
            go_wp2_with fail
            go_ret
            exact ⟨rfl, hbel⟩
        have n3 : (k != 3) = true := bne_iff_ne.2 h3
        obtain rfl : n = 0 := by rcases g2 with h | h; exact absurd h h3; exact h
        by_cases h4 : k = 4
        · subst h4
          clear g1 g2 h3
          go_enter Tryz.func12, Tryz.ntmps12
          go_wp2_with fail
          go_loopg [48] 0 (fun g v wr => v = .int .i64 0 ∧ Below w.heap.size w wr)
          case atStart => exact ⟨rfl, H1.out⟩
          case round =>
            obtain ⟨rfl, hbel⟩ := hrel
            go_wp2_with fail
            go_ret
            exact ⟨rfl, hbel⟩
        have n4 : (k != 4) = true := bne_iff_ne.2 h4
        obtain rfl : t = ⟨#[]⟩ := by rcases g1 with h | h; exact absurd h h4; exact h
        clear g1 g2 h3 h4
        go_enter Tryz.func12, Tryz.ntmps12
        go_wp2_with fail
        go_loopg [48] 0 (fun g v wr => v = .int .i64 0 ∧ Below w.heap.size w wr)
        case atStart => exact ⟨rfl, H1.out⟩
        case round =>
          obtain ⟨rfl, hbel⟩ := hrel
          go_wp2_with fail
          go_ret
          exact ⟨rfl, hbel⟩
      · have h3 : k ≠ 3 := by omega
        have h4 : k ≠ 4 := by omega
        have n3 : (k != 3) = true := bne_iff_ne.2 h3
        have n4 : (k != 4) = true := bne_iff_ne.2 h4
        obtain rfl : n = 0 := by rcases g2 with h | h; exact absurd h h3; exact h
        obtain rfl : t = ⟨#[]⟩ := by rcases g1 with h | h; exact absurd h h4; exact h
        clear g1 g2 h3 h4
        go_enter Tryz.func12, Tryz.ntmps12
        go_wp2_with fail
        go_loopg [48] 0 (fun g v wr => v = .int .i64 0 ∧ Below w.heap.size w wr)
        case atStart => exact ⟨rfl, H1.out⟩
        case round =>
          obtain ⟨rfl, hbel⟩ := hrel
          go_wp2_with fail
          go_ret
          exact ⟨rfl, hbel⟩
end Go.Proofs.YtajmlkephefapaaGreatDoor

namespace Go.Proofs.YtajmlkephefapaaGreatDoor
open Go.RowKit Go.Extern.Stop Go.Stop Go.Extern Go.WideMaps

theorem index_strs (v : Value) (rs : List ByteArray) (x : ByteArray) (w : World) (h : StrsAt w v rs) (hl : rs.length ≤ 1000000) :
    Calls Tryz.prog 39 #[v, .string x] w fun e w' => e = .returned (.int .i64 (Lib.idxOfS rs x)) ∧ w' = w := by
  rcases h with ⟨a, cap, rfl, rfl⟩ | ⟨b, off, cap, rfl, hlt, hc⟩
  · exact Tryz.slices_Index_string_empty a cap x w
  · have := Tryz.slices_Index_string b off rs.length cap rs x w (Nat.le_refl _) (by omega) hc
    rwa [List.take_length] at this
theorem strs_of_row {P : Nat → Prop} {w : World} {a : Option Addr} {c n : Nat} {ks : List ByteArray} (h : RowIn P w (.slice a n c) ks.length (ks.map Value.string)) : StrsAt w (.slice a n c) ks := by
  rcases h with ⟨h0, h1, a', c', e⟩ | ⟨b, o, c', e, -, hlt, hc⟩
  · injection e with e1 e2 e3
    subst e1 e2 e3
    exact .inl ⟨_, _, rfl, List.eq_nil_of_length_eq_zero h0⟩
  · injection e with e1 e2 e3
    subst e1 e2 e3
    refine .inr ⟨b, o, _, rfl, hlt, fun i hi => ?_⟩
    exact hc i _ (by rw [List.getElem?_map, List.getElem?_eq_getElem hi, List.getD_eq_getElem?_getD, List.getElem?_eq_getElem hi]; rfl)
/-- An object in memory. -/
structure ObjAt (P : Nat → Prop) (w : World) (a : Option Addr) (c : Nat) (a' : Option Addr) (c' : Nat) (list : List Val) (keys : List ByteArray) : Prop where
  list : ∃ xs, RowIn P w (.slice a list.length c) list.length xs ∧ ValsC P w xs list
  keys : RowIn P w (.slice a' keys.length c') keys.length (keys.map Value.string)
theorem ObjAt.step {P : Nat → Prop} {w w' : World} {a : Option Addr} {c : Nat} {a' : Option Addr} {c' : Nat} {list : List Val} {keys : List ByteArray} (h : ObjAt P w a c a' c' list keys) (hb : Below w.heap.size w w') : ObjAt P w' a c a' c' list keys := by
  obtain ⟨⟨xs, h1, h2⟩, h3⟩ := h
  exact ⟨⟨xs, h1.move hb.size fun q hq hlt => ⟨hq, hb.block q hlt⟩, h2.move hb.size fun q hq hlt => ⟨hq, hb.block q hlt⟩⟩, h3.move hb.size fun q hq hlt => ⟨hq, hb.block q hlt⟩⟩
/-- What Get answers. -/
def GetOut (x : Val) (w : World) (e : Ending) (w' : World) : Prop :=
  ∃ (k : Int) (t : ByteArray) (u : Int) (a : Option Addr) (l c : Nat) (a' : Option Addr) (l' c' : Nat) (z : Int), e = .returned (.tuple #[tvV k t u (.slice a l c) (.slice a' l' c') z, .bool true]) ∧
    ValC (fun q => w.heap.size ≤ q) w' [.int .i64 k, .string t, .int .u64 u, .slice a l c, .slice a' l' c', .int .i64 z] x ∧ Below w.heap.size w w'
set_option maxRecDepth 100000 in
set_option maxHeartbeats 8000000 in
theorem get_ok {P : Nat → Prop} (key : ByteArray) (t : ByteArray) (n z : Int) (a : Option Addr) (c : Nat) (a' : Option Addr) (c' : Nat) (list : List Val) (keys : List ByteArray) (i : Nat) (x : Val) (w : World) (ho : ObjAt P w a c a' c' list keys)
    (hi : list[i]? = some x) (hk : Lib.idxOfS keys key = (i : Int)) (hkl : keys.length ≤ 1000000) (hx : fullV x) (hsz : vsize x ≤ 1000000000) (_hll : list.length ≤ 1000000) :
    Calls Tryz.prog 17 #[tvV 6 t n (.slice a list.length c) (.slice a' keys.length c') z, .string key] w (GetOut x w) := by
  have hb1 := sbelow_new w (.cells #[.int .i64 6, .string t, .int .u64 n, .slice a list.length c, .slice a' keys.length c', .int .i64 z] 27)
  have hS1 := six_new w (.int .i64 6) (.string t) (.int .u64 n) (.slice a list.length c) (.slice a' keys.length c') (.int .i64 z)
  have z1 : (w.alloc (.cells #[.int .i64 6, .string t, .int .u64 n, .slice a list.length c, .slice a' keys.length c', .int .i64 z] 27)).heap.size = w.heap.size + 1 := World.size_alloc _ _
  generalize hw1 : w.alloc (.cells #[.int .i64 6, .string t, .int .u64 n, .slice a list.length c, .slice a' keys.length c', .int .i64 z] 27) = w1 at *
  have hb2 := sbelow_new w1 (.cells #[.int .i64 0, .string ⟨#[]⟩, .int .u64 0, .slice none 0 0, .slice none 0 0, .int .i64 0] 27)
  have hR2 := six_new w1 (.int .i64 0) (.string ⟨#[]⟩) (.int .u64 0) (.slice none 0 0) (.slice none 0 0) (.int .i64 0)
  rw [z1] at hR2
  have hS2 := hS1.stepN hb2
  have hB2 := hb1.trans (hb2.mono hb1.size)
  obtain ⟨s0, s1, s2, s3, s4, s5⟩ := hS2.cells
  have HS2 := Lib.hid hS2
  have HR2 := Lib.hid hR2
  have HB2 := Lib.hid hB2
  have HO2 := Lib.hid (ho.step hB2)
  have HIx := Lib.hid (index_strs _ keys key _ (strs_of_row HO2.out.keys) hkl)
  rw [hk] at HIx
  have hil := (List.getElem?_eq_some_iff.1 hi).1
  have hil2 : (i : Int) < (list.length : Int) := by omega
  have hil3 : ¬ (list.length : Int) ≤ (i : Int) := by omega
  have hi0 : ¬ (i : Int) < 0 := by omega
  have HI := Lib.hid hi
  have HX := Lib.hid (And.intro hx hsz)
  clear hS1 hS2 hR2 hb1 hb2 hB2 ho hi hk hx hsz
  go_enter Tryz.func17, Tryz.ntmps17
  go_wp2_with fail
  clear hw1
  generalize w1.alloc (.cells #[.int .i64 0, .string ⟨#[]⟩, .int .u64 0, .slice none 0 0, .slice none 0 0, .int .i64 0] 27) = w2 at *
  refine HIx.out.mono ?_
  rintro e w3 ⟨rfl, rfl⟩
  obtain ⟨xs, hrow, hvs⟩ := HO2.out.list
  obtain ⟨b, o, k6, t6, n6, a6, l6, c6, a7, l7, c7, z6, rfl, hvx, hE⟩ := el_at2 hrow hvs HI.out (Below.refl _ _)
  obtain ⟨-, g0, g1, g2, g3, g4, g5⟩ := hE
  have HC := Lib.hid (copy_go _ _ x (Nat.lt_succ_self _) HX.out.2 HX.out.1 w3 _ _ _ _ _ _ _ _ _ _ hvx)
  clear hrow hvs hvx
  go_wp2_with fail
  refine HC.out.mono ?_
  rintro e w4 ⟨ra, rl, rc, ra', rl', rc', rfl, hv4, b4⟩
  have hR4 := HR2.out.stepN b4
  obtain ⟨r0, r1, r2, r3, r4, r5⟩ := hR4.cells
  have rf := hR4.fz
  have rf0 := rf 0
  have rf1 := rf 1
  have rf2 := rf 2
  have rf3 := rf 3
  have rf4 := rf 4
  have rf5 := rf 5
  have hB4 := HB2.out.trans (b4.mono HB2.out.size)
  obtain ⟨q0, q1, q2, q3, q4, q5⟩ := (hR4.set6 (.int .i64 k6) (.string t6) (.int .u64 n6) (.slice ra rl rc) (.slice ra' rl' rc') (.int .i64 z6)).cells
  have hk6 : Keeps (· = w.heap.size + 1) w4 (set6 w4 (w.heap.size + 1) 0 (.int .i64 k6) (.string t6) (.int .u64 n6) (.slice ra rl rc) (.slice ra' rl' rc') (.int .i64 z6)) := keeps_sixC w4 (w.heap.size + 1) 0 _ _ _ _ _ _
  have hlt3 : w.heap.size + 1 < w3.heap.size := HR2.out.lt
  have hend : GetOut x w (.returned (.tuple #[tvV k6 t6 n6 (.slice ra rl rc) (.slice ra' rl' rc') z6, .bool true])) (set6 w4 (w.heap.size + 1) 0 (.int .i64 k6) (.string t6) (.int .u64 n6) (.slice ra rl rc) (.slice ra' rl' rc') (.int .i64 z6)) :=
    ⟨_, _, _, _, _, _, _, _, _, _, rfl, hv4.move hk6.size (fun q hq hlt => ⟨by omega, hk6.block q hlt (by omega)⟩), hB4.trans (hk6.below hB4.size (fun q e => by rw [e]; omega))⟩
  have HEND := Lib.hid hend
  clear hend hk6 hlt3 hB4 hR4 hv4 b4 rf
  go_wp2_with fail
  unfold set6 at q0 q1 q2 q3 q4 q5 HEND
  exact bodyPost_ret (v := .tuple #[tvV k6 t6 n6 (.slice ra rl rc) (.slice ra' rl' rc') z6, .bool true]) (by simp [results, Tryz.results17, go_sem, q0, q1, q2, q3, q4, q5]) rfl HEND.out
set_option maxRecDepth 100000 in
set_option maxHeartbeats 8000000 in
theorem get_no {P : Nat → Prop} (key : ByteArray) (k : Int) (t : ByteArray) (n z : Int) (a : Option Addr) (l c : Nat) (a' : Option Addr) (c' : Nat) (keys : List ByteArray) (w : World) (hr : RowIn P w (.slice a' keys.length c') keys.length (keys.map Value.string))
    (hk : Lib.idxOfS keys key = -1) (hkl : keys.length ≤ 1000000) :
    Calls Tryz.prog 17 #[tvV k t n (.slice a l c) (.slice a' keys.length c') z, .string key] w fun e w' => e = .returned (.tuple #[tvV 0 ⟨#[]⟩ 0 (.slice none 0 0) (.slice none 0 0) 0, .bool false]) ∧ Below w.heap.size w w' := by
  have hb1 := sbelow_new w (.cells #[.int .i64 k, .string t, .int .u64 n, .slice a l c, .slice a' keys.length c', .int .i64 z] 27)
  have hS1 := six_new w (.int .i64 k) (.string t) (.int .u64 n) (.slice a l c) (.slice a' keys.length c') (.int .i64 z)
  have z1 : (w.alloc (.cells #[.int .i64 k, .string t, .int .u64 n, .slice a l c, .slice a' keys.length c', .int .i64 z] 27)).heap.size = w.heap.size + 1 := World.size_alloc _ _
  generalize hw1 : w.alloc (.cells #[.int .i64 k, .string t, .int .u64 n, .slice a l c, .slice a' keys.length c', .int .i64 z] 27) = w1 at *
  have hb2 := sbelow_new w1 (.cells #[.int .i64 0, .string ⟨#[]⟩, .int .u64 0, .slice none 0 0, .slice none 0 0, .int .i64 0] 27)
  have hR2 := six_new w1 (.int .i64 0) (.string ⟨#[]⟩) (.int .u64 0) (.slice none 0 0) (.slice none 0 0) (.int .i64 0)
  rw [z1] at hR2
  have hS2 := hS1.stepN hb2
  have hB2 := hb1.trans (hb2.mono hb1.size)
  obtain ⟨s0, s1, s2, s3, s4, s5⟩ := hS2.cells
  have HR2 := Lib.hid hR2
  have HB2 := Lib.hid hB2
  have HIx := Lib.hid (index_strs _ keys key (w1.alloc (.cells #[.int .i64 0, .string ⟨#[]⟩, .int .u64 0, .slice none 0 0, .slice none 0 0, .int .i64 0] 27)) (strs_of_row (hr.move hB2.size fun q hq hlt => ⟨hq, hB2.block q hlt⟩)) hkl)
  rw [hk] at HIx
  clear hS1 hS2 hR2 hb1 hb2 hB2 hr hk
  go_enter Tryz.func17, Tryz.ntmps17
  go_upto_region 1 with (fail)
  clear hw1
  generalize w1.alloc (.cells #[.int .i64 0, .string ⟨#[]⟩, .int .u64 0, .slice none 0 0, .slice none 0 0, .int .i64 0] 27) = w2 at *
  go_wp2_with fail
  refine HIx.out.mono ?_
  rintro e w3 ⟨rfl, rfl⟩
  obtain ⟨r0, r1, r2, r3, r4, r5⟩ := HR2.out.cells
  have rf := HR2.out.fz
  have rf0 := rf 0
  have rf1 := rf 1
  have rf2 := rf 2
  have rf3 := rf 3
  have rf4 := rf 4
  have rf5 := rf 5
  have hk6 : Keeps (· = w.heap.size + 1) w3 (set6 w3 (w.heap.size + 1) 0 (.int .i64 0) (.string ⟨#[]⟩) (.int .u64 0) (.slice none 0 0) (.slice none 0 0) (.int .i64 0)) := keeps_sixC w3 (w.heap.size + 1) 0 _ _ _ _ _ _
  obtain ⟨q0, q1, q2, q3, q4, q5⟩ := (HR2.out.set6 (.int .i64 0) (.string ⟨#[]⟩) (.int .u64 0) (.slice none 0 0) (.slice none 0 0) (.int .i64 0)).cells
  have HEND := Lib.hid (HB2.out.trans (hk6.below HB2.out.size (fun q e => by rw [e]; omega)))
  clear hk6 rf
  unfold set6 at q0 q1 q2 q3 q4 q5 HEND
  by_cases h6 : k = 6
  · subst h6
    go_wp2_with fail
    exact bodyPost_ret (v := .tuple #[tvV 0 ⟨#[]⟩ 0 (.slice none 0 0) (.slice none 0 0) 0, .bool false]) (by simp [results, Tryz.results17, go_sem, q0, q1, q2, q3, q4, q5]) rfl ⟨rfl, HEND.out⟩
  · have n6 : (k != 6) = true := bne_iff_ne.2 h6
    clear h6
    go_wp2_with fail
    exact bodyPost_ret (v := .tuple #[tvV 0 ⟨#[]⟩ 0 (.slice none 0 0) (.slice none 0 0) 0, .bool false]) (by simp [results, Tryz.results17, go_sem, q0, q1, q2, q3, q4, q5]) rfl ⟨rfl, HEND.out⟩
/-- Where a key stands first, or that it doesn't. -/
theorem key_first (keys : List ByteArray) (key : ByteArray) : (Lib.idxOfS keys key = -1 ∧ ∀ i : Nat, i < keys.length → keys[i]? ≠ some key) ∨ ∃ i : Nat, Lib.idxOfS keys key = (i : Int) ∧ i < keys.length ∧ keys[i]? = some key ∧ ∀ j : Nat, j < i → keys[j]? ≠ some key := by
  have hgd : ∀ (i : Nat) (h : i < keys.length), keys.getD i ByteArray.empty = keys[i] := fun i h => by rw [List.getD_eq_getElem?_getD, List.getElem?_eq_getElem h]; rfl
  by_cases hex : ∃ i : Nat, i < keys.length ∧ keys[i]? = some key
  · right
    obtain ⟨i, hi⟩ := hex
    have key2 : ∀ n : Nat, ∀ i : Nat, i ≤ n → i < keys.length → keys[i]? = some key → ∃ i : Nat, i < keys.length ∧ keys[i]? = some key ∧ ∀ j : Nat, j < i → keys[j]? ≠ some key := by
      intro n
      induction n with
      | zero => intro i h0 hl he; exact ⟨i, hl, he, fun j hj => by omega⟩
      | succ n ih =>
        intro i h0 hl he
        by_cases hm : ∃ j : Nat, j < i ∧ keys[j]? = some key
        · obtain ⟨j, hj, hje⟩ := hm
          exact ih j (by omega) (by omega) hje
        · exact ⟨i, hl, he, fun j hj e => hm ⟨j, hj, e⟩⟩
    obtain ⟨i, hl, he, hno⟩ := key2 i i (Nat.le_refl _) hi.1 hi.2
    refine ⟨i, ?_, hl, he, hno⟩
    have := Lib.idxOfS_hit keys keys.length i key hl (Nat.le_refl _) (by rw [hgd i hl]; rw [List.getElem?_eq_getElem hl] at he; injection he) (fun j hj e => hno j hj (by rw [List.getElem?_eq_getElem (by omega), ← hgd j (by omega), e]))
    rwa [List.take_length] at this
  · left
    have hno : ∀ i : Nat, i < keys.length → keys[i]? ≠ some key := fun i hi e => hex ⟨i, hi, e⟩
    refine ⟨?_, hno⟩
    have := Lib.idxOfS_miss keys keys.length key (fun j hj e => hno j hj (by rw [List.getElem?_eq_getElem hj, ← hgd j hj, e]))
    rwa [List.take_length] at this
end Go.Proofs.YtajmlkephefapaaGreatDoor
