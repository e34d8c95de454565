/-
  Package bits by contracts, third part: Of and Upto.
-/
import Derived.Test.YtjlbdjagbbpoaaaDoorBitC
namespace Go.Proofs.YtjlbdjagbbpoaaaDoor
open Go.RowKit Go.Extern.Stop Go.Stop Go.Extern

/-- The two words of the set of some. -/
def ofS (l : List Int) : Nat × Nat := l.foldl (fun s i => (s.1 ||| (oneW i).1, s.2 ||| (oneW i).2)) (0, 0)
theorem ofS_snoc (l : List Int) (i : Int) : ofS (l ++ [i]) = ((ofS l).1 ||| (oneW i).1, (ofS l).2 ||| (oneW i).2) := by unfold ofS; rw [List.foldl_append]; rfl
theorem ofS_take {l : List Int} {k : Nat} {i : Int} (h : l[k]? = some i) : ofS (l.take (k + 1)) = ((ofS (l.take k)).1 ||| (oneW i).1, (ofS (l.take k)).2 ||| (oneW i).2) := by
  rw [List.take_add_one, h, Option.toList_some, ofS_snoc]
theorem fold_u64 : ∀ (l : List Int) (s : Nat × Nat), U64 s.1 → U64 s.2 → U64 (l.foldl (fun s i => (s.1 ||| (oneW i).1, s.2 ||| (oneW i).2)) s).1 ∧ U64 (l.foldl (fun s i => (s.1 ||| (oneW i).1, s.2 ||| (oneW i).2)) s).2
  | [], _, h1, h2 => ⟨h1, h2⟩
  | i :: l, _, h1, h2 => fold_u64 l _ (h1.or (oneW_u64 i).1) (h2.or (oneW_u64 i).2)
theorem ofS_u64 (l : List Int) : U64 (ofS l).1 ∧ U64 (ofS l).2 := fold_u64 l (0, 0) zero_u64 zero_u64
theorem fold_has : ∀ (l : List Int) (s : Nat × Nat) (j : Nat), hasB (l.foldl (fun s i => (s.1 ||| (oneW i).1, s.2 ||| (oneW i).2)) s).1 (l.foldl (fun s i => (s.1 ||| (oneW i).1, s.2 ||| (oneW i).2)) s).2 j = (hasB s.1 s.2 j || (decide (j < 128) && l.any fun i => decide ((j : Int) = i)))
  | [], s, j => by simp
  | i :: l, s, j => by
    rw [List.foldl_cons, fold_has l _ j, hasB_or, hasB_one, List.any_cons]
    cases hasB s.1 s.2 j <;> cases decide ((j : Int) = i) <;> cases decide (j < 128) <;> simp
theorem hasB_ofS (l : List Int) (j : Nat) : hasB (ofS l).1 (ofS l).2 j = (decide (j < 128) && l.any fun i => decide ((j : Int) = i)) := by
  unfold ofS
  rw [fold_has]
  unfold hasB
  simp

/-- A slice of numbers. -/
def IntsAt (w : World) (v : Value) (l : List Int) : Prop :=
  (∃ a cap, v = .slice a 0 cap ∧ l = []) ∨ ∃ b off cap, v = .slice (some ⟨b, off, none⟩) l.length cap ∧ b < w.heap.size ∧ ∀ i c, l[i]? = some c → w.cell? ⟨b, off + i, none⟩ = some (.int .i64 c)
theorem IntsAt.form {w : World} {v : Value} {l : List Int} (h : IntsAt w v l) : ∃ a cap, v = .slice a l.length cap := by
  rcases h with ⟨a, cap, rfl, rfl⟩ | ⟨b, off, cap, rfl, -⟩
  · exact ⟨a, cap, rfl⟩
  · exact ⟨_, cap, rfl⟩
theorem IntsAt.at {w w' : World} {a : Option Addr} {n cap : Nat} {l : List Int} (h : IntsAt w (.slice a n cap) l) {i : Nat} {c : Int} (hi : l[i]? = some c) (hb : Below w.heap.size w w') :
    ∃ b off, a = some ⟨b, off, none⟩ ∧ w'.cell? ⟨b, off + i, none⟩ = some (.int .i64 c) := by
  rcases h with ⟨a, cap, -, rfl⟩ | ⟨b, off, cap, e, hlt, hc⟩
  · simp at hi
  · injection e with e
    exact ⟨b, off, e, (hb.cell (p := ⟨b, off + i, none⟩) hlt).trans (hc i c hi)⟩
theorem IntsAt.step {w w' : World} {v : Value} {l : List Int} (h : IntsAt w v l) (hb : Below w.heap.size w w') : IntsAt w' v l := by
  rcases h with h | ⟨b, off, cap, e, hlt, hc⟩
  · exact .inl h
  · exact .inr ⟨b, off, cap, e, Nat.lt_of_lt_of_le hlt hb.size, fun i c hi => (hb.cell (p := ⟨b, off + i, none⟩) hlt).trans (hc i c hi)⟩

theorem SetAt.put {w : World} {b x y : Nat} (h : SetAt w b x y) (c d : Nat) : SetAt ((w.setCell ⟨b, 0, none⟩ (.int .u64 (c : Int))).setCell ⟨b, 1, none⟩ (.int .u64 (d : Int))) b c d :=
  heap_setCell_same _ b 1 _ _ _ (heap_setCell_same w b 0 _ _ _ h)
theorem SetAt.far {w : World} {b x y : Nat} (h : SetAt w b x y) {q : Nat} (hq : b ≠ q) (i : Nat) (u : Value) : SetAt (w.setCell ⟨q, i, none⟩ u) b x y := (heap_setCell_other _ _ _ _ hq).trans h

/-- On the way through a loop that lets in number by number. -/
def OfR (w : World) (l : List Int) (g : Nat) (v : Value) (wr : World) : Prop :=
  ∃ i : Nat, i ≤ l.length ∧ g = l.length - i ∧ v = .int .i64 i ∧ SetAt wr (w.heap.size + 1) (ofS (l.take i)).1 (ofS (l.take i)).2 ∧ SetAt wr w.heap.size 0 0 ∧ Below w.heap.size w wr

set_option maxRecDepth 100000 in
set_option maxHeartbeats 4000000 in
theorem of_any (l : List Int) (v : Value) (w : World) (hv : IntsAt w v l) (hl : l.length ≤ 1000000) :
    Calls Tryd.prog 41 #[v] w fun e w' => e = .returned (setV (ofS l).1 (ofS l).2) ∧ Below w.heap.size w w' := by
  obtain ⟨a, cap, rfl⟩ := hv.form
  have HV := Lib.hid hv
  have HS := SW.start w 0 0
  have H0 : Hid (OfR w l l.length (.int .i64 0) ((w.alloc (.cells #[.int .u64 0, .int .u64 0] 34)).alloc (.cells #[.int .u64 0, .int .u64 0] 34))) :=
    Lib.hid ⟨0, Nat.zero_le _, by omega, rfl, HS.res, HS.set, HS.below⟩
  clear hv HS
  go_enter Tryd.func41, Tryd.ntmps41
  go_wp2_with fail
  generalize (w.alloc (.cells #[.int .u64 0, .int .u64 0] 34)).alloc (.cells #[.int .u64 0, .int .u64 0] 34) = w1 at *
  go_loopg [8] l.length (fun g u wr => OfR w l g u wr)
  case atStart => exact H0.out
  case round =>
    obtain ⟨i, hi, hgi, rfl, hs, hr, hb⟩ := hrel
    by_cases hlt : i < l.length
    · obtain ⟨x, hx⟩ : ∃ x, l[i]? = some x := ⟨_, List.getElem?_eq_getElem hlt⟩
      obtain ⟨b, off, rfl, hcell⟩ := HV.out.at hx hb
      obtain ⟨u1, u2⟩ := ofS_u64 (l.take i)
      have HW := Lib.hid (with_any _ _ x u1 u2 wr)
      have e := ofS_take hx
      have e1 : (ofS (l.take i)).1 ||| (oneW x).1 = (ofS (l.take (i + 1))).1 := by rw [e]
      have e2 : (ofS (l.take i)).2 ||| (oneW x).2 = (ofS (l.take (i + 1))).2 := by rw [e]
      rw [e1, e2] at HW
      clear e e1 e2 u1 u2 hx
      generalize (ofS (l.take i)).1 = p at *
      generalize (ofS (l.take i)).2 = q at *
      generalize hp' : (ofS (l.take (i + 1))).1 = p' at *
      generalize hq' : (ofS (l.take (i + 1))).2 = q' at *
      have HP := Lib.hid hp'
      have HQ := Lib.hid hq'
      have HB := Lib.hid hb
      have HR := Lib.hid hr
      have HS := Lib.hid hs
      obtain ⟨k0, k1, kf⟩ := hs.cells
      clear hp' hq' hb hr hs kf
      go_wp2_with fail
      refine HW.out.mono ?_
      rintro e w3 ⟨rfl, b3⟩
      have hs3 := HS.out.step b3
      obtain ⟨k0, k1, kf⟩ := hs3.cells
      have k2 := kf 0
      have k3 := kf 1
      have H3 : Hid (OfR w l (l.length - (i + 1)) (.int .i64 ((i : Int) + 1)) ((w3.setCell ⟨w.heap.size + 1, 0, none⟩ (.int .u64 (p' : Int))).setCell ⟨w.heap.size + 1, 1, none⟩ (.int .u64 (q' : Int)))) := Lib.hid
        ⟨i + 1, by omega, rfl, by go_num, by rw [HP.out, HQ.out]; exact hs3.put _ _, ((HR.out.step b3).far (by omega) _ _).far (by omega) _ _,
          ((HB.out.trans (b3.mono HB.out.size)).setCell (p := ⟨w.heap.size + 1, 0, none⟩) (Nat.le_succ _) _).setCell (p := ⟨w.heap.size + 1, 1, none⟩) (Nat.le_succ _) _⟩
      clear b3 hs3 kf HW
      go_wp2_with fail
      go_roundg (l.length - (i + 1))
      case measure => omega
      case rel => exact H3.out
    · obtain rfl : i = l.length := by omega
      rw [List.take_length] at hs
      obtain ⟨k0, k1, -⟩ := hs.cells
      obtain ⟨r0, r1, rf⟩ := hr.cells
      have r2 := rf 0
      have r3 := rf 1
      have HB := Lib.hid hb
      clear hs hr rf hb hlt hi
      generalize hp : (ofS l).1 = p at *
      generalize hq : (ofS l).2 = q at *
      have HP := Lib.hid hp
      have HQ := Lib.hid hq
      clear hp hq
      go_wp2_with fail
      refine bodyPost_ret (v := setV p q) (by simp [results, Tryd.f41, go_sem, r0, r1]) rfl ⟨by rw [HP.out, HQ.out], ?_⟩
      exact (HB.out.setCell (p := ⟨w.heap.size, 0, none⟩) (Nat.le_refl _) _).setCell (p := ⟨w.heap.size, 1, none⟩) (Nat.le_refl _) _

/-- The numbers from 0 on. -/
def firstN (k : Nat) : List Int := (List.range k).map Int.ofNat
theorem firstN_succ (k : Nat) : firstN (k + 1) = firstN k ++ [(k : Int)] := by unfold firstN; rw [List.range_succ, List.map_append]; rfl
end Go.Proofs.YtjlbdjagbbpoaaaDoor
