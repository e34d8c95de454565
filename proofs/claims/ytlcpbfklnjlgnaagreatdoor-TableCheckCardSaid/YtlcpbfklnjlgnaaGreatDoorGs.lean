/-
  OpsDo's body, by contract.
  OpsKeep's body, by contract.
  append of a row of ops, slices.Grow of nil and slices.Concat of two rows of ops, by contracts.
  OpsParts's body, by contract.
  The document's own Check, first part: headers over one label of each kind more; the document's 'front', by contract.
  The document's own Check, second part: its 'front', by contract. (Written by genfront.py.)
  The document's own Check, by contract; OpsCheck's body.
-/
import Derived.Test.YtlcpbfklnjlgnaaGreatDoorGj
import Derived.Test.YtlcpbfklnjlgnaaGreatDoorGi
import Derived.Lib.AppendZerosOnto
import Derived.Laws.OwnMore
import Derived.Laws.AppendOwnNone
namespace Go.Proofs.YtlcpbfklnjlgnaaGreatDoor
open Go.RowKit Go.Extern.Stop Go.Stop Go.Extern

/-- What a law's body keeps. -/
structure OS (w : World) (ks h : List Int) (c : List (Int × Int)) (vk v vc : Value) (W : World) : Prop where
  kw : KW w ks vk W
  row : IntsAt W v h
  ops : OpsAt W vc c
theorem OS.step {w : World} {ks h : List Int} {c : List (Int × Int)} {vk v vc : Value} {W W' : World} (s : OS w ks h c vk v vc W) (hb : Below W.heap.size W W') : OS w ks h c vk v vc W' := ⟨s.kw.step hb, s.row.step hb, s.ops.step hb⟩
theorem do_row {ks h : List Int} {c : List (Int × Int)} {w w' : World} {u : Value} (h1 : ∀ x, doO ks h c = some x → w'.ownsRow w.heap.size 3 1 u x.length (encI x)) (h2 : doO ks h c = none → u = .slice none 0 0) : IntsC w' u ((doO ks h c).getD []) := by
  cases hd : doO ks h c with
  | none =>
    rw [h2 hd]
    exact ⟨.inl ⟨none, 0, rfl, rfl⟩, fun a n c e => by injection e with _ e1 e2; omega⟩
  | some x => exact IntsC.own (h1 x hd) rfl
theorem light_yes {ks h : List Int} {c : List (Int × Int)} (hl : lightB ks h c = true) : ks.length ≤ 100 ∧ h.length ≤ 40 ∧ c.length ≤ 20 := by
  unfold lightB at hl
  simpa using hl
theorem doO_len {ks h x : List Int} {c : List (Int × Int)} (hd : doO ks h c = some x) : x.length ≤ h.length + c.length := by
  unfold doO at hd
  split at hd
  · rename_i hv
    have := doL_len hv hd
    have := countI_le c 3
    omega
  · cases hd
theorem doO_getD_len (ks h : List Int) (c : List (Int × Int)) : ((doO ks h c).getD []).length ≤ h.length + c.length := by
  cases hd : doO ks h c with
  | none => simp
  | some x => exact doO_len hd
end Go.Proofs.YtlcpbfklnjlgnaaGreatDoor

namespace Go.Proofs.YtlcpbfklnjlgnaaGreatDoor
open Go.RowKit Go.Extern.Stop Go.Stop Go.Extern

theorem doO_some {ks h x : List Int} {c : List (Int × Int)} (hd : doO ks h c = some x) : validH ks h = true ∧ doL ks c h = some x := by
  unfold doO at hd
  split at hd
  · rename_i hv
    exact ⟨hv, hd⟩
  · cases hd
end Go.Proofs.YtlcpbfklnjlgnaaGreatDoor

namespace Go.Proofs.YtlcpbfklnjlgnaaGreatDoor
open Go.RowKit Go.Extern.Stop Go.Stop Go.Extern

theorem infoOpT : (Tryz.prog.info? 114).map (fun i => (i.zero, i.size, i.bytes)) = some (some (.agg #[.int .i64 0, .int .i64 0]), 2, 16) := by kernel_rfl
/-- One more row behind a row of the call's own, wherever it lies. -/
theorem run_append_ops (w : World) (base : Nat) (ty : TypeId) (v : Value) (n : Nat) (xs : List Value) (hown : w.ownsRow base 114 2 v n xs) (vx : Value) (l : List (Int × Int)) (hv : OpsAt w vx l) (hn : n + l.length ≤ 1000000) (hbase : base ≤ w.heap.size) :
    ∃ v' w', (Builtin.append_ #[46, 46] ty #[v, vx]).run Tryz.prog w = .ok v' w' ∧ w'.ownsRow base 114 2 v' (n + l.length) (xs ++ opCells l) ∧ w.grownBy w' v.ownBlock := by
  obtain ⟨i0, hi, hz0, hz1, hz2⟩ := info_parts infoOpT
  rcases hv with ⟨a, cap, rfl, rfl⟩ | ⟨b, off, cap, rfl, hb, hc⟩
  · rcases a with _ | a
    · refine ⟨v, w, ?_, by simpa [opCells] using hown, World.grownBy.refl w _⟩
      rcases hown.2 with ⟨rfl, -⟩ | ⟨g, cp, cur, rfl, -, -, hle, -⟩
      · simp [Builtin.append_, run_underlying Tryz.underlying46, sizeOf, typeInfo, hi, Builtin.lenOf, Builtin.firstCells]
      · simp [Builtin.append_, run_underlying Tryz.underlying46, sizeOf, typeInfo, hi, Builtin.lenOf, Builtin.firstCells, hle, storeCells]
    · obtain ⟨v', w', h1, h2, h3, -⟩ := run_append_own (P := Tryz.prog) w base 46 ty 114 i0 (.agg #[.int .i64 0, .int .i64 0]) 2 16 Tryz.underlying46 hi hz0 hz1 hz2 rfl (by decide) v n xs hown a 0 cap [] rfl (by intro j u hu; cases hu) (by intro u hu; cases hu) (by unfold maxLen; omega) (by omega) hbase
      exact ⟨v', w', h1, by simpa [opCells] using h2, h3⟩
  · obtain ⟨v', w', h1, h2, h3, -⟩ := run_append_own (P := Tryz.prog) w base 46 ty 114 i0 (.agg #[.int .i64 0, .int .i64 0]) 2 16 Tryz.underlying46 hi hz0 hz1 hz2 rfl (by decide) v n xs hown ⟨b, off, none⟩ l.length cap (opCells l) (opCells_length l) (by
      intro j u hu
      have hj : j < l.length * 2 := by have := (List.getElem?_eq_some_iff.1 hu).1; rwa [opCells_length] at this
      have e0 : (⟨b, off, none⟩ : Addr).add j = ⟨b, off + j, none⟩ := by unfold Addr.add; split <;> simp_all
      rw [e0]
      obtain ⟨o, ho⟩ : ∃ o, l[j / 2]? = some o := ⟨_, List.getElem?_eq_getElem (by omega)⟩
      obtain ⟨k0, k1⟩ := opCells_at ho
      obtain ⟨d0, d1⟩ := hc _ _ ho
      rcases Nat.mod_two_eq_zero_or_one j with hm | hm
      · have ej : j / 2 * 2 = j := by omega
        rw [ej] at k0 d0
        rw [d0, ← k0, hu]
      · have ej : j / 2 * 2 + 1 = j := by omega
        rw [ej] at k1
        rw [show off + j / 2 * 2 + 1 = off + j by omega] at d1
        rw [d1, ← k1, hu]) (opCells_one l) (by unfold maxLen; omega) (by omega) hbase
    exact ⟨v', w', h1, h2, h3⟩
theorem wpList_append_ops {ops : Array Oper} {rest : List Oper} {o : Oper} {a : Act} {Q : Exit → Act → World → Prop} (w : World) (hgd : o.guard = none) (s x : Operand) (ho : o.op = .call { callee := .builtin .append, args := #[s, x], argTypes := #[46, 46] })
    (base : Nat) (v : Value) (n : Nat) (xs : List Value) (hs : a.eval s = v) (hown : w.ownsRow base 114 2 v n xs) (vx : Value) (l : List (Int × Int)) (hx : a.eval x = vx) (hv : OpsAt w vx l) (hn : n + l.length ≤ 1000000) (hbase : base ≤ w.heap.size)
    (h : ∀ v' w', w'.ownsRow base 114 2 v' (n + l.length) (xs ++ opCells l) → w.grownBy w' v.ownBlock → wpList Tryz.prog ops Q rest (a.put o.dst v') w') : wpList Tryz.prog ops Q (o :: rest) a w := by
  refine wpList_plain hgd fun K hK => ?_
  obtain ⟨v', w', h1, h2, h3⟩ := run_append_ops w base o.type v n xs hown vx l hv hn hbase
  unfold Oper.wp execOp
  simp only [ho, resolve, invoke, builtin, Sem.run_bind, Sem.run_pure, Result.andThen_ok, List.map_toArray, List.map_cons, List.map_nil, hs, hx, h1]
  exact hK _ _ (h v' w' h2 h3)

end Go.Proofs.YtlcpbfklnjlgnaaGreatDoor

namespace Go.Proofs.YtlcpbfklnjlgnaaGreatDoor
open Go.RowKit Go.Extern.Stop Go.Stop Go.Extern

theorem doO_parts (ks h : List Int) (a b : List (Int × Int)) : (doO ks h a = none → doO ks h (a ++ b) = none) ∧ ∀ y, doO ks h a = some y → doO ks h (a ++ b) = doO ks y b := by
  constructor
  · intro hd
    unfold doO at hd ⊢
    split
    · rename_i hv
      rw [if_pos hv] at hd
      rw [doL_append, hd]
      rfl
    · rfl
  · intro y hd
    obtain ⟨hv, hl⟩ := doO_some hd
    have hy := doL_valid hv hl
    unfold doO
    rw [if_pos hv, if_pos hy, doL_append, hl]
    rfl
end Go.Proofs.YtlcpbfklnjlgnaaGreatDoor

namespace Go.Proofs.YtlcpbfklnjlgnaaGreatDoor
open Go.RowKit Go.Extern.Stop Go.Stop Go.Extern

/-! ### Plain -/
theorem kindI_all {ks : List Int} {i : Int} (h : kindI ks i ≠ 0) (l : List Int) : kindI (ks ++ l) i = kindI ks i := by
  unfold kindI at h ⊢
  split at h
  · rename_i hi
    rw [if_pos hi, if_pos (by rw [List.length_append]; omega)]
    have e : (ks ++ l).getD i.toNat 0 = ks.getD i.toNat 0 := by
      rw [List.getD_eq_getElem?_getD, List.getD_eq_getElem?_getD, List.getElem?_append_left (by omega)]
    rw [e]
  · exact absurd rfl h
theorem kindI_more (ks : List Int) : kindI (ks ++ [1, 2, 3]) (ks.length : Int) = 1 ∧ kindI (ks ++ [1, 2, 3]) ((ks.length : Int) + 1) = 2 ∧ kindI (ks ++ [1, 2, 3]) ((ks.length : Int) + 2) = 3 := by
  have key : ∀ (j : Nat) (x : Int), [1, 2, 3][j]? = some x → 1 ≤ x ∧ x ≤ 3 → kindI (ks ++ [1, 2, 3]) ((ks.length + j : Nat) : Int) = x := fun j x hj hx => by
    have := kindI_at (ks := ks ++ [1, 2, 3]) (j := ks.length + j) (x := x) (by rw [List.getElem?_append_right (by omega), Nat.add_sub_cancel_left]; exact hj)
    rw [this, if_pos hx]
  exact ⟨by simpa using key 0 1 rfl (by omega), by simpa using key 1 2 rfl (by omega), by simpa using key 2 3 rfl (by omega)⟩
/-- A header of a top, over so many labels more. -/
def hM (ks : List Int) (top : Int) (k m : Nat) : List Int := if k = 3 then top :: (List.replicate m ((ks.length : Int) + 2) ++ [(ks.length : Int) + 1, (ks.length : Int)]) else if k = 2 then [top, (ks.length : Int)] else [top]
theorem hM_len (ks : List Int) (top : Int) {k : Nat} (hk : 1 ≤ k ∧ k ≤ 3) (m : Nat) : (hM ks top k m).length = if k = 3 then m + 3 else k := by
  unfold hM
  have : k = 1 ∨ k = 2 ∨ k = 3 := by omega
  rcases this with rfl | rfl | rfl <;> simp
theorem hM_valid {ks : List Int} {top : Int} {k : Nat} (hk : 1 ≤ k ∧ k ≤ 3) (ht : kindI ks top = (k : Int)) (m : Nat) : validH (ks ++ [1, 2, 3]) (hM ks top k m) = true := by
  obtain ⟨e1, e2, e3⟩ := kindI_more ks
  have et : kindI (ks ++ [1, 2, 3]) top = (k : Int) := by rw [kindI_all (by rw [ht]; omega), ht]
  unfold validH hM
  rw [validP_iff]
  have : k = 1 ∨ k = 2 ∨ k = 3 := by omega
  rcases this with rfl | rfl | rfl
  · left; simp [et]
  · right; exact ⟨0, by simp [et, e1]⟩
  · right
    refine ⟨m + 1, ?_⟩
    rw [if_pos rfl, List.map_cons, List.map_append, List.map_replicate, et, e3, List.replicate_succ, List.cons_append]
    simp [e1, e2]
theorem opK_all {ks : List Int} {o : Int × Int} (h : knownB ks o = true) (l : List Int) : opK (ks ++ l) o = opK ks o := by
  unfold opK
  by_cases h1 : o.1 = 1
  · rw [if_pos h1, if_pos h1]
  · rw [if_neg h1, if_neg h1, kindI_all]
    unfold knownB at h
    rw [if_neg h1] at h
    split at h
    · exact of_decide_eq_true h
    · cases h
/-- What the document's Do tells of such a header. -/
theorem front_do {ks : List Int} {top : Int} {k : Nat} (hk : 1 ≤ k ∧ k ≤ 3) (ht : kindI ks top = (k : Int)) {c : List (Int × Int)} (hc : ∀ o ∈ c, knownB ks o = true) (m : Nat) :
    (doO (ks ++ [1, 2, 3]) (hM ks top k m) c).isSome = (runN (c.map (opK ks)) (if k = 3 then m + 3 else k)).isSome := by
  have hv := hM_valid hk ht m
  unfold doO
  rw [if_pos hv, do_some hv, hM_len ks top hk m]
  congr 2
  apply List.map_congr_left
  intro o ho
  exact opK_all (hc o ho) _
theorem front_from {k : Nat} {c : List (Int × Int)} {n : Nat} : frontB k c n = true ↔ ∃ m, m ≤ n ∧ (runN c (if k = 3 then m + 3 else k)).isSome = true := by
  unfold frontB
  rw [List.any_eq_true]
  constructor
  · rintro ⟨m, hm, h⟩; exact ⟨m, by rw [List.mem_range] at hm; omega, h⟩
  · rintro ⟨m, hm, h⟩; exact ⟨m, by rw [List.mem_range]; omega, h⟩

/-! ### A row of ops, with its capacity -/
def OpsC (w : World) (v : Value) (c : List (Int × Int)) : Prop := OpsAt w v c ∧ ∀ a n cp, v = .slice a n cp → n ≤ cp
theorem OpsC.step {w w' : World} {v : Value} {c : List (Int × Int)} (h : OpsC w v c) (hb : Below w.heap.size w w') : OpsC w' v c := ⟨h.1.step hb, h.2⟩
theorem OpsC.own {w : World} {base : Nat} {T : TypeId} {v : Value} {n : Nat} {c : List (Int × Int)} (h : w.ownsRow base T 2 v n (opCells c)) (hn : n = c.length) : OpsC w v c := by
  refine ⟨OpsAt.own h hn, ?_⟩
  rintro a m cp rfl
  rcases h.2 with ⟨e, -⟩ | ⟨g, cap, cur, e, -, -, hc, -⟩
  · injection e with _ e1 e2
    omega
  · injection e with _ e1 e2
    omega
theorem OpsAt.take {w : World} {a : Option Addr} {cap : Nat} {c : List (Int × Int)} (h : OpsAt w (.slice a c.length cap) c) {n : Nat} (hn : n ≤ c.length) : OpsAt w (.slice a n cap) (c.take n) := by
  rcases h with ⟨a, cp, e, rfl⟩ | ⟨b, off, cp, e, hlt, hc⟩
  · simp only [List.length_nil] at hn
    obtain rfl : n = 0 := by omega
    exact .inl ⟨_, _, rfl, rfl⟩
  · injection e with e1 e2 e3
    subst e1
    refine .inr ⟨b, off, cap, by rw [List.length_take]; congr 1; omega, hlt, fun i o ho => ?_⟩
    rw [List.getElem?_take] at ho
    split at ho
    · exact hc i o ho
    · cases ho
end Go.Proofs.YtlcpbfklnjlgnaaGreatDoor

namespace Go.Proofs.YtlcpbfklnjlgnaaGreatDoor
open Go.RowKit Go.Extern.Stop Go.Stop Go.Extern

def FR (wa : World) (R : Nat → Bool) (n : Nat) (g : Nat) (u : Value) (wr : World) : Prop :=
  ∃ m : Nat, m ≤ n + 1 ∧ g = n + 1 - m ∧ u = .int .i64 m ∧ Hid (∀ j, j < m → R j = false) ∧ Below wa.heap.size wa wr
def FI (wr : World) (top ip : Int) (m : Nat) (g : Nat) (u hv : Value) (wi : World) : Prop :=
  ∃ i : Nat, i ≤ m ∧ g = m - i ∧ u = .int .i64 i ∧ wi.ownsRow wr.heap.size 3 1 hv (top :: List.replicate i (ip + 2)).length (encI (top :: List.replicate i (ip + 2))) ∧ Below wr.heap.size wr wi
set_option maxRecDepth 100000 in
set_option maxHeartbeats 8000000 in
theorem front1_any (ks : List Int) (top : Int) (c : List (Int × Int)) (vk vc : Value) (n : Nat) (w : World) (hk : IntsAt w vk ks) (hc : OpsC w vc c) (hn : n ≤ c.length) (hcl : c.length ≤ 20) (hkl : ks.length ≤ 100)
    (ht : kindI ks top = (1 : Nat)) (hkn : ∀ o ∈ c.take n, knownB ks o = true) :
    Calls Tryz.prog 41 #[vk, .int .i64 top, vc, .int .i64 (n : Int)] w fun e w' => e = .returned (.bool (frontB 1 ((c.take n).map (opK ks)) n)) ∧ Below w.heap.size w w' := by
  obtain ⟨ac, capc, rfl⟩ := hc.1.form
  have hcap := hc.2 _ _ _ rfl
  have HC := Lib.hid hc.1
  have HK := Lib.hid hk
  obtain ⟨R, hR⟩ : ∃ R : Nat → Bool, R = fun m => (runN ((c.take n).map (opK ks)) (if 1 = 3 then m + 3 else 1)).isSome := ⟨_, rfl⟩
  have HF : Hid (∀ m, (doO (ks ++ [1, 2, 3]) (hM ks top 1 m) (c.take n)).isSome = R m) := Lib.hid (fun m => by rw [hR]; exact front_do (by omega) ht hkn m)
  have HFr : Hid (frontB 1 ((c.take n).map (opK ks)) n = true ↔ ∃ m, m ≤ n ∧ R m = true) := Lib.hid (by rw [hR]; exact front_from)
  obtain ⟨fb, hfb⟩ : ∃ fb, frontB 1 ((c.take n).map (opK ks)) n = fb := ⟨_, rfl⟩
  rw [hfb] at HFr ⊢
  clear hfb
  have HKt := Lib.hid (fun w' (hb : Below w.heap.size w w') => (rkind_any ks vk top w' (hk.step hb)).mono fun _ w2 h => (⟨h.1, h.2.symm⟩ : _ ∧ w' = w2))
  rw [ht] at HKt
  have hn2 := hn
  have j1 : (n : Int) ≤ (capc : Int) := by omega
  have j2 : (n : Int) ≤ (c.length : Int) := by omega
  obtain ⟨ak, capk, rfl⟩ := hk.form
  have h0 := below_new w (.cells #[] 3)
  have HO0 : Hid ((w.alloc (.cells #[] 3)).ownsRow w.heap.size 3 1 (.slice (some ⟨w.heap.size, 0, none⟩) 0 0) 0 []) := Lib.hid (World.ownsRow_lit w #[] 0 (Nat.le_refl _) (by unfold maxLen; omega) rfl)
  have HI0 := Lib.hid (hk.step h0)
  have HB0 := Lib.hid h0
  clear hk hc hR h0 ht hkn
  go_enter Tryz.func41, Tryz.ntmps41
  go_wp2_with (at_builtin; refine wpList_append_ints _ rfl _ _ rfl w.heap.size _ _ _ rfl HO0.out _ ks rfl HI0.out (by omega) (by first | omega | (simp; done)) ?_)
  intro v1 w1 hown1 hgrow1
  have HB1 : Hid (Below w.heap.size w w1) := Lib.hid (HB0.out.grown hgrow1 (by simp) (fun k' e => (HO0.out.lt k' e).1))
  have HO1 : Hid (w1.ownsRow w.heap.size 3 1 v1 ks.length (encI ks)) := Lib.hid (by simpa using hown1)
  have hs1 := HB1.out.size
  have hn1 := ints3 w1 1 2 3
  have HN1 := Lib.hid hn1
  clear hown1 hgrow1 HO0 HI0 HB0 hn1
  go_wp2_with (at_builtin; refine wpList_append_ints _ rfl _ _ rfl w.heap.size _ _ _ rfl (HO1.out.alloc _) _ [1, 2, 3] rfl HN1.out (by simp only [List.length_cons, List.length_nil]; omega) (by first | omega | (simp; omega)) ?_)
  intro vall wa hown2 hgrow2
  have HBa : Hid (Below w.heap.size w wa) := Lib.hid ((HB1.out.alloc hs1 (.cells #[.int .i64 1, .int .i64 2, .int .i64 3] 3)).grown hgrow2 (by first | omega | (simp; omega)) (fun k' e => (HO1.out.lt k' e).1))
  have HAll : Hid (IntsAt wa vall (ks ++ [1, 2, 3])) := Lib.hid (by
    refine IntsAt.own (base := w.heap.size) (n := ks.length + 3) ?_ (by simp)
    have e : encI (ks ++ [1, 2, 3]) = encI ks ++ encI [1, 2, 3] := by unfold encI; rw [List.map_append]
    rw [e]
    exact hown2)
  clear hown2 hgrow2 HO1 HN1 hs1 HB1
  have hk100 : (ks.length : Int) ≤ 100 := by omega
  have hn20 : (n : Int) ≤ 20 := by omega
  go_wp2_with fail
  refine (HKt.out _ HBa.out).mono ?_
  rintro e w3 ⟨rfl, rfl⟩
  clear HKt
  have H0 : Hid (FR wa R n (n + 1) (.int .i64 0) wa) := Lib.hid ⟨0, by omega, by omega, rfl, Lib.hid (fun j hj => by omega), Below.refl _ _⟩
  go_wp2_with fail
  go_loopg [12] (n + 1) (fun g u wr => FR wa R n g u wr)
  case atStart => exact H0.out
  case round =>
    obtain ⟨m, hm, hgm, rfl, hno, hbm⟩ := hrel
    by_cases hlt : m ≤ n
    · have ql : (m : Int) ≤ (n : Int) := by omega
      have HBm := Lib.hid hbm
      have hbt := below_new wr (.cells #[.int .i64 top] 3)
      have HBt := Lib.hid hbt
      have HOt : Hid ((wr.alloc (.cells #[.int .i64 top] 3)).ownsRow wr.heap.size 3 1 (.slice (some ⟨wr.heap.size, 0, none⟩) 1 1) [top].length (encI [top])) := Lib.hid (World.ownsRow_lit wr #[.int .i64 top] 1 (Nat.le_refl _) (by unfold maxLen; omega) rfl)
      clear hbm hbt
      have HBh : Hid (Below wa.heap.size wa (wr.alloc (.cells #[.int .i64 top] 3))) := Lib.hid (HBm.out.trans (HBt.out.mono HBm.out.size))
      obtain ⟨wh, hwh⟩ : ∃ wh, wh = wr.alloc (.cells #[.int .i64 top] 3) := ⟨_, rfl⟩
      have HOh : Hid (wh.ownsRow wr.heap.size 3 1 (.slice (some ⟨wr.heap.size, 0, none⟩) 1 1) (hM ks top 1 m).length (encI (hM ks top 1 m))) := Lib.hid (by rw [hwh]; exact HOt.out)
      rw [← hwh] at HBh
      have HWh := Lib.hid hwh
      clear hwh
      have HE := Lib.hid (rDo_any (ks ++ [1, 2, 3]) (hM ks top 1 m) (c.take n) vall _ _ wh (HAll.out.step HBh.out) (IntsC.own HOh.out rfl) ((HC.out.step (HBa.out.trans (HBh.out.mono HBa.out.size))).take hn2) (by rw [hM_len ks top (by omega)]; split <;> omega) (by rw [List.length_take]; omega))
      unfold DoPost at HE
      rw [HF.out m] at HE
      cases hR : R m with
      | true =>
        rw [hR] at HE
        have hT : Hid (fb = true) := Lib.hid (HFr.out.2 ⟨m, by omega, hR⟩)
        clear hR
        rw [HWh.out] at HE HBh
        go_wp2_with fail
        refine HE.out.mono ?_
        rintro e w9 ⟨u9, rfl, -, -, b9⟩
        have HB9 := Lib.hid ((HBa.out.trans (HBh.out.mono HBa.out.size)).trans (b9.mono (HBa.out.trans (HBh.out.mono HBa.out.size)).size))
        clear b9
        go_wp2_with fail
        go_ret
        exact ⟨by rw [hT.out]; rfl, HB9.out⟩
      | false =>
        rw [hR] at HE
        have hno2 : Hid (∀ j, j < m + 1 → R j = false) := Lib.hid (fun j hj => by
          by_cases hjm : j = m
          · rw [hjm]; exact hR
          · exact hno.out j (by omega))
        clear hR hno
        rw [HWh.out] at HE HBh
        go_wp2_with fail
        refine HE.out.mono ?_
        rintro e w9 ⟨u9, rfl, -, -, b9⟩
        have HB9 := Lib.hid (HBh.out.trans (b9.mono HBh.out.size))
        clear b9
        go_wp2_with fail
        go_roundg (n + 1 - (m + 1))
        case measure => omega
        case rel => exact ⟨m + 1, by omega, rfl, by go_num, hno2, HB9.out⟩
    · obtain rfl : m = n + 1 := by omega
      have ql : ¬ ((n : Int) + 1 ≤ (n : Int)) := by omega
      have hF : Hid (fb = false) := Lib.hid (by
        cases hf : fb
        · rfl
        · obtain ⟨j, hj, hr⟩ := HFr.out.1 hf
          rw [hno.out j (by omega)] at hr
          cases hr)
      have HBm := Lib.hid hbm
      clear hno hbm
      go_wp2_with fail
      go_ret
      exact ⟨by rw [hF.out]; rfl, HBa.out.trans (HBm.out.mono HBa.out.size)⟩
set_option maxRecDepth 100000 in
set_option maxHeartbeats 8000000 in
theorem front2_any (ks : List Int) (top : Int) (c : List (Int × Int)) (vk vc : Value) (n : Nat) (w : World) (hk : IntsAt w vk ks) (hc : OpsC w vc c) (hn : n ≤ c.length) (hcl : c.length ≤ 20) (hkl : ks.length ≤ 100)
    (ht : kindI ks top = (2 : Nat)) (hkn : ∀ o ∈ c.take n, knownB ks o = true) :
    Calls Tryz.prog 41 #[vk, .int .i64 top, vc, .int .i64 (n : Int)] w fun e w' => e = .returned (.bool (frontB 2 ((c.take n).map (opK ks)) n)) ∧ Below w.heap.size w w' := by
  obtain ⟨ac, capc, rfl⟩ := hc.1.form
  have hcap := hc.2 _ _ _ rfl
  have HC := Lib.hid hc.1
  have HK := Lib.hid hk
  obtain ⟨R, hR⟩ : ∃ R : Nat → Bool, R = fun m => (runN ((c.take n).map (opK ks)) (if 2 = 3 then m + 3 else 2)).isSome := ⟨_, rfl⟩
  have HF : Hid (∀ m, (doO (ks ++ [1, 2, 3]) (hM ks top 2 m) (c.take n)).isSome = R m) := Lib.hid (fun m => by rw [hR]; exact front_do (by omega) ht hkn m)
  have HFr : Hid (frontB 2 ((c.take n).map (opK ks)) n = true ↔ ∃ m, m ≤ n ∧ R m = true) := Lib.hid (by rw [hR]; exact front_from)
  obtain ⟨fb, hfb⟩ : ∃ fb, frontB 2 ((c.take n).map (opK ks)) n = fb := ⟨_, rfl⟩
  rw [hfb] at HFr ⊢
  clear hfb
  have HKt := Lib.hid (fun w' (hb : Below w.heap.size w w') => (rkind_any ks vk top w' (hk.step hb)).mono fun _ w2 h => (⟨h.1, h.2.symm⟩ : _ ∧ w' = w2))
  rw [ht] at HKt
  have hn2 := hn
  have j1 : (n : Int) ≤ (capc : Int) := by omega
  have j2 : (n : Int) ≤ (c.length : Int) := by omega
  obtain ⟨ak, capk, rfl⟩ := hk.form
  have h0 := below_new w (.cells #[] 3)
  have HO0 : Hid ((w.alloc (.cells #[] 3)).ownsRow w.heap.size 3 1 (.slice (some ⟨w.heap.size, 0, none⟩) 0 0) 0 []) := Lib.hid (World.ownsRow_lit w #[] 0 (Nat.le_refl _) (by unfold maxLen; omega) rfl)
  have HI0 := Lib.hid (hk.step h0)
  have HB0 := Lib.hid h0
  clear hk hc hR h0 ht hkn
  go_enter Tryz.func41, Tryz.ntmps41
  go_wp2_with (at_builtin; refine wpList_append_ints _ rfl _ _ rfl w.heap.size _ _ _ rfl HO0.out _ ks rfl HI0.out (by omega) (by first | omega | (simp; done)) ?_)
  intro v1 w1 hown1 hgrow1
  have HB1 : Hid (Below w.heap.size w w1) := Lib.hid (HB0.out.grown hgrow1 (by simp) (fun k' e => (HO0.out.lt k' e).1))
  have HO1 : Hid (w1.ownsRow w.heap.size 3 1 v1 ks.length (encI ks)) := Lib.hid (by simpa using hown1)
  have hs1 := HB1.out.size
  have hn1 := ints3 w1 1 2 3
  have HN1 := Lib.hid hn1
  clear hown1 hgrow1 HO0 HI0 HB0 hn1
  go_wp2_with (at_builtin; refine wpList_append_ints _ rfl _ _ rfl w.heap.size _ _ _ rfl (HO1.out.alloc _) _ [1, 2, 3] rfl HN1.out (by simp only [List.length_cons, List.length_nil]; omega) (by first | omega | (simp; omega)) ?_)
  intro vall wa hown2 hgrow2
  have HBa : Hid (Below w.heap.size w wa) := Lib.hid ((HB1.out.alloc hs1 (.cells #[.int .i64 1, .int .i64 2, .int .i64 3] 3)).grown hgrow2 (by first | omega | (simp; omega)) (fun k' e => (HO1.out.lt k' e).1))
  have HAll : Hid (IntsAt wa vall (ks ++ [1, 2, 3])) := Lib.hid (by
    refine IntsAt.own (base := w.heap.size) (n := ks.length + 3) ?_ (by simp)
    have e : encI (ks ++ [1, 2, 3]) = encI ks ++ encI [1, 2, 3] := by unfold encI; rw [List.map_append]
    rw [e]
    exact hown2)
  clear hown2 hgrow2 HO1 HN1 hs1 HB1
  have hk100 : (ks.length : Int) ≤ 100 := by omega
  have hn20 : (n : Int) ≤ 20 := by omega
  go_wp2_with fail
  refine (HKt.out _ HBa.out).mono ?_
  rintro e w3 ⟨rfl, rfl⟩
  clear HKt
  have H0 : Hid (FR wa R n (n + 1) (.int .i64 0) wa) := Lib.hid ⟨0, by omega, by omega, rfl, Lib.hid (fun j hj => by omega), Below.refl _ _⟩
  go_wp2_with fail
  go_loopg [12] (n + 1) (fun g u wr => FR wa R n g u wr)
  case atStart => exact H0.out
  case round =>
    obtain ⟨m, hm, hgm, rfl, hno, hbm⟩ := hrel
    by_cases hlt : m ≤ n
    · have ql : (m : Int) ≤ (n : Int) := by omega
      have HBm := Lib.hid hbm
      have hbt := below_new wr (.cells #[.int .i64 top] 3)
      have HBt := Lib.hid hbt
      have HOt : Hid ((wr.alloc (.cells #[.int .i64 top] 3)).ownsRow wr.heap.size 3 1 (.slice (some ⟨wr.heap.size, 0, none⟩) 1 1) [top].length (encI [top])) := Lib.hid (World.ownsRow_lit wr #[.int .i64 top] 1 (Nat.le_refl _) (by unfold maxLen; omega) rfl)
      clear hbm hbt
      have hn_wh := ints_new (wr.alloc (.cells #[.int .i64 top] 3)) (ks.length : Int)
      rw [World.size_alloc] at hn_wh
      have HN_wh := Lib.hid hn_wh
      have hs_wh := HBt.out.size
      clear hn_wh
      go_wp2_with (at_builtin; refine wpList_append_ints _ rfl _ _ rfl wr.heap.size _ _ _ rfl (HOt.out.alloc _) _ [(ks.length : Int)] rfl HN_wh.out (by simp only [List.length_cons, List.length_nil, List.length_append, List.length_replicate]; omega) (by first | omega | (simp; omega)) ?_)
      intro vh wh hown_wh hgrow_wh
      have HBh0 : Hid (Below wr.heap.size wr wh) := Lib.hid ((HBt.out.alloc hs_wh (.cells #[.int .i64 (ks.length : Int)] 3)).grown hgrow_wh (by first | omega | (simp; omega)) (fun k' e => (HOt.out.lt k' e).1))
      have HOh0 : Hid (wh.ownsRow wr.heap.size 3 1 vh ([top] ++ [(ks.length : Int)]).length (encI ([top] ++ [(ks.length : Int)]))) := Lib.hid (by
        rw [encI_snoc]
        simpa using hown_wh)
      clear hown_wh hgrow_wh HN_wh hs_wh
      have HOh : Hid (wh.ownsRow wr.heap.size 3 1 vh (hM ks top 2 m).length (encI (hM ks top 2 m))) := HOh0
      have HBh : Hid (Below wa.heap.size wa wh) := Lib.hid (HBm.out.trans (HBh0.out.mono HBm.out.size))
      clear HOh0 HBh0 HOt HBt
      have HE := Lib.hid (rDo_any (ks ++ [1, 2, 3]) (hM ks top 2 m) (c.take n) vall _ _ wh (HAll.out.step HBh.out) (IntsC.own HOh.out rfl) ((HC.out.step (HBa.out.trans (HBh.out.mono HBa.out.size))).take hn2) (by rw [hM_len ks top (by omega)]; split <;> omega) (by rw [List.length_take]; omega))
      unfold DoPost at HE
      rw [HF.out m] at HE
      cases hR : R m with
      | true =>
        rw [hR] at HE
        have hT : Hid (fb = true) := Lib.hid (HFr.out.2 ⟨m, by omega, hR⟩)
        clear hR
        go_wp2_with fail
        refine HE.out.mono ?_
        rintro e w9 ⟨u9, rfl, -, -, b9⟩
        have HB9 := Lib.hid ((HBa.out.trans (HBh.out.mono HBa.out.size)).trans (b9.mono (HBa.out.trans (HBh.out.mono HBa.out.size)).size))
        clear b9
        go_wp2_with fail
        go_ret
        exact ⟨by rw [hT.out]; rfl, HB9.out⟩
      | false =>
        rw [hR] at HE
        have hno2 : Hid (∀ j, j < m + 1 → R j = false) := Lib.hid (fun j hj => by
          by_cases hjm : j = m
          · rw [hjm]; exact hR
          · exact hno.out j (by omega))
        clear hR hno
        go_wp2_with fail
        refine HE.out.mono ?_
        rintro e w9 ⟨u9, rfl, -, -, b9⟩
        have HB9 := Lib.hid (HBh.out.trans (b9.mono HBh.out.size))
        clear b9
        go_wp2_with fail
        go_roundg (n + 1 - (m + 1))
        case measure => omega
        case rel => exact ⟨m + 1, by omega, rfl, by go_num, hno2, HB9.out⟩
    · obtain rfl : m = n + 1 := by omega
      have ql : ¬ ((n : Int) + 1 ≤ (n : Int)) := by omega
      have hF : Hid (fb = false) := Lib.hid (by
        cases hf : fb
        · rfl
        · obtain ⟨j, hj, hr⟩ := HFr.out.1 hf
          rw [hno.out j (by omega)] at hr
          cases hr)
      have HBm := Lib.hid hbm
      clear hno hbm
      go_wp2_with fail
      go_ret
      exact ⟨by rw [hF.out]; rfl, HBa.out.trans (HBm.out.mono HBa.out.size)⟩
set_option maxRecDepth 100000 in
set_option maxHeartbeats 8000000 in
theorem front3_any (ks : List Int) (top : Int) (c : List (Int × Int)) (vk vc : Value) (n : Nat) (w : World) (hk : IntsAt w vk ks) (hc : OpsC w vc c) (hn : n ≤ c.length) (hcl : c.length ≤ 20) (hkl : ks.length ≤ 100)
    (ht : kindI ks top = (3 : Nat)) (hkn : ∀ o ∈ c.take n, knownB ks o = true) :
    Calls Tryz.prog 41 #[vk, .int .i64 top, vc, .int .i64 (n : Int)] w fun e w' => e = .returned (.bool (frontB 3 ((c.take n).map (opK ks)) n)) ∧ Below w.heap.size w w' := by
  obtain ⟨ac, capc, rfl⟩ := hc.1.form
  have hcap := hc.2 _ _ _ rfl
  have HC := Lib.hid hc.1
  have HK := Lib.hid hk
  obtain ⟨R, hR⟩ : ∃ R : Nat → Bool, R = fun m => (runN ((c.take n).map (opK ks)) (if 3 = 3 then m + 3 else 3)).isSome := ⟨_, rfl⟩
  have HF : Hid (∀ m, (doO (ks ++ [1, 2, 3]) (hM ks top 3 m) (c.take n)).isSome = R m) := Lib.hid (fun m => by rw [hR]; exact front_do (by omega) ht hkn m)
  have HFr : Hid (frontB 3 ((c.take n).map (opK ks)) n = true ↔ ∃ m, m ≤ n ∧ R m = true) := Lib.hid (by rw [hR]; exact front_from)
  obtain ⟨fb, hfb⟩ : ∃ fb, frontB 3 ((c.take n).map (opK ks)) n = fb := ⟨_, rfl⟩
  rw [hfb] at HFr ⊢
  clear hfb
  have HKt := Lib.hid (fun w' (hb : Below w.heap.size w w') => (rkind_any ks vk top w' (hk.step hb)).mono fun _ w2 h => (⟨h.1, h.2.symm⟩ : _ ∧ w' = w2))
  rw [ht] at HKt
  have hn2 := hn
  have j1 : (n : Int) ≤ (capc : Int) := by omega
  have j2 : (n : Int) ≤ (c.length : Int) := by omega
  obtain ⟨ak, capk, rfl⟩ := hk.form
  have h0 := below_new w (.cells #[] 3)
  have HO0 : Hid ((w.alloc (.cells #[] 3)).ownsRow w.heap.size 3 1 (.slice (some ⟨w.heap.size, 0, none⟩) 0 0) 0 []) := Lib.hid (World.ownsRow_lit w #[] 0 (Nat.le_refl _) (by unfold maxLen; omega) rfl)
  have HI0 := Lib.hid (hk.step h0)
  have HB0 := Lib.hid h0
  clear hk hc hR h0 ht hkn
  go_enter Tryz.func41, Tryz.ntmps41
  go_wp2_with (at_builtin; refine wpList_append_ints _ rfl _ _ rfl w.heap.size _ _ _ rfl HO0.out _ ks rfl HI0.out (by omega) (by first | omega | (simp; done)) ?_)
  intro v1 w1 hown1 hgrow1
  have HB1 : Hid (Below w.heap.size w w1) := Lib.hid (HB0.out.grown hgrow1 (by simp) (fun k' e => (HO0.out.lt k' e).1))
  have HO1 : Hid (w1.ownsRow w.heap.size 3 1 v1 ks.length (encI ks)) := Lib.hid (by simpa using hown1)
  have hs1 := HB1.out.size
  have hn1 := ints3 w1 1 2 3
  have HN1 := Lib.hid hn1
  clear hown1 hgrow1 HO0 HI0 HB0 hn1
  go_wp2_with (at_builtin; refine wpList_append_ints _ rfl _ _ rfl w.heap.size _ _ _ rfl (HO1.out.alloc _) _ [1, 2, 3] rfl HN1.out (by simp only [List.length_cons, List.length_nil]; omega) (by first | omega | (simp; omega)) ?_)
  intro vall wa hown2 hgrow2
  have HBa : Hid (Below w.heap.size w wa) := Lib.hid ((HB1.out.alloc hs1 (.cells #[.int .i64 1, .int .i64 2, .int .i64 3] 3)).grown hgrow2 (by first | omega | (simp; omega)) (fun k' e => (HO1.out.lt k' e).1))
  have HAll : Hid (IntsAt wa vall (ks ++ [1, 2, 3])) := Lib.hid (by
    refine IntsAt.own (base := w.heap.size) (n := ks.length + 3) ?_ (by simp)
    have e : encI (ks ++ [1, 2, 3]) = encI ks ++ encI [1, 2, 3] := by unfold encI; rw [List.map_append]
    rw [e]
    exact hown2)
  clear hown2 hgrow2 HO1 HN1 hs1 HB1
  have hk100 : (ks.length : Int) ≤ 100 := by omega
  have hn20 : (n : Int) ≤ 20 := by omega
  go_wp2_with fail
  refine (HKt.out _ HBa.out).mono ?_
  rintro e w3 ⟨rfl, rfl⟩
  clear HKt
  have H0 : Hid (FR wa R n (n + 1) (.int .i64 0) wa) := Lib.hid ⟨0, by omega, by omega, rfl, Lib.hid (fun j hj => by omega), Below.refl _ _⟩
  go_wp2_with fail
  go_loopg [12] (n + 1) (fun g u wr => FR wa R n g u wr)
  case atStart => exact H0.out
  case round =>
    obtain ⟨m, hm, hgm, rfl, hno, hbm⟩ := hrel
    by_cases hlt : m ≤ n
    · have ql : (m : Int) ≤ (n : Int) := by omega
      have HBm := Lib.hid hbm
      have hbt := below_new wr (.cells #[.int .i64 top] 3)
      have HBt := Lib.hid hbt
      have HOt : Hid ((wr.alloc (.cells #[.int .i64 top] 3)).ownsRow wr.heap.size 3 1 (.slice (some ⟨wr.heap.size, 0, none⟩) 1 1) [top].length (encI [top])) := Lib.hid (World.ownsRow_lit wr #[.int .i64 top] 1 (Nat.le_refl _) (by unfold maxLen; omega) rfl)
      clear hbm hbt
      rename World => wo
      have HI0 : Hid (FI wo top (ks.length : Int) m m (.int .i64 0) (.slice (some ⟨wo.heap.size, 0, none⟩) 1 1) (wo.alloc (.cells #[.int .i64 top] 3))) := Lib.hid ⟨0, Nat.zero_le _, by omega, rfl, HOt.out, HBt.out⟩
      clear HOt HBt
      go_wp2_with fail
      go_loopg [14, 13] m (fun g u hv wr => FI wo top (ks.length : Int) m g u hv wr)
      case atStart => exact HI0.out
      case round =>
        obtain ⟨i, hi, hgi, rfl, howni, hbi⟩ := hrel
        have HOi := Lib.hid howni
        have HBi := Lib.hid hbi
        by_cases hli : i < m
        · have hni := ints_new wr ((ks.length : Int) + 2)
          have HNi := Lib.hid hni
          have hsi := hbi.size
          have hrep : Hid (encI (top :: List.replicate (i + 1) ((ks.length : Int) + 2)) = encI (top :: List.replicate i ((ks.length : Int) + 2)) ++ encI [(ks.length : Int) + 2]) := Lib.hid (by
            rw [← encI_snoc, List.cons_append, List.replicate_succ'])
          clear hni howni hbi
          go_wp2_with (at_builtin; refine wpList_append_ints _ rfl _ _ rfl wo.heap.size _ _ _ rfl (HOi.out.alloc _) _ [(ks.length : Int) + 2] rfl HNi.out (by simp only [List.length_cons, List.length_nil, List.length_replicate]; omega) (by first | omega | (simp; omega)) ?_)
          intro v5 w5 hown5 hgrow5
          have HR5 : Hid (FI wo top (ks.length : Int) m (m - (i + 1)) (.int .i64 ((i : Int) + 1)) v5 w5) := Lib.hid ⟨i + 1, by omega, rfl, by go_num, by rw [hrep.out]; simpa using hown5, (HBi.out.alloc hsi (.cells #[.int .i64 ((ks.length : Int) + 2)] 3)).grown hgrow5 (by first | omega | (simp; omega)) (fun k' e => (HOi.out.lt k' e).1)⟩
          clear hown5 hgrow5
          go_wp2_with fail
          go_roundg (m - (i + 1))
          case measure => omega
          case rel => exact HR5.out
        · obtain rfl : i = m := by omega
          clear howni hbi hli
          have hn_wg := ints_new wr ((ks.length : Int) + 1)
          have HN_wg := Lib.hid hn_wg
          have hs_wg := HBi.out.size
          clear hn_wg
          go_wp2_with (at_builtin; refine wpList_append_ints _ rfl _ _ rfl wo.heap.size _ _ _ rfl (HOi.out.alloc _) _ [((ks.length : Int) + 1)] rfl HN_wg.out (by simp only [List.length_cons, List.length_nil, List.length_append, List.length_replicate]; omega) (by first | omega | (simp; omega)) ?_)
          intro vg wg hown_wg hgrow_wg
          have HBg : Hid (Below wo.heap.size wo wg) := Lib.hid ((HBi.out.alloc hs_wg (.cells #[.int .i64 ((ks.length : Int) + 1)] 3)).grown hgrow_wg (by first | omega | (simp; omega)) (fun k' e => (HOi.out.lt k' e).1))
          have HOg : Hid (wg.ownsRow wo.heap.size 3 1 vg ((top :: List.replicate i ((ks.length : Int) + 2)) ++ [((ks.length : Int) + 1)]).length (encI ((top :: List.replicate i ((ks.length : Int) + 2)) ++ [((ks.length : Int) + 1)]))) := Lib.hid (by
            rw [encI_snoc]
            simpa using hown_wg)
          clear hown_wg hgrow_wg HN_wg hs_wg
          have hn_wh := ints_new wg (ks.length : Int)
          have HN_wh := Lib.hid hn_wh
          have hs_wh := HBg.out.size
          clear hn_wh
          go_wp2_with (at_builtin; refine wpList_append_ints _ rfl _ _ rfl wo.heap.size _ _ _ rfl (HOg.out.alloc _) _ [(ks.length : Int)] rfl HN_wh.out (by simp only [List.length_cons, List.length_nil, List.length_append, List.length_replicate]; omega) (by first | omega | (simp; omega)) ?_)
          intro vh wh hown_wh hgrow_wh
          have HBh0 : Hid (Below wo.heap.size wo wh) := Lib.hid ((HBg.out.alloc hs_wh (.cells #[.int .i64 (ks.length : Int)] 3)).grown hgrow_wh (by first | omega | (simp; omega)) (fun k' e => (HOg.out.lt k' e).1))
          have HOh0 : Hid (wh.ownsRow wo.heap.size 3 1 vh ((top :: List.replicate i ((ks.length : Int) + 2) ++ [(ks.length : Int) + 1]) ++ [(ks.length : Int)]).length (encI ((top :: List.replicate i ((ks.length : Int) + 2) ++ [(ks.length : Int) + 1]) ++ [(ks.length : Int)]))) := Lib.hid (by
            rw [encI_snoc]
            simpa using hown_wh)
          clear hown_wh hgrow_wh HN_wh hs_wh
          have HOh : Hid (wh.ownsRow wo.heap.size 3 1 vh (hM ks top 3 i).length (encI (hM ks top 3 i))) := Lib.hid (by
            have e : hM ks top 3 i = top :: List.replicate i ((ks.length : Int) + 2) ++ [(ks.length : Int) + 1] ++ [(ks.length : Int)] := by unfold hM; simp
            rw [e]
            exact HOh0.out)
          have HBh : Hid (Below wa.heap.size wa wh) := Lib.hid (HBm.out.trans (HBh0.out.mono HBm.out.size))
          clear HOh0 HBh0
          have HE := Lib.hid (rDo_any (ks ++ [1, 2, 3]) (hM ks top 3 i) (c.take n) vall _ _ wh (HAll.out.step HBh.out) (IntsC.own HOh.out rfl) ((HC.out.step (HBa.out.trans (HBh.out.mono HBa.out.size))).take hn2) (by rw [hM_len ks top (by omega)]; split <;> omega) (by rw [List.length_take]; omega))
          unfold DoPost at HE
          rw [HF.out i] at HE
          cases hR : R i with
          | true =>
            rw [hR] at HE
            have hT : Hid (fb = true) := Lib.hid (HFr.out.2 ⟨i, by omega, hR⟩)
            clear hR
            go_wp2_with fail
            refine HE.out.mono ?_
            rintro e w9 ⟨u9, rfl, -, -, b9⟩
            have HB9 := Lib.hid ((HBa.out.trans (HBh.out.mono HBa.out.size)).trans (b9.mono (HBa.out.trans (HBh.out.mono HBa.out.size)).size))
            clear b9
            go_wp2_with fail
            go_ret
            exact ⟨by rw [hT.out]; rfl, HB9.out⟩
          | false =>
            rw [hR] at HE
            have hno2 : Hid (∀ j, j < i + 1 → R j = false) := Lib.hid (fun j hj => by
              by_cases hjm : j = i
              · rw [hjm]; exact hR
              · exact hno.out j (by omega))
            clear hR hno
            go_wp2_with fail
            refine HE.out.mono ?_
            rintro e w9 ⟨u9, rfl, -, -, b9⟩
            have HB9 := Lib.hid (HBh.out.trans (b9.mono HBh.out.size))
            clear b9
            go_wp2_with fail
            go_roundg (n + 1 - (i + 1))
            case measure => omega
            case rel => exact ⟨i + 1, by omega, rfl, by go_num, hno2, HB9.out⟩
    · obtain rfl : m = n + 1 := by omega
      have ql : ¬ ((n : Int) + 1 ≤ (n : Int)) := by omega
      have hF : Hid (fb = false) := Lib.hid (by
        cases hf : fb
        · rfl
        · obtain ⟨j, hj, hr⟩ := HFr.out.1 hf
          rw [hno.out j (by omega)] at hr
          cases hr)
      have HBm := Lib.hid hbm
      clear hno hbm
      go_wp2_with fail
      go_ret
      exact ⟨by rw [hF.out]; rfl, HBa.out.trans (HBm.out.mono HBa.out.size)⟩
end Go.Proofs.YtlcpbfklnjlgnaaGreatDoor

namespace Go.Proofs.YtlcpbfklnjlgnaaGreatDoor
open Go.RowKit Go.Extern.Stop Go.Stop Go.Extern

theorem front_any (ks : List Int) (top : Int) (c : List (Int × Int)) (vk vc : Value) (n k : Nat) (w : World) (hk : IntsAt w vk ks) (hc : OpsC w vc c) (hn : n ≤ c.length) (hcl : c.length ≤ 20) (hkl : ks.length ≤ 100)
    (h13 : 1 ≤ k ∧ k ≤ 3) (ht : kindI ks top = (k : Nat)) (hkn : ∀ o ∈ c.take n, knownB ks o = true) :
    Calls Tryz.prog 41 #[vk, .int .i64 top, vc, .int .i64 (n : Int)] w fun e w' => e = .returned (.bool (frontB k ((c.take n).map (opK ks)) n)) ∧ Below w.heap.size w w' := by
  have : k = 1 ∨ k = 2 ∨ k = 3 := by omega
  rcases this with rfl | rfl | rfl
  · exact front1_any ks top c vk vc n w hk hc hn hcl hkl ht hkn
  · exact front2_any ks top c vk vc n w hk hc hn hcl hkl ht hkn
  · exact front3_any ks top c vk vc n w hk hc hn hcl hkl ht hkn
def RCR (ks : List Int) (k : Nat) (c : List (Int × Int)) (w : World) (g : Nat) (u : Value) (wr : World) : Prop :=
  ∃ i : Nat, i ≤ c.length ∧ g = c.length - i ∧ u = .int .i64 i ∧ rchkL ks k c c 0 = rchkL ks k c (c.drop i) i ∧ (∀ o ∈ c.take i, knownB ks o = true) ∧ Below w.heap.size w wr
theorem rchkL_cons (ks : List Int) (k : Nat) (c : List (Int × Int)) (o : Int × Int) (r : List (Int × Int)) (i : Nat) : rchkL ks k c (o :: r) i =
    if knownB ks o = true then (if frontB k ((c.take (i + 1)).map (opK ks)) (i + 1) = true then rchkL ks k c r (i + 1) else (9, (i : Int))) else (2, (i : Int)) := rfl
set_option maxRecDepth 100000 in
set_option maxHeartbeats 8000000 in
theorem rCheck_any (ks : List Int) (top : Int) (c : List (Int × Int)) (vk vc : Value) (w : World) (hk : IntsAt w vk ks) (hc : OpsC w vc c) (hcl : c.length ≤ 20) (hkl : ks.length ≤ 100) :
    Calls Tryz.prog 21 #[vk, .int .i64 top, vc] w fun e w' => e = .returned (.tuple #[.int .i64 (rchkE ks top c).1, .int .i64 (rchkE ks top c).2]) ∧ Below w.heap.size w w' := by
  have HK := Lib.hid hk
  have HC := Lib.hid hc
  obtain ⟨ac, capc, rfl⟩ := hc.1.form
  have hkr := kindI_range ks top
  obtain ⟨k, hkt⟩ := Int.eq_ofNat_of_zero_le hkr.1
  have HKt := Lib.hid ((rkind_any ks vk top w hk).mono fun _ w2 h => (⟨h.1, h.2.symm⟩ : _ ∧ w = w2))
  rw [hkt] at HKt
  clear hk hc
  by_cases h0 : k = 0
  · subst h0
    have hE : Hid (rchkE ks top c = (2, -1)) := Lib.hid (by unfold rchkE; rw [if_pos (by simpa using hkt)])
    clear hkt hkr
    go_enter Tryz.func21, Tryz.ntmps21
    go_wp2_with fail
    refine HKt.out.mono ?_
    rintro e w1 ⟨rfl, rfl⟩
    go_wp2_with fail
    refine bodyPost_ret (v := .tuple #[.int .i64 2, .int .i64 (-1)]) (by simp [results, Tryz.f21, go_sem]) rfl ?_
    exact ⟨by rw [hE.out], Below.refl _ _⟩
  have q0 : ((k : Int) == 0) = false := by rw [beq_eq_false_iff_ne]; omega
  by_cases h8 : 8 < c.length
  · have q8 : (8 : Int) < c.length := by omega
    have hE : Hid (rchkE ks top c = (6, 8)) := Lib.hid (by unfold rchkE; rw [if_neg (by rw [hkt]; omega), if_pos h8])
    clear hkt hkr
    go_enter Tryz.func21, Tryz.ntmps21
    go_wp2_with fail
    refine HKt.out.mono ?_
    rintro e w1 ⟨rfl, rfl⟩
    go_wp2_with fail
    refine bodyPost_ret (v := .tuple #[.int .i64 6, .int .i64 8]) (by simp [results, Tryz.f21, go_sem]) rfl ?_
    exact ⟨by rw [hE.out], Below.refl _ _⟩
  have q8 : ¬ (8 : Int) < c.length := by omega
  have HE : Hid (rchkE ks top c = rchkL ks k c c 0) := Lib.hid (by unfold rchkE; rw [if_neg (by rw [hkt]; omega), if_neg h8, hkt, Int.toNat_natCast])
  have h13 : 1 ≤ k ∧ k ≤ 3 := by omega
  have HFr := Lib.hid (fun (n : Nat) (w' : World) (hn : n ≤ c.length) (hkn : ∀ o ∈ c.take n, knownB ks o = true) (hb : Below w.heap.size w w') => front_any ks top c vk _ n k w' (HK.out.step hb) (HC.out.step hb) hn hcl hkl h13 hkt hkn)
  have H0 : Hid (RCR ks k c w c.length (.int .i64 0) w) := Lib.hid ⟨0, Nat.zero_le _, by omega, rfl, rfl, by simp, Below.refl _ _⟩
  clear hkt hkr h0
  go_enter Tryz.func21, Tryz.ntmps21
  go_wp2_with fail
  refine HKt.out.mono ?_
  rintro e w1 ⟨rfl, rfl⟩
  go_wp2_with fail
  go_loopg [19] c.length (fun g u wr => RCR ks k c w g u wr)
  case atStart => exact H0.out
  case round =>
    obtain ⟨i, hi, hgi, rfl, hchk, hkns, hb⟩ := hrel
    have HB := Lib.hid hb
    by_cases hlt : i < c.length
    · obtain ⟨o, ho⟩ : ∃ o, c[i]? = some o := ⟨_, List.getElem?_eq_getElem hlt⟩
      obtain ⟨b, off, rfl, p0, p1⟩ := HC.out.1.at ho hb
      have hdrop : c.drop i = o :: c.drop (i + 1) := by
        obtain ⟨hi', rfl⟩ := List.getElem?_eq_some_iff.1 ho
        exact List.drop_eq_getElem_cons hi'
      have htake : c.take (i + 1) = c.take i ++ [o] := by rw [List.take_add_one, ho]; rfl
      rw [hdrop, rchkL_cons] at hchk
      obtain ⟨o1, o2⟩ := o
      have hb1 := below_new wr (.cells #[.int .i64 o1, .int .i64 o2] 94)
      have hB1 := hb.trans (hb1.mono hb.size)
      have HB1 := Lib.hid hB1
      obtain ⟨lk, hlk⟩ : ∃ lk, KV ks o2 lk := ⟨_, rfl⟩
      have HKl := Lib.hid (rkind_kv ks vk o2 lk _ (HK.out.step hB1) hlk)
      have e1 : o1 = 1 → knownB ks (o1, o2) = true := fun h => by unfold knownB; rw [if_pos h]
      have e2 : (o1 = 2 ∨ o1 = 3) → knownB ks (o1, o2) = decide (lk ≠ 0) := fun h => by
        unfold knownB
        simp only
        rw [if_neg (by omega), if_pos h, show kindI ks o2 = lk from hlk]
      have e3 : (o1 < 1 ∨ 3 < o1) → knownB ks (o1, o2) = false := fun h => by
        unfold knownB
        simp only
        rw [if_neg (by omega), if_neg (by omega)]
      have HBad : Hid (knownB ks (o1, o2) = false → rchkE ks top c = (2, (i : Int))) := Lib.hid (fun h => by rw [HE.out, hchk, h]; rfl)
      have HGood : Hid (knownB ks (o1, o2) = true → rchkL ks k c c 0 = if frontB k ((c.take (i + 1)).map (opK ks)) (i + 1) = true then rchkL ks k c (c.drop (i + 1)) (i + 1) else (9, (i : Int))) := Lib.hid (fun h => by rw [hchk, h, if_pos rfl])
      have HKn : Hid (knownB ks (o1, o2) = true → ∀ x ∈ c.take (i + 1), knownB ks x = true) := Lib.hid (fun h x hx => by
        rw [htake, List.mem_append, List.mem_singleton] at hx
        rcases hx with hx | rfl
        · exact hkns x hx
        · exact h)
      clear hchk hkns hdrop htake ho hb hb1 hB1
      by_cases ha : o1 < 1
      · have hE := HBad.out (e3 (.inl ha))
        have HE2 := Lib.hid hE
        clear hE e1 e2 e3
        go_wp2_with fail
        refine bodyPost_ret (v := .tuple #[.int .i64 2, .int .i64 (i : Int)]) (by simp [results, Tryz.f21, go_sem]) rfl ?_
        exact ⟨by rw [HE2.out], HB1.out⟩
      by_cases hb' : 3 < o1
      · have hE := HBad.out (e3 (.inr hb'))
        have HE2 := Lib.hid hE
        clear hE e1 e2 e3
        go_wp2_with fail
        refine bodyPost_ret (v := .tuple #[.int .i64 2, .int .i64 (i : Int)]) (by simp [results, Tryz.f21, go_sem]) rfl ?_
        exact ⟨by rw [HE2.out], HB1.out⟩
      by_cases h1 : o1 = 1
      · subst h1
        have hk1 := e1 rfl
        have HG := Lib.hid (HGood.out hk1)
        have HKs := Lib.hid (HKn.out hk1)
        clear e1 e2 e3 hk1
        have HFn := Lib.hid (HFr.out (i + 1) _ (by omega) HKs.out HB1.out)
        obtain ⟨fb, hfb⟩ : ∃ fb, frontB k ((c.take (i + 1)).map (opK ks)) (i + 1) = fb := ⟨_, rfl⟩
        rw [hfb] at HFn HG
        clear hfb
        have ecast : ((i + 1 : Nat) : Int) = (i : Int) + 1 := by omega
        rw [ecast] at HFn
        go_wp2_with fail
        refine HFn.out.mono ?_
        rintro e w5 ⟨rfl, b5⟩
        have HB5 := Lib.hid (HB1.out.trans (b5.mono HB1.out.size))
        clear b5 HFn
        cases fb with
        | false =>
          have hE : Hid (rchkE ks top c = (9, (i : Int))) := Lib.hid (by rw [HE.out, HG.out]; rfl)
          go_wp2_with fail
          refine bodyPost_ret (v := .tuple #[.int .i64 9, .int .i64 (i : Int)]) (by simp [results, Tryz.f21, go_sem]) rfl ?_
          exact ⟨by rw [hE.out], HB5.out⟩
        | true =>
          go_wp2_with fail
          go_roundg (c.length - (i + 1))
          case measure => omega
          case rel => exact ⟨i + 1, by omega, rfl, by go_num, by rw [HG.out]; rfl, HKs.out, HB5.out⟩
      by_cases h2 : o1 = 2
      · subst h2
        by_cases hz : lk = 0
        · subst hz
          have hE := HBad.out (by rw [e2 (by omega)]; rfl)
          have HE2 := Lib.hid hE
          clear hE e1 e2 e3
          go_wp2_with fail
          refine HKl.out.mono ?_
          rintro e w4 ⟨rfl, rfl⟩
          go_wp2_with fail
          refine bodyPost_ret (v := .tuple #[.int .i64 2, .int .i64 (i : Int)]) (by simp [results, Tryz.f21, go_sem]) rfl ?_
          exact ⟨by rw [HE2.out], HB1.out⟩
        have hk1 : knownB ks (2, o2) = true := by rw [e2 (by omega)]; simp [hz]
        have qz : (lk == 0) = false := by simpa using hz
        have HG := Lib.hid (HGood.out hk1)
        have HKs := Lib.hid (HKn.out hk1)
        clear e1 e2 e3 hk1
        have HFn := Lib.hid (HFr.out (i + 1) _ (by omega) HKs.out HB1.out)
        obtain ⟨fb, hfb⟩ : ∃ fb, frontB k ((c.take (i + 1)).map (opK ks)) (i + 1) = fb := ⟨_, rfl⟩
        rw [hfb] at HFn HG
        clear hfb
        have ecast : ((i + 1 : Nat) : Int) = (i : Int) + 1 := by omega
        rw [ecast] at HFn
        go_wp2_with fail
        refine HKl.out.mono ?_
        rintro e w4 ⟨rfl, rfl⟩
        go_wp2_with fail
        refine HFn.out.mono ?_
        rintro e w5 ⟨rfl, b5⟩
        have HB5 := Lib.hid (HB1.out.trans (b5.mono HB1.out.size))
        clear b5 HFn
        cases fb with
        | false =>
          have hE : Hid (rchkE ks top c = (9, (i : Int))) := Lib.hid (by rw [HE.out, HG.out]; rfl)
          go_wp2_with fail
          refine bodyPost_ret (v := .tuple #[.int .i64 9, .int .i64 (i : Int)]) (by simp [results, Tryz.f21, go_sem]) rfl ?_
          exact ⟨by rw [hE.out], HB5.out⟩
        | true =>
          go_wp2_with fail
          go_roundg (c.length - (i + 1))
          case measure => omega
          case rel => exact ⟨i + 1, by omega, rfl, by go_num, by rw [HG.out]; rfl, HKs.out, HB5.out⟩
      obtain rfl : o1 = 3 := by omega
      by_cases hz : lk = 0
      · subst hz
        have hE := HBad.out (by rw [e2 (by omega)]; rfl)
        have HE2 := Lib.hid hE
        clear hE e1 e2 e3
        go_wp2_with fail
        refine HKl.out.mono ?_
        rintro e w4 ⟨rfl, rfl⟩
        go_wp2_with fail
        refine bodyPost_ret (v := .tuple #[.int .i64 2, .int .i64 (i : Int)]) (by simp [results, Tryz.f21, go_sem]) rfl ?_
        exact ⟨by rw [HE2.out], HB1.out⟩
      have hk1 : knownB ks (3, o2) = true := by rw [e2 (by omega)]; simp [hz]
      have qz : (lk == 0) = false := by simpa using hz
      have HG := Lib.hid (HGood.out hk1)
      have HKs := Lib.hid (HKn.out hk1)
      clear e1 e2 e3 hk1
      have HFn := Lib.hid (HFr.out (i + 1) _ (by omega) HKs.out HB1.out)
      obtain ⟨fb, hfb⟩ : ∃ fb, frontB k ((c.take (i + 1)).map (opK ks)) (i + 1) = fb := ⟨_, rfl⟩
      rw [hfb] at HFn HG
      clear hfb
      have ecast : ((i + 1 : Nat) : Int) = (i : Int) + 1 := by omega
      rw [ecast] at HFn
      go_wp2_with fail
      refine HKl.out.mono ?_
      rintro e w4 ⟨rfl, rfl⟩
      go_wp2_with fail
      refine HFn.out.mono ?_
      rintro e w5 ⟨rfl, b5⟩
      have HB5 := Lib.hid (HB1.out.trans (b5.mono HB1.out.size))
      clear b5 HFn
      cases fb with
      | false =>
        have hE : Hid (rchkE ks top c = (9, (i : Int))) := Lib.hid (by rw [HE.out, HG.out]; rfl)
        go_wp2_with fail
        refine bodyPost_ret (v := .tuple #[.int .i64 9, .int .i64 (i : Int)]) (by simp [results, Tryz.f21, go_sem]) rfl ?_
        exact ⟨by rw [hE.out], HB5.out⟩
      | true =>
        go_wp2_with fail
        go_roundg (c.length - (i + 1))
        case measure => omega
        case rel => exact ⟨i + 1, by omega, rfl, by go_num, by rw [HG.out]; rfl, HKs.out, HB5.out⟩
    · obtain rfl : i = c.length := by omega
      have hE : Hid (rchkE ks top c = (0, 0)) := Lib.hid (by rw [HE.out, hchk, List.drop_length]; rfl)
      clear hchk hkns hb
      go_wp2_with fail
      refine bodyPost_ret (v := .tuple #[.int .i64 0, .int .i64 0]) (by simp [results, Tryz.f21, go_sem]) rfl ?_
      exact ⟨by rw [hE.out], HB.out⟩

end Go.Proofs.YtlcpbfklnjlgnaaGreatDoor
