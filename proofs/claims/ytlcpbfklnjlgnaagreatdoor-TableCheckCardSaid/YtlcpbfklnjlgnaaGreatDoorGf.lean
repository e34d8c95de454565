/-
  The document's own answers for layer 7, by contract: rising lists; and whether two lists are the same.
  The document's own answers for layer 7, by contract, second part: the rising lists that it makes.
  The sets' own lists and the document's: the same; and whether a set is a list, by contract.
  Whether a set is a list, by contract.
-/
import Derived.Test.YtlcpbfklnjlgnaaGreatDoorGe
import Derived.Deep.AppendSrc
namespace Go.Proofs.YtlcpbfklnjlgnaaGreatDoor
open Go.RowKit Go.Extern.Stop Go.Stop Go.Extern

def hasL (l : List Int) (i : Int) : Bool := l.any fun x => decide (x = i)
def encI (l : List Int) : List Value := l.map (Value.int .i64)
theorem encI_one (l : List Int) : ∀ u ∈ encI l, u.oneCell' = true := by
  intro u hu
  obtain ⟨x, -, rfl⟩ := List.mem_map.1 hu
  rfl
theorem IntsAt.own {w : World} {base : Nat} {v : Value} {n : Nat} {l : List Int} (h : w.ownsRow base 3 1 v n (encI l)) (hn : n = l.length) : IntsAt w v l := by
  subst hn
  obtain ⟨h1, h2⟩ := h
  rcases h2 with ⟨rfl, h3⟩ | ⟨g, cap, cur, rfl, hg, hh, h3, h4, h5, h6⟩
  · exact .inl ⟨none, 0, rfl, List.eq_nil_of_length_eq_zero h3⟩
  · refine .inr ⟨g, 0, cap, rfl, (Array.getElem?_eq_some_iff.1 hh).1, fun i c hi => ?_⟩
    have e := congrArg (fun l => l[i]?) h6
    obtain ⟨hl, rfl⟩ := List.getElem?_eq_some_iff.1 hi
    simp [encI, hl] at e
    rw [Lib.cell_of_heap hh]
    simpa using e


def EqRelI (w : World) (l : List Int) (g : Nat) (v : Value) (wr : World) : Prop := ∃ k : Nat, k ≤ l.length ∧ g = l.length - k ∧ v = .int .i64 k ∧ Below w.heap.size w wr
set_option maxHeartbeats 1000000 in
theorem equalI_same (l : List Int) (v v' : Value) (w : World) (hv : IntsAt w v l) (hv' : IntsAt w v' l) (hl : l.length ≤ 100000) :
    Calls Tryz.prog 58 #[v, v'] w fun e w' => e = .returned (.bool true) ∧ Below w.heap.size w w' := by
  obtain ⟨a, cap, rfl⟩ := hv.form
  obtain ⟨a', cap', rfl⟩ := hv'.form
  have HV := Lib.hid hv
  have HV' := Lib.hid hv'
  have H0 : Hid (EqRelI w l l.length (.int .i64 0) w) := Lib.hid ⟨0, Nat.zero_le _, by omega, rfl, Below.refl _ _⟩
  clear hv hv'
  go_enter Tryz.func58, Tryz.ntmps58
  go_wp2_with fail
  go_loopg [13] l.length (fun g u wr => EqRelI w l g u wr)
  case atStart => exact H0.out
  case round =>
    obtain ⟨k, hk, hgk, rfl, hb⟩ := hrel
    have HB := Lib.hid hb
    clear hb
    by_cases hlt : k < l.length
    · obtain ⟨x, hx⟩ : ∃ x, l[k]? = some x := ⟨_, List.getElem?_eq_getElem hlt⟩
      obtain ⟨b, off, rfl, c1⟩ := HV.out.at hx HB.out
      obtain ⟨b', off', rfl, c2⟩ := HV'.out.at hx HB.out
      have j0 : (0 : Int) ≤ (k : Int) := by omega
      have j1 : (k : Int) < l.length := by omega
      clear hx
      go_wp2_with fail
      go_quiet (fail)
      go_wp2_with fail
      go_roundg (l.length - (k + 1))
      case measure => omega
      case rel => exact ⟨k + 1, by omega, rfl, by go_num, HB.out.trans ((below_drewN wr nq).mono HB.out.size)⟩
    · obtain rfl : k = l.length := by omega
      go_wp2_with fail
      go_ret
      exact ⟨rfl, HB.out⟩
end Go.Proofs.YtlcpbfklnjlgnaaGreatDoor

namespace Go.Proofs.YtlcpbfklnjlgnaaGreatDoor
open Go.RowKit Go.Extern.Stop Go.Stop Go.Extern

/-- One more list behind a list of the call's own, wherever it lies. -/
theorem run_append_ints (w : World) (base : Nat) (ty : TypeId) (v : Value) (n : Nat) (xs : List Value) (hown : w.ownsRow base 3 1 v n xs) (vx : Value) (l : List Int) (hv : IntsAt w vx l) (hn : n + l.length ≤ 1000000) (hbase : base ≤ w.heap.size) :
    ∃ v' w', (Builtin.append_ #[26, 26] ty #[v, vx]).run Tryz.prog w = .ok v' w' ∧ w'.ownsRow base 3 1 v' (n + l.length) (xs ++ encI l) ∧ w.grownBy w' v.ownBlock := by
  obtain ⟨i0, hi, hz0, hz1, hz2⟩ := info_parts infoInt
  rcases hv with ⟨a, cap, rfl, rfl⟩ | ⟨b, off, cap, rfl, hb, hc⟩
  · rcases a with _ | a
    · refine ⟨v, w, ?_, by simpa [encI] using hown, World.grownBy.refl w _⟩
      rcases hown.2 with ⟨rfl, -⟩ | ⟨g, cp, cur, rfl, -, -, hle, -⟩
      · simp [Builtin.append_, run_underlying Tryz.underlying26, sizeOf, typeInfo, hi, Builtin.lenOf, Builtin.firstCells]
      · simp [Builtin.append_, run_underlying Tryz.underlying26, sizeOf, typeInfo, hi, Builtin.lenOf, Builtin.firstCells, hle, storeCells]
    · obtain ⟨v', w', h1, h2, h3, -⟩ := run_append_own (P := Tryz.prog) w base 26 ty 3 i0 (.int .i64 0) 1 8 Tryz.underlying26 hi hz0 hz1 hz2 rfl (by decide) v n xs hown a 0 cap [] rfl (by intro j u hu; cases hu) (by intro u hu; cases hu) (by unfold maxLen; omega) (by omega) hbase
      exact ⟨v', w', h1, by simpa [encI] using h2, h3⟩
  · obtain ⟨v', w', h1, h2, h3, -⟩ := run_append_own (P := Tryz.prog) w base 26 ty 3 i0 (.int .i64 0) 1 8 Tryz.underlying26 hi hz0 hz1 hz2 rfl (by decide) v n xs hown ⟨b, off, none⟩ l.length cap (encI l) (by simp [encI]) (by
      intro j u hu
      obtain ⟨c, hj, rfl⟩ : ∃ c, l[j]? = some c ∧ Value.int .i64 c = u := by simpa [encI] using hu
      have e0 : (⟨b, off, none⟩ : Addr).add j = ⟨b, off + j, none⟩ := by unfold Addr.add; split <;> simp_all
      rw [e0]
      exact hc j c hj) (encI_one l) (by unfold maxLen; omega) (by omega) hbase
    exact ⟨v', w', h1, h2, h3⟩
theorem wpList_append_ints {ops : Array Oper} {rest : List Oper} {o : Oper} {a : Act} {Q : Exit → Act → World → Prop} (w : World) (hgd : o.guard = none) (s x : Operand) (ho : o.op = .call { callee := .builtin .append, args := #[s, x], argTypes := #[26, 26] })
    (base : Nat) (v : Value) (n : Nat) (xs : List Value) (hs : a.eval s = v) (hown : w.ownsRow base 3 1 v n xs) (vx : Value) (l : List Int) (hx : a.eval x = vx) (hv : IntsAt w vx l) (hn : n + l.length ≤ 1000000) (hbase : base ≤ w.heap.size)
    (h : ∀ v' w', w'.ownsRow base 3 1 v' (n + l.length) (xs ++ encI l) → w.grownBy w' v.ownBlock → wpList Tryz.prog ops Q rest (a.put o.dst v') w') : wpList Tryz.prog ops Q (o :: rest) a w := by
  refine wpList_plain hgd fun K hK => ?_
  obtain ⟨v', w', h1, h2, h3⟩ := run_append_ints w base o.type v n xs hown vx l hv hn hbase
  unfold Oper.wp execOp
  simp only [ho, resolve, invoke, builtin, Sem.run_bind, Sem.run_pure, Result.andThen_ok, List.map_toArray, List.map_cons, List.map_nil, hs, hx, h1]
  exact hK _ _ (h v' w' h2 h3)
theorem encI_snoc (l : List Int) (x : Int) : encI (l ++ [x]) = encI l ++ encI [x] := by unfold encI; rw [List.map_append]
theorem ints_new (w : World) (x : Int) : IntsAt (w.alloc (.cells #[.int .i64 x] 3)) (.slice (some ⟨w.heap.size, 0, none⟩) 1 1) [x] := by
  refine .inr ⟨w.heap.size, 0, 1, rfl, by simp, fun i c hi => ?_⟩
  rcases i with _ | i
  · obtain rfl : x = c := by simpa using hi
    rw [Lib.cell_of_heap (heap_alloc_new w _)]
    rfl
  · simp at hi
theorem below_own {w w1 w2 : World} {v : Value} {n : Nat} {xs : List Value} (hb : Below w.heap.size w w1) (hown : w1.ownsRow w.heap.size 3 1 v n xs) (hg : w1.grownBy w2 v.ownBlock) : Below w.heap.size w w2 :=
  hb.grown hg hb.size (fun k' e => (hown.lt k' e).1)

def rofL (l : List Int) (k : Nat) : List Int := (firstN k).filter (hasL l)
theorem rofL_succ (l : List Int) (k : Nat) : rofL l (k + 1) = if hasL l k then rofL l k ++ [(k : Int)] else rofL l k := by
  unfold rofL
  rw [firstN_succ, List.filter_append]
  split <;> simp [*]
theorem rofL_len (l : List Int) (k : Nat) : (rofL l k).length ≤ k := Nat.le_trans (List.length_filter_le _ _) (by unfold firstN; simp)
end Go.Proofs.YtlcpbfklnjlgnaaGreatDoor

namespace Go.Proofs.YtlcpbfklnjlgnaaGreatDoor
open Go.RowKit Go.Extern.Stop Go.Stop Go.Extern

def intsL (a b : Nat) : List Int := (setL a b).map Int.ofNat
theorem intsL_enc (a b : Nat) : encN (listN a b) = encI (intsL a b) := by
  unfold encN encI intsL
  rw [← listN_val, List.map_map, List.map_map]
  rfl
theorem intsL_len (a b : Nat) : (listN a b).length = (intsL a b).length := by
  unfold intsL
  rw [← listN_val, List.length_map, List.length_map]
theorem intsL_le (a b : Nat) : (intsL a b).length ≤ 128 := intsL_len a b ▸ listN_len a b
theorem intsL_eq (a b : Nat) : intsL a b = (firstN 128).filter fun i => hasB a b i.toNat := by
  unfold intsL firstN
  rw [setL_eq, List.filter_map]
  rfl
theorem firstN_mem {k : Nat} {i : Int} : i ∈ firstN k ↔ 0 ≤ i ∧ i < k := by
  unfold firstN
  rw [List.mem_map]
  constructor
  · rintro ⟨j, hj, rfl⟩
    have := List.mem_range.1 hj
    simp
    omega
  · rintro ⟨h0, h1⟩
    exact ⟨i.toNat, List.mem_range.2 (by omega), by simp; omega⟩
theorem hasL_iff (l : List Int) (i : Int) : hasL l i = true ↔ i ∈ l := by
  unfold hasL
  rw [List.any_eq_true]
  constructor
  · rintro ⟨x, hx, h⟩
    have : x = i := by simpa using h
    exact this ▸ hx
  · intro h
    exact ⟨i, h, by simp⟩
theorem hasL_ints (a b : Nat) (i : Int) : hasL (intsL a b) i = hasI a b i := by
  rw [Bool.eq_iff_iff, hasL_iff]
  unfold hasI intsL
  rw [List.mem_map]
  constructor
  · rintro ⟨j, hj, rfl⟩
    have := (setL_mem a b j).1 hj
    simp [this]
  · intro h
    have h' : 0 ≤ i ∧ hasB a b i.toNat = true := by simpa using h
    exact ⟨i.toNat, (setL_mem a b _).2 h'.2, by simp; omega⟩
theorem hasI_of_mem {i : Int} (h : i ∈ firstN 128) (a b : Nat) : hasI a b i = hasB a b i.toNat := by
  have := firstN_mem.1 h
  unfold hasI
  simp [this.1]
theorem rof_of (l : List Int) : rofL l 128 = intsL (ofS l).1 (ofS l).2 := by
  rw [intsL_eq]
  unfold rofL
  refine List.filter_congr fun i hi => ?_
  have h := firstN_mem.1 hi
  rw [hasB_ofS]
  unfold hasL
  rw [decide_eq_true (show i.toNat < 128 by omega), Bool.true_and]
  have e : ((i.toNat : Nat) : Int) = i := by omega
  congr 1
  funext x
  rw [e, decide_eq_decide]
  exact eq_comm
theorem rof_ints (a b : Nat) : rofL (intsL a b) 128 = intsL a b := by
  rw [intsL_eq a b]
  unfold rofL
  refine List.filter_congr fun i hi => ?_
  rw [← intsL_eq, hasL_ints, hasI_of_mem hi]
theorem hasL_append (l m : List Int) (i : Int) : hasL (l ++ m) i = (hasL l i || hasL m i) := by unfold hasL; rw [List.any_append]
theorem rof_or (a b c d : Nat) : rofL (intsL a b ++ intsL c d) 128 = intsL (a ||| c) (b ||| d) := by
  rw [intsL_eq (a ||| c)]
  unfold rofL
  refine List.filter_congr fun i hi => ?_
  rw [hasL_append, hasL_ints, hasL_ints, hasI_of_mem hi, hasI_of_mem hi, hasB_or]
theorem filt_and (a b c d : Nat) : (intsL a b).filter (hasL (intsL c d)) = intsL (a &&& c) (b &&& d) := by
  rw [intsL_eq a b, intsL_eq (a &&& c), List.filter_filter]
  refine List.filter_congr fun i hi => ?_
  rw [hasL_ints, hasI_of_mem hi, hasB_and, Bool.and_comm]
theorem filt_less {a b c d : Nat} (ha : U64 a) (hb : U64 b) (hc : U64 c) (hd : U64 d) : (intsL a b).filter (fun i => !hasL (intsL c d) i) = intsL (lessN a c) (lessN b d) := by
  rw [intsL_eq a b, intsL_eq (lessN a c), List.filter_filter]
  refine List.filter_congr fun i hi => ?_
  rw [hasL_ints, hasI_of_mem hi, hasB_less ha hb hc hd, Bool.and_comm]
theorem hasL_one (x i : Int) : hasL [x] i = decide (x = i) := by unfold hasL; simp
theorem hasB_one' {i : Int} (hi : i ∈ firstN 128) (x : Int) : hasB (oneW x).1 (oneW x).2 i.toNat = decide (x = i) := by
  have h := firstN_mem.1 hi
  rw [hasB_one, decide_eq_true (show i.toNat < 128 by omega), Bool.and_true, decide_eq_decide]
  have e : ((i.toNat : Nat) : Int) = i := by omega
  rw [e]
  exact eq_comm
theorem rof_with (a b : Nat) (x : Int) : rofL (intsL a b ++ [x]) 128 = intsL (a ||| (oneW x).1) (b ||| (oneW x).2) := by
  rw [intsL_eq (a ||| _)]
  unfold rofL
  refine List.filter_congr fun i hi => ?_
  rw [hasL_append, hasL_ints, hasL_one, hasI_of_mem hi, hasB_or, hasB_one' hi]
theorem filt_without {a b : Nat} (ha : U64 a) (hb : U64 b) (x : Int) : (intsL a b).filter (fun i => !hasL [x] i) = intsL (lessN a (oneW x).1) (lessN b (oneW x).2) := by
  rw [intsL_eq a b, intsL_eq (lessN a _), List.filter_filter]
  refine List.filter_congr fun i hi => ?_
  rw [hasL_one, hasB_less ha hb (oneW_u64 x).1 (oneW_u64 x).2, hasB_one' hi, Bool.and_comm]
theorem upto_ints (N : Nat) (hN : N ≤ 128) : firstN N = intsL (ofS (firstN N)).1 (ofS (firstN N)).2 := by
  rw [← rof_of]
  unfold rofL
  have e : (firstN 128).filter (hasL (firstN N)) = (firstN 128).filter (fun i : Int => decide (i < (N : Int))) := by
    refine List.filter_congr fun i hi => ?_
    have h := firstN_mem.1 hi
    rw [Bool.eq_iff_iff, hasL_iff, firstN_mem, decide_eq_true_iff]
    exact ⟨fun h => h.2, fun h' => ⟨h.1, h'⟩⟩
  rw [e]
  unfold firstN
  rw [List.filter_map]
  congr 1
  have e2 : ((fun i : Int => decide (i < (N : Int))) ∘ Int.ofNat) = fun j : Nat => decide (j < N) := by funext j; simp
  rw [e2]
  obtain ⟨d, hd⟩ : ∃ d, 128 = N + d := ⟨128 - N, by omega⟩
  rw [hd, List.range_add, List.filter_append, List.filter_eq_self.2 (by intro j hj; simpa using hj), List.filter_eq_nil_iff.2, List.append_nil]
  intro j hj
  obtain ⟨k, -, rfl⟩ := List.mem_map.1 hj
  simp
theorem intsL_nil {a b : Nat} (ha : U64 a) (hb : U64 b) : emptyB a b = decide ((intsL a b).length = 0) := by
  rw [Bool.eq_iff_iff, ext_zero ha hb, decide_eq_true_iff, List.length_eq_zero_iff, intsL, List.map_eq_nil_iff, List.eq_nil_iff_forall_not_mem]
  constructor
  · intro h i hi
    have := (setL_mem a b i).1 hi
    rw [h i] at this
    cases this
  · intro h i
    cases he : hasB a b i with
    | false => rfl
    | true => exact (h i ((setL_mem a b i).2 he)).elim
theorem under_less {a b c d : Nat} (ha : U64 a) (hb : U64 b) (hc : U64 c) (hd : U64 d) : sameB (a &&& c) (b &&& d) a b = emptyB (lessN a c) (lessN b d) := by
  rw [Bool.eq_iff_iff, ext_zero (U64.less _ ha) (U64.less _ hb), sameB, decide_eq_true_iff]
  constructor
  · rintro ⟨h1, h2⟩ i
    have := hasB_and a b c d i
    rw [h1, h2] at this
    rw [hasB_less ha hb hc hd]
    revert this
    cases hasB a b i <;> cases hasB c d i <;> simp
  · intro h
    refine set_ext (U64.and _ ha) (U64.and _ hb) ha hb fun i => ?_
    have := h i
    rw [hasB_less ha hb hc hd] at this
    rw [hasB_and]
    revert this
    cases hasB a b i <;> cases hasB c d i <;> simp
def firstOf (l : List Int) : Int := match l with
  | [] => -1
  | k :: _ => k
theorem firstI_eq (a b : Nat) : firstI a b = firstOf (intsL a b) := by
  unfold firstI intsL
  cases setL a b <;> rfl
end Go.Proofs.YtlcpbfklnjlgnaaGreatDoor

namespace Go.Proofs.YtlcpbfklnjlgnaaGreatDoor
open Go.RowKit Go.Extern.Stop Go.Stop Go.Extern

structure IsSt (w0 : World) (B a b : Nat) (v : Value) (L : List Int) (W : World) : Prop where
  set : SetAt W B a b
  ints : IntsAt W v L
  tab : TabB W
  below : Below w0.heap.size w0 W
theorem IsSt.step {w0 : World} {B a b : Nat} {v : Value} {L : List Int} {W W' : World} (h : IsSt w0 B a b v L W) (hb : Below W.heap.size W W') : IsSt w0 B a b v L W' :=
  ⟨h.set.step hb, h.ints.step hb, h.tab.below h.tab.lt hb, h.below.trans (hb.mono h.below.size)⟩
end Go.Proofs.YtlcpbfklnjlgnaaGreatDoor
