/-
  The document's own answers for layer 7, by contract, second part: the rising lists that it makes.
-/
import Derived.Test.YtplfnhnipdfglaaDoorBitK
namespace Go.Proofs.YtplfnhnipdfglaaDoor
open Go.RowKit Go.Extern.Stop Go.Stop Go.Extern

/-- One more list behind a list of the call's own, wherever it lies. -/
theorem run_append_ints (w : World) (base : Nat) (ty : TypeId) (v : Value) (n : Nat) (xs : List Value) (hown : w.ownsRow base 3 1 v n xs) (vx : Value) (l : List Int) (hv : IntsAt w vx l) (hn : n + l.length ≤ 1000000) (hbase : base ≤ w.heap.size) :
    ∃ v' w', (Builtin.append_ #[22, 22] ty #[v, vx]).run Tryd.prog w = .ok v' w' ∧ w'.ownsRow base 3 1 v' (n + l.length) (xs ++ encI l) ∧ w.grownBy w' v.ownBlock := by
  obtain ⟨i0, hi, hz0, hz1, hz2⟩ := info_parts infoInt
  rcases hv with ⟨a, cap, rfl, rfl⟩ | ⟨b, off, cap, rfl, hb, hc⟩
  · rcases a with _ | a
    · refine ⟨v, w, ?_, by simpa [encI] using hown, World.grownBy.refl w _⟩
      rcases hown.2 with ⟨rfl, -⟩ | ⟨g, cp, cur, rfl, -, -, hle, -⟩
      · simp [Builtin.append_, run_underlying (show Tryd.prog.underlying 22 = some (.slice 3) from rfl), sizeOf, typeInfo, hi, Builtin.lenOf, Builtin.firstCells]
      · simp [Builtin.append_, run_underlying (show Tryd.prog.underlying 22 = some (.slice 3) from rfl), sizeOf, typeInfo, hi, Builtin.lenOf, Builtin.firstCells, hle, storeCells]
    · obtain ⟨v', w', h1, h2, h3, -⟩ := run_append_own (P := Tryd.prog) w base 22 ty 3 i0 (.int .i64 0) 1 8 rfl hi hz0 hz1 hz2 rfl (by decide) v n xs hown a 0 cap [] rfl (by intro j u hu; cases hu) (by intro u hu; cases hu) (by unfold maxLen; omega) (by omega) hbase
      exact ⟨v', w', h1, by simpa [encI] using h2, h3⟩
  · obtain ⟨v', w', h1, h2, h3, -⟩ := run_append_own (P := Tryd.prog) w base 22 ty 3 i0 (.int .i64 0) 1 8 rfl hi hz0 hz1 hz2 rfl (by decide) v n xs hown ⟨b, off, none⟩ l.length cap (encI l) (by simp [encI]) (by
      intro j u hu
      obtain ⟨c, hj, rfl⟩ : ∃ c, l[j]? = some c ∧ Value.int .i64 c = u := by simpa [encI] using hu
      have e0 : (⟨b, off, none⟩ : Addr).add j = ⟨b, off + j, none⟩ := by unfold Addr.add; split <;> simp_all
      rw [e0]
      exact hc j c hj) (encI_one l) (by unfold maxLen; omega) (by omega) hbase
    exact ⟨v', w', h1, h2, h3⟩
theorem wpList_append_ints {ops : Array Oper} {rest : List Oper} {o : Oper} {a : Act} {Q : Exit → Act → World → Prop} (w : World) (hgd : o.guard = none) (s x : Operand) (ho : o.op = .call { callee := .builtin .append, args := #[s, x], argTypes := #[22, 22] })
    (base : Nat) (v : Value) (n : Nat) (xs : List Value) (hs : a.eval s = v) (hown : w.ownsRow base 3 1 v n xs) (vx : Value) (l : List Int) (hx : a.eval x = vx) (hv : IntsAt w vx l) (hn : n + l.length ≤ 1000000) (hbase : base ≤ w.heap.size)
    (h : ∀ v' w', w'.ownsRow base 3 1 v' (n + l.length) (xs ++ encI l) → w.grownBy w' v.ownBlock → wpList Tryd.prog ops Q rest (a.put o.dst v') w') : wpList Tryd.prog ops Q (o :: rest) a w := by
  refine wpList_plain hgd fun K hK => ?_
  obtain ⟨v', w', h1, h2, h3⟩ := run_append_ints w base o.type v n xs hown vx l hv hn hbase
  unfold Oper.wp execOp
  simp only [ho, resolve, invoke, builtin, Sem.run_bind, Sem.run_pure, Result.andThen_ok, List.map_toArray, List.map_cons, List.map_nil, hs, hx, h1]
  exact hK _ _ (h v' w' h2 h3)
theorem encI_snoc (l : List Int) (x : Int) : encI (l ++ [x]) = encI l ++ encI [x] := by unfold encI; rw [List.map_append]
theorem ints_new (w : World) (x : Int) : IntsAt (w.alloc (.cells #[.int .i64 x] 3)) (.slice (some ⟨w.heap.size, 0, none⟩) 1 1) [x] := by
  refine .inr ⟨w.heap.size, 0, 1, rfl, by simp, fun i c hi => ?_⟩
  rcases i with _ | i
  · obtain rfl : x = c := by simpa using hi
    rw [Lib.cell_of_heap (heap_alloc_new w _)]
    rfl
  · simp at hi
theorem below_own {w w1 w2 : World} {v : Value} {n : Nat} {xs : List Value} (hb : Below w.heap.size w w1) (hown : w1.ownsRow w.heap.size 3 1 v n xs) (hg : w1.grownBy w2 v.ownBlock) : Below w.heap.size w w2 :=
  hb.grown hg hb.size (fun k' e => (hown.lt k' e).1)

def rofL (l : List Int) (k : Nat) : List Int := (firstN k).filter (hasL l)
theorem rofL_succ (l : List Int) (k : Nat) : rofL l (k + 1) = if hasL l k then rofL l k ++ [(k : Int)] else rofL l k := by
  unfold rofL
  rw [firstN_succ, List.filter_append]
  split <;> simp [*]
theorem rofL_len (l : List Int) (k : Nat) : (rofL l k).length ≤ k := Nat.le_trans (List.length_filter_le _ _) (by unfold firstN; simp)
def OfRow (w : World) (l : List Int) (g : Nat) (o i : Value) (wr : World) : Prop :=
  ∃ k : Nat, k ≤ 128 ∧ g = 128 - k ∧ i = .int .i64 k ∧ wr.ownsRow w.heap.size 3 1 o (rofL l k).length (encI (rofL l k)) ∧ Below w.heap.size w wr
set_option maxRecDepth 100000 in
set_option maxHeartbeats 2000000 in
theorem rof_any (l : List Int) (v : Value) (w : World) (hv : IntsAt w v l) (hl : l.length ≤ 100000) :
    Calls Tryd.prog 9 #[v] w fun e w' => ∃ u, e = .returned u ∧ w'.ownsRow w.heap.size 3 1 u (rofL l 128).length (encI (rofL l 128)) ∧ Below w.heap.size w w' := by
  have HV := Lib.hid hv
  have H0 : Hid (OfRow w l 128 (.slice none 0 0) (.int .i64 0) w) := Lib.hid ⟨0, Nat.zero_le _, rfl, rfl, World.ownsRow_nil _ _ _ _, Below.refl _ _⟩
  clear hv
  go_enter Tryd.func9, Tryd.ntmps9
  go_wp2_with fail
  go_loopg [3, 4] 128 (fun g o i wr => OfRow w l g o i wr)
  case atStart => exact H0.out
  case round =>
    obtain ⟨k, hk, hgk, rfl, hown, hb⟩ := hrel
    have HB := Lib.hid hb
    have HO := Lib.hid hown
    have hsz := hb.size
    have HC := Lib.hid (rhas_any l v (k : Int) wr (HV.out.step hb) hl)
    have HL := Lib.hid (rofL_succ l k)
    have hlen := rofL_len l k
    clear hb hown
    by_cases hlt : k < 128
    · cases hh : hasL l k with
      | true =>
        rw [hh] at HC HL
        clear hh
        go_wp2_with fail
        refine HC.out.mono ?_
        rintro e w3 ⟨rfl, rfl⟩
        clear HC
        go_wp2_with (at_builtin; refine wpList_append_ints _ rfl _ _ rfl w.heap.size _ _ _ rfl (HO.out.alloc _) _ [(k : Int)] rfl (ints_new wr k) (by simp; omega) (by simp; omega) ?_)
        intro v' w4 hown4 hgrow4
        have h5 : Hid (OfRow w l (128 - (k + 1)) v' (.int .i64 ((k : Int) + 1)) w4) := Lib.hid ⟨k + 1, by omega, rfl, by go_num, by
          have := HL.out
          rw [if_pos (by simp)] at this
          rw [this, encI_snoc]
          simpa using hown4, below_own (HB.out.alloc hsz _) (HO.out.alloc _) hgrow4⟩
        clear hown4 hgrow4 HO HB HL
        go_wp2_with fail
        go_roundg (128 - (k + 1))
        case measure => omega
        case rel => exact h5.out
      | false =>
        rw [hh] at HC HL
        clear hh
        go_wp2_with fail
        refine HC.out.mono ?_
        rintro e w3 ⟨rfl, rfl⟩
        clear HC
        go_wp2_with fail
        go_roundg (128 - (k + 1))
        case measure => omega
        case rel =>
          refine ⟨k + 1, by omega, rfl, by go_num, ?_, HB.out⟩
          have := HL.out
          rw [if_neg (by simp)] at this
          rw [this]
          exact HO.out
    · obtain rfl : k = 128 := by omega
      clear HC HL hlt
      go_wp2_with fail
      go_ret
      exact ⟨_, rfl, HO.out, HB.out⟩
def UpRow (w : World) (N : Nat) (g : Nat) (o i : Value) (wr : World) : Prop :=
  ∃ k : Nat, k ≤ N ∧ g = N - k ∧ i = .int .i64 k ∧ wr.ownsRow w.heap.size 3 1 o k (encI (firstN k)) ∧ Below w.heap.size w wr
set_option maxHeartbeats 1000000 in
theorem rupto_any (n : Int) (hn : -9223372036854775808 ≤ n ∧ n ≤ 9223372036854775807) (w : World) :
    Calls Tryd.prog 12 #[.int .i64 n] w fun e w' => ∃ u, e = .returned u ∧ w'.ownsRow w.heap.size 3 1 u (min n 128).toNat (encI (firstN (min n 128).toNat)) ∧ Below w.heap.size w w' := by
  obtain ⟨N, hN⟩ : ∃ N : Nat, N = (min n 128).toNat := ⟨_, rfl⟩
  rw [← hN]
  have hN1 : N ≤ 128 := by omega
  have HN := Lib.hid hN
  have H0 : Hid (UpRow w N N (.slice none 0 0) (.int .i64 0) w) := Lib.hid ⟨0, Nat.zero_le _, by omega, rfl, World.ownsRow_nil _ _ _ _, Below.refl _ _⟩
  clear hN
  go_enter Tryd.func12, Tryd.ntmps12
  go_wp2_with fail
  go_loopg [3, 4] N (fun g o i wr => UpRow w N g o i wr)
  case atStart => exact H0.out
  case round =>
    obtain ⟨k, hk, hgk, rfl, hown, hb⟩ := hrel
    have HB := Lib.hid hb
    have HO := Lib.hid hown
    have hsz := hb.size
    clear hb hown
    by_cases hlt : k < N
    · have h1 : decide ((k : Int) < n) = true := decide_eq_true (by have := HN.out; omega)
      have h2 : (k : Int) < 128 := by omega
      go_wp2_with (at_builtin; refine wpList_append_ints _ rfl _ _ rfl w.heap.size _ _ _ rfl (HO.out.alloc _) _ [(k : Int)] rfl (ints_new wr k) (by simp; omega) (by simp; omega) ?_)
      intro v' w4 hown4 hgrow4
      have h5 : Hid (UpRow w N (N - (k + 1)) v' (.int .i64 ((k : Int) + 1)) w4) := Lib.hid ⟨k + 1, by omega, rfl, by go_num, by
        rw [firstN_succ, encI_snoc]
        simpa [encI] using hown4, below_own (HB.out.alloc hsz _) (HO.out.alloc _) hgrow4⟩
      clear hown4 hgrow4 HO HB h1 h2
      go_wp2_with fail
      go_roundg (N - (k + 1))
      case measure => omega
      case rel => exact h5.out
    · obtain rfl : k = N := by omega
      by_cases h128 : k = 128
      · subst h128
        by_cases h1 : (128 : Int) < n
        · go_wp2_with fail
          go_ret
          exact ⟨_, rfl, HO.out, HB.out⟩
        · go_wp2_with fail
          go_ret
          exact ⟨_, rfl, HO.out, HB.out⟩
      · have h1 : decide ((k : Int) < n) = false := decide_eq_false (by have := HN.out; omega)
        go_wp2_with fail
        go_ret
        exact ⟨_, rfl, HO.out, HB.out⟩
theorem filt_snoc {l : List Int} {k : Nat} {x : Int} (p : Int → Bool) (h : l[k]? = some x) : (l.take (k + 1)).filter p = if p x then (l.take k).filter p ++ [x] else (l.take k).filter p := by
  rw [List.take_add_one, h, List.filter_append]
  split <;> simp [*]
def FiltRow (w : World) (l : List Int) (p : Int → Bool) (g : Nat) (o i : Value) (wr : World) : Prop :=
  ∃ k : Nat, k ≤ l.length ∧ g = l.length - k ∧ i = .int .i64 k ∧ wr.ownsRow w.heap.size 3 1 o ((l.take k).filter p).length (encI ((l.take k).filter p)) ∧ Below w.heap.size w wr
set_option maxHeartbeats 1000000 in
theorem rand_any (l m : List Int) (v u : Value) (w : World) (hv : IntsAt w v l) (hu : IntsAt w u m) (hl : l.length ≤ 100000) (hm : m.length ≤ 100000) :
    Calls Tryd.prog 22 #[v, u] w fun e w' => ∃ x, e = .returned x ∧ w'.ownsRow w.heap.size 3 1 x (l.filter (hasL m)).length (encI (l.filter (hasL m))) ∧ Below w.heap.size w w' := by
  obtain ⟨a, cap, rfl⟩ := hv.form
  have HV := Lib.hid hv
  have HU := Lib.hid hu
  have H0 : Hid (FiltRow w l (hasL m) l.length (.slice none 0 0) (.int .i64 0) w) := Lib.hid ⟨0, Nat.zero_le _, by omega, rfl, World.ownsRow_nil _ _ _ _, Below.refl _ _⟩
  clear hv hu
  go_enter Tryd.func22, Tryd.ntmps22
  go_wp2_with fail
  go_loopg [5, 10] l.length (fun g o i wr => FiltRow w l (hasL m) g o i wr)
  case atStart => exact H0.out
  case round =>
    obtain ⟨k, hk, hgk, rfl, hown, hb⟩ := hrel
    have HB := Lib.hid hb
    have HO := Lib.hid hown
    have hsz := hb.size
    by_cases hlt : k < l.length
    · obtain ⟨x, hx⟩ : ∃ x, l[k]? = some x := ⟨_, List.getElem?_eq_getElem hlt⟩
      obtain ⟨b, off, rfl, hcell⟩ := HV.out.at hx hb
      have HC := Lib.hid (rhas_any m u x wr (HU.out.step hb) hm)
      have HL := Lib.hid (filt_snoc (hasL m) hx)
      have hlen : ((l.take k).filter (hasL m)).length ≤ 100000 := Nat.le_trans (List.length_filter_le _ _) (by rw [List.length_take]; omega)
      clear hb hown hx
      cases hh : hasL m x with
      | true =>
        rw [hh] at HC HL
        clear hh
        go_wp2_with fail
        refine HC.out.mono ?_
        rintro e w3 ⟨rfl, rfl⟩
        clear HC
        go_wp2_with (at_builtin; refine wpList_append_ints _ rfl _ _ rfl w.heap.size _ _ _ rfl (HO.out.alloc _) _ [x] rfl (ints_new wr x) (by simp; omega) (by simp; omega) ?_)
        intro v' w4 hown4 hgrow4
        have h5 : Hid (FiltRow w l (hasL m) (l.length - (k + 1)) v' (.int .i64 ((k : Int) + 1)) w4) := Lib.hid ⟨k + 1, by omega, rfl, by go_num, by
          have := HL.out
          rw [if_pos (by simp)] at this
          rw [this, encI_snoc]
          simpa using hown4, below_own (HB.out.alloc hsz _) (HO.out.alloc _) hgrow4⟩
        clear hown4 hgrow4 HO HB HL
        go_wp2_with fail
        go_roundg (l.length - (k + 1))
        case measure => omega
        case rel => exact h5.out
      | false =>
        rw [hh] at HC HL
        clear hh
        go_wp2_with fail
        refine HC.out.mono ?_
        rintro e w3 ⟨rfl, rfl⟩
        clear HC
        go_wp2_with fail
        go_roundg (l.length - (k + 1))
        case measure => omega
        case rel =>
          refine ⟨k + 1, by omega, rfl, by go_num, ?_, HB.out⟩
          have := HL.out
          rw [if_neg (by simp)] at this
          rw [this]
          exact HO.out
    · obtain rfl : k = l.length := by omega
      rw [List.take_length] at HO
      clear hb hown
      go_wp2_with fail
      go_ret
      exact ⟨_, rfl, HO.out, HB.out⟩
set_option maxHeartbeats 1000000 in
theorem rless_any (l m : List Int) (v u : Value) (w : World) (hv : IntsAt w v l) (hu : IntsAt w u m) (hl : l.length ≤ 100000) (hm : m.length ≤ 100000) :
    Calls Tryd.prog 18 #[v, u] w fun e w' => ∃ x, e = .returned x ∧ w'.ownsRow w.heap.size 3 1 x (l.filter (fun x => !hasL m x)).length (encI (l.filter (fun x => !hasL m x))) ∧ Below w.heap.size w w' := by
  obtain ⟨a, cap, rfl⟩ := hv.form
  have HV := Lib.hid hv
  have HU := Lib.hid hu
  have H0 : Hid (FiltRow w l (fun x => !hasL m x) l.length (.slice none 0 0) (.int .i64 0) w) := Lib.hid ⟨0, Nat.zero_le _, by omega, rfl, World.ownsRow_nil _ _ _ _, Below.refl _ _⟩
  clear hv hu
  go_enter Tryd.func18, Tryd.ntmps18
  go_wp2_with fail
  go_loopg [5, 10] l.length (fun g o i wr => FiltRow w l (fun x => !hasL m x) g o i wr)
  case atStart => exact H0.out
  case round =>
    obtain ⟨k, hk, hgk, rfl, hown, hb⟩ := hrel
    have HB := Lib.hid hb
    have HO := Lib.hid hown
    have hsz := hb.size
    by_cases hlt : k < l.length
    · obtain ⟨x, hx⟩ : ∃ x, l[k]? = some x := ⟨_, List.getElem?_eq_getElem hlt⟩
      obtain ⟨b, off, rfl, hcell⟩ := HV.out.at hx hb
      have HC := Lib.hid (rhas_any m u x wr (HU.out.step hb) hm)
      have HL := Lib.hid (filt_snoc (fun x => !hasL m x) hx)
      have hlen : ((l.take k).filter (fun x => !hasL m x)).length ≤ 100000 := Nat.le_trans (List.length_filter_le _ _) (by rw [List.length_take]; omega)
      clear hb hown hx
      cases hh : hasL m x with
      | false =>
        rw [hh] at HC HL
        clear hh
        go_wp2_with fail
        refine HC.out.mono ?_
        rintro e w3 ⟨rfl, rfl⟩
        clear HC
        go_wp2_with (at_builtin; refine wpList_append_ints _ rfl _ _ rfl w.heap.size _ _ _ rfl (HO.out.alloc _) _ [x] rfl (ints_new wr x) (by simp; omega) (by simp; omega) ?_)
        intro v' w4 hown4 hgrow4
        have h5 : Hid (FiltRow w l (fun x => !hasL m x) (l.length - (k + 1)) v' (.int .i64 ((k : Int) + 1)) w4) := Lib.hid ⟨k + 1, by omega, rfl, by go_num, by
          have := HL.out
          rw [if_pos (by simp)] at this
          rw [this, encI_snoc]
          simpa using hown4, below_own (HB.out.alloc hsz _) (HO.out.alloc _) hgrow4⟩
        clear hown4 hgrow4 HO HB HL
        go_wp2_with fail
        go_roundg (l.length - (k + 1))
        case measure => omega
        case rel => exact h5.out
      | true =>
        rw [hh] at HC HL
        clear hh
        go_wp2_with fail
        refine HC.out.mono ?_
        rintro e w3 ⟨rfl, rfl⟩
        clear HC
        go_wp2_with fail
        go_roundg (l.length - (k + 1))
        case measure => omega
        case rel =>
          refine ⟨k + 1, by omega, rfl, by go_num, ?_, HB.out⟩
          have := HL.out
          rw [if_neg (by simp)] at this
          rw [this]
          exact HO.out
    · obtain rfl : k = l.length := by omega
      rw [List.take_length] at HO
      clear hb hown
      go_wp2_with fail
      go_ret
      exact ⟨_, rfl, HO.out, HB.out⟩
set_option maxHeartbeats 1000000 in
theorem ror_any (l m : List Int) (v u : Value) (w : World) (hv : IntsAt w v l) (hu : IntsAt w u m) (hl : l.length ≤ 10000) (hm : m.length ≤ 10000) :
    Calls Tryd.prog 16 #[v, u] w fun e w' => ∃ x, e = .returned x ∧ w'.ownsRow w.heap.size 3 1 x (rofL (l ++ m) 128).length (encI (rofL (l ++ m) 128)) ∧ Below w.heap.size w w' := by
  have HV := Lib.hid hv
  have HU := Lib.hid hu
  clear hv hu
  go_enter Tryd.func16, Tryd.ntmps16
  go_wp2_with (at_builtin; refine wpList_append_ints _ rfl _ _ rfl w.heap.size _ _ _ rfl (World.ownsRow_nil w _ _ _) _ l rfl HV.out (by omega) (Nat.le_refl _) ?_)
  intro v1 w1 hown1 hgrow1
  have hb1 : Below w.heap.size w w1 := below_own (Below.refl _ w) (World.ownsRow_nil w _ _ _) hgrow1
  have HB1 := Lib.hid hb1
  have HO1 := Lib.hid hown1
  have hsz := hb1.size
  clear hb1 hown1 hgrow1
  go_wp2_with (at_builtin; refine wpList_append_ints _ rfl _ _ rfl w.heap.size _ _ _ rfl HO1.out _ m rfl (HU.out.step HB1.out) (by omega) hsz ?_)
  intro v2 w2 hown2 hgrow2
  have hb2 : Below w.heap.size w w2 := below_own HB1.out HO1.out hgrow2
  have hi2 : IntsAt w2 v2 (l ++ m) := IntsAt.own (base := w.heap.size) (n := 0 + l.length + m.length) (by simpa [encI] using hown2) (by simp)
  have HC := Lib.hid (rof_any (l ++ m) v2 w2 hi2 (by simp; omega))
  have HB2 := Lib.hid hb2
  clear hb2 hi2 hown2 hgrow2 HB1 HO1
  go_wp2_with fail
  refine HC.out.mono ?_
  rintro e w3 ⟨x, rfl, hown3, hb3⟩
  have h6 : w3.ownsRow w.heap.size 3 1 x (rofL (l ++ m) 128).length (encI (rofL (l ++ m) 128)) := ⟨hown3.1, hown3.2.imp id (fun ⟨g, cap, cur, h1, h2, h3⟩ => ⟨g, cap, cur, h1, Nat.le_trans HB2.out.size h2, h3⟩)⟩
  have H6 := Lib.hid h6
  have H7 := Lib.hid (HB2.out.trans (hb3.mono HB2.out.size))
  clear h6 hown3 hb3
  go_wp2_with fail
  go_ret
  exact ⟨_, rfl, H6.out, H7.out⟩
end Go.Proofs.YtplfnhnipdfglaaDoor
