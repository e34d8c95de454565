/-
  Package ops by contracts, first part: rows of ops in memory; Pushes, Grows; the document's Count; what makes the document's ops of the program's.
  Package ops by contracts, second part: what a top may be for an op; an op done to a row of the call's own.
  Package ops by contracts, third part: an op done to a row of the call's own; slices.Clone and slices.Reverse at numbers, as far as Do asks.
  Package ops by contracts, fourth part: Do.
  The document's own Do, by contract.
-/
import Derived.Test.YtlcpbfklnjlgnaaGreatDoorGh
import Derived.Laws.OwnMore
import Derived.WalkSmall
import Derived.Test.YtlcpbfklnjlgnaaGreatDoorShelf
import Derived.Lib.OwnBridge
namespace Go.Proofs.YtlcpbfklnjlgnaaGreatDoor
open Go.RowKit Go.Extern.Stop Go.Stop Go.Extern

/-- A row of ops. -/
def OpsAt (w : World) (v : Value) (c : List (Int × Int)) : Prop :=
  (∃ a cap, v = .slice a 0 cap ∧ c = []) ∨ ∃ b off cap, v = .slice (some ⟨b, off, none⟩) c.length cap ∧ b < w.heap.size ∧
    ∀ i o, c[i]? = some o → w.cell? ⟨b, off + i * 2, none⟩ = some (.int .i64 o.1) ∧ w.cell? ⟨b, off + i * 2 + 1, none⟩ = some (.int .i64 o.2)
theorem OpsAt.form {w : World} {v : Value} {c : List (Int × Int)} (h : OpsAt w v c) : ∃ a cap, v = .slice a c.length cap := by
  rcases h with ⟨a, cap, rfl, rfl⟩ | ⟨b, off, cap, rfl, -⟩
  · exact ⟨a, cap, rfl⟩
  · exact ⟨_, cap, rfl⟩
theorem OpsAt.at {w w' : World} {a : Option Addr} {n cap : Nat} {c : List (Int × Int)} (h : OpsAt w (.slice a n cap) c) {i : Nat} {o : Int × Int} (hi : c[i]? = some o) (hb : Below w.heap.size w w') :
    ∃ b off, a = some ⟨b, off, none⟩ ∧ w'.cell? ⟨b, off + i * 2, none⟩ = some (.int .i64 o.1) ∧ w'.cell? ⟨b, off + i * 2 + 1, none⟩ = some (.int .i64 o.2) := by
  rcases h with ⟨a, cap, -, rfl⟩ | ⟨b, off, cap, e, hlt, hc⟩
  · simp at hi
  · injection e with e
    obtain ⟨h0, h1⟩ := hc i o hi
    exact ⟨b, off, e, (hb.cell (p := ⟨b, off + i * 2, none⟩) hlt).trans h0, (hb.cell (p := ⟨b, off + i * 2 + 1, none⟩) hlt).trans h1⟩
theorem OpsAt.step {w w' : World} {v : Value} {c : List (Int × Int)} (h : OpsAt w v c) (hb : Below w.heap.size w w') : OpsAt w' v c := by
  rcases h with h | ⟨b, off, cap, e, hlt, hc⟩
  · exact .inl h
  · exact .inr ⟨b, off, cap, e, Nat.lt_of_lt_of_le hlt hb.size, fun i o hi => ⟨(hb.cell (p := ⟨b, off + i * 2, none⟩) hlt).trans (hc i o hi).1, (hb.cell (p := ⟨b, off + i * 2 + 1, none⟩) hlt).trans (hc i o hi).2⟩⟩
theorem countI_take {c : List (Int × Int)} {i : Nat} {o : Int × Int} (h : c[i]? = some o) (k : Int) : countI (c.take (i + 1)) k = countI (c.take i) k + if o.1 = k then 1 else 0 := by
  rw [List.take_add_one, h, Option.toList_some, countI_append, countI_cons]
  rfl
/-- On the way through a row, counting. -/
def CountR (w : World) (c : List (Int × Int)) (f : Nat → Int) (g : Nat) (u n : Value) (wr : World) : Prop :=
  ∃ (i : Nat) (x : Int), i ≤ c.length ∧ g = c.length - i ∧ u = .int .i64 i ∧ n = .int .i64 x ∧ x = f i ∧ Below w.heap.size w wr
theorem countI_take_le (c : List (Int × Int)) (i : Nat) (k : Int) : countI (c.take i) k ≤ c.length := Nat.le_trans (countI_le _ _) (by rw [List.length_take]; omega)

/-! ### The document's ops -/
def opCells (c : List (Int × Int)) : List Value := c.flatMap fun o => [.int .i64 o.1, .int .i64 o.2]
theorem opCells_length (c : List (Int × Int)) : (opCells c).length = c.length * 2 := by unfold opCells; rw [List.length_flatMap]; simp; induction c with | nil => rfl | cons a c ih => simp [ih]; omega
theorem opCells_append (a b : List (Int × Int)) : opCells (a ++ b) = opCells a ++ opCells b := by unfold opCells; rw [List.flatMap_append]
theorem opCells_one (c : List (Int × Int)) : ∀ u ∈ opCells c, u.oneCell' = true := by
  intro u hu
  obtain ⟨o, -, ho⟩ := List.mem_flatMap.1 hu
  simp at ho
  rcases ho with rfl | rfl <;> rfl
theorem opCells_at : ∀ {c : List (Int × Int)} {i : Nat} {o : Int × Int}, c[i]? = some o → (opCells c)[i * 2]? = some (.int .i64 o.1) ∧ (opCells c)[i * 2 + 1]? = some (.int .i64 o.2)
  | [], _, _, h => by simp at h
  | a :: c, 0, o, h => by
    obtain rfl : a = o := by simpa using h
    exact ⟨rfl, rfl⟩
  | a :: c, i + 1, o, h => by
    have := opCells_at (c := c) (i := i) (o := o) (by simpa using h)
    have e : opCells (a :: c) = .int .i64 a.1 :: .int .i64 a.2 :: opCells c := rfl
    rw [e, show (i + 1) * 2 = i * 2 + 1 + 1 by omega]
    exact this
theorem OpsAt.own {w : World} {base : Nat} {T : TypeId} {v : Value} {n : Nat} {c : List (Int × Int)} (h : w.ownsRow base T 2 v n (opCells c)) (hn : n = c.length) : OpsAt w v c := by
  subst hn
  have hc := h
  obtain ⟨h1, h2⟩ := h
  rcases h2 with ⟨rfl, h3⟩ | ⟨g, cap, cur, rfl, hg, hh, h3, h4, h5, h6⟩
  · exact .inl ⟨none, 0, rfl, List.eq_nil_of_length_eq_zero h3⟩
  · refine .inr ⟨g, 0, cap, rfl, (Array.getElem?_eq_some_iff.1 hh).1, fun i o ho => ?_⟩
    obtain ⟨k0, k1⟩ := opCells_at ho
    have e0 : ∀ j, (⟨g, 0, none⟩ : Addr).add j = ⟨g, 0 + j, none⟩ := fun j => by unfold Addr.add; split <;> simp_all
    have a0 := hc.cells (g := g) rfl _ _ k0
    have a1 := hc.cells (g := g) rfl _ _ k1
    rw [e0] at a0 a1
    exact ⟨a0, by rw [Nat.add_assoc]; exact a1⟩
theorem infoROp : (Tryz.prog.info? 94).map (fun i => (i.zero, i.size, i.bytes)) = some (some (.agg #[.int .i64 0, .int .i64 0]), 2, 16) := by kernel_rfl
def ToR (w : World) (c : List (Int × Int)) (g : Nat) (u n : Value) (wr : World) : Prop :=
  ∃ i : Nat, i ≤ c.length ∧ g = c.length - i ∧ u = .int .i64 i ∧ wr.ownsRow w.heap.size 94 2 n i (opCells (c.take i)) ∧ Below w.heap.size w wr
set_option maxRecDepth 100000 in
set_option maxHeartbeats 2000000 in
theorem to_any (c : List (Int × Int)) (v : Value) (w : World) (hv : OpsAt w v c) (hl : c.length ≤ 10000) :
    Calls Tryz.prog 72 #[v] w fun e w' => ∃ u, e = .returned u ∧ w'.ownsRow w.heap.size 94 2 u c.length (opCells c) ∧ Below w.heap.size w w' := by
  obtain ⟨a, cap, rfl⟩ := hv.form
  obtain ⟨i0, hi, hz0, hz1, hz2⟩ := info_parts infoROp
  have HV := Lib.hid hv
  have H0 : Hid (ToR w c c.length (.int .i64 0) (.slice none 0 0) w) := Lib.hid ⟨0, Nat.zero_le _, by omega, rfl, World.ownsRow_nil _ _ _ _, Below.refl _ _⟩
  clear hv
  go_enter Tryz.func72, Tryz.ntmps72
  go_wp2_with fail
  go_loopg [8, 3] c.length (fun g u n wr => ToR w c g u n wr)
  case atStart => exact H0.out
  case round =>
    obtain ⟨i, hil, hgi, rfl, hown, hb⟩ := hrel
    have HB := Lib.hid hb
    have HO := Lib.hid hown
    by_cases hlt : i < c.length
    · obtain ⟨o, ho⟩ : ∃ o, c[i]? = some o := ⟨_, List.getElem?_eq_getElem hlt⟩
      obtain ⟨b, off, rfl, c0, c1⟩ := HV.out.at ho hb
      have HE : Hid (opCells (c.take (i + 1)) = opCells (c.take i) ++ opCells [o]) := Lib.hid (by rw [List.take_add_one, ho, Option.toList_some, opCells_append])
      have hsz := hb.size
      have HO2 : Hid (((wr.alloc (.cells #[.int .i64 o.1, .int .i64 o.2] 114)).alloc (.cells #[.int .i64 o.1, .int .i64 o.2] 94)).ownsRow w.heap.size 94 2 u3 i (opCells (c.take i))) := Lib.hid ((hown.alloc _).alloc _)
      have HB2 : Hid (Below w.heap.size w ((wr.alloc (.cells #[.int .i64 o.1, .int .i64 o.2] 114)).alloc (.cells #[.int .i64 o.1, .int .i64 o.2] 94))) := Lib.hid ((hb.alloc hb.size _).alloc (by simp; omega) _)
      have HN : Hid (((wr.alloc (.cells #[.int .i64 o.1, .int .i64 o.2] 114)).alloc (.cells #[.int .i64 o.1, .int .i64 o.2] 94)).heap[wr.heap.size + 1]? = some (.cells #[.int .i64 o.1, .int .i64 o.2] 94 (0, 0))) := Lib.hid (by
        have := heap_alloc_new (wr.alloc (.cells #[.int .i64 o.1, .int .i64 o.2] 114)) (.cells #[.int .i64 o.1, .int .i64 o.2] 94)
        rwa [World.size_alloc] at this)
      obtain ⟨o1, o2⟩ := o
      clear ho hb hown HB HO
      go_wp2_with (at_builtin; refine wpList_append_own _ rfl _ _ 69 rfl w.heap.size 94 i0 (.agg #[.int .i64 0, .int .i64 0]) 2 16 Tryz.underlying69 hi hz0 hz1 hz2 rfl (by decide) _ _ _ rfl HO2.out ⟨wr.heap.size + 1, 0, none⟩ 1 1 (opCells [(o1, o2)]) rfl rfl ?_ (opCells_one _) ?_ ?_ ?_ ?_)
      · intro j u hu
        first
        | exact hu
        | (have e0 : (⟨wr.heap.size + 1, 0, none⟩ : Addr).add j = ⟨wr.heap.size + 1, j, none⟩ := by unfold Addr.add; split <;> simp_all
           rw [e0, Lib.cell_of_heap HN.out, List.getElem?_toArray]
           exact hu)
      · unfold maxLen; omega
      · omega
      · (try simp only [World.size_alloc]); omega
      intro v4 w4 hown4 hgrow4 _
      have hB4 : Below w.heap.size w w4 := HB2.out.grown hgrow4 (by simp; omega) (fun k' e => (HO2.out.lt k' e).1)
      rw [← HE.out] at hown4
      have HN4 : Hid (ToR w c (c.length - (i + 1)) (.int .i64 ((i : Int) + 1)) v4 w4) := Lib.hid ⟨i + 1, by omega, rfl, by go_num, hown4, hB4⟩
      clear hown4 hgrow4 hB4 HO2 HB2 HN
      go_wp2_with fail
      go_roundg (c.length - (i + 1))
      case measure => omega
      case rel => exact HN4.out
    · obtain rfl : i = c.length := by omega
      rw [List.take_length] at HO
      clear hb hown
      go_wp2_with fail
      go_ret
      exact ⟨_, rfl, HO.out, HB.out⟩
end Go.Proofs.YtlcpbfklnjlgnaaGreatDoor

namespace Go.Proofs.YtlcpbfklnjlgnaaGreatDoor
open Go.RowKit Go.Extern.Stop Go.Stop Go.Extern

theorem ofS_one {k : Int} (hk : 0 ≤ k ∧ k ≤ 3) : ofS [k] = (oneK k, 0) := by
  have : k = 0 ∨ k = 1 ∨ k = 2 ∨ k = 3 := by omega
  rcases this with rfl | rfl | rfl | rfl <;> decide
theorem topsW_u64 {o lk : Int} (h : 0 ≤ lk ∧ lk ≤ 3) : U64 (topsW o lk) := by have := topsW_lt (o := o) h; unfold U64; omega
theorem topsW_o {o lk : Int} : (o = 1 → topsW o lk = 12) ∧ (o = 2 → topsW o lk = oneK lk) ∧ (o = 3 → topsW o lk = belowW lk) ∧ (o ≠ 1 → o ≠ 2 → o ≠ 3 → topsW o lk = 0) := by
  unfold topsW
  refine ⟨fun h => by rw [if_pos h], fun h => by rw [if_neg (by omega), if_pos h], fun h => by rw [if_neg (by omega), if_neg (by omega), if_pos h], fun h1 h2 h3 => by rw [if_neg h1, if_neg h2, if_neg h3]⟩
/-- A set laid anew in its own block. -/
theorem RW2.start (w : World) (o : Obj) : RW w (w.heap.size + 1) ((w.alloc o).alloc (.cells #[.int .u64 0, .int .u64 0] 56)) :=
  ⟨by have := boxed_set (w.alloc o) 0 0; rwa [World.size_alloc] at this, (below_new w _).trans ((below_new _ _).mono (below_new w _).size)⟩
set_option maxRecDepth 100000 in
set_option maxHeartbeats 4000000 in
theorem tops_any (ks : List Int) (vk : Value) (o l : Int) (w : World) (hk : IntsAt w vk ks) :
    Calls Tryz.prog 87 #[vk, .agg #[.int .i64 o, .int .i64 l]] w fun e w' => e = .returned (setV (topsW o (kindI ks l)) 0) ∧ Below w.heap.size w w' := by
  have HI := Lib.hid (RW2.start w (.cells #[.int .i64 o, .int .i64 l] 114))
  obtain ⟨k, hkv⟩ : ∃ k, KV ks l k := ⟨_, rfl⟩
  have HK := Lib.hid (kind_kv ks vk l k _ (hk.step HI.out.below) hkv)
  have hr := kindI_range ks l
  rw [show kindI ks l = k from hkv] at hr ⊢
  obtain ⟨t1, t2, t3, t4⟩ := topsW_o (o := o) (lk := k)
  clear hk hkv
  by_cases h1 : o = 1
  · rw [t1 h1]
    subst h1
    have hi := ints2 ((w.alloc (.cells #[.int .i64 1, .int .i64 l] 114)).alloc (.cells #[.int .u64 0, .int .u64 0] 56)) 2 3
    have HO := of_any [2, 3] _ _ hi (by simp)
    rw [ofS23, World.size_alloc, World.size_alloc] at HO
    have HB := Lib.hid (below_new ((w.alloc (.cells #[.int .i64 1, .int .i64 l] 114)).alloc (.cells #[.int .u64 0, .int .u64 0] 56)) (.cells #[.int .i64 2, .int .i64 3] 3))
    have HO := Lib.hid HO
    clear hi t1 t2 t3 t4 hr
    go_enter Tryz.func87, Tryz.ntmps87
    go_wp2_with fail
    refine HK.out.mono ?_
    rintro e w2 ⟨rfl, rfl⟩
    go_wp2_with fail
    refine HO.out.mono ?_
    rintro e w3 ⟨rfl, b3⟩
    have hI := (HI.out.step HB.out).step b3
    have r0 := hI.res.cells.1
    have r1 := hI.res.cells.2.1
    have r2 := hI.res.cells.2.2 0
    have r3 := hI.res.cells.2.2 1
    go_wp2_with fail
    refine bodyPost_ret (v := setV 12 0) (by simp [results, Tryz.f87, go_sem, r0, r1]) rfl ⟨rfl, ?_⟩
    exact (hI.below.setCell (p := ⟨w.heap.size + 1, 0, none⟩) (Nat.le_succ _) _).setCell (p := ⟨w.heap.size + 1, 1, none⟩) (Nat.le_succ _) _
  by_cases h2 : o = 2
  · rw [t2 h2]
    subst h2
    have hi := ints_new ((w.alloc (.cells #[.int .i64 2, .int .i64 l] 114)).alloc (.cells #[.int .u64 0, .int .u64 0] 56)) k
    have HO := of_any [k] _ _ hi (by simp)
    rw [ofS_one hr, World.size_alloc, World.size_alloc] at HO
    have HB := Lib.hid (below_new ((w.alloc (.cells #[.int .i64 2, .int .i64 l] 114)).alloc (.cells #[.int .u64 0, .int .u64 0] 56)) (.cells #[.int .i64 k] 3))
    have HO := Lib.hid HO
    generalize oneK k = x at *
    clear hi t1 t2 t3 t4 hr
    go_enter Tryz.func87, Tryz.ntmps87
    go_wp2_with fail
    refine HK.out.mono ?_
    rintro e w2 ⟨rfl, rfl⟩
    go_wp2_with fail
    refine HO.out.mono ?_
    rintro e w3 ⟨rfl, b3⟩
    have hI := (HI.out.step HB.out).step b3
    have r0 := hI.res.cells.1
    have r1 := hI.res.cells.2.1
    have r2 := hI.res.cells.2.2 0
    have r3 := hI.res.cells.2.2 1
    go_wp2_with fail
    refine bodyPost_ret (v := setV x 0) (by simp [results, Tryz.f87, go_sem, r0, r1]) rfl ⟨rfl, ?_⟩
    exact (hI.below.setCell (p := ⟨w.heap.size + 1, 0, none⟩) (Nat.le_succ _) _).setCell (p := ⟨w.heap.size + 1, 1, none⟩) (Nat.le_succ _) _
  by_cases h3 : o = 3
  · rw [t3 h3]
    subst h3
    have HO := Lib.hid (fun w' => onto_any k w')
    generalize belowW k = x at *
    clear t1 t2 t3 t4 hr
    go_enter Tryz.func87, Tryz.ntmps87
    go_wp2_with fail
    refine HK.out.mono ?_
    rintro e w2 ⟨rfl, rfl⟩
    go_wp2_with fail
    refine (HO.out _).mono ?_
    rintro e w3 ⟨rfl, b3⟩
    have hI := HI.out.step b3
    have r0 := hI.res.cells.1
    have r1 := hI.res.cells.2.1
    have r2 := hI.res.cells.2.2 0
    have r3 := hI.res.cells.2.2 1
    go_wp2_with fail
    refine bodyPost_ret (v := setV x 0) (by simp [results, Tryz.f87, go_sem, r0, r1]) rfl ⟨rfl, ?_⟩
    exact (hI.below.setCell (p := ⟨w.heap.size + 1, 0, none⟩) (Nat.le_succ _) _).setCell (p := ⟨w.heap.size + 1, 1, none⟩) (Nat.le_succ _) _
  rw [t4 h1 h2 h3]
  have q1 : (o == 1) = false := by simpa using h1
  have q2 : (o == 2) = false := by simpa using h2
  have q3 : (o == 3) = false := by simpa using h3
  have hI := HI.out
  have r0 := hI.res.cells.1
  have r1 := hI.res.cells.2.1
  have r2 := hI.res.cells.2.2 0
  have r3 := hI.res.cells.2.2 1
  clear h1 h2 h3 t1 t2 t3 t4 hr
  go_enter Tryz.func87, Tryz.ntmps87
  go_wp2_with fail
  refine HK.out.mono ?_
  rintro e w2 ⟨rfl, rfl⟩
  go_wp2_with fail
  refine bodyPost_ret (v := setV 0 0) (by simp [results, Tryz.f87, go_sem, r0, r1]) rfl ⟨rfl, ?_⟩
  exact hI.below
end Go.Proofs.YtlcpbfklnjlgnaaGreatDoor

namespace Go.Proofs.YtlcpbfklnjlgnaaGreatDoor
open Go.RowKit Go.Extern.Stop Go.Stop Go.Extern

theorem encI_rev (top : Int) (t : List Int) : encI (top :: t).reverse = encI t.reverse ++ [.int .i64 top] := by unfold encI; simp
theorem encI_length (l : List Int) : (encI l).length = l.length := by unfold encI; simp
theorem below_base {base : Nat} {w w1 w2 : World} {v : Value} {n : Nat} {xs : List Value} (hb : Below base w w1) (hz : base ≤ w1.heap.size) (hown : w1.ownsRow base 3 1 v n xs) (hg : w1.grownBy w2 v.ownBlock) : Below base w w2 :=
  hb.grown hg hz (fun k' e => (hown.lt k' e).1)
set_option maxRecDepth 100000 in
set_option maxHeartbeats 4000000 in
theorem done_any (o l top : Int) (t : List Int) (v : Value) (base : Nat) (w : World) (hown : w.ownsRow base 3 1 v (t.length + 1) (encI (top :: t).reverse)) (hz : base ≤ w.heap.size) (hl : t.length ≤ 100000) (ho : o = 1 ∨ o = 2 ∨ o = 3) :
    Calls Tryz.prog 88 #[v, .agg #[.int .i64 o, .int .i64 l]] w fun e w' => ∃ v', e = .returned v' ∧ w'.ownsRow base 3 1 v' (stepL o l (top :: t)).length (encI (stepL o l (top :: t)).reverse) ∧ Below base w w' := by
  obtain ⟨g, cap, rfl⟩ := ownsRow_succ hown
  have HB := Lib.hid ((Below.refl base w).alloc hz (.cells #[.int .i64 o, .int .i64 l] 114))
  have HO := Lib.hid (hown.alloc (.cells #[.int .i64 o, .int .i64 l] 114))
  have e1 : ((t.length + 1 : Nat) : Int) - 1 = (t.length : Int) := by omega
  have j1 : (t.length : Int) < ((t.length + 1 : Nat) : Int) := by omega
  have j2 : (t.length : Int) ≤ (cap : Int) := by
    rcases hown.2 with ⟨h, -⟩ | ⟨_, _, _, e, _, _, h, -⟩
    · cases h
    · injection e with _ _ e
      subst e
      omega
  have HL : Hid (g < w.heap.size ∧ base ≤ g) := Lib.hid (by have := hown.lt g rfl; exact ⟨this.2, this.1⟩)
  clear hown
  rcases ho with rfl | rfl | rfl
  · have HP : Hid ((w.alloc (.cells #[.int .i64 1, .int .i64 l] 114)).ownsRow base 3 1 (.slice (some ⟨g, 0, none⟩) t.length cap) t.length (encI t.reverse)) := Lib.hid (by
      have h := HO.out
      rw [encI_rev] at h
      exact ownsRow_pop (by rw [encI_length]; simp) h)
    generalize hn : t.length = n at *
    go_enter Tryz.func88, Tryz.ntmps88
    go_wp2_with fail
    go_ret
    refine ⟨_, rfl, ?_, HB.out⟩
    have e : (stepL 1 l (top :: t)) = t := rfl
    rw [e, hn]
    exact HP.out
  · have HS : Hid (((w.alloc (.cells #[.int .i64 2, .int .i64 l] 114)).setCell ⟨g, t.length, none⟩ (.int .i64 l)).ownsRow base 3 1 (.slice (some ⟨g, 0, none⟩) (t.length + 1) cap) (t.length + 1) (encI (l :: t).reverse)) := Lib.hid (by
      have h := (HO.out.stored t.length (.int .i64 l)).1
      rw [encI_rev] at h
      rw [encI_rev]
      have e : (encI t.reverse ++ [Value.int .i64 top]).set t.length (.int .i64 l) = encI t.reverse ++ [Value.int .i64 l] := by
        rw [List.set_append_right _ _ (by rw [encI_length]; simp)]
        simp [encI_length]
      rwa [e] at h)
    have HB2 := Lib.hid (HB.out.setCell (p := ⟨g, t.length, none⟩) HL.out.2 (.int .i64 l))
    have hc := HO.out.cellAt t.length (by omega)
    have hf := HO.out.frozenAt t.length
    have hc2 : (w.alloc (.cells #[.int .i64 2, .int .i64 l] 114)).cell? ⟨g, t.length, none⟩ = some (.int .i64 top) := by
      rw [hc, encI_rev, List.getElem?_append_right (by rw [encI_length]; simp)]
      simp [encI_length]
    have hcl : w.cell? ⟨g, t.length, none⟩ = some (.int .i64 top) := by
      rw [← hc2]
      exact ((below_new w _).cell (p := ⟨g, t.length, none⟩) HL.out.1).symm
    clear hc
    generalize hn : t.length = n at *
    go_enter Tryz.func88, Tryz.ntmps88
    go_wp2_with fail
    go_ret
    refine ⟨_, rfl, ?_, HB2.out⟩
    have e : (stepL 2 l (top :: t)) = l :: t := rfl
    rw [e, List.length_cons, hn]
    exact HS.out
  · have HO2 := Lib.hid (HO.out.alloc (.cells #[.int .i64 l] 3))
    have hn0 := ints_new (w.alloc (.cells #[.int .i64 3, .int .i64 l] 114)) l
    rw [World.size_alloc] at hn0
    have HN := Lib.hid hn0
    clear hn0
    have HZ := Lib.hid (Nat.le_trans hz HB.out.size)
    have HB2 := Lib.hid (HB.out.alloc HZ.out (.cells #[.int .i64 l] 3))
    go_enter Tryz.func88, Tryz.ntmps88
    go_wp2_with (at_builtin; refine wpList_append_ints _ rfl _ _ rfl base _ _ _ rfl HO2.out _ [l] rfl HN.out (by simp; omega) (by have := HZ.out; simp at this ⊢; omega) ?_)
    intro v4 w4 hown4 hgrow4
    have HB4 := Lib.hid (below_base HB2.out (by have := HZ.out; simp at this ⊢; omega) HO2.out hgrow4)
    have HO4 : Hid (w4.ownsRow base 3 1 v4 (stepL 3 l (top :: t)).length (encI (stepL 3 l (top :: t)).reverse)) := Lib.hid (by
      have e : (stepL 3 l (top :: t)) = l :: top :: t := rfl
      rw [e, encI_rev]
      simpa [encI] using hown4)
    clear hown4 hgrow4 HO2 HN HB2
    go_wp2_with fail
    go_ret
    exact ⟨_, rfl, HO4.out, HB4.out⟩

/-! ### Clone, Reverse -/
theorem cloneI_any (l : List Int) (v : Value) (w : World) (hv : IntsAt w v l) (hl : l.length ≤ 1000000) :
    Calls Tryz.prog 85 #[v] w fun e w' => ∃ u, e = .returned u ∧ w'.ownsRow w.heap.size 3 1 u l.length (encI l) ∧ (0 < l.length → u ≠ .slice none 0 0) ∧ Below w.heap.size w w' := by
  rcases hv with ⟨a, cap, rfl, rfl⟩ | ⟨b, off, cap, rfl, hb, hc⟩
  · rcases a with _ | a
    · refine (Tryz.slices_Clone_int_nil 0 cap w).mono ?_
      rintro e w' ⟨rfl, rfl⟩
      exact ⟨_, rfl, World.ownsRow_nil _ _ _ _, by simp, Below.refl _ _⟩
    · refine (Tryz.slices_Clone_int_zero a cap w).mono ?_
      rintro e w' ⟨u, rfl, h1, h2, h3⟩
      exact ⟨u, rfl, h1, by simp, h3⟩
  · refine (Tryz.slices_Clone_int b off l.length cap l w (Nat.le_refl _) (by omega) (fun j hj => ?_)).mono ?_
    · rw [hc j _ (List.getElem?_eq_getElem hj), List.getD_eq_getElem?_getD, List.getElem?_eq_getElem hj]
      rfl
    · rintro e w' ⟨u, rfl, h1, h2, h3⟩
      rw [List.take_length] at h1
      exact ⟨u, rfl, h1, fun _ => h2, h3⟩
theorem revI_any (l : List Int) (v : Value) (n : Nat) (base : Nat) (w : World) (hown : w.ownsRow base 3 1 v n (encI l)) (hn : 0 < n) (hl : n ≤ 1000000) :
    Calls Tryz.prog 86 #[v] w fun e w' => e = .returned (.tuple #[]) ∧ w'.ownsRow base 3 1 v n (encI l.reverse) ∧ Below base w w' := by
  have hv : v ≠ .slice none 0 0 := by
    rintro rfl
    rcases hown.2 with ⟨-, h⟩ | ⟨_, _, _, e, -⟩
    · omega
    · cases e
  obtain ⟨g, cap, rfl, hbg, hlt, hnc, hcm, hzl, hH⟩ := Lib.holds_of_ownsRow hown hv
  have hr := Tryz.slices_Reverse_int g 0 cap l w hH (by omega)
  rw [hzl] at hr
  refine hr.mono ?_
  rintro e w' ⟨rfl, q, rfl⟩
  have h := Lib.ownsRow_putRow (q := q) (ys := l.reverse) hown (by simpa using hzl) (Nat.le_refl n)
  rw [List.take_of_length_le (by simp; omega)] at h
  exact ⟨rfl, h, Lib.below_putRow (Below.refl _ _) hbg⟩
end Go.Proofs.YtlcpbfklnjlgnaaGreatDoor

namespace Go.Proofs.YtlcpbfklnjlgnaaGreatDoor
open Go.RowKit Go.Extern.Stop Go.Stop Go.Extern

theorem has_tops {o lk t : Int} (hk : 0 ≤ lk ∧ lk ≤ 3) (ht : 1 ≤ t ∧ t ≤ 3) : hasI (topsW o lk) 0 t = topsB o lk t := by
  obtain ⟨n, rfl⟩ := Int.eq_ofNat_of_zero_le (show 0 ≤ t by omega)
  unfold hasI hasB
  rw [Int.toNat_natCast, if_pos (by omega), topsW_bit hk (by omega)]
  simp
theorem doL_cons (ks : List Int) (o : Int × Int) (c : List (Int × Int)) (top : Int) (t : List Int) :
    doL ks (o :: c) (top :: t) = if topsB o.1 (kindI ks o.2) (kindI ks top) = true then doL ks c (stepL o.1 o.2 (top :: t)) else none := rfl
/-- What comes of a chain. -/
def DoPost (ks h : List Int) (c : List (Int × Int)) (w : World) (e : Ending) (w' : World) : Prop :=
  ∃ u, e = .returned (.tuple #[u, .bool (doO ks h c).isSome]) ∧ (∀ x, doO ks h c = some x → w'.ownsRow w.heap.size 3 1 u x.length (encI x)) ∧ (doO ks h c = none → u = .slice none 0 0) ∧ Below w.heap.size w w'
def DR (ks h : List Int) (c : List (Int × Int)) (w : World) (g : Nat) (u lab : Value) (wr : World) : Prop :=
  ∃ (i : Nat) (x : List Int), i ≤ c.length ∧ g = c.length - i ∧ u = .int .i64 i ∧ validH ks x = true ∧ doL ks c h = doL ks (c.drop i) x ∧ x.length ≤ h.length + i ∧ wr.ownsRow w.heap.size 3 1 lab x.length (encI x.reverse) ∧ Below w.heap.size w wr
theorem stepL_len (o l : Int) (h : List Int) : (stepL o l h).length ≤ h.length + 1 := by
  unfold stepL
  split
  · rw [List.length_tail]; omega
  · split
    · rw [List.length_cons, List.length_tail]; omega
    · exact Nat.le_refl _
theorem own_mono {w : World} {base base' : Nat} {e : TypeId} {size : Nat} {v : Value} {n : Nat} {xs : List Value} (h : w.ownsRow base e size v n xs) (hb : base' ≤ base) : w.ownsRow base' e size v n xs :=
  ⟨h.1, h.2.imp id fun ⟨g, cap, cur, e, hb', r⟩ => ⟨g, cap, cur, e, Nat.le_trans hb hb', r⟩⟩
theorem ownsRow_below_up {w w' : World} {base : Nat} {e : TypeId} {size : Nat} {v : Value} {n : Nat} {xs : List Value} (h : w.ownsRow base e size v n xs) (hb : Below w.heap.size w w') : w'.ownsRow base e size v n xs :=
  ⟨h.1, h.2.imp id fun ⟨g, cap, cur, e, hb', hg, r⟩ => ⟨g, cap, cur, e, hb', (hb.block g (Array.getElem?_eq_some_iff.1 hg).1).trans hg, r⟩⟩
set_option maxRecDepth 100000 in
set_option maxHeartbeats 8000000 in
theorem opDo_any (ks h : List Int) (c : List (Int × Int)) (vk v vc : Value) (w : World) (hk : IntsAt w vk ks) (hv : IntsAt w v h) (hc : OpsAt w vc c) (lh : h.length ≤ 10000) (lc : c.length ≤ 10000) :
    Calls Tryz.prog 55 #[vk, v, vc] w (DoPost ks h c w) := by
  have H3 := Lib.hid (valid_any ks h _ _ w hk hv (by omega))
  have HV := Lib.hid hv
  have HK := Lib.hid hk
  have HC := Lib.hid hc
  obtain ⟨ac, capc, rfl⟩ := hc.form
  clear hv hk hc
  cases hr : validH ks h with
  | false =>
    rw [hr] at H3
    have hD : Hid (doO ks h c = none) := Lib.hid (by unfold doO; rw [hr]; rfl)
    go_enter Tryz.func55, Tryz.ntmps55
    go_wp2_with fail
    refine H3.out.mono ?_
    rintro e w3 ⟨rfl, b3⟩
    go_wp2_with fail
    refine bodyPost_ret (v := .tuple #[.slice none 0 0, .bool false]) (by simp [results, Tryz.f55, go_sem]) rfl ?_
    exact ⟨.slice none 0 0, by rw [hD.out]; rfl, fun x hx => (by rw [hD.out] at hx; cases hx), fun _ => rfl, b3⟩
  | true =>
    rw [hr] at H3
    have hD : Hid (doO ks h c = doL ks c h) := Lib.hid (by unfold doO; rw [hr]; rfl)
    have HR := Lib.hid hr
    have hpos : 0 < h.length := by obtain ⟨a, t, rfl⟩ := validH_ne hr; simp
    clear hr
    go_enter Tryz.func55, Tryz.ntmps55
    go_wp2_with fail
    refine H3.out.mono ?_
    rintro e w1 ⟨rfl, b1⟩
    have HB1 := Lib.hid b1
    clear b1 H3
    go_wp2_with fail
    refine (cloneI_any h v w1 (HV.out.step HB1.out) (by omega)).mono ?_
    rintro e w2 ⟨u, rfl, hown, -, b2⟩
    have HO := Lib.hid (own_mono hown HB1.out.size)
    have HB2 := Lib.hid (HB1.out.trans (b2.mono HB1.out.size))
    clear hown b2
    go_wp2_with fail
    refine (revI_any h u h.length w.heap.size w2 HO.out hpos (by omega)).mono ?_
    rintro e w3 ⟨rfl, hown, b3⟩
    have H0 : Hid (DR ks h c w c.length (.int .i64 0) u w3) := Lib.hid ⟨0, h, Nat.zero_le _, by omega, rfl, HR.out, rfl, by omega, hown, HB2.out.trans b3⟩
    clear hown b3 HO HB2 HB1
    go_wp2_with fail
    go_loopg [22, 8] c.length (fun g u lab wr => DR ks h c w g u lab wr)
    case atStart => exact H0.out
    case round =>
      obtain ⟨i, x, hi, hgi, rfl, hx, hd, hxl, hown, hb⟩ := hrel
      have HX := Lib.hid hx
      have HD := Lib.hid hd
      have HB := Lib.hid hb
      obtain ⟨top, t, rfl⟩ := validH_ne hx
      simp only [List.length_cons] at hown hxl
      by_cases hlt : i < c.length
      · obtain ⟨o, ho⟩ : ∃ o, c[i]? = some o := ⟨_, List.getElem?_eq_getElem hlt⟩
        obtain ⟨b, off, rfl, c0, c1⟩ := HC.out.at ho hb
        have hdrop : c.drop i = o :: c.drop (i + 1) := by
          obtain ⟨hi', rfl⟩ := List.getElem?_eq_some_iff.1 ho
          exact List.drop_eq_getElem_cons hi'
        obtain ⟨o1, o2⟩ := o
        obtain ⟨vt, -⟩ := valid_top hx
        have hrange := tN_range (top :: t).length
        rw [List.headD_cons] at vt
        have hB1 := hb.trans ((below_new wr (.cells #[.int .i64 o1, .int .i64 o2] 114)).mono hb.size)
        have HB1 := Lib.hid hB1
        have hkr := kindI_range ks o2
        have hkt : 1 ≤ kindI ks top ∧ kindI ks top ≤ 3 := by omega
        have hT := tops_any ks vk o1 o2 _ (HK.out.step hB1)
        have hH := fun w' => has_any (topsW o1 (kindI ks o2)) 0 (kindI ks top) (topsW_u64 hkr) zero_u64 w'
        rw [has_tops hkr hkt] at hH
        have hKt := fun w' (hb : Below w.heap.size w w') => kind_any ks vk top w' (HK.out.step hb)
        have hS : topsB o1 (kindI ks o2) (kindI ks top) = true → validH ks (stepL o1 o2 (top :: t)) = true := fun h => step_valid hx (by simpa using h)
        have hTk : topsB o1 (kindI ks o2) (kindI ks top) = true → o1 = 1 ∨ o1 = 2 ∨ o1 = 3 := topsB_kind
        have hKR := hd
        rw [hdrop, doL_cons] at hKR
        simp only at hKR
        obtain ⟨lk, hlk⟩ : ∃ lk, kindI ks o2 = lk := ⟨_, rfl⟩
        obtain ⟨kt, hkt0⟩ : ∃ kt, kindI ks top = kt := ⟨_, rfl⟩
        obtain ⟨tw, htw⟩ : ∃ tw, topsW o1 lk = tw := ⟨_, rfl⟩
        obtain ⟨rb, hrb⟩ : ∃ rb, topsB o1 lk kt = rb := ⟨_, rfl⟩
        simp only [hlk, hkt0, hrb] at hS hTk hKR
        simp only [hlk, hkt0, htw, hrb] at hT hH hKt
        have HT := Lib.hid hT
        have HH := Lib.hid hH
        have HKt := Lib.hid hKt
        have HS := Lib.hid hS
        have HKR := Lib.hid hKR
        clear hT hH hKt hS hKR hlk hkt0 htw hrb hdrop
        obtain ⟨g, cap, rfl⟩ := ownsRow_succ hown
        have hO1 := hown.alloc (.cells #[.int .i64 o1, .int .i64 o2] 114)
        have HO1 := Lib.hid hO1
        have hgl := (hown.lt g rfl)
        have hcell : wr.cell? ⟨g, t.length, none⟩ = some (.int .i64 top) := by
          rw [hown.cellAt t.length (by omega), encI_rev, List.getElem?_append_right (by rw [encI_length]; simp)]
          simp [encI_length]
        have e1 : ((t.length + 1 : Nat) : Int) - 1 = (t.length : Int) := by omega
        have j1 : (t.length : Int) < ((t.length + 1 : Nat) : Int) := by omega
        have HN := Lib.hid (heap_alloc_new wr (.cells #[.int .i64 o1, .int .i64 o2] 114))
        have HDn := Lib.hid (fun (w' : World) (hz : w.heap.size ≤ w'.heap.size) (hown : w'.ownsRow w.heap.size 3 1 (.slice (some ⟨g, 0, none⟩) (t.length + 1) cap) (t.length + 1) (encI (top :: t).reverse)) (ho : o1 = 1 ∨ o1 = 2 ∨ o1 = 3) => done_any o1 o2 top t _ w.heap.size w' hown hz (by omega) ho)
        have HSl := Lib.hid (stepL_len o1 o2 (top :: t))
        clear hd hown hb HB ho hx vt hrange hkr hkt hO1 hB1
        cases rb with
        | false =>
          have hN : Hid (doO ks h c = none) := Lib.hid (by rw [hD.out, HKR.out]; rfl)
          clear HS hTk HDn HKR
          go_wp2_with fail
          refine HT.out.mono ?_
          rintro e w4 ⟨rfl, b4⟩
          have HB4 := Lib.hid (HB1.out.trans (b4.mono HB1.out.size))
          clear b4
          go_wp2_with fail
          refine (HKt.out _ HB4.out).mono ?_
          rintro e w5 ⟨rfl, rfl⟩
          go_wp2_with fail
          refine (HH.out _).mono ?_
          rintro e w6 ⟨rfl, b6⟩
          have HB6 := Lib.hid (HB4.out.trans (b6.mono HB4.out.size))
          clear b6
          go_wp2_with fail
          refine bodyPost_ret (v := .tuple #[.slice none 0 0, .bool false]) (by simp [results, Tryz.f55, go_sem]) rfl ?_
          exact ⟨.slice none 0 0, by rw [hN.out]; rfl, fun x hx => (by rw [hN.out] at hx; cases hx), fun _ => rfl, HB6.out⟩
        | true =>
          have hok := hTk rfl
          go_wp2_with fail
          refine HT.out.mono ?_
          rintro e w4 ⟨rfl, b4⟩
          have HB4 := Lib.hid (HB1.out.trans (b4.mono HB1.out.size))
          have HO4 := Lib.hid (ownsRow_below_up HO1.out b4)
          have hn4 := (b4.block _ (Array.getElem?_eq_some_iff.1 HN.out).1).trans HN.out
          have HN4 := Lib.hid hn4
          clear b4 hn4
          go_wp2_with fail
          refine (HKt.out _ HB4.out).mono ?_
          rintro e w5 ⟨rfl, rfl⟩
          go_wp2_with fail
          refine (HH.out _).mono ?_
          rintro e w6 ⟨rfl, b6⟩
          have HB6 := Lib.hid (HB4.out.trans (b6.mono HB4.out.size))
          have HO6 := Lib.hid (ownsRow_below_up HO4.out b6)
          have hn6 := (b6.block _ (Array.getElem?_eq_some_iff.1 HN4.out).1).trans HN4.out
          have k0 : w6.cell? ⟨wr.heap.size, 0, none⟩ = some (.int .i64 o1) := by rw [Lib.cell_of_heap hn6]; rfl
          have k1 : w6.cell? ⟨wr.heap.size, 1, none⟩ = some (.int .i64 o2) := by rw [Lib.cell_of_heap hn6]; rfl
          clear b6 hn6
          go_wp2_with fail
          refine (HDn.out _ HB6.out.size HO6.out hok).mono ?_
          rintro e w7 ⟨v7, rfl, hown7, b7⟩
          have HR7 : Hid (DR ks h c w (c.length - (i + 1)) (.int .i64 ((i : Int) + 1)) v7 w7) := Lib.hid ⟨i + 1, _, by omega, rfl, by go_num, HS.out (by simp), by rw [HKR.out]; rfl, by have := HSl.out; simp only [List.length_cons] at this; omega, hown7, HB6.out.trans b7⟩
          clear hown7 b7
          go_wp2_with fail
          go_roundg (c.length - (i + 1))
          case measure => omega
          case rel => exact HR7.out
      · obtain rfl : i = c.length := by omega
        have hS : Hid (doO ks h c = some (top :: t)) := Lib.hid (by rw [hD.out, HD.out, List.drop_length]; rfl)
        have HRv := Lib.hid (revI_any (top :: t).reverse u8 (t.length + 1) w.heap.size wr hown (by omega) (by omega))
        rw [List.reverse_reverse] at HRv
        clear hown hd hb hx
        go_wp2_with fail
        refine HRv.out.mono ?_
        rintro e w4 ⟨rfl, hown4, b4⟩
        have HO4 := Lib.hid hown4
        have HB4 := Lib.hid (HB.out.trans b4)
        clear hown4 b4
        go_wp2_with fail
        refine bodyPost_ret (v := .tuple #[u8, .bool true]) (by simp [results, Tryz.f55, go_sem]) rfl ?_
        exact ⟨u8, by rw [hS.out]; rfl, fun x hx => (by rw [hS.out] at hx; injection hx with hx; subst hx; exact HO4.out), fun hx => (by rw [hS.out] at hx; cases hx), HB4.out⟩
end Go.Proofs.YtlcpbfklnjlgnaaGreatDoor

namespace Go.Proofs.YtlcpbfklnjlgnaaGreatDoor
open Go.RowKit Go.Extern.Stop Go.Stop Go.Extern

/-- A row of numbers, with its capacity. -/
def IntsC (w : World) (v : Value) (l : List Int) : Prop := IntsAt w v l ∧ ∀ a n c, v = .slice a n c → n ≤ c
theorem IntsC.step {w w' : World} {v : Value} {l : List Int} (h : IntsC w v l) (hb : Below w.heap.size w w') : IntsC w' v l := ⟨h.1.step hb, h.2⟩
theorem IntsC.own {w : World} {base : Nat} {v : Value} {n : Nat} {l : List Int} (h : w.ownsRow base 3 1 v n (encI l)) (hn : n = l.length) : IntsC w v l := by
  refine ⟨IntsAt.own h hn, ?_⟩
  rintro a m c rfl
  rcases h.2 with ⟨e, -⟩ | ⟨g, cap, cur, e, -, -, hc, -⟩
  · injection e with _ e1 e2
    omega
  · injection e with _ e1 e2
    omega
theorem IntsC.form {w : World} {v : Value} {top : Int} {t : List Int} (h : IntsC w v (top :: t)) : ∃ b off cap, v = .slice (some ⟨b, off, none⟩) (t.length + 1) cap ∧ t.length + 1 ≤ cap ∧ b < w.heap.size ∧ w.cell? ⟨b, off, none⟩ = some (.int .i64 top) ∧
    (cap = 1 → t = []) ∧ IntsAt w (.slice (some ⟨b, off + 1, none⟩) t.length (cap - 1)) t := by
  obtain ⟨h, hc⟩ := h
  rcases h with ⟨a, cap, -, h⟩ | ⟨b, off, cap, rfl, hlt, hcell⟩
  · cases h
  · have hle := hc _ _ _ rfl
    simp only [List.length_cons] at hle
    refine ⟨b, off, cap, rfl, hle, hlt, hcell 0 top rfl, fun h => List.eq_nil_of_length_eq_zero (by omega), ?_⟩
    refine .inr ⟨b, off + 1, cap - 1, rfl, hlt, fun i c hi => ?_⟩
    have := hcell (i + 1) c (by simpa using hi)
    rw [Nat.add_assoc, Nat.add_comm 1 i]
    exact this
def RDR (ks h : List Int) (c : List (Int × Int)) (w : World) (g : Nat) (u vh : Value) (wr : World) : Prop :=
  ∃ (i : Nat) (x : List Int), i ≤ c.length ∧ g = c.length - i ∧ u = .int .i64 i ∧ validH ks x = true ∧ doL ks c h = doL ks (c.drop i) x ∧ x.length ≤ h.length + i ∧ IntsC wr vh x ∧ Below w.heap.size w wr

set_option maxRecDepth 100000 in
set_option maxHeartbeats 8000000 in
theorem rDo_any (ks h : List Int) (c : List (Int × Int)) (vk v vc : Value) (w : World) (hk : IntsAt w vk ks) (hv : IntsC w v h) (hc : OpsAt w vc c) (lh : h.length ≤ 10000) (lc : c.length ≤ 10000) :
    Calls Tryz.prog 71 #[vk, v, vc] w (DoPost ks h c w) := by
  have H3 := Lib.hid ((rvalid_any ks h _ _ w hk hv.1 (by omega)).mono fun _ w2 h => (⟨h.1, h.2.symm⟩ : _ ∧ w = w2))
  have HK := Lib.hid hk
  have HC := Lib.hid hc
  obtain ⟨ac, capc, rfl⟩ := hc.form
  cases hr : validH ks h with
  | false =>
    rw [hr] at H3
    have hD : Hid (doO ks h c = none) := Lib.hid (by unfold doO; rw [hr]; rfl)
    clear hv hk hc
    go_enter Tryz.func71, Tryz.ntmps71
    go_wp2_with fail
    refine H3.out.mono ?_
    rintro e w3 ⟨rfl, rfl⟩
    go_wp2_with fail
    refine bodyPost_ret (v := .tuple #[.slice none 0 0, .bool false]) (by simp [results, Tryz.f71, go_sem]) rfl ?_
    exact ⟨.slice none 0 0, by rw [hD.out]; rfl, fun x hx => (by rw [hD.out] at hx; cases hx), fun _ => rfl, Below.refl _ _⟩
  | true =>
    rw [hr] at H3
    have hD : Hid (doO ks h c = doL ks c h) := Lib.hid (by unfold doO; rw [hr]; rfl)
    have H0 : Hid (RDR ks h c w c.length (.int .i64 0) v w) := Lib.hid ⟨0, h, Nat.zero_le _, by omega, rfl, hr, rfl, by omega, hv, Below.refl _ _⟩
    clear hr hv hk hc
    go_enter Tryz.func71, Tryz.ntmps71
    go_wp2_with fail
    refine H3.out.mono ?_
    rintro e w1 ⟨rfl, rfl⟩
    clear H3
    go_wp2_with fail
    go_loopg [18, 1] c.length (fun g u vh wr => RDR ks h c w g u vh wr)
    case atStart => exact H0.out
    case round =>
      obtain ⟨i, x, hi, hgi, rfl, hx, hd, hxl, hiv, hb⟩ := hrel
      obtain ⟨top, t, rfl⟩ := validH_ne hx
      simp only [List.length_cons] at hxl
      by_cases hlt : i < c.length
      · obtain ⟨o, ho⟩ : ∃ o, c[i]? = some o := ⟨_, List.getElem?_eq_getElem hlt⟩
        obtain ⟨b, off, rfl, c0, c1⟩ := HC.out.at ho hb
        have hdrop : c.drop i = o :: c.drop (i + 1) := by
          obtain ⟨hi', rfl⟩ := List.getElem?_eq_some_iff.1 ho
          exact List.drop_eq_getElem_cons hi'
        obtain ⟨o1, o2⟩ := o
        obtain ⟨g, of2, cap, rfl, hcap, hgl, hcell, hone, htl⟩ := hiv.form
        have HIV := Lib.hid hiv.1
        have HTL := Lib.hid htl
        have HON := Lib.hid hone
        have HB := Lib.hid hb
        have HB1 := Lib.hid (hb.trans ((below_new wr (.cells #[.int .i64 o1, .int .i64 o2] 94)).mono hb.size))
        have HSZ := Lib.hid hb.size
        have hKR := hd
        rw [hdrop, doL_cons] at hKR
        simp only at hKR
        have hVA := fun ho h2 => step_ref (o := o1) (lab := o2) hx ho h2
        simp only [List.headD_cons] at hVA
        obtain ⟨lk, hlk⟩ : ∃ lk, KV ks o2 lk := ⟨_, rfl⟩
        obtain ⟨kt, hkt⟩ : ∃ kt, KV ks top kt := ⟨_, rfl⟩
        rw [show kindI ks o2 = lk from hlk, show kindI ks top = kt from hkt] at hKR hVA
        have HKR := Lib.hid hKR
        have HVA0 := Lib.hid hVA
        have HKq := Lib.hid (fun (z k : Int) (w' : World) (hz : KV ks z k) (hb : Below w.heap.size w w') => (rkind_kv ks vk z k w' (HK.out.step hb) hz).mono fun _ w2 h => (⟨h.1, h.2.symm⟩ : _ ∧ w2 = w'))
        have hc1 : ((wr.alloc (.cells #[.int .i64 o1, .int .i64 o2] 94))).cell? ⟨g, of2, none⟩ = some (.int .i64 top) := ((below_new wr _).cell (p := ⟨g, of2, none⟩) hgl).trans hcell
        have hone1 : (1 : Int) ≤ ((t.length + 1 : Nat) : Int) := by omega
        have hone2 : (0 : Int) < ((t.length + 1 : Nat) : Int) := by omega
        clear hKR hVA hd hiv htl hb ho hx hone
        by_cases h1 : o1 = 1
        · subst h1
          obtain ⟨rb, hrb⟩ : ∃ rb, topsB 1 lk kt = rb := ⟨_, rfl⟩
          have hA := HVA0.out (by omega) (by omega)
          have hK2 := HKR.out
          rw [hrb] at hA hK2
          have HVA : Hid (validH ks t = rb) := Lib.hid hA
          have HKR : Hid (doL ks c h = if rb = true then doL ks (c.drop (i + 1)) t else none) := Lib.hid hK2
          clear hA hK2 HVA0 hrb
          by_cases hcp : cap = 1
          · obtain rfl := HON.out hcp
            subst hcp
            go_wp2_with (at_builtin; refine wpList_append_ints _ rfl _ _ rfl wr.heap.size _ _ _ rfl (World.ownsRow_nil _ _ _ _) _ [] rfl (.inl ⟨_, _, rfl, rfl⟩) (by simp) (by simp) ?_)
            intro v5 w5 hown5 hgrow5
            have hb5 : Below wr.heap.size (wr.alloc (.cells #[.int .i64 1, .int .i64 o2] 94)) w5 := (Below.refl _ _).grown hgrow5 (by simp) (fun k' e => by cases e)
            have HB5 := Lib.hid (HB1.out.trans (hb5.mono HSZ.out))
            have HO5 : Hid (w5.ownsRow wr.heap.size 3 1 v5 ([] : List Int).length (encI [])) := Lib.hid (by simpa [encI] using hown5)
            clear hown5 hgrow5 hb5
            have HV5 := Lib.hid (rvalid_any ks [] vk v5 w5 (HK.out.step HB5.out) (IntsC.own HO5.out rfl).1 (by first | omega | (simp only [List.length_cons, List.length_nil]; omega)))
            rw [HVA.out] at HV5
            cases rb with
            | false =>
              have hN : Hid (doO ks h c = none) := Lib.hid (by rw [hD.out, HKR.out]; rfl)
              go_wp2_with fail
              refine HV5.out.mono ?_
              rintro e w6 ⟨rfl, rfl⟩
              go_wp2_with fail
              refine bodyPost_ret (v := .tuple #[.slice none 0 0, .bool false]) (by simp [results, Tryz.f71, go_sem]) rfl ?_
              exact ⟨.slice none 0 0, by rw [hN.out]; rfl, fun x hx => (by rw [hN.out] at hx; cases hx), fun _ => rfl, HB5.out⟩
            | true =>
              go_wp2_with fail
              refine HV5.out.mono ?_
              rintro e w6 ⟨rfl, rfl⟩
              go_wp2_with fail
              go_roundg (c.length - (i + 1))
              case measure => omega
              case rel => exact ⟨i + 1, [], by omega, rfl, by go_num, HVA.out, by rw [HKR.out]; rfl, by first | omega | (simp only [List.length_cons, List.length_nil]; omega), IntsC.own HO5.out rfl, HB5.out⟩
          · have hcp2 : ¬ cap - 1 = 0 := by omega
            go_wp2_with (at_builtin; refine wpList_append_ints _ rfl _ _ rfl wr.heap.size _ _ _ rfl (World.ownsRow_nil _ _ _ _) _ t rfl (HTL.out.step (below_new _ _)) (by omega) (by simp) ?_)
            intro v5 w5 hown5 hgrow5
            have hb5 : Below wr.heap.size (wr.alloc (.cells #[.int .i64 1, .int .i64 o2] 94)) w5 := (Below.refl _ _).grown hgrow5 (by simp) (fun k' e => by cases e)
            have HB5 := Lib.hid (HB1.out.trans (hb5.mono HSZ.out))
            have HO5 : Hid (w5.ownsRow wr.heap.size 3 1 v5 t.length (encI t)) := Lib.hid (by simpa using hown5)
            clear hown5 hgrow5 hb5
            have HV5 := Lib.hid (rvalid_any ks t vk v5 w5 (HK.out.step HB5.out) (IntsC.own HO5.out rfl).1 (by first | omega | (simp only [List.length_cons, List.length_nil]; omega)))
            rw [HVA.out] at HV5
            cases rb with
            | false =>
              have hN : Hid (doO ks h c = none) := Lib.hid (by rw [hD.out, HKR.out]; rfl)
              go_wp2_with fail
              refine HV5.out.mono ?_
              rintro e w6 ⟨rfl, rfl⟩
              go_wp2_with fail
              refine bodyPost_ret (v := .tuple #[.slice none 0 0, .bool false]) (by simp [results, Tryz.f71, go_sem]) rfl ?_
              exact ⟨.slice none 0 0, by rw [hN.out]; rfl, fun x hx => (by rw [hN.out] at hx; cases hx), fun _ => rfl, HB5.out⟩
            | true =>
              go_wp2_with fail
              refine HV5.out.mono ?_
              rintro e w6 ⟨rfl, rfl⟩
              go_wp2_with fail
              go_roundg (c.length - (i + 1))
              case measure => omega
              case rel => exact ⟨i + 1, t, by omega, rfl, by go_num, HVA.out, by rw [HKR.out]; rfl, by first | omega | (simp only [List.length_cons, List.length_nil]; omega), IntsC.own HO5.out rfl, HB5.out⟩
        by_cases h2 : o1 = 2
        · subst h2
          by_cases heq : kt = lk
          · subst heq
            have hTT : topsB 2 kt kt = true := by simp [topsB]
            obtain ⟨rb, hrb⟩ : ∃ rb, topsB 2 kt kt = rb := ⟨_, rfl⟩
            have hA := HVA0.out (by omega) (fun _ => rfl)
            have hK2 := HKR.out
            rw [hrb] at hA hK2
            have HVA : Hid (validH ks (o2 :: t) = rb) := Lib.hid hA
            have HKR : Hid (doL ks c h = if rb = true then doL ks (c.drop (i + 1)) (o2 :: t) else none) := Lib.hid hK2
            clear hA hK2 HVA0 hrb
            have qq : (kt != kt) = false := by simp
            go_wp2_with fail
            go_quiet ((go_at_call 20; exact Calls.quiet_of_same (HKq.out _ _ _ (by assumption) (HB1.out.trans ((below_drewN _ _).mono HB1.out.size)))))
            have HWB : Hid (Below wr.heap.size wr ((wr.alloc (.cells #[.int .i64 2, .int .i64 o2] 94)).drewN nq)) := Lib.hid ((below_new wr _).trans ((below_drewN _ _).mono (below_new wr _).size))
            have hcw : ((wr.alloc (.cells #[.int .i64 2, .int .i64 o2] 94)).drewN nq).cell? ⟨wr.heap.size, 1, none⟩ = some (.int .i64 o2) := by
              have := ((below_drewN (wr.alloc (.cells #[.int .i64 2, .int .i64 o2] 94)) nq).cell (p := ⟨wr.heap.size, 1, none⟩) (by simp))
              rw [this, Lib.cell_of_heap (heap_alloc_new wr _)]
              rfl
            clear hc1
            generalize (wr.alloc (.cells #[.int .i64 2, .int .i64 o2] 94)).drewN nq = W at *
            have HBW : Hid (Below wr.heap.size wr W) := Lib.hid HWB.out
            have hnw := ints_new W o2
            have HNW := Lib.hid hnw
            have hsw := HBW.out.size
            clear hnw
            go_wp2_with (at_builtin; refine wpList_append_ints _ rfl _ _ rfl wr.heap.size _ _ _ rfl (World.ownsRow_nil _ _ _ _) _ [o2] rfl HNW.out (by simp) (by first | omega | (simp; omega)) ?_)
            intro v4 w4 hown4 hgrow4
            have hb4 : Below wr.heap.size wr w4 := (HBW.out.alloc hsw (.cells #[.int .i64 o2] 3)).grown hgrow4 (by first | omega | (simp; omega)) (fun k' e => by cases e)
            have HO4 : Hid (w4.ownsRow wr.heap.size 3 1 v4 1 (encI [o2])) := Lib.hid (by simpa using hown4)
            have HB4 := Lib.hid hb4
            have hs4 := hb4.size
            have hi4 := HIV.out.step hb4
            have HI4 := Lib.hid hi4
            clear hown4 hgrow4 hb4 hi4
            by_cases hcp : cap = 1
            · obtain rfl := HON.out hcp
              subst hcp
              go_wp2_with (at_builtin; refine wpList_append_ints _ rfl _ _ rfl wr.heap.size _ _ _ rfl HO4.out _ [] rfl (.inl ⟨_, _, rfl, rfl⟩) (by simp only [List.length_cons, List.length_nil]; omega) (by omega) ?_)
              intro v5 w5 hown5 hgrow5
              have hb5 : Below wr.heap.size wr w5 := HB4.out.grown hgrow5 hs4 (fun k' e => (HO4.out.lt k' e).1)
              have HB5 := Lib.hid (HB.out.trans (hb5.mono HSZ.out))
              have HO5 : Hid (w5.ownsRow wr.heap.size 3 1 v5 [o2].length (encI [o2])) := Lib.hid (by simpa [encI, Nat.add_comm] using hown5)
              clear hown5 hgrow5 hb5
              have HV5 := Lib.hid (rvalid_any ks [o2] vk v5 w5 (HK.out.step HB5.out) (IntsC.own HO5.out rfl).1 (by first | omega | (simp only [List.length_cons, List.length_nil]; omega)))
              rw [HVA.out] at HV5
              cases rb with
              | false =>
                have hN : Hid (doO ks h c = none) := Lib.hid (by rw [hD.out, HKR.out]; rfl)
                go_wp2_with fail
                refine HV5.out.mono ?_
                rintro e w6 ⟨rfl, rfl⟩
                go_wp2_with fail
                refine bodyPost_ret (v := .tuple #[.slice none 0 0, .bool false]) (by simp [results, Tryz.f71, go_sem]) rfl ?_
                exact ⟨.slice none 0 0, by rw [hN.out]; rfl, fun x hx => (by rw [hN.out] at hx; cases hx), fun _ => rfl, HB5.out⟩
              | true =>
                go_wp2_with fail
                refine HV5.out.mono ?_
                rintro e w6 ⟨rfl, rfl⟩
                go_wp2_with fail
                go_roundg (c.length - (i + 1))
                case measure => omega
                case rel => exact ⟨i + 1, [o2], by omega, rfl, by go_num, HVA.out, by rw [HKR.out]; rfl, by first | omega | (simp only [List.length_cons, List.length_nil]; omega), IntsC.own HO5.out rfl, HB5.out⟩
            · have hcp2 : ¬ cap - 1 = 0 := by omega
              have htl4 := HTL.out.step HB4.out
              go_wp2_with (at_builtin; refine wpList_append_ints _ rfl _ _ rfl wr.heap.size _ _ _ rfl HO4.out _ t rfl htl4 (by omega) (by omega) ?_)
              intro v5 w5 hown5 hgrow5
              have hb5 : Below wr.heap.size wr w5 := HB4.out.grown hgrow5 hs4 (fun k' e => (HO4.out.lt k' e).1)
              have HB5 := Lib.hid (HB.out.trans (hb5.mono HSZ.out))
              have HO5 : Hid (w5.ownsRow wr.heap.size 3 1 v5 (o2 :: t).length (encI (o2 :: t))) := Lib.hid (by simpa [encI, Nat.add_comm] using hown5)
              clear hown5 hgrow5 hb5
              have HV5 := Lib.hid (rvalid_any ks (o2 :: t) vk v5 w5 (HK.out.step HB5.out) (IntsC.own HO5.out rfl).1 (by first | omega | (simp only [List.length_cons, List.length_nil]; omega)))
              rw [HVA.out] at HV5
              cases rb with
              | false =>
                have hN : Hid (doO ks h c = none) := Lib.hid (by rw [hD.out, HKR.out]; rfl)
                go_wp2_with fail
                refine HV5.out.mono ?_
                rintro e w6 ⟨rfl, rfl⟩
                go_wp2_with fail
                refine bodyPost_ret (v := .tuple #[.slice none 0 0, .bool false]) (by simp [results, Tryz.f71, go_sem]) rfl ?_
                exact ⟨.slice none 0 0, by rw [hN.out]; rfl, fun x hx => (by rw [hN.out] at hx; cases hx), fun _ => rfl, HB5.out⟩
              | true =>
                go_wp2_with fail
                refine HV5.out.mono ?_
                rintro e w6 ⟨rfl, rfl⟩
                go_wp2_with fail
                go_roundg (c.length - (i + 1))
                case measure => omega
                case rel => exact ⟨i + 1, (o2 :: t), by omega, rfl, by go_num, HVA.out, by rw [HKR.out]; rfl, by first | omega | (simp only [List.length_cons, List.length_nil]; omega), IntsC.own HO5.out rfl, HB5.out⟩
          · have hTT : topsB 2 lk kt = false := by simp [topsB, heq]
            have hN : Hid (doO ks h c = none) := Lib.hid (by rw [hD.out, HKR.out, hTT]; rfl)
            have qq : (lk != kt) = true := by simp [Ne.symm heq]
            have qq2 : (lk == kt) = false := by simp [Ne.symm heq]
            clear hTT heq
            go_wp2_with fail
            go_quiet ((go_at_call 20; exact Calls.quiet_of_same (HKq.out _ _ _ (by assumption) (HB1.out.trans ((below_drewN _ _).mono HB1.out.size)))))
            go_wp2_with fail
            refine bodyPost_ret (v := .tuple #[.slice none 0 0, .bool false]) (by simp [results, Tryz.f71, go_sem]) rfl ?_
            exact ⟨.slice none 0 0, by rw [hN.out]; rfl, fun x hx => (by rw [hN.out] at hx; cases hx), fun _ => rfl, HB1.out.trans ((below_drewN _ _).mono HB1.out.size)⟩
        by_cases h3 : o1 = 3
        · subst h3
          obtain ⟨rb, hrb⟩ : ∃ rb, topsB 3 lk kt = rb := ⟨_, rfl⟩
          have hA := HVA0.out (by omega) (by omega)
          have hK2 := HKR.out
          rw [hrb] at hA hK2
          have HVA : Hid (validH ks (o2 :: top :: t) = rb) := Lib.hid hA
          have HKR : Hid (doL ks c h = if rb = true then doL ks (c.drop (i + 1)) (o2 :: top :: t) else none) := Lib.hid hK2
          have HWB : Hid (Below wr.heap.size wr (wr.alloc (.cells #[.int .i64 3, .int .i64 o2] 94))) := Lib.hid (below_new wr _)
          have hcw : (wr.alloc (.cells #[.int .i64 3, .int .i64 o2] 94)).cell? ⟨wr.heap.size, 1, none⟩ = some (.int .i64 o2) := by
            rw [Lib.cell_of_heap (heap_alloc_new wr _)]; rfl
          have hcw0 : (wr.alloc (.cells #[.int .i64 3, .int .i64 o2] 94)).cell? ⟨wr.heap.size, 0, none⟩ = some (.int .i64 3) := by
            rw [Lib.cell_of_heap (heap_alloc_new wr _)]; rfl
          clear hA hK2 HVA0 hrb hc1
          obtain ⟨W, hW⟩ : ∃ W, W = wr.alloc (.cells #[.int .i64 3, .int .i64 o2] 94) := ⟨_, rfl⟩
          rw [← hW] at HWB
          have HBW : Hid (Below wr.heap.size wr W) := Lib.hid HWB.out
          have hnw := ints_new W o2
          rw [hW, World.size_alloc] at hnw
          have HNW := Lib.hid hnw
          rw [hW] at HBW
          have hsw := HBW.out.size
          clear hW HWB
          clear hnw
          go_wp2_with (at_builtin; refine wpList_append_ints _ rfl _ _ rfl wr.heap.size _ _ _ rfl (World.ownsRow_nil _ _ _ _) _ [o2] rfl HNW.out (by simp) (by first | omega | (simp; omega)) ?_)
          intro v4 w4 hown4 hgrow4
          have hb4 : Below wr.heap.size wr w4 := (HBW.out.alloc hsw (.cells #[.int .i64 o2] 3)).grown hgrow4 (by first | omega | (simp; omega)) (fun k' e => by cases e)
          have HO4 : Hid (w4.ownsRow wr.heap.size 3 1 v4 1 (encI [o2])) := Lib.hid (by simpa using hown4)
          have HB4 := Lib.hid hb4
          have hs4 := hb4.size
          have hi4 := HIV.out.step hb4
          have HI4 := Lib.hid hi4
          clear hown4 hgrow4 hb4 hi4
          go_wp2_with (at_builtin; refine wpList_append_ints _ rfl _ _ rfl wr.heap.size _ _ _ rfl HO4.out _ (top :: t) rfl HI4.out (by simp only [List.length_cons, List.length_nil]; omega) (by omega) ?_)
          intro v5 w5 hown5 hgrow5
          have hb5 : Below wr.heap.size wr w5 := HB4.out.grown hgrow5 hs4 (fun k' e => (HO4.out.lt k' e).1)
          have HB5 := Lib.hid (HB.out.trans (hb5.mono HSZ.out))
          have HO5 : Hid (w5.ownsRow wr.heap.size 3 1 v5 (o2 :: top :: t).length (encI (o2 :: top :: t))) := Lib.hid (by simpa [encI, Nat.add_comm] using hown5)
          clear hown5 hgrow5 hb5
          have HV5 := Lib.hid (rvalid_any ks (o2 :: top :: t) vk v5 w5 (HK.out.step HB5.out) (IntsC.own HO5.out rfl).1 (by first | omega | (simp only [List.length_cons, List.length_nil]; omega)))
          rw [HVA.out] at HV5
          cases rb with
          | false =>
            have hN : Hid (doO ks h c = none) := Lib.hid (by rw [hD.out, HKR.out]; rfl)
            go_wp2_with fail
            refine HV5.out.mono ?_
            rintro e w6 ⟨rfl, rfl⟩
            go_wp2_with fail
            refine bodyPost_ret (v := .tuple #[.slice none 0 0, .bool false]) (by simp [results, Tryz.f71, go_sem]) rfl ?_
            exact ⟨.slice none 0 0, by rw [hN.out]; rfl, fun x hx => (by rw [hN.out] at hx; cases hx), fun _ => rfl, HB5.out⟩
          | true =>
            go_wp2_with fail
            refine HV5.out.mono ?_
            rintro e w6 ⟨rfl, rfl⟩
            go_wp2_with fail
            go_roundg (c.length - (i + 1))
            case measure => omega
            case rel => exact ⟨i + 1, (o2 :: top :: t), by omega, rfl, by go_num, HVA.out, by rw [HKR.out]; rfl, by first | omega | (simp only [List.length_cons, List.length_nil]; omega), IntsC.own HO5.out rfl, HB5.out⟩
        have q1 : (o1 == 1) = false := by simpa using h1
        have q2 : (o1 == 2) = false := by simpa using h2
        have q3 : (o1 == 3) = false := by simpa using h3
        have hTT : topsB o1 lk kt = false := by simp [topsB, h1, h2, h3]
        have hN : Hid (doO ks h c = none) := Lib.hid (by rw [hD.out, HKR.out, hTT]; rfl)
        clear hTT h1 h2 h3
        go_wp2_with fail
        refine bodyPost_ret (v := .tuple #[.slice none 0 0, .bool false]) (by simp [results, Tryz.f71, go_sem]) rfl ?_
        exact ⟨.slice none 0 0, by rw [hN.out]; rfl, fun x hx => (by rw [hN.out] at hx; cases hx), fun _ => rfl, HB1.out⟩
      · obtain rfl : i = c.length := by omega
        have hS : Hid (doO ks h c = some (top :: t)) := Lib.hid (by rw [hD.out, hd, List.drop_length]; rfl)
        have HI := Lib.hid hiv.1
        have HB := Lib.hid hb
        have hsz := hb.size
        clear hd hb hx hiv
        go_wp2_with (at_builtin; refine wpList_append_ints _ rfl _ _ rfl w.heap.size _ _ _ rfl (World.ownsRow_nil _ _ _ _) _ (top :: t) rfl HI.out (by simp only [List.length_cons]; omega) hsz ?_)
        intro v5 w5 hown5 hgrow5
        have HB5 := Lib.hid (HB.out.grown hgrow5 hsz (fun k' e => by cases e))
        have HO5 : Hid (w5.ownsRow w.heap.size 3 1 v5 (top :: t).length (encI (top :: t))) := Lib.hid (by simpa using hown5)
        clear hown5 hgrow5
        go_wp2_with fail
        refine bodyPost_ret (v := .tuple #[v5, .bool true]) (by simp [results, Tryz.f71, go_sem]) rfl ?_
        exact ⟨v5, by rw [hS.out]; rfl, fun x hx => (by rw [hS.out] at hx; injection hx with hx; subst hx; exact HO5.out), fun hx => (by rw [hS.out] at hx; cases hx), HB5.out⟩
end Go.Proofs.YtlcpbfklnjlgnaaGreatDoor
