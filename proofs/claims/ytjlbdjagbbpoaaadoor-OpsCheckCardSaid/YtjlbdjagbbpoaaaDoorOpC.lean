/-
  Package ops by contracts, second part: what a top may be for an op; an op done to a row of the call's own.
-/
import Derived.Test.YtjlbdjagbbpoaaaDoorOpB
import Derived.Laws.OwnMore
import Derived.WalkSmall
namespace Go.Proofs.YtjlbdjagbbpoaaaDoor
open Go.RowKit Go.Extern.Stop Go.Stop Go.Extern

theorem ofS_one {k : Int} (hk : 0 ≤ k ∧ k ≤ 3) : ofS [k] = (oneK k, 0) := by
  have : k = 0 ∨ k = 1 ∨ k = 2 ∨ k = 3 := by omega
  rcases this with rfl | rfl | rfl | rfl <;> decide
theorem topsW_u64 {o lk : Int} (h : 0 ≤ lk ∧ lk ≤ 3) : U64 (topsW o lk) := by have := topsW_lt (o := o) h; unfold U64; omega
theorem topsW_o {o lk : Int} : (o = 1 → topsW o lk = 12) ∧ (o = 2 → topsW o lk = oneK lk) ∧ (o = 3 → topsW o lk = belowW lk) ∧ (o ≠ 1 → o ≠ 2 → o ≠ 3 → topsW o lk = 0) := by
  unfold topsW
  refine ⟨fun h => by rw [if_pos h], fun h => by rw [if_neg (by omega), if_pos h], fun h => by rw [if_neg (by omega), if_neg (by omega), if_pos h], fun h1 h2 h3 => by rw [if_neg h1, if_neg h2, if_neg h3]⟩
/-- A set laid anew in its own block. -/
theorem RW2.start (w : World) (o : Obj) : RW w (w.heap.size + 1) ((w.alloc o).alloc (.cells #[.int .u64 0, .int .u64 0] 34)) :=
  ⟨by have := boxed_set (w.alloc o) 0 0; rwa [World.size_alloc] at this, (below_new w _).trans ((below_new _ _).mono (below_new w _).size)⟩
set_option maxRecDepth 100000 in
set_option maxHeartbeats 4000000 in
theorem tops_any (ks : List Int) (vk : Value) (o l : Int) (w : World) (hk : IntsAt w vk ks) :
    Calls Tryd.prog 49 #[vk, .agg #[.int .i64 o, .int .i64 l]] w fun e w' => e = .returned (setV (topsW o (kindI ks l)) 0) ∧ Below w.heap.size w w' := by
  have HI := Lib.hid (RW2.start w (.cells #[.int .i64 o, .int .i64 l] 60))
  obtain ⟨k, hkv⟩ : ∃ k, KV ks l k := ⟨_, rfl⟩
  have HK := Lib.hid (kind_kv ks vk l k _ (hk.step HI.out.below) hkv)
  have hr := kindI_range ks l
  rw [show kindI ks l = k from hkv] at hr ⊢
  obtain ⟨t1, t2, t3, t4⟩ := topsW_o (o := o) (lk := k)
  clear hk hkv
  by_cases h1 : o = 1
  · rw [t1 h1]
    subst h1
    have hi := ints2 ((w.alloc (.cells #[.int .i64 1, .int .i64 l] 60)).alloc (.cells #[.int .u64 0, .int .u64 0] 34)) 2 3
    have HO := of_any [2, 3] _ _ hi (by simp)
    rw [ofS23, World.size_alloc, World.size_alloc] at HO
    have HB := Lib.hid (below_new ((w.alloc (.cells #[.int .i64 1, .int .i64 l] 60)).alloc (.cells #[.int .u64 0, .int .u64 0] 34)) (.cells #[.int .i64 2, .int .i64 3] 3))
    have HO := Lib.hid HO
    clear hi t1 t2 t3 t4 hr
    go_enter Tryd.func49, Tryd.ntmps49
    go_wp2_with fail
    refine HK.out.mono ?_
    rintro e w2 ⟨rfl, rfl⟩
    go_wp2_with fail
    refine HO.out.mono ?_
    rintro e w3 ⟨rfl, b3⟩
    have hI := (HI.out.step HB.out).step b3
    have r0 := hI.res.cells.1
    have r1 := hI.res.cells.2.1
    have r2 := hI.res.cells.2.2 0
    have r3 := hI.res.cells.2.2 1
    go_wp2_with fail
    refine bodyPost_ret (v := setV 12 0) (by simp [results, Tryd.f49, go_sem, r0, r1]) rfl ⟨rfl, ?_⟩
    exact (hI.below.setCell (p := ⟨w.heap.size + 1, 0, none⟩) (Nat.le_succ _) _).setCell (p := ⟨w.heap.size + 1, 1, none⟩) (Nat.le_succ _) _
  by_cases h2 : o = 2
  · rw [t2 h2]
    subst h2
    have hi := ints_new ((w.alloc (.cells #[.int .i64 2, .int .i64 l] 60)).alloc (.cells #[.int .u64 0, .int .u64 0] 34)) k
    have HO := of_any [k] _ _ hi (by simp)
    rw [ofS_one hr, World.size_alloc, World.size_alloc] at HO
    have HB := Lib.hid (below_new ((w.alloc (.cells #[.int .i64 2, .int .i64 l] 60)).alloc (.cells #[.int .u64 0, .int .u64 0] 34)) (.cells #[.int .i64 k] 3))
    have HO := Lib.hid HO
    generalize oneK k = x at *
    clear hi t1 t2 t3 t4 hr
    go_enter Tryd.func49, Tryd.ntmps49
    go_wp2_with fail
    refine HK.out.mono ?_
    rintro e w2 ⟨rfl, rfl⟩
    go_wp2_with fail
    refine HO.out.mono ?_
    rintro e w3 ⟨rfl, b3⟩
    have hI := (HI.out.step HB.out).step b3
    have r0 := hI.res.cells.1
    have r1 := hI.res.cells.2.1
    have r2 := hI.res.cells.2.2 0
    have r3 := hI.res.cells.2.2 1
    go_wp2_with fail
    refine bodyPost_ret (v := setV x 0) (by simp [results, Tryd.f49, go_sem, r0, r1]) rfl ⟨rfl, ?_⟩
    exact (hI.below.setCell (p := ⟨w.heap.size + 1, 0, none⟩) (Nat.le_succ _) _).setCell (p := ⟨w.heap.size + 1, 1, none⟩) (Nat.le_succ _) _
  by_cases h3 : o = 3
  · rw [t3 h3]
    subst h3
    have HO := Lib.hid (fun w' => onto_any k w')
    generalize belowW k = x at *
    clear t1 t2 t3 t4 hr
    go_enter Tryd.func49, Tryd.ntmps49
    go_wp2_with fail
    refine HK.out.mono ?_
    rintro e w2 ⟨rfl, rfl⟩
    go_wp2_with fail
    refine (HO.out _).mono ?_
    rintro e w3 ⟨rfl, b3⟩
    have hI := HI.out.step b3
    have r0 := hI.res.cells.1
    have r1 := hI.res.cells.2.1
    have r2 := hI.res.cells.2.2 0
    have r3 := hI.res.cells.2.2 1
    go_wp2_with fail
    refine bodyPost_ret (v := setV x 0) (by simp [results, Tryd.f49, go_sem, r0, r1]) rfl ⟨rfl, ?_⟩
    exact (hI.below.setCell (p := ⟨w.heap.size + 1, 0, none⟩) (Nat.le_succ _) _).setCell (p := ⟨w.heap.size + 1, 1, none⟩) (Nat.le_succ _) _
  rw [t4 h1 h2 h3]
  have q1 : (o == 1) = false := by simpa using h1
  have q2 : (o == 2) = false := by simpa using h2
  have q3 : (o == 3) = false := by simpa using h3
  have hI := HI.out
  have r0 := hI.res.cells.1
  have r1 := hI.res.cells.2.1
  have r2 := hI.res.cells.2.2 0
  have r3 := hI.res.cells.2.2 1
  clear h1 h2 h3 t1 t2 t3 t4 hr
  go_enter Tryd.func49, Tryd.ntmps49
  go_wp2_with fail
  refine HK.out.mono ?_
  rintro e w2 ⟨rfl, rfl⟩
  go_wp2_with fail
  refine bodyPost_ret (v := setV 0 0) (by simp [results, Tryd.f49, go_sem, r0, r1]) rfl ⟨rfl, ?_⟩
  exact hI.below
end Go.Proofs.YtjlbdjagbbpoaaaDoor
