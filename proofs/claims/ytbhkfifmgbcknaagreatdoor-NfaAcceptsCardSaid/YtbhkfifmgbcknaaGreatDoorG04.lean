/-
  A part of the proof of the statement NfaAccepts.
-/
import Derived.Test.YtbhkfifmgbcknaaGreatDoorG03
import Derived.Shelf.Spec.TrailingZeros
import Derived.RangeFuncNested
import Derived.RangeFuncBound
import Derived.RangeFuncCalls
import Derived.RangeFuncLeaves
import Derived.Shelf.Abstract
import Derived.Shelf.RegionOpen
import Derived.OwnWalkIn
import Derived.TacticsInMore
import Derived.LoopNIn
import Derived.LoopIn
import Derived.RangeFuncBox
import Derived.Maps.AppendAt
import Derived.Deep.AppendSrc
import Derived.Laws.OwnMore
import Derived.WalkSmall
set_option linter.unusedSimpArgs false
set_option linter.unusedVariables false
namespace Go.Proofs.YtbhkfifmgbcknaaGreatDoor
open Go.RowKit Go.Extern.Stop Go.Stop Go.Extern Go.Shelf
attribute [local go_sem] Oper.semAt_some
structure TabB (w : World) : Prop where
  lt : 0 < w.heap.size
  tab : TabAt 0 Lib.deBruijn64tab w
theorem TabB.below {w w' : World} {n : Nat} (h : TabB w) (hn : 0 < n) (hb : Below n w w') : TabB w' :=
  ⟨Nat.lt_of_lt_of_le h.lt hb.size, fun j hj => (hb.cell (p := ⟨0, j, none⟩) hn).trans (h.tab j hj)⟩
set_option maxHeartbeats 1000000 in
theorem tz_core (x k idx : Nat) (w : World) (hx0 : ((x : Int) == 0) = false)
    (key : IntKind.u64.wrap (bits BinOp.and IntKind.u64 (x : Int) (IntKind.u64.wrap (-(x : Int))) * 285870213051353865) / 288230376151711744 = (idx : Int))
    (hi : idx < 64) (hk : k < 64) (hcell : w.cell? ⟨0, idx, none⟩ = some (.int .u8 k)) :
    Calls Tryz.prog 65 #[.int .u64 (x : Int)] w fun e w' => e = .returned (.int .i64 (k : Nat)) ∧ w = w' := by
  go_enter Tryz.func65, Tryz.ntmps65
  go_wp2_with (simp only [key])
  go_ret
  exact ⟨rfl, rfl⟩
theorem tz_any (x : Nat) (hx : U64 x) (h0 : x ≠ 0) (w : World) (ht : TabB w) :
    Calls Tryz.prog 65 #[.int .u64 (x : Int)] w fun e w' => e = .returned (.int .i64 (Lib.ctz 64 x : Nat)) ∧ w = w' := by
  obtain ⟨hlow, hk⟩ := Lib.lowest_bit 64 x h0 (by unfold U64 at hx; omega)
  obtain ⟨hi, htab⟩ := Lib.deBruijn64_at _ hk
  have hcell := ht.tab _ hi
  rw [htab] at hcell
  exact tz_core x _ _ w (by rw [beq_eq_false_iff_ne]; omega) (tz64_key x _ hx h0 hlow) hi hk hcell
theorem ctz_step {x : Nat} (hx : U64 x) (h0 : x ≠ 0) : Lib.ctz 64 x < 64 ∧ bitsOf 64 x = Lib.ctz 64 x :: bitsOf 64 (x &&& (x - 1)) ∧ x &&& (x - 1) < x := by
  obtain ⟨m, hm, hk⟩ := Lib.ctzFrom_spec 64 x (by omega) (by unfold U64 at hx; omega)
  have e : Lib.ctz 64 x = Lib.ctzFrom 64 x := by simp [Lib.ctz, h0]
  rw [e]
  have e2 : x &&& (x - 1) = 2 ^ (Lib.ctzFrom 64 x + 1) * m := by rw [hm, low_and, ← hm]
  refine ⟨hk, ?_, ?_⟩
  · rw [e2, ← bitsOf_low 64 _ m hk, ← hm]
  · have : x &&& (x - 1) ≤ x - 1 := Nat.and_le_right
    omega
abbrev N128 := { k : Nat // k < 128 }
def listN (a b : Nat) : List N128 := (setL a b).pmap (fun k h => ⟨k, h⟩) (fun _ h => setL_lt h)
theorem listN_val (a b : Nat) : (listN a b).map (·.1) = setL a b := by
  unfold listN
  rw [List.map_pmap]
  simp
theorem bitsOf_lt {x k : Nat} (h : k ∈ bitsOf 64 x) : k < 64 := by unfold bitsOf at h; rw [List.mem_filter, List.mem_range] at h; exact h.1
def wordN (i x : Nat) (hi : i < 2) : List N128 := (bitsOf 64 x).pmap (P := fun k => k < 64) (fun k h => ⟨64 * i + k, by omega⟩) (fun _ h => bitsOf_lt h)
theorem wordN_zero (i : Nat) (hi : i < 2) : wordN i 0 hi = [] := by unfold wordN; simp [bitsOf_zero]
theorem pmap_eq {α β : Type} {P : α → Prop} (f : (a : α) → P a → β) : ∀ (l l' : List α) (_ : l = l') (H : ∀ a ∈ l, P a) (H' : ∀ a ∈ l', P a), l.pmap f H = l'.pmap f H' := by
  intro l l' h H H'; subst h; rfl
theorem wordN_step {i x : Nat} (hi : i < 2) (hx : U64 x) (h0 : x ≠ 0) : ∃ y : N128, y.1 = 64 * i + Lib.ctz 64 x ∧ wordN i x hi = y :: wordN i (x &&& (x - 1)) hi := by
  obtain ⟨h1, h2, h3⟩ := ctz_step hx h0
  refine ⟨⟨64 * i + Lib.ctz 64 x, by omega⟩, rfl, ?_⟩
  unfold wordN
  rw [pmap_eq _ _ _ h2 _ (fun k hk => by rw [← h2] at hk; exact bitsOf_lt hk), List.pmap_cons]
theorem wordN_val (i x : Nat) (hi : i < 2) : (wordN i x hi).map (·.1) = (bitsOf 64 x).map (64 * i + ·) := by
  unfold wordN
  rw [List.map_pmap]
  simp
theorem val_inj : ∀ {l l' : List N128}, l.map (·.1) = l'.map (·.1) → l = l'
  | [], [], _ => rfl
  | [], _ :: _, h => by simp at h
  | _ :: _, [], h => by simp at h
  | a :: l, b :: l', h => by
    simp only [List.map_cons, List.cons.injEq] at h
    rw [Subtype.ext h.1, val_inj h.2]
theorem listN_words (a b : Nat) : listN a b = wordN 0 a (by decide) ++ wordN 1 b (by decide) := by
  apply val_inj
  rw [listN_val, List.map_append, wordN_val, wordN_val]
  unfold setL
  congr 1
  simp
theorem listN_len (a b : Nat) : (listN a b).length ≤ 128 := by
  have h1 := congrArg List.length (listN_val a b)
  have h2 := bitsOf_le 64 a
  have h3 := bitsOf_le 64 b
  rw [List.length_map, setL_len] at h1
  omega
def InWord (J : List N128 → World → Prop) (i : Nat) (hi : i < 2) (pre0 : List N128) (c : Nat) (v : Value) (wr : World) : Prop :=
  ∃ x done, v = .int .u64 ((x : Nat) : Int) ∧ U64 x ∧ done ++ wordN i x hi = wordN i c hi ∧ J (pre0 ++ done) wr ∧ TabB wr
def OutR (J : List N128 → World → Prop) (a b : Nat) (t : Value) (wr : World) : Prop :=
  (t = .int .i64 0 ∧ J [] wr ∧ TabB wr) ∨ (t = .int .i64 1 ∧ J (wordN 0 a (by decide)) wr ∧ TabB wr) ∨ (t = .int .i64 2 ∧ J (listN a b) wr ∧ TabB wr)
set_option maxRecDepth 100000 in
set_option maxHeartbeats 4000000 in
theorem all1_stops (n : Nat) (hn : 1 ≤ n) (Bn n₀ a b : Nat) (ha : U64 a) (hb : U64 b) (w : World) (hset : SetAt w Bn a b) (ht : TabB w) (h0 : 0 < n₀) :
    SeqStopsK Fence.wide n Tryz.prog 64 #[.pointer (some ⟨Bn, 0, none⟩)] (fun x : N128 => #[.int .i64 ((x.1 : Nat) : Int)]) (Below n₀) (fun xs => xs = listN a b) (fun pre => pre <+: listN a b) 128 w := by
  intro l J Jx W hW _ _ hY hJ0
  have hs := hset.step hW
  have htW : TabB W := ht.below ht.lt hW
  obtain ⟨k0, k1, -⟩ := hs.cells
  clear hset ht hs hW
  have HY := Lib.hid hY
  clear hY
  refine callsIn_of_wp Tryz.func64 rfl trivial ?_ rfl
  simp only [Tryz.ntmps64, List.size_toArray, List.length_cons, List.length_nil, Nat.reduceAdd, Nat.reduceSub, Array.replicate_succ, Array.replicate_zero, List.push_toArray, List.append_toArray, List.nil_append, List.cons_append]
  gi_wp2
  have i0 : ∀ w, (Instr.index 43 (.agg #[.int .u64 (a : Int), .int .u64 (b : Int)]) (.int .i64 0)).run Tryz.prog w = .ok (.int .u64 (a : Int)) w := fun _ => by kernel_rfl
  have i1 : ∀ w, (Instr.index 43 (.agg #[.int .u64 (a : Int), .int .u64 (b : Int)]) (.int .i64 1)).run Tryz.prog w = .ok (.int .u64 (b : Int)) w := fun _ => by kernel_rfl
  gi_loopw [6] (fun t wr => OutR J a b t wr) (fun t _ => 2 - (intOf t).toNat)
  case atStart => exact .inl ⟨rfl, hJ0, htW⟩
  case round =>
    obtain ⟨wo, rfl⟩ : ∃ wo : World, wo = wr := ⟨_, rfl⟩
    rcases hrel with ⟨rfl, hJr, htr⟩ | ⟨rfl, hJr, htr⟩ | ⟨rfl, hJr, htr⟩
    · skip
      gi_wp2
      gi_loopw [4] (fun v wr => InWord J 0 (by decide) ([]) a v wr) (fun v _ => (intOf v).toNat)
      case atStart => exact ⟨a, [], rfl, ha, rfl, by simpa using hJr, htr⟩
      case round =>
        obtain ⟨x, done, rfl, hx, hd, hJx, htx⟩ := hrel
        by_cases hx0 : x = 0
        · subst hx0
          rw [wordN_zero, List.append_nil] at hd
          subst hd
          gi_wp2
          go_roundw
          case rel => exact .inr (.inl ⟨rfl, by simpa using hJx, htx⟩)
          case measure => simp [intOf]
        · obtain ⟨y, hy1, hy2⟩ := wordN_step (i := 0) (by decide) hx hx0
          obtain ⟨-, -, hless⟩ := ctz_step hx hx0
          have HT := Lib.hid (tz_any x hx hx0 wr htx)
          have hq : ((x : Int) == 0) = false := by rw [beq_eq_false_iff_ne]; omega
          rw [hy2] at hd
          have hlen : ([] ++ done).length < 128 := by
            have h1 := congrArg List.length hd
            have h2 := listN_len a b
            rw [listN_words] at h2
            simp at h1 h2 ⊢
            omega
          have hyl := y.2
          have hpw : IntKind.u64.wrap ((x : Int) - 1) = ((x - 1 : Nat) : Int) := wrap_nat (x - 1) (by omega) (by unfold U64 at hx ⊢; omega)
          have hand : bits .and .u64 (x : Int) ((x - 1 : Nat) : Int) = ((x &&& (x - 1) : Nat) : Int) := and64 x (x - 1) hx (by unfold U64 at hx ⊢; omega)
          generalize Lib.ctz 64 x = k at *
          have e : ((y.1 : Nat) : Int) = (k : Int) := by omega
          have hkb : (k : Int) ≤ 127 := by omega
          have hYy : YieldAt Fence.wide (n - 1) Tryz.prog l #[.int .i64 ((k : Int))] wr (fun e W' => (e = .returned (.bool true) ∧ J ([] ++ done ++ [y]) W' ∧ Below n₀ wr W') ∨ (e = .returned (.bool false) ∧ Jx ([] ++ done ++ [y]) W')) := by rw [← e]; exact HY.out ([] ++ done) y wr hJx hlen
          have hux : U64 (x &&& (x - 1)) := hx.and _
          have HD := Lib.hid hd
          have HUX := Lib.hid hux
          have HL := Lib.hid hless
          generalize x &&& (x - 1) = x' at *
          clear hd hux hless hy1 hy2 e hlen
          obtain ⟨fn, tmps, assign, body, hy, hR⟩ := hYy
          have HR := Lib.hid hR
          clear hR
          gi_wp2_with (refine ⟨trivial, ?_⟩; gi_at_call 65; refine (callsIn_wide.2 HT.out).mono ?_; rintro e w3 ⟨rfl, rfl⟩)
          refine HR.out.mono ?_
          rintro e w3 (⟨rfl, hJ3, hb3⟩ | ⟨rfl, hJx3⟩)
          · have ht3 := htx.below h0 hb3
            gi_wp2
            go_roundw
            case rel => exact ⟨x', done ++ [y], rfl, HUX.out, by rw [List.append_assoc]; exact HD.out, by rw [← List.append_assoc]; exact hJ3, ht3⟩
            case measure => have := HL.out; simp [intOf]; omega
          · gi_wp2
            refine bodyPost_ret (results_none rfl _ _ _) rfl ?_
            exact ⟨⟨_, rfl⟩, .inr ⟨[] ++ done ++ [y], by rw [listN_words, ← HD.out]; exact ⟨wordN 0 x' (by decide) ++ wordN 1 b (by decide), by simp⟩, hJx3⟩⟩
    · skip
      gi_wp2
      gi_loopw [4] (fun v wr => InWord J 1 (by decide) (wordN 0 a (by decide)) b v wr) (fun v _ => (intOf v).toNat)
      case atStart => exact ⟨b, [], rfl, hb, rfl, by simpa using hJr, htr⟩
      case round =>
        obtain ⟨x, done, rfl, hx, hd, hJx, htx⟩ := hrel
        by_cases hx0 : x = 0
        · subst hx0
          rw [wordN_zero, List.append_nil] at hd
          subst hd
          gi_wp2
          go_roundw
          case rel => exact .inr (.inr ⟨rfl, by rw [listN_words]; exact hJx, htx⟩)
          case measure => simp [intOf]
        · obtain ⟨y, hy1, hy2⟩ := wordN_step (i := 1) (by decide) hx hx0
          obtain ⟨-, -, hless⟩ := ctz_step hx hx0
          have HT := Lib.hid (tz_any x hx hx0 wr htx)
          have hq : ((x : Int) == 0) = false := by rw [beq_eq_false_iff_ne]; omega
          rw [hy2] at hd
          have hlen : (wordN 0 a (by decide) ++ done).length < 128 := by
            have h1 := congrArg List.length hd
            have h2 := listN_len a b
            rw [listN_words] at h2
            simp at h1 h2 ⊢
            omega
          have hyl := y.2
          have hpw : IntKind.u64.wrap ((x : Int) - 1) = ((x - 1 : Nat) : Int) := wrap_nat (x - 1) (by omega) (by unfold U64 at hx ⊢; omega)
          have hand : bits .and .u64 (x : Int) ((x - 1 : Nat) : Int) = ((x &&& (x - 1) : Nat) : Int) := and64 x (x - 1) hx (by unfold U64 at hx ⊢; omega)
          generalize Lib.ctz 64 x = k at *
          have e : ((y.1 : Nat) : Int) = 64 + (k : Int) := by omega
          have hkb : (k : Int) ≤ 127 := by omega
          have hYy : YieldAt Fence.wide (n - 1) Tryz.prog l #[.int .i64 (64 + (k : Int))] wr (fun e W' => (e = .returned (.bool true) ∧ J (wordN 0 a (by decide) ++ done ++ [y]) W' ∧ Below n₀ wr W') ∨ (e = .returned (.bool false) ∧ Jx (wordN 0 a (by decide) ++ done ++ [y]) W')) := by rw [← e]; exact HY.out (wordN 0 a (by decide) ++ done) y wr hJx hlen
          have hux : U64 (x &&& (x - 1)) := hx.and _
          have HD := Lib.hid hd
          have HUX := Lib.hid hux
          have HL := Lib.hid hless
          generalize x &&& (x - 1) = x' at *
          clear hd hux hless hy1 hy2 e hlen
          obtain ⟨fn, tmps, assign, body, hy, hR⟩ := hYy
          have HR := Lib.hid hR
          clear hR
          gi_wp2_with (refine ⟨trivial, ?_⟩; gi_at_call 65; refine (callsIn_wide.2 HT.out).mono ?_; rintro e w3 ⟨rfl, rfl⟩)
          refine HR.out.mono ?_
          rintro e w3 (⟨rfl, hJ3, hb3⟩ | ⟨rfl, hJx3⟩)
          · have ht3 := htx.below h0 hb3
            gi_wp2
            go_roundw
            case rel => exact ⟨x', done ++ [y], rfl, HUX.out, by rw [List.append_assoc]; exact HD.out, by rw [← List.append_assoc]; exact hJ3, ht3⟩
            case measure => have := HL.out; simp [intOf]; omega
          · gi_wp2
            refine bodyPost_ret (results_none rfl _ _ _) rfl ?_
            exact ⟨⟨_, rfl⟩, .inr ⟨wordN 0 a (by decide) ++ done ++ [y], by rw [listN_words, ← HD.out]; exact ⟨wordN 1 x' (by decide), by simp⟩, hJx3⟩⟩
    · gi_wp2
      go_end0
      exact ⟨⟨_, rfl⟩, .inl ⟨_, rfl, hJr⟩⟩
end Go.Proofs.YtbhkfifmgbcknaaGreatDoor
namespace Go.Proofs.YtbhkfifmgbcknaaGreatDoor
open Go.RowKit Go.Extern.Stop Go.Stop Go.Extern Go.Shelf
attribute [local go_sem] Oper.semAt_some
set_option maxHeartbeats 400000 in
theorem all_any (a b : Nat) (w : World) : Calls Tryz.prog 45 #[setV a b] w fun e w' => e = .returned (.func (.func 64) #[] #[.pointer (some ⟨w.heap.size, 0, none⟩)]) ∧ w' = w.alloc (.cells #[.int .u64 (a : Int), .int .u64 (b : Int)] 43) := by
  go_enter Tryz.func45, Tryz.ntmps45
  go_wp2
  go_ret
  exact ⟨rfl, rfl⟩
def firstI (a b : Nat) : Int := match setL a b with
  | [] => -1
  | k :: _ => (k : Int)
set_option maxRecDepth 100000 in
set_option maxHeartbeats 4000000 in
theorem first_any (a b : Nat) (ha : U64 a) (hb : U64 b) (w : World) (ht : TabB w) :
    Calls Tryz.prog 57 #[setV a b] w fun e w' => e = .returned (.int .i64 (firstI a b)) ∧ Below w.heap.size w w' := by
  refine (callsIn_wide (n := 3)).1 ?_
  have h1 : 1 ≤ 3 := by omega
  refine callsIn_of_wp_marks Tryz.func57 rfl trivial ?_ rfl
  simp only [Tryz.ntmps57, List.size_toArray, List.length_cons, List.length_nil, Nat.reduceAdd, Nat.reduceSub, Array.replicate_succ, Array.replicate_zero, List.push_toArray, List.append_toArray, List.nil_append, List.cons_append]
  gi_wp2_with (refine ⟨trivial, ?_⟩; gi_at_call 45; refine (callsIn_wide.2 (all_any a b _)).mono ?_; rintro e w' ⟨rfl, rfl⟩)
  have hB0 : Below w.heap.size w (((w.alloc (.cells #[.int .u64 (a : Int), .int .u64 (b : Int)] 43)).alloc (.cells #[.int .i64 0] 3)).alloc (.cells #[.int .u64 (a : Int), .int .u64 (b : Int)] 43)) :=
    (((Below.refl _ w).alloc (Nat.le_refl _) _).alloc (by simp) _).alloc (by simp; omega) _
  have hS0 : SetAt (((w.alloc (.cells #[.int .u64 (a : Int), .int .u64 (b : Int)] 43)).alloc (.cells #[.int .i64 0] 3)).alloc (.cells #[.int .u64 (a : Int), .int .u64 (b : Int)] 43)) (w.heap.size + 1 + 1) a b := by
    have := heap_alloc_new ((w.alloc (.cells #[.int .u64 (a : Int), .int .u64 (b : Int)] 43)).alloc (.cells #[.int .i64 0] 3)) (.cells #[.int .u64 (a : Int), .int .u64 (b : Int)] 43)
    rwa [World.size_alloc, World.size_alloc] at this
  have hR0 : (((w.alloc (.cells #[.int .u64 (a : Int), .int .u64 (b : Int)] 43)).alloc (.cells #[.int .i64 0] 3)).alloc (.cells #[.int .u64 (a : Int), .int .u64 (b : Int)] 43)).heap[w.heap.size + 1]? = some (.cells #[.int .i64 0] 3 (0, 0)) := by
    have := heap_alloc_new (w.alloc (.cells #[.int .u64 (a : Int), .int .u64 (b : Int)] 43)) (.cells #[.int .i64 0] 3)
    rw [World.size_alloc] at this
    exact (heap_alloc_old _ _ (by simp)).trans this
  have hT0 := ht.below ht.lt hB0
  refine wpIn_rangeFunc_ownF rfl h1 (gf := 64) (lb := #[.pointer (some ⟨w.heap.size + 1 + 1, 0, none⟩)]) rfl trivial (enters_of Tryz.func64 (by kernel_rfl) rfl)
    (all1_stops 2 (by omega) (w.heap.size + 1 + 1) w.heap.size a b ha hb _ hS0 hT0 ht.lt) belowK_t (belowK_b (by simp; omega)) (Below.refl _ _) (fun _ => rfl)
    (fun pre W => (pre = [] ∧ W.cell? ⟨w.heap.size + 1, 0, none⟩ = some (.int .i64 0) ∧ W.frozen? ⟨w.heap.size + 1, 0, none⟩ = false) ∧ Below w.heap.size w W)
    (fun c pre W => (c = .ret ∧ ∃ x : N128, pre = [x] ∧ W.cell? ⟨w.heap.size + 1, 0, none⟩ = some (.int .i64 ((x.1 : Nat) : Int))) ∧ Below w.heap.size w W)
    (OwnFrom.and (Own.from (fun s A B row hs hg hr => ⟨hs.1, cell_kept hs.2.1 hg hr, (frozen_kept hs.2.1 hg hr).trans hs.2.2⟩) _) (ownFrom_below (Nat.le_refl _) (by simp; omega)))
    (fun c => OwnFrom.and (Own.from (fun s A B row hs hg hr => by obtain ⟨hc, x, hx, hcell⟩ := hs; exact ⟨hc, x, hx, cell_kept hcell hg hr⟩) _) (ownFrom_below (Nat.le_refl _) (by simp; omega)))
    ⟨⟨rfl, by rw [Lib.cell_of_heap hR0]; rfl, by unfold World.frozen?; rw [hR0]; simp⟩, hB0⟩
    (fun x => { tmps := #[setV a b, .pointer (some ⟨w.heap.size, 0, none⟩), .pointer (some ⟨w.heap.size + 1, 0, none⟩), .int .i64 ((x.1 : Nat) : Int), .agg #[.int .u64 (a : Int), .int .u64 (b : Int)], .func (.func 64) #[] #[.pointer (some ⟨w.heap.size + 1 + 1, 0, none⟩)], .int .i64 ((x.1 : Nat) : Int), undef], defers := [] }) ?assign ?body ?done ?stop
  case assign =>
    intro l x W K hK
    gi_wp2
    exact hK
  case body =>
    rintro l pre x W ⟨⟨rfl, hc, hf⟩, hB⟩ _
    gi_wp2
    exact ⟨KeepsOthers.setCell _ _ _, ⟨rfl, x, rfl, World.cell?_setCell_same' _ _ _ (by rw [hc]; rfl)⟩, hB.setCell (p := ⟨w.heap.size + 1, 0, none⟩) (Nat.le_succ _) _⟩
  case done =>
    rintro D xs W hD hxs ⟨⟨rfl, hc, hf⟩, hB⟩ hK
    have hfi : firstI a b = -1 := by
      have e := listN_val a b
      rw [← hxs] at e
      unfold firstI
      rw [← e]
      rfl
    gi_wp2
    have hK' := (KeepsOthers.setCell W ⟨w.heap.size + 1, 0, none⟩ (.int .i64 (-1))).same D _ hK rfl
    refine ⟨by simp, .inl ⟨_, _, rfl, run_takeDeferred hK', ?_⟩⟩
    have hc5 := cell_kept (World.cell?_setCell_same' W ⟨w.heap.size + 1, 0, none⟩ (.int .i64 (-1)) (by rw [hc]; rfl)) (grownBy_putObj' _ D (.deferred none)) (fun r e => by cases e; exact ⟨_, hK', rfl⟩)
    refine ⟨.int .i64 (-1), ?_, by rw [hfi], (hB.setCell (p := ⟨w.heap.size + 1, 0, none⟩) (Nat.le_succ _) _).trans (belowK_b (w := w) (Nat.le_refl _) _ D _ _ (by simp at hD; omega) hK' rfl rfl)⟩
    simp [results, Tryz.f57, go_sem, hc5]
  case stop =>
    rintro D c pre W hD hpre ⟨⟨rfl, x, rfl, hc⟩, hB⟩ hK
    have hfi : firstI a b = ((x.1 : Nat) : Int) := by
      obtain ⟨r, hr⟩ := hpre
      have e := listN_val a b
      rw [← hr] at e
      unfold firstI
      rw [← e]
      rfl
    gi_wp2
    refine ⟨by simp, .inl ⟨_, _, rfl, run_takeDeferred hK, ?_⟩⟩
    have hc5 := cell_kept hc (grownBy_putObj' _ D (.deferred none)) (fun r e => by cases e; exact ⟨_, hK, rfl⟩)
    refine ⟨.int .i64 ((x.1 : Nat) : Int), ?_, by rw [hfi], hB.trans (belowK_b (w := w) (Nat.le_refl _) W D _ _ (by simp at hD; omega) hK rfl rfl)⟩
    simp [results, Tryz.f57, go_sem, hc5]
end Go.Proofs.YtbhkfifmgbcknaaGreatDoor
namespace Go.Proofs.YtbhkfifmgbcknaaGreatDoor
open Go.RowKit Go.Extern.Stop Go.Stop Go.Extern Go.Shelf
attribute [local go_sem] Oper.semAt_some
def encN (l : List N128) : List Value := l.map fun x => Value.int .i64 ((x.1 : Nat) : Int)
theorem encN_snoc (l : List N128) (x : N128) : encN (l ++ [x]) = encN l ++ [Value.int .i64 ((x.1 : Nat) : Int)] := by unfold encN; simp
set_option maxRecDepth 100000 in
set_option maxHeartbeats 4000000 in
theorem list_own (a b : Nat) (ha : U64 a) (hb : U64 b) (w : World) (ht : TabB w) :
    Calls Tryz.prog 25 #[setV a b] w fun e w' => ∃ v, e = .returned v ∧ w'.ownsRow w.heap.size 3 1 v (listN a b).length (encN (listN a b)) ∧ Below w.heap.size w w' := by
  refine (callsIn_wide (n := 3)).1 ?_
  have h1 : 1 ≤ 3 := by omega
  obtain ⟨i0, hi, hz0, hz1, hz2⟩ := info_parts infoInt
  refine callsIn_of_wp_marks Tryz.func25 rfl trivial ?_ rfl
  simp only [Tryz.ntmps25, List.size_toArray, List.length_cons, List.length_nil, Nat.reduceAdd, Nat.reduceSub, Array.replicate_succ, Array.replicate_zero, List.push_toArray, List.append_toArray, List.nil_append, List.cons_append]
  gi_wp2_with (refine ⟨trivial, ?_⟩; gi_at_call 45; refine (callsIn_wide.2 (all_any a b _)).mono ?_; rintro e w' ⟨rfl, rfl⟩)
  have hB0 : Below w.heap.size w (((w.alloc (.cells #[.int .u64 (a : Int), .int .u64 (b : Int)] 43)).alloc (.cells #[.slice none 0 0] 27)).alloc (.cells #[.int .u64 (a : Int), .int .u64 (b : Int)] 43)) :=
    (((Below.refl _ w).alloc (Nat.le_refl _) _).alloc (by simp) _).alloc (by simp; omega) _
  have hS0 : SetAt (((w.alloc (.cells #[.int .u64 (a : Int), .int .u64 (b : Int)] 43)).alloc (.cells #[.slice none 0 0] 27)).alloc (.cells #[.int .u64 (a : Int), .int .u64 (b : Int)] 43)) (w.heap.size + 1 + 1) a b := by
    have := heap_alloc_new ((w.alloc (.cells #[.int .u64 (a : Int), .int .u64 (b : Int)] 43)).alloc (.cells #[.slice none 0 0] 27)) (.cells #[.int .u64 (a : Int), .int .u64 (b : Int)] 43)
    rwa [World.size_alloc, World.size_alloc] at this
  have bO := Boxed.new (w.alloc (.cells #[.int .u64 (a : Int), .int .u64 (b : Int)] 43)) 27 (.slice none 0 0)
  rw [World.size_alloc] at bO
  have hT0 := ht.below ht.lt hB0
  refine wpIn_rangeFunc_ownG rfl h1 (gf := 64) (lb := #[.pointer (some ⟨w.heap.size + 1 + 1, 0, none⟩)]) rfl trivial (enters_of Tryz.func64 (by kernel_rfl) rfl)
    (all1_stops 2 (by omega) (w.heap.size + 1 + 1) w.heap.size a b ha hb _ hS0 hT0 ht.lt) belowK_t (belowK_b (by simp; omega)) (Below.refl _ _) (fun _ => rfl)
    (fun pre W => (∃ v, Boxed W (w.heap.size + 1) 27 v ∧ W.ownsRow w.heap.size 3 1 v pre.length (encN pre) ∧ True) ∧ Below w.heap.size w W)
    (fun _ _ _ => False)
    (OwnFrom.and (Own.from (holdsRow_own w.heap.size (w.heap.size + 1) 27 3 1 (fun pre : List N128 => pre.length) (fun pre => encN pre) (fun _ _ => True)) _) (ownFrom_below (Nat.le_refl _) (by simp; omega)))
    (fun _ _ _ _ _ hs _ _ => hs)
    ⟨⟨_, bO.alloc _, World.ownsRow_nil _ _ _ _, trivial⟩, hB0⟩
    (fun x => { tmps := #[setV a b, .pointer (some ⟨w.heap.size, 0, none⟩), .slice none 0 0, .pointer (some ⟨w.heap.size + 1, 0, none⟩), .int .i64 ((x.1 : Nat) : Int), .agg #[.int .u64 (a : Int), .int .u64 (b : Int)], .func (.func 64) #[] #[.pointer (some ⟨w.heap.size + 1 + 1, 0, none⟩)], .int .i64 ((x.1 : Nat) : Int), undef, undef, undef, undef, undef], defers := [] }) ?assign ?body ?done ?stop
  case assign =>
    intro l x W K hK
    gi_wp2
    exact hK
  case body =>
    rintro l pre x W ⟨⟨v, hv, hrow, -⟩, hB⟩ hlt
    have hc := hv.cell
    gi_wp2_with (gi_at_builtin; refine wpListIn_append_own _ rfl _ _ 27 rfl w.heap.size 3 i0 (.int .i64 0) 1 8 Tryz.underlying27 hi hz0 hz1 hz2 rfl (by decide) _ _ _ rfl (hrow.alloc _) ⟨W.heap.size, 0, none⟩ 1 1 [.int .i64 ((x.1 : Nat) : Int)] rfl rfl (cell_one_new _ _ _) (by simp [Value.oneCell']) (by unfold maxLen; omega) (by omega) (by have := hB.size; simp; omega) ?_; intro v' w1 hown' hgrow _; obtain ⟨g', cap', rfl⟩ := ownsRow_succ hown'; obtain ⟨hv1, hv2, hr2, hk2, hb2⟩ := hv.appended (by decide) hrow hB.size (Nat.le_succ _) hown' hgrow; have hc1 := hv1.cell; have hf1 := hv1.frozen)
    exact ⟨hk2.from _, hb2, ⟨_, hv2, by rw [encN_snoc]; simpa using hr2, trivial⟩, hB.trans hb2⟩
  case done =>
    rintro D ys W hD rfl ⟨⟨v, hv, hrow, -⟩, hB⟩ hK
    have hc := hv.cell
    gi_wp2
    refine ⟨by simp, .inl ⟨_, _, rfl, run_takeDeferred hK, ?_⟩⟩
    exact ⟨_, results_tmp rfl _ _ _, v, rfl, ownsRow_putObj hrow _ hK rfl, hB.trans (belowK_b (w := w) (Nat.le_refl _) W D _ _ (by simp at hD; omega) hK rfl rfl)⟩
  case stop =>
    rintro D c pre W _ _ h _
    exact h.elim
end Go.Proofs.YtbhkfifmgbcknaaGreatDoor
namespace Go.Proofs.YtbhkfifmgbcknaaGreatDoor
open Go.RowKit Go.Extern.Stop Go.Stop Go.Extern
theorem of535 : ofS [5, 3, 5] = (40, 0) := by decide
theorem list40 : setL 40 0 = [3, 5] := by decide
set_option maxRecDepth 100000 in
set_option maxHeartbeats 2000000 in
theorem awake7_any (w : World) (ht : TabB w) : Calls Tryz.prog 42 #[] w fun e w' => e = .returned (.bool true) ∧ Below w.heap.size w w' := by
  have hI : IntsAt (w.alloc (.cells #[.int .i64 5, .int .i64 3, .int .i64 5] 3)) (.slice (some ⟨w.heap.size, 0, none⟩) 3 3) [5, 3, 5] := by
    refine .inr ⟨w.heap.size, 0, 3, rfl, by simp, fun i c hi => ?_⟩
    rw [Lib.cell_of_heap (heap_alloc_new w _)]
    match i, hi with
    | 0, hi => simp at hi; subst hi; rfl
    | 1, hi => simp at hi; subst hi; rfl
    | 2, hi => simp at hi; subst hi; rfl
  have HO := Lib.hid (of_any _ _ _ hI (by decide))
  rw [of535] at HO
  have HT := Lib.hid ht
  have u0 : U64 40 := by unfold U64; decide
  have HL := Lib.hid (fun W => len_any 40 0 u0 zero_u64 W)
  rw [list40] at HL
  have HF := Lib.hid (fun W h => first_any 40 0 u0 zero_u64 W h)
  have hf : firstI 40 0 = 3 := by unfold firstI; rw [list40]; rfl
  rw [hf] at HF
  have H5 := Lib.hid (fun W => has_any 40 0 5 u0 zero_u64 W)
  have h5 : hasI 40 0 5 = true := by decide
  rw [h5] at H5
  have H4 := Lib.hid (fun W => has_any 40 0 4 u0 zero_u64 W)
  have h4 : hasI 40 0 4 = false := by decide
  rw [h4] at H4
  have HB := Lib.hid (below_new w (.cells #[.int .i64 5, .int .i64 3, .int .i64 5] 3))
  clear hI ht hf h5 h4 u0
  go_enter Tryz.func42, Tryz.ntmps42
  go_wp2_with fail
  refine HO.out.mono ?_
  rintro e w1 ⟨rfl, b1⟩
  have HB1 := Lib.hid (HB.out.trans (b1.mono HB.out.size))
  clear b1 HO
  go_wp2_with fail
  refine (HL.out _).mono ?_
  rintro e w2 ⟨rfl, b2⟩
  have hs : SetAt (w1.alloc (.cells #[.int .u64 ((40 : Nat) : Int), .int .u64 ((0 : Nat) : Int)] 43)) w1.heap.size 40 0 := boxed_set w1 40 0
  have hb := below_new w1 (.cells #[.int .u64 ((40 : Nat) : Int), .int .u64 ((0 : Nat) : Int)] 43)
  have hs2 := hs.step b2
  have HB2 := Lib.hid (HB1.out.trans ((hb.trans (b2.mono hb.size)).mono HB1.out.size))
  have k0 := hs2.cells.1
  have k1 := hs2.cells.2.1
  have HS2 := Lib.hid hs2
  clear hs hb b2 hs2
  go_wp2_with fail
  refine (HF.out _ (HT.out.below HT.out.lt HB2.out)).mono ?_
  rintro e w3 ⟨rfl, b3⟩
  have hs3 := HS2.out.step b3
  have HB3 := Lib.hid (HB2.out.trans (b3.mono HB2.out.size))
  have k0 := hs3.cells.1
  have k1 := hs3.cells.2.1
  have HS3 := Lib.hid hs3
  clear b3 hs3 HS2
  go_wp2_with fail
  refine (H5.out _).mono ?_
  rintro e w4 ⟨rfl, b4⟩
  have hs4 := HS3.out.step b4
  have HB4 := Lib.hid (HB3.out.trans (b4.mono HB3.out.size))
  have k0 := hs4.cells.1
  have k1 := hs4.cells.2.1
  clear b4 hs4 HS3
  go_wp2_with fail
  refine (H4.out _).mono ?_
  rintro e w5 ⟨rfl, b5⟩
  have HB5 := Lib.hid (HB4.out.trans (b5.mono HB4.out.size))
  clear b5
  go_wp2_with fail
  go_ret
  exact ⟨rfl, HB5.out⟩
end Go.Proofs.YtbhkfifmgbcknaaGreatDoor
namespace Go.Proofs.YtbhkfifmgbcknaaGreatDoor
open Go.RowKit Go.Extern.Stop Go.Stop Go.Extern
def hasL (l : List Int) (i : Int) : Bool := l.any fun x => decide (x = i)
set_option maxHeartbeats 1000000 in
theorem rhas_any (l : List Int) (v : Value) (i : Int) (w : World) (hv : IntsAt w v l) (hl : l.length ≤ 100000) :
    Calls Tryz.prog 29 #[v, .int .i64 i] w fun e w' => e = .returned (.bool (hasL l i)) ∧ w = w' := by
  obtain ⟨a, cap, rfl⟩ := hv.form
  have HV := Lib.hid hv
  clear hv
  go_enter Tryz.func29, Tryz.ntmps29
  go_wp2_with fail
  go_loop [9] (fun u => ∃ k : Nat, k ≤ l.length ∧ u = .int .i64 k ∧ hasL (l.take k) i = false) (fun u => l.length - (intOf u).toNat)
  case atStart => exact ⟨0, Nat.zero_le _, rfl, rfl⟩
  case round =>
    obtain ⟨k, hk, rfl, hh⟩ := hrel
    have HH := Lib.hid hh
    clear hh
    by_cases hlt : k < l.length
    · obtain ⟨x, hx⟩ : ∃ x, l[k]? = some x := ⟨_, List.getElem?_eq_getElem hlt⟩
      obtain ⟨b, off, rfl, hcell⟩ := HV.out.at hx (Below.refl w.heap.size w)
      have HX : Hid (hasL (l.take (k + 1)) i = (hasL (l.take k) i || decide (x = i))) := Lib.hid (by
        rw [List.take_add_one, hx]
        unfold hasL
        simp)
      by_cases he : x = i
      · have HI : Hid (hasL l i = true) := Lib.hid (List.any_eq_true.2 ⟨x, List.mem_of_getElem? hx, by simpa using he⟩)
        subst he
        clear hx HX
        go_wp2_with fail
        go_ret
        exact ⟨by rw [HI.out]; rfl, rfl⟩
      · have hq : (x == i) = false := by simpa using he
        have HI : Hid (hasL (l.take (k + 1)) i = false) := Lib.hid (by rw [HX.out, HH.out]; simpa using he)
        clear he hx
        go_wp2_with fail
        go_round
        case rel => exact ⟨k + 1, by omega, by go_num, HI.out⟩
        case measure => simp [intOf]; omega
    · obtain rfl : k = l.length := by omega
      rw [List.take_length] at HH
      go_wp2_with fail
      go_ret
      exact ⟨by rw [HH.out]; rfl, rfl⟩
end Go.Proofs.YtbhkfifmgbcknaaGreatDoor
namespace Go.Proofs.YtbhkfifmgbcknaaGreatDoor
open Go.RowKit Go.Extern.Stop Go.Stop Go.Extern
end Go.Proofs.YtbhkfifmgbcknaaGreatDoor
namespace Go.Proofs.YtbhkfifmgbcknaaGreatDoor
open Go
def kindI (ks : List Int) (i : Int) : Int :=
  if 0 ≤ i ∧ i < (ks.length : Int) then (if 1 ≤ ks.getD i.toNat 0 ∧ ks.getD i.toNat 0 ≤ 3 then ks.getD i.toNat 0 else 0) else 0
def mayB (a b : Int) : Bool := (decide (a = 2) && decide (b = 1)) || (decide (a = 3) && (decide (b = 2) || decide (b = 3)))
def validP : List Int → Bool
  | [] => false
  | [a] => decide (a = 1)
  | a :: b :: r => mayB a b && validP (b :: r)
end Go.Proofs.YtbhkfifmgbcknaaGreatDoor
namespace Go.Proofs.YtbhkfifmgbcknaaGreatDoor
open Go
def validH (ks h : List Int) : Bool := validP (h.map (kindI ks))
def opK (ks : List Int) (o : Int × Int) : Int × Int := (o.1, if o.1 = 1 then 0 else kindI ks o.2)
end Go.Proofs.YtbhkfifmgbcknaaGreatDoor
namespace Go.Proofs.YtbhkfifmgbcknaaGreatDoor
open Go.RowKit Go.Extern.Stop Go.Stop Go.Extern
structure RW (w0 : World) (b : Nat) (w : World) : Prop where
  res : SetAt w b 0 0
  below : Below w0.heap.size w0 w
theorem RW.step {w0 : World} {b : Nat} {w w' : World} (h : RW w0 b w) (hb : Below w.heap.size w w') : RW w0 b w' := ⟨h.res.step hb, h.below.trans (hb.mono h.below.size)⟩
theorem RW.start (w : World) : RW w w.heap.size (w.alloc (.cells #[.int .u64 0, .int .u64 0] 43)) := ⟨boxed_set w 0 0, below_new w _⟩
end Go.Proofs.YtbhkfifmgbcknaaGreatDoor
namespace Go.Proofs.YtbhkfifmgbcknaaGreatDoor
open Go.RowKit Go.Extern.Stop Go.Stop Go.Extern
def VR (w : World) (ks h : List Int) (g : Nat) (v : Value) (wr : World) : Prop :=
  ∃ i : Nat, i + 1 ≤ h.length ∧ g = h.length - i ∧ v = .int .i64 i ∧ validH ks h = validP ((h.drop i).map (kindI ks)) ∧ Below w.heap.size w wr
end Go.Proofs.YtbhkfifmgbcknaaGreatDoor
namespace Go.Proofs.YtbhkfifmgbcknaaGreatDoor
open Go.RowKit Go.Extern.Stop Go.Stop Go.Extern
end Go.Proofs.YtbhkfifmgbcknaaGreatDoor
namespace Go.Proofs.YtbhkfifmgbcknaaGreatDoor
open Go.RowKit Go.Extern.Stop Go.Stop Go.Extern
theorem Awake7_any (w : World) (ht : TabB w) : Calls Tryz.prog 22 #[] w fun e w' => e = .returned (.bool true) ∧ Below w.heap.size w w' := by
  have HA := Lib.hid (awake7_any w ht)
  clear ht
  go_enter Tryz.func22, Tryz.ntmps22
  go_wp2_with fail
  refine HA.out.mono ?_
  rintro e w' ⟨rfl, hb⟩
  go_wp2_with fail
  go_ret
  exact ⟨rfl, hb⟩
theorem IntsAt.cut {w : World} {b off cap : Nat} {l : List Int} {n : Nat} (h : IntsAt w (.slice (some ⟨b, off, none⟩) l.length cap) l) (hn : n < l.length) : IntsAt w (.slice (some ⟨b, off + n, none⟩) (l.length - n) (cap - n)) (l.drop n) := by
  rcases h with ⟨a, cp, -, rfl⟩ | ⟨b', off', cp, e, hlt, hc⟩
  · simp at hn
  · injection e with e
    injection e with e
    injection e with e1 e2
    subst e1 e2
    refine .inr ⟨b, off + n, cap - n, by rw [List.length_drop], hlt, fun i c hi => ?_⟩
    rw [List.getElem?_drop] at hi
    rw [Nat.add_assoc]
    exact hc _ _ hi
end Go.Proofs.YtbhkfifmgbcknaaGreatDoor
namespace Go.Proofs.YtbhkfifmgbcknaaGreatDoor
open Go.RowKit Go.Extern.Stop Go.Stop Go.Extern
def OpsAt (w : World) (v : Value) (c : List (Int × Int)) : Prop :=
  (∃ a cap, v = .slice a 0 cap ∧ c = []) ∨ ∃ b off cap, v = .slice (some ⟨b, off, none⟩) c.length cap ∧ b < w.heap.size ∧
    ∀ i o, c[i]? = some o → w.cell? ⟨b, off + i * 2, none⟩ = some (.int .i64 o.1) ∧ w.cell? ⟨b, off + i * 2 + 1, none⟩ = some (.int .i64 o.2)
theorem OpsAt.form {w : World} {v : Value} {c : List (Int × Int)} (h : OpsAt w v c) : ∃ a cap, v = .slice a c.length cap := by
  rcases h with ⟨a, cap, rfl, rfl⟩ | ⟨b, off, cap, rfl, -⟩
  · exact ⟨a, cap, rfl⟩
  · exact ⟨_, cap, rfl⟩
theorem OpsAt.at {w w' : World} {a : Option Addr} {n cap : Nat} {c : List (Int × Int)} (h : OpsAt w (.slice a n cap) c) {i : Nat} {o : Int × Int} (hi : c[i]? = some o) (hb : Below w.heap.size w w') :
    ∃ b off, a = some ⟨b, off, none⟩ ∧ w'.cell? ⟨b, off + i * 2, none⟩ = some (.int .i64 o.1) ∧ w'.cell? ⟨b, off + i * 2 + 1, none⟩ = some (.int .i64 o.2) := by
  rcases h with ⟨a, cap, -, rfl⟩ | ⟨b, off, cap, e, hlt, hc⟩
  · simp at hi
  · injection e with e
    obtain ⟨h0, h1⟩ := hc i o hi
    exact ⟨b, off, e, (hb.cell (p := ⟨b, off + i * 2, none⟩) hlt).trans h0, (hb.cell (p := ⟨b, off + i * 2 + 1, none⟩) hlt).trans h1⟩
theorem OpsAt.step {w w' : World} {v : Value} {c : List (Int × Int)} (h : OpsAt w v c) (hb : Below w.heap.size w w') : OpsAt w' v c := by
  rcases h with h | ⟨b, off, cap, e, hlt, hc⟩
  · exact .inl h
  · exact .inr ⟨b, off, cap, e, Nat.lt_of_lt_of_le hlt hb.size, fun i o hi => ⟨(hb.cell (p := ⟨b, off + i * 2, none⟩) hlt).trans (hc i o hi).1, (hb.cell (p := ⟨b, off + i * 2 + 1, none⟩) hlt).trans (hc i o hi).2⟩⟩
def opCells (c : List (Int × Int)) : List Value := c.flatMap fun o => [.int .i64 o.1, .int .i64 o.2]
theorem opCells_at : ∀ {c : List (Int × Int)} {i : Nat} {o : Int × Int}, c[i]? = some o → (opCells c)[i * 2]? = some (.int .i64 o.1) ∧ (opCells c)[i * 2 + 1]? = some (.int .i64 o.2)
  | [], _, _, h => by simp at h
  | a :: c, 0, o, h => by
    obtain rfl : a = o := by simpa using h
    exact ⟨rfl, rfl⟩
  | a :: c, i + 1, o, h => by
    have := opCells_at (c := c) (i := i) (o := o) (by simpa using h)
    have e : opCells (a :: c) = .int .i64 a.1 :: .int .i64 a.2 :: opCells c := rfl
    rw [e, show (i + 1) * 2 = i * 2 + 1 + 1 by omega]
    exact this
theorem OpsAt.own {w : World} {base : Nat} {T : TypeId} {v : Value} {n : Nat} {c : List (Int × Int)} (h : w.ownsRow base T 2 v n (opCells c)) (hn : n = c.length) : OpsAt w v c := by
  subst hn
  have hc := h
  obtain ⟨h1, h2⟩ := h
  rcases h2 with ⟨rfl, h3⟩ | ⟨g, cap, cur, rfl, hg, hh, h3, h4, h5, h6⟩
  · exact .inl ⟨none, 0, rfl, List.eq_nil_of_length_eq_zero h3⟩
  · refine .inr ⟨g, 0, cap, rfl, (Array.getElem?_eq_some_iff.1 hh).1, fun i o ho => ?_⟩
    obtain ⟨k0, k1⟩ := opCells_at ho
    have e0 : ∀ j, (⟨g, 0, none⟩ : Addr).add j = ⟨g, 0 + j, none⟩ := fun j => by unfold Addr.add; split <;> simp_all
    have a0 := hc.cells (g := g) rfl _ _ k0
    have a1 := hc.cells (g := g) rfl _ _ k1
    rw [e0] at a0 a1
    exact ⟨a0, by rw [Nat.add_assoc]; exact a1⟩
end Go.Proofs.YtbhkfifmgbcknaaGreatDoor
namespace Go.Proofs.YtbhkfifmgbcknaaGreatDoor
open Go.RowKit Go.Extern.Stop Go.Stop Go.Extern
theorem RW2.start (w : World) (o : Obj) : RW w (w.heap.size + 1) ((w.alloc o).alloc (.cells #[.int .u64 0, .int .u64 0] 43)) :=
  ⟨by have := boxed_set (w.alloc o) 0 0; rwa [World.size_alloc] at this, (below_new w _).trans ((below_new _ _).mono (below_new w _).size)⟩
end Go.Proofs.YtbhkfifmgbcknaaGreatDoor
