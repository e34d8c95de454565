/-
  Package bits by contracts, fourth part: the lowest bit's number, and what All hands a loop, one by one.
-/
import Derived.Test.YtjlbdjagbbpoaaaDoorBitD
import Derived.Shelf.Spec.TrailingZeros
import Derived.RangeFuncNested
import Derived.RangeFuncBound
import Derived.RangeFuncCalls
import Derived.RangeFuncLeaves
import Derived.Shelf.Abstract
import Derived.Shelf.RegionOpen
import Derived.OwnWalkIn
import Derived.TacticsInMore
import Derived.LoopNIn
import Derived.LoopIn
namespace Go.Proofs.YtjlbdjagbbpoaaaDoor
open Go.RowKit Go.Extern.Stop Go.Stop Go.Extern Go.Shelf
attribute [local go_sem] Oper.semAt_some

/-- The library's table is there. -/
structure TabB (w : World) : Prop where
  lt : 1 < w.heap.size
  tab : TabAt 1 Lib.deBruijn64tab w
theorem TabB.below {w w' : World} {n : Nat} (h : TabB w) (hn : 1 < n) (hb : Below n w w') : TabB w' :=
  ⟨Nat.lt_of_lt_of_le h.lt hb.size, fun j hj => (hb.cell (p := ⟨1, j, none⟩) hn).trans (h.tab j hj)⟩

set_option maxHeartbeats 1000000 in
theorem tz_core (x k idx : Nat) (w : World) (hx0 : ((x : Int) == 0) = false)
    (key : IntKind.u64.wrap (bits BinOp.and IntKind.u64 (x : Int) (IntKind.u64.wrap (-(x : Int))) * 285870213051353865) / 288230376151711744 = (idx : Int))
    (hi : idx < 64) (hk : k < 64) (hcell : w.cell? ⟨1, idx, none⟩ = some (.int .u8 k)) :
    Calls Tryd.prog 77 #[.int .u64 (x : Int)] w fun e w' => e = .returned (.int .i64 (k : Nat)) ∧ w = w' := by
  go_enter Tryd.func77, Tryd.ntmps77
  go_wp2_with (simp only [key])
  go_ret
  exact ⟨rfl, rfl⟩
theorem tz_any (x : Nat) (hx : U64 x) (h0 : x ≠ 0) (w : World) (ht : TabB w) :
    Calls Tryd.prog 77 #[.int .u64 (x : Int)] w fun e w' => e = .returned (.int .i64 (Lib.ctz 64 x : Nat)) ∧ w = w' := by
  obtain ⟨hlow, hk⟩ := Lib.lowest_bit 64 x h0 (by unfold U64 at hx; omega)
  obtain ⟨hi, htab⟩ := Lib.deBruijn64_at _ hk
  have hcell := ht.tab _ hi
  rw [htab] at hcell
  exact tz_core x _ _ w (by rw [beq_eq_false_iff_ne]; omega) (tz64_key x _ hx h0 hlow) hi hk hcell

theorem ctz_step {x : Nat} (hx : U64 x) (h0 : x ≠ 0) : Lib.ctz 64 x < 64 ∧ bitsOf 64 x = Lib.ctz 64 x :: bitsOf 64 (x &&& (x - 1)) ∧ x &&& (x - 1) < x := by
  obtain ⟨m, hm, hk⟩ := Lib.ctzFrom_spec 64 x (by omega) (by unfold U64 at hx; omega)
  have e : Lib.ctz 64 x = Lib.ctzFrom 64 x := by simp [Lib.ctz, h0]
  rw [e]
  have e2 : x &&& (x - 1) = 2 ^ (Lib.ctzFrom 64 x + 1) * m := by rw [hm, low_and, ← hm]
  refine ⟨hk, ?_, ?_⟩
  · rw [e2, ← bitsOf_low 64 _ m hk, ← hm]
  · have : x &&& (x - 1) ≤ x - 1 := Nat.and_le_right
    omega

/-- A number that a set may have. -/
abbrev N128 := { k : Nat // k < 128 }
def listN (a b : Nat) : List N128 := (setL a b).pmap (fun k h => ⟨k, h⟩) (fun _ h => setL_lt h)
theorem listN_val (a b : Nat) : (listN a b).map (·.1) = setL a b := by
  unfold listN
  rw [List.map_pmap]
  simp

/-- Numbers of one word, from a base on. -/
theorem bitsOf_lt {x k : Nat} (h : k ∈ bitsOf 64 x) : k < 64 := by unfold bitsOf at h; rw [List.mem_filter, List.mem_range] at h; exact h.1
def wordN (i x : Nat) (hi : i < 2) : List N128 := (bitsOf 64 x).pmap (P := fun k => k < 64) (fun k h => ⟨64 * i + k, by omega⟩) (fun _ h => bitsOf_lt h)
theorem wordN_zero (i : Nat) (hi : i < 2) : wordN i 0 hi = [] := by unfold wordN; simp [bitsOf_zero]
theorem pmap_eq {α β : Type} {P : α → Prop} (f : (a : α) → P a → β) : ∀ (l l' : List α) (_ : l = l') (H : ∀ a ∈ l, P a) (H' : ∀ a ∈ l', P a), l.pmap f H = l'.pmap f H' := by
  intro l l' h H H'; subst h; rfl
theorem wordN_step {i x : Nat} (hi : i < 2) (hx : U64 x) (h0 : x ≠ 0) : ∃ y : N128, y.1 = 64 * i + Lib.ctz 64 x ∧ wordN i x hi = y :: wordN i (x &&& (x - 1)) hi := by
  obtain ⟨h1, h2, h3⟩ := ctz_step hx h0
  refine ⟨⟨64 * i + Lib.ctz 64 x, by omega⟩, rfl, ?_⟩
  unfold wordN
  rw [pmap_eq _ _ _ h2 _ (fun k hk => by rw [← h2] at hk; exact bitsOf_lt hk), List.pmap_cons]
theorem wordN_val (i x : Nat) (hi : i < 2) : (wordN i x hi).map (·.1) = (bitsOf 64 x).map (64 * i + ·) := by
  unfold wordN
  rw [List.map_pmap]
  simp
theorem val_inj : ∀ {l l' : List N128}, l.map (·.1) = l'.map (·.1) → l = l'
  | [], [], _ => rfl
  | [], _ :: _, h => by simp at h
  | _ :: _, [], h => by simp at h
  | a :: l, b :: l', h => by
    simp only [List.map_cons, List.cons.injEq] at h
    rw [Subtype.ext h.1, val_inj h.2]
theorem listN_words (a b : Nat) : listN a b = wordN 0 a (by decide) ++ wordN 1 b (by decide) := by
  apply val_inj
  rw [listN_val, List.map_append, wordN_val, wordN_val]
  unfold setL
  congr 1
  simp
theorem listN_len (a b : Nat) : (listN a b).length ≤ 128 := by
  have h1 := congrArg List.length (listN_val a b)
  have h2 := bitsOf_le 64 a
  have h3 := bitsOf_le 64 b
  rw [List.length_map, setL_len] at h1
  omega

/-- Between two rounds, in word number i: so many of its bits are left. -/
def InWord (J : List N128 → World → Prop) (i : Nat) (hi : i < 2) (pre0 : List N128) (c : Nat) (v : Value) (wr : World) : Prop :=
  ∃ x done, v = .int .u64 ((x : Nat) : Int) ∧ U64 x ∧ done ++ wordN i x hi = wordN i c hi ∧ J (pre0 ++ done) wr ∧ TabB wr
def OutR (J : List N128 → World → Prop) (a b : Nat) (t : Value) (wr : World) : Prop :=
  (t = .int .i64 0 ∧ J [] wr ∧ TabB wr) ∨ (t = .int .i64 1 ∧ J (wordN 0 a (by decide)) wr ∧ TabB wr) ∨ (t = .int .i64 2 ∧ J (listN a b) wr ∧ TabB wr)
set_option maxRecDepth 100000 in
set_option maxHeartbeats 4000000 in
theorem all1_stops (n : Nat) (hn : 1 ≤ n) (Bn n₀ a b : Nat) (ha : U64 a) (hb : U64 b) (w : World) (hset : SetAt w Bn a b) (ht : TabB w) (h0 : 1 < n₀) :
    SeqStopsK Fence.wide n Tryd.prog 76 #[.pointer (some ⟨Bn, 0, none⟩)] (fun x : N128 => #[.int .i64 ((x.1 : Nat) : Int)]) (Below n₀) (fun xs => xs = listN a b) (fun pre => pre <+: listN a b) 128 w := by
  intro l J Jx W hW _ _ hY hJ0
  have hs := hset.step hW
  have htW : TabB W := ht.below ht.lt hW
  obtain ⟨k0, k1, -⟩ := hs.cells
  clear hset ht hs hW
  have HY := Lib.hid hY
  clear hY
  refine callsIn_of_wp Tryd.func76 rfl trivial ?_ rfl
  simp only [Tryd.ntmps76, List.size_toArray, List.length_cons, List.length_nil, Nat.reduceAdd, Nat.reduceSub, Array.replicate_succ, Array.replicate_zero, List.push_toArray, List.append_toArray, List.nil_append, List.cons_append]
  gi_wp2
  have i0 : ∀ w, (Instr.index 34 (.agg #[.int .u64 (a : Int), .int .u64 (b : Int)]) (.int .i64 0)).run Tryd.prog w = .ok (.int .u64 (a : Int)) w := fun _ => by kernel_rfl
  have i1 : ∀ w, (Instr.index 34 (.agg #[.int .u64 (a : Int), .int .u64 (b : Int)]) (.int .i64 1)).run Tryd.prog w = .ok (.int .u64 (b : Int)) w := fun _ => by kernel_rfl
  gi_loopw [6] (fun t wr => OutR J a b t wr) (fun t _ => 2 - (intOf t).toNat)
  case atStart => exact .inl ⟨rfl, hJ0, htW⟩
  case round =>
    obtain ⟨wo, rfl⟩ : ∃ wo : World, wo = wr := ⟨_, rfl⟩
    rcases hrel with ⟨rfl, hJr, htr⟩ | ⟨rfl, hJr, htr⟩ | ⟨rfl, hJr, htr⟩
    · skip
      gi_wp2
      gi_loopw [4] (fun v wr => InWord J 0 (by decide) ([]) a v wr) (fun v _ => (intOf v).toNat)
      case atStart => exact ⟨a, [], rfl, ha, rfl, by simpa using hJr, htr⟩
      case round =>
        obtain ⟨x, done, rfl, hx, hd, hJx, htx⟩ := hrel
        by_cases hx0 : x = 0
        · subst hx0
          rw [wordN_zero, List.append_nil] at hd
          subst hd
          gi_wp2
          go_roundw
          case rel => exact .inr (.inl ⟨rfl, by simpa using hJx, htx⟩)
          case measure => simp [intOf]
        · obtain ⟨y, hy1, hy2⟩ := wordN_step (i := 0) (by decide) hx hx0
          obtain ⟨-, -, hless⟩ := ctz_step hx hx0
          have HT := Lib.hid (tz_any x hx hx0 wr htx)
          have hq : ((x : Int) == 0) = false := by rw [beq_eq_false_iff_ne]; omega
          rw [hy2] at hd
          have hlen : ([] ++ done).length < 128 := by
            have h1 := congrArg List.length hd
            have h2 := listN_len a b
            rw [listN_words] at h2
            simp at h1 h2 ⊢
            omega
          have hyl := y.2
          have hpw : IntKind.u64.wrap ((x : Int) - 1) = ((x - 1 : Nat) : Int) := wrap_nat (x - 1) (by omega) (by unfold U64 at hx ⊢; omega)
          have hand : bits .and .u64 (x : Int) ((x - 1 : Nat) : Int) = ((x &&& (x - 1) : Nat) : Int) := and64 x (x - 1) hx (by unfold U64 at hx ⊢; omega)
          generalize Lib.ctz 64 x = k at *
          have e : ((y.1 : Nat) : Int) = (k : Int) := by omega
          have hkb : (k : Int) ≤ 127 := by omega
          have hYy : YieldAt Fence.wide (n - 1) Tryd.prog l #[.int .i64 ((k : Int))] wr (fun e W' => (e = .returned (.bool true) ∧ J ([] ++ done ++ [y]) W' ∧ Below n₀ wr W') ∨ (e = .returned (.bool false) ∧ Jx ([] ++ done ++ [y]) W')) := by rw [← e]; exact HY.out ([] ++ done) y wr hJx hlen
          have hux : U64 (x &&& (x - 1)) := hx.and _
          have HD := Lib.hid hd
          have HUX := Lib.hid hux
          have HL := Lib.hid hless
          generalize x &&& (x - 1) = x' at *
          clear hd hux hless hy1 hy2 e hlen
          obtain ⟨fn, tmps, assign, body, hy, hR⟩ := hYy
          have HR := Lib.hid hR
          clear hR
          gi_wp2_with (refine ⟨trivial, ?_⟩; gi_at_call 77; refine (callsIn_wide.2 HT.out).mono ?_; rintro e w3 ⟨rfl, rfl⟩)
          refine HR.out.mono ?_
          rintro e w3 (⟨rfl, hJ3, hb3⟩ | ⟨rfl, hJx3⟩)
          · have ht3 := htx.below h0 hb3
            gi_wp2
            go_roundw
            case rel => exact ⟨x', done ++ [y], rfl, HUX.out, by rw [List.append_assoc]; exact HD.out, by rw [← List.append_assoc]; exact hJ3, ht3⟩
            case measure => have := HL.out; simp [intOf]; omega
          · gi_wp2
            refine bodyPost_ret (results_none rfl _ _ _) rfl ?_
            exact ⟨⟨_, rfl⟩, .inr ⟨[] ++ done ++ [y], by rw [listN_words, ← HD.out]; exact ⟨wordN 0 x' (by decide) ++ wordN 1 b (by decide), by simp⟩, hJx3⟩⟩
    · skip
      gi_wp2
      gi_loopw [4] (fun v wr => InWord J 1 (by decide) (wordN 0 a (by decide)) b v wr) (fun v _ => (intOf v).toNat)
      case atStart => exact ⟨b, [], rfl, hb, rfl, by simpa using hJr, htr⟩
      case round =>
        obtain ⟨x, done, rfl, hx, hd, hJx, htx⟩ := hrel
        by_cases hx0 : x = 0
        · subst hx0
          rw [wordN_zero, List.append_nil] at hd
          subst hd
          gi_wp2
          go_roundw
          case rel => exact .inr (.inr ⟨rfl, by rw [listN_words]; exact hJx, htx⟩)
          case measure => simp [intOf]
        · obtain ⟨y, hy1, hy2⟩ := wordN_step (i := 1) (by decide) hx hx0
          obtain ⟨-, -, hless⟩ := ctz_step hx hx0
          have HT := Lib.hid (tz_any x hx hx0 wr htx)
          have hq : ((x : Int) == 0) = false := by rw [beq_eq_false_iff_ne]; omega
          rw [hy2] at hd
          have hlen : (wordN 0 a (by decide) ++ done).length < 128 := by
            have h1 := congrArg List.length hd
            have h2 := listN_len a b
            rw [listN_words] at h2
            simp at h1 h2 ⊢
            omega
          have hyl := y.2
          have hpw : IntKind.u64.wrap ((x : Int) - 1) = ((x - 1 : Nat) : Int) := wrap_nat (x - 1) (by omega) (by unfold U64 at hx ⊢; omega)
          have hand : bits .and .u64 (x : Int) ((x - 1 : Nat) : Int) = ((x &&& (x - 1) : Nat) : Int) := and64 x (x - 1) hx (by unfold U64 at hx ⊢; omega)
          generalize Lib.ctz 64 x = k at *
          have e : ((y.1 : Nat) : Int) = 64 + (k : Int) := by omega
          have hkb : (k : Int) ≤ 127 := by omega
          have hYy : YieldAt Fence.wide (n - 1) Tryd.prog l #[.int .i64 (64 + (k : Int))] wr (fun e W' => (e = .returned (.bool true) ∧ J (wordN 0 a (by decide) ++ done ++ [y]) W' ∧ Below n₀ wr W') ∨ (e = .returned (.bool false) ∧ Jx (wordN 0 a (by decide) ++ done ++ [y]) W')) := by rw [← e]; exact HY.out (wordN 0 a (by decide) ++ done) y wr hJx hlen
          have hux : U64 (x &&& (x - 1)) := hx.and _
          have HD := Lib.hid hd
          have HUX := Lib.hid hux
          have HL := Lib.hid hless
          generalize x &&& (x - 1) = x' at *
          clear hd hux hless hy1 hy2 e hlen
          obtain ⟨fn, tmps, assign, body, hy, hR⟩ := hYy
          have HR := Lib.hid hR
          clear hR
          gi_wp2_with (refine ⟨trivial, ?_⟩; gi_at_call 77; refine (callsIn_wide.2 HT.out).mono ?_; rintro e w3 ⟨rfl, rfl⟩)
          refine HR.out.mono ?_
          rintro e w3 (⟨rfl, hJ3, hb3⟩ | ⟨rfl, hJx3⟩)
          · have ht3 := htx.below h0 hb3
            gi_wp2
            go_roundw
            case rel => exact ⟨x', done ++ [y], rfl, HUX.out, by rw [List.append_assoc]; exact HD.out, by rw [← List.append_assoc]; exact hJ3, ht3⟩
            case measure => have := HL.out; simp [intOf]; omega
          · gi_wp2
            refine bodyPost_ret (results_none rfl _ _ _) rfl ?_
            exact ⟨⟨_, rfl⟩, .inr ⟨wordN 0 a (by decide) ++ done ++ [y], by rw [listN_words, ← HD.out]; exact ⟨wordN 1 x' (by decide), by simp⟩, hJx3⟩⟩
    · gi_wp2
      go_end0
      exact ⟨⟨_, rfl⟩, .inl ⟨_, rfl, hJr⟩⟩
end Go.Proofs.YtjlbdjagbbpoaaaDoor
