/-
  A function with a range over a function inside a loop: the marks among its deferred calls, one for each time; how it leaves; what a turn of blocks that are no cells keeps.
  Package bits' All again: what it hands a loop is a number of the set (a loop's body may hang on that).
  A region that draws its order, walked inside a fence, in a round too: a load may be taken first where no operation of the region writes its cell. (The base's law for a plain walk, with its proof, turned to a fence; a region without a 'defer'.)
-/
import Derived.Test.YtlcpbfklnjlgnaaGreatDoorGe
import Derived.Sort.LoopGhostIn
import Derived.OrdersHeld
import Derived.OrdersIn
import Derived.TacticsIn
import Derived.ProofKit
namespace Go.Proofs.YtlcpbfklnjlgnaaGreatDoor
open Go.RowKit Go.Extern.Stop Go.Stop Go.Extern Go.Shelf

def marks (Ds : List Nat) : List Deferred := Ds.map fun D => { target := .collected D, args := #[] }
structure MarksAt (Ds : List Nat) (B : Nat) (w : World) : Prop where
  nd : Ds.Nodup
  mark : ∀ D ∈ Ds, B ≤ D ∧ w.heap[D]? = some (.deferred (some []))
theorem MarksAt.nil (B : Nat) (w : World) : MarksAt [] B w := ⟨List.nodup_nil, fun _ h => by cases h⟩
theorem MarksAt.keep {Ds : List Nat} {B : Nat} {w w' : World} (h : MarksAt Ds B w) (hk : KeepsOthers w w') : MarksAt Ds B w' :=
  ⟨h.nd, fun D hD => ⟨(h.mark D hD).1, hk.same D _ (h.mark D hD).2 rfl⟩⟩
theorem MarksAt.cons {Ds : List Nat} {B D S : Nat} {w : World} (h : MarksAt Ds B w) (hlt : ∀ E ∈ Ds, E < S) (hS : S ≤ D) (hB : B ≤ D) (hD : w.heap[D]? = some (.deferred (some []))) : MarksAt (D :: Ds) B w := by
  refine ⟨List.nodup_cons.2 ⟨fun h' => by have := hlt D h'; omega, h.nd⟩, fun E hE => ?_⟩
  rcases List.mem_cons.1 hE with rfl | hE
  · exact ⟨hB, hD⟩
  · exact h.mark E hE
theorem MarksAt.lt {Ds : List Nat} {B : Nat} {w : World} (h : MarksAt Ds B w) : ∀ E ∈ Ds, E < w.heap.size := fun E hE => (Array.getElem?_eq_some_iff.1 (h.mark E hE).2).1
/-- Marks ahead of a loop's own blocks abide its turns. -/
theorem marks_own {β : Type} (Ds : List Nat) (B S : Nat) (hlt : ∀ E ∈ Ds, E < S) : OwnFrom S (fun (_ : β) W => MarksAt Ds B W) := fun _ X Y row hs hg hr =>
  ⟨hs.nd, fun D hD => ⟨(hs.mark D hD).1, (hg.block D (hs.lt D hD) (fun e => by have := (hr D e.symm).1; have := hlt D hD; omega)).trans (hs.mark D hD).2⟩⟩
/-- Old memory lies as it lay, and whatever cell there was. -/
structure Shut (B : Nat) (w w' : World) : Prop where
  below : Below B w w'
  cell : ∀ p v, w.cell? p = some v → w'.cell? p = some v
theorem leaves_marks {F : Fence} {n : Nat} {P : Program} {fn : Func} {tmps : Array Value} {R : Ending → World → Prop} {B : Nat} : ∀ (Ds : List Nat) (w : World), MarksAt Ds B w →
    (∀ w', Shut B w w' → ∃ v, (results fn tmps).run P w' = .ok v w' ∧ R (.returned v) w') → LeavesInM F n P fn tmps R (marks Ds) .returning w
  | [], w, _, h => h w ⟨Below.refl _ _, fun _ _ h => h⟩
  | D :: Ds, w, hm, h => by
    obtain ⟨hB, hD⟩ := hm.mark D (List.mem_cons_self ..)
    have hlt := (Array.getElem?_eq_some_iff.1 hD).1
    have hb : Below B w (w.putObj D (.deferred none)) := (Below.refl B w).grown (grownBy_putObj' w D _) (by omega) (fun k e => by cases e; exact hB)
    have hc : ∀ p v, w.cell? p = some v → (w.putObj D (.deferred none)).cell? p = some v := fun p v hp => cell_kept hp (grownBy_putObj' w D _) (fun r e => by cases e; exact ⟨_, hD, rfl⟩)
    refine ⟨by simp, .inl ⟨D, _, rfl, run_takeDeferred hD, ?_⟩⟩
    refine leaves_marks Ds _ ⟨(List.nodup_cons.1 hm.nd).2, fun E hE => ⟨(hm.mark E (List.mem_cons_of_mem _ hE)).1, ?_⟩⟩ fun w' hs => h w' ⟨hb.trans hs.below, fun p v hp => hs.cell p v (hc p v hp)⟩
    have hne : E ≠ D := fun e => (List.nodup_cons.1 hm.nd).1 (e ▸ hE)
    exact ((grownBy_putObj' w D (.deferred none)).block E (Array.getElem?_eq_some_iff.1 (hm.mark E (List.mem_cons_of_mem _ hE)).2).1 (fun e => by injection e with e; exact hne e)).trans (hm.mark E (List.mem_cons_of_mem _ hE)).2
/-- A block of cells abides every turn of a block that is none. -/
theorem blk_kept {X Y : World} {row : Option Nat} {b : Nat} {o : Obj} (hs : X.heap[b]? = some o) (ho : o.isCells = true) (hg : X.grownBy Y row) (hr : ∀ r, row = some r → ∃ o' : Obj, X.heap[r]? = some o' ∧ o'.isCells = false) : Y.heap[b]? = some o :=
  (hg.block b (Array.getElem?_eq_some_iff.1 hs).1 (fun e => by
    obtain ⟨o', h1, h2⟩ := hr b e.symm
    rw [hs] at h1
    injection h1 with h1
    subst h1
    rw [ho] at h2
    cases h2)).trans hs
theorem keeps_below {W W' : World} (h : Below W.heap.size W W') : KeepsOthers W W' := ⟨h.size, fun i _ hi _ => (h.block i (Array.getElem?_eq_some_iff.1 hi).1).trans hi⟩
theorem SetAt.own {X Y : World} {row : Option Nat} {b x y : Nat} (hs : SetAt X b x y) (hg : X.grownBy Y row) (hr : ∀ r, row = some r → ∃ o : Obj, X.heap[r]? = some o ∧ o.isCells = false) : SetAt Y b x y := blk_kept hs rfl hg hr
end Go.Proofs.YtlcpbfklnjlgnaaGreatDoor

namespace Go.Proofs.YtlcpbfklnjlgnaaGreatDoor
open Go.RowKit Go.Extern.Stop Go.Stop Go.Extern Go.Shelf
attribute [local go_sem] Oper.semAt_some

set_option maxRecDepth 100000 in
set_option maxHeartbeats 4000000 in
theorem all1_core (n : Nat) (hn : 1 ≤ n) (Bn n₀ a b : Nat) (ha : U64 a) (hb : U64 b) (w : World) (hset : SetAt w Bn a b) (ht : TabB w) (h0 : 1 < n₀)
    (l : Nat) (J Jx : List N128 → World → Prop) (W : World) (hW : Below w.heap.size w W)
    (hY : ∀ pre x W1, (pre ++ [x]) <+: listN a b → J pre W1 → pre.length < 128 → YieldAt Fence.wide (n - 1) Tryz.prog l #[.int .i64 ((x.1 : Nat) : Int)] W1 fun e W' =>
      (e = .returned (.bool true) ∧ J (pre ++ [x]) W' ∧ Below n₀ W1 W') ∨ (e = .returned (.bool false) ∧ Jx (pre ++ [x]) W')) (hJ0 : J [] W) :
    CallsIn Fence.wide n Tryz.prog 126 (#[.func (.yield l) #[] #[]] ++ #[.pointer (some ⟨Bn, 0, none⟩)]) W fun e W' => (∃ v, e = .returned v) ∧ ((∃ xs, xs = listN a b ∧ J xs W') ∨ (∃ pre, pre <+: listN a b ∧ Jx pre W')) := by
  have hs := hset.step hW
  have htW : TabB W := ht.below ht.lt hW
  obtain ⟨k0, k1, -⟩ := hs.cells
  clear hset ht hs hW
  have HY := Lib.hid hY
  clear hY
  refine callsIn_of_wp Tryz.func126 rfl trivial ?_ rfl
  simp only [Tryz.ntmps126, List.size_toArray, List.length_cons, List.length_nil, Nat.reduceAdd, Nat.reduceSub, Array.replicate_succ, Array.replicate_zero, List.push_toArray, List.append_toArray, List.nil_append, List.cons_append]
  gi_wp2
  have i0 : ∀ w, (Instr.index 56 (.agg #[.int .u64 (a : Int), .int .u64 (b : Int)]) (.int .i64 0)).run Tryz.prog w = .ok (.int .u64 (a : Int)) w := fun _ => by kernel_rfl
  have i1 : ∀ w, (Instr.index 56 (.agg #[.int .u64 (a : Int), .int .u64 (b : Int)]) (.int .i64 1)).run Tryz.prog w = .ok (.int .u64 (b : Int)) w := fun _ => by kernel_rfl
  gi_loopw [6] (fun t wr => OutR J a b t wr) (fun t _ => 2 - (intOf t).toNat)
  case atStart => exact .inl ⟨rfl, hJ0, htW⟩
  case round =>
    obtain ⟨wo, rfl⟩ : ∃ wo : World, wo = wr := ⟨_, rfl⟩
    rcases hrel with ⟨rfl, hJr, htr⟩ | ⟨rfl, hJr, htr⟩ | ⟨rfl, hJr, htr⟩
    · skip
      gi_wp2
      gi_loopw [4] (fun v wr => InWord J 0 (by decide) ([]) a v wr) (fun v _ => (intOf v).toNat)
      case atStart => exact ⟨a, [], rfl, ha, rfl, by simpa using hJr, htr⟩
      case round =>
        obtain ⟨x, done, rfl, hx, hd, hJx, htx⟩ := hrel
        by_cases hx0 : x = 0
        · subst hx0
          rw [wordN_zero, List.append_nil] at hd
          subst hd
          gi_wp2
          go_roundw
          case rel => exact .inr (.inl ⟨rfl, by simpa using hJx, htx⟩)
          case measure => simp [intOf]
        · obtain ⟨y, hy1, hy2⟩ := wordN_step (i := 0) (by decide) hx hx0
          obtain ⟨-, -, hless⟩ := ctz_step hx hx0
          have HT := Lib.hid (tz_any x hx hx0 wr htx)
          have hq : ((x : Int) == 0) = false := by rw [beq_eq_false_iff_ne]; omega
          rw [hy2] at hd
          have hpf : ([] ++ done ++ [y]) <+: listN a b := ⟨wordN 0 (x &&& (x - 1)) (by decide) ++ wordN 1 b (by decide), by rw [listN_words, ← hd]; simp⟩
          have hlen : ([] ++ done).length < 128 := by
            have h1 := congrArg List.length hd
            have h2 := listN_len a b
            rw [listN_words] at h2
            simp at h1 h2 ⊢
            omega
          have hyl := y.2
          have hpw : IntKind.u64.wrap ((x : Int) - 1) = ((x - 1 : Nat) : Int) := wrap_nat (x - 1) (by omega) (by unfold U64 at hx ⊢; omega)
          have hand : bits .and .u64 (x : Int) ((x - 1 : Nat) : Int) = ((x &&& (x - 1) : Nat) : Int) := and64 x (x - 1) hx (by unfold U64 at hx ⊢; omega)
          generalize Lib.ctz 64 x = k at *
          have e : ((y.1 : Nat) : Int) = (k : Int) := by omega
          have hkb : (k : Int) ≤ 127 := by omega
          have hYy : YieldAt Fence.wide (n - 1) Tryz.prog l #[.int .i64 ((k : Int))] wr (fun e W' => (e = .returned (.bool true) ∧ J ([] ++ done ++ [y]) W' ∧ Below n₀ wr W') ∨ (e = .returned (.bool false) ∧ Jx ([] ++ done ++ [y]) W')) := by rw [← e]; exact HY.out ([] ++ done) y wr hpf hJx hlen
          have hux : U64 (x &&& (x - 1)) := hx.and _
          have HD := Lib.hid hd
          have HUX := Lib.hid hux
          have HL := Lib.hid hless
          generalize x &&& (x - 1) = x' at *
          clear hd hux hless hy1 hy2 e hlen hpf
          obtain ⟨fn, tmps, assign, body, hy, hR⟩ := hYy
          have HR := Lib.hid hR
          clear hR
          gi_wp2_with (refine ⟨trivial, ?_⟩; gi_at_call 127; refine (callsIn_wide.2 HT.out).mono ?_; rintro e w3 ⟨rfl, rfl⟩)
          refine HR.out.mono ?_
          rintro e w3 (⟨rfl, hJ3, hb3⟩ | ⟨rfl, hJx3⟩)
          · have ht3 := htx.below h0 hb3
            gi_wp2
            go_roundw
            case rel => exact ⟨x', done ++ [y], rfl, HUX.out, by rw [List.append_assoc]; exact HD.out, by rw [← List.append_assoc]; exact hJ3, ht3⟩
            case measure => have := HL.out; simp [intOf]; omega
          · gi_wp2
            refine bodyPost_ret (results_none rfl _ _ _) rfl ?_
            exact ⟨⟨_, rfl⟩, .inr ⟨[] ++ done ++ [y], by rw [listN_words, ← HD.out]; exact ⟨wordN 0 x' (by decide) ++ wordN 1 b (by decide), by simp⟩, hJx3⟩⟩
    · skip
      gi_wp2
      gi_loopw [4] (fun v wr => InWord J 1 (by decide) (wordN 0 a (by decide)) b v wr) (fun v _ => (intOf v).toNat)
      case atStart => exact ⟨b, [], rfl, hb, rfl, by simpa using hJr, htr⟩
      case round =>
        obtain ⟨x, done, rfl, hx, hd, hJx, htx⟩ := hrel
        by_cases hx0 : x = 0
        · subst hx0
          rw [wordN_zero, List.append_nil] at hd
          subst hd
          gi_wp2
          go_roundw
          case rel => exact .inr (.inr ⟨rfl, by rw [listN_words]; exact hJx, htx⟩)
          case measure => simp [intOf]
        · obtain ⟨y, hy1, hy2⟩ := wordN_step (i := 1) (by decide) hx hx0
          obtain ⟨-, -, hless⟩ := ctz_step hx hx0
          have HT := Lib.hid (tz_any x hx hx0 wr htx)
          have hq : ((x : Int) == 0) = false := by rw [beq_eq_false_iff_ne]; omega
          rw [hy2] at hd
          have hpf : (wordN 0 a (by decide) ++ done ++ [y]) <+: listN a b := ⟨wordN 1 (x &&& (x - 1)) (by decide), by rw [listN_words, ← hd]; simp⟩
          have hlen : (wordN 0 a (by decide) ++ done).length < 128 := by
            have h1 := congrArg List.length hd
            have h2 := listN_len a b
            rw [listN_words] at h2
            simp at h1 h2 ⊢
            omega
          have hyl := y.2
          have hpw : IntKind.u64.wrap ((x : Int) - 1) = ((x - 1 : Nat) : Int) := wrap_nat (x - 1) (by omega) (by unfold U64 at hx ⊢; omega)
          have hand : bits .and .u64 (x : Int) ((x - 1 : Nat) : Int) = ((x &&& (x - 1) : Nat) : Int) := and64 x (x - 1) hx (by unfold U64 at hx ⊢; omega)
          generalize Lib.ctz 64 x = k at *
          have e : ((y.1 : Nat) : Int) = 64 + (k : Int) := by omega
          have hkb : (k : Int) ≤ 127 := by omega
          have hYy : YieldAt Fence.wide (n - 1) Tryz.prog l #[.int .i64 (64 + (k : Int))] wr (fun e W' => (e = .returned (.bool true) ∧ J (wordN 0 a (by decide) ++ done ++ [y]) W' ∧ Below n₀ wr W') ∨ (e = .returned (.bool false) ∧ Jx (wordN 0 a (by decide) ++ done ++ [y]) W')) := by rw [← e]; exact HY.out (wordN 0 a (by decide) ++ done) y wr hpf hJx hlen
          have hux : U64 (x &&& (x - 1)) := hx.and _
          have HD := Lib.hid hd
          have HUX := Lib.hid hux
          have HL := Lib.hid hless
          generalize x &&& (x - 1) = x' at *
          clear hd hux hless hy1 hy2 e hlen hpf
          obtain ⟨fn, tmps, assign, body, hy, hR⟩ := hYy
          have HR := Lib.hid hR
          clear hR
          gi_wp2_with (refine ⟨trivial, ?_⟩; gi_at_call 127; refine (callsIn_wide.2 HT.out).mono ?_; rintro e w3 ⟨rfl, rfl⟩)
          refine HR.out.mono ?_
          rintro e w3 (⟨rfl, hJ3, hb3⟩ | ⟨rfl, hJx3⟩)
          · have ht3 := htx.below h0 hb3
            gi_wp2
            go_roundw
            case rel => exact ⟨x', done ++ [y], rfl, HUX.out, by rw [List.append_assoc]; exact HD.out, by rw [← List.append_assoc]; exact hJ3, ht3⟩
            case measure => have := HL.out; simp [intOf]; omega
          · gi_wp2
            refine bodyPost_ret (results_none rfl _ _ _) rfl ?_
            exact ⟨⟨_, rfl⟩, .inr ⟨wordN 0 a (by decide) ++ done ++ [y], by rw [listN_words, ← HD.out]; exact ⟨wordN 1 x' (by decide), by simp⟩, hJx3⟩⟩
    · gi_wp2
      go_end0
      exact ⟨⟨_, rfl⟩, .inl ⟨_, rfl, hJr⟩⟩

/-- A number of a set. -/
abbrev MemN (a b : Nat) := { k : N128 // hasB a b k.1 = true }
def listM (a b : Nat) : List (MemN a b) := (listN a b).pmap (fun k h => ⟨k, h⟩) (fun k h => by
  rw [← setL_mem, ← listN_val]
  exact List.mem_map.2 ⟨k, h, rfl⟩)
theorem listM_val (a b : Nat) : (listM a b).map (·.1) = listN a b := by
  unfold listM
  rw [List.map_pmap]
  simp
theorem memN_inj {a b : Nat} : ∀ {l l' : List (MemN a b)}, l.map (·.1) = l'.map (·.1) → l = l'
  | [], [], _ => rfl
  | [], _ :: _, h => by simp at h
  | _ :: _, [], h => by simp at h
  | x :: l, y :: l', h => by
    simp only [List.map_cons, List.cons.injEq] at h
    rw [Subtype.ext h.1, memN_inj h.2]
theorem prefix_back {a b : Nat} {pre : List (MemN a b)} (h : pre.map (·.1) <+: listN a b) : pre <+: listM a b := by
  obtain ⟨r, hr⟩ := h
  have hl : pre = (listM a b).take pre.length := by
    apply memN_inj
    rw [List.map_take, listM_val, ← hr]
    simp
  rw [hl]
  exact List.take_prefix _ _
theorem all1_stopsM (n : Nat) (hn : 1 ≤ n) (Bn n₀ a b : Nat) (ha : U64 a) (hb : U64 b) (w : World) (hset : SetAt w Bn a b) (ht : TabB w) (h0 : 1 < n₀) :
    SeqStopsK Fence.wide n Tryz.prog 126 #[.pointer (some ⟨Bn, 0, none⟩)] (fun x : MemN a b => #[.int .i64 ((x.1.1 : Nat) : Int)]) (Below n₀) (fun xs => xs = listM a b) (fun pre => pre <+: listM a b) 128 w := by
  intro l J Jx W hW _ _ hY hJ0
  refine (all1_core n hn Bn n₀ a b ha hb w hset ht h0 l (fun pre W => ∃ pre' : List (MemN a b), pre'.map (·.1) = pre ∧ J pre' W) (fun pre W => ∃ pre' : List (MemN a b), pre'.map (·.1) = pre ∧ Jx pre' W) W hW ?_ ⟨[], rfl, hJ0⟩).mono ?_
  · rintro pre x W1 hp ⟨pre', rfl, hJ⟩ hlen
    have hx : hasB a b x.1 = true := by
      rw [← setL_mem, ← listN_val]
      exact List.mem_map.2 ⟨x, hp.subset (by simp), rfl⟩
    refine (hY pre' ⟨x, hx⟩ W1 hJ (by simpa using hlen)).mono ?_
    rintro e W' (⟨rfl, h1, h2⟩ | ⟨rfl, h1⟩)
    · exact .inl ⟨rfl, ⟨pre' ++ [⟨x, hx⟩], by simp, h1⟩, h2⟩
    · exact .inr ⟨rfl, ⟨pre' ++ [⟨x, hx⟩], by simp, h1⟩⟩
  · rintro e W' ⟨hv, (⟨xs, rfl, pre', hp, hJ⟩ | ⟨pre, hpf, pre', rfl, hJ⟩)⟩
    · exact ⟨hv, .inl ⟨pre', memN_inj (by rw [hp, listM_val]), hJ⟩⟩
    · exact ⟨hv, .inr ⟨pre', prefix_back hpf, hJ⟩⟩
end Go.Proofs.YtlcpbfklnjlgnaaGreatDoor

namespace Go.Proofs.YtlcpbfklnjlgnaaGreatDoor
open Go

section
variable {F : Fence} {n : Nat} {P : Program} {ops : Array Oper} {Q : Exit → Act → World → Prop} {md : Region.Mode} {S : World → Prop}
def noDefer (ops : Array Oper) : Bool := ops.all fun o => match o.op with | .defer _ => false | _ => true
theorem noDefer_spec {ops : Array Oper} (h : noDefer ops = true) {j : Nat} {o : Oper} (hj : ops[j]? = some o) : ∀ c, o.op ≠ .defer c := by
  intro c hc
  obtain ⟨hlt, rfl⟩ := Array.getElem?_eq_some_iff.1 hj
  unfold noDefer at h
  rw [Array.all_eq_true] at h
  have := h j hlt
  rw [hc] at this
  cases this
/-- It yields its value in every world that meets S, and is about to make no call. -/
def YieldsFI (P : Program) (ops : Array Oper) (S : World → Prop) (o : Oper) (v : Value) (a : Act) : Prop := YieldsIf P ops S o v a ∧ ∀ w, o.about P w a.eval = none
theorem YieldsFI.wpOpIn {i : Nat} {o : Oper} {v : Value} {a : Act} (hnd : ∀ c, o.op ≠ .defer c) (hi : ops[i]? = some o) (hy : YieldsFI P ops S o v a)
    {K : Act → World → Prop} {w : World} (hS : S w) (h : K (a.put o.dst v) w) : wpOpIn F n P ops Q i K a w := by
  unfold Go.wpOpIn
  simp only [hi]
  have hab : ∀ f, o.about P w a.eval = some f → F.fn f := fun f hf => by rw [hy.2 w] at hf; cases hf
  rcases hy.1 with ⟨hw, hv⟩ | ⟨hw, rfl⟩
  · simp only [hw, if_true, Oper.wpIn, Oper.semAt_eq F.round a.eval o hnd, hv w hS, Oper.uponIn]; exact ⟨hab, h⟩
  · simp only [hw, Bool.false_eq_true, if_false]; exact ⟨hab, h⟩
theorem YieldsFI.of_same {o : Oper} {v : Value} {a a' : Act} (hy : YieldsFI P ops S o v a) (he : execOp a'.eval o = execOp a.eval o)
    (hw : Region.wanted o (yielded ops a'.tmps) = Region.wanted o (yielded ops a.tmps)) (hb : ∀ w, o.about P w a'.eval = o.about P w a.eval) : YieldsFI P ops S o v a' :=
  ⟨hy.1.of_same he hw, fun w => by rw [hb w]; exact hy.2 w⟩
theorem wpOpIn_putIf {j : Nat} {oi oj : Oper} {v : Value} (hnd : ∀ c, oj.op ≠ .defer c) (hj : ops[j]? = some oj) (hap : oi.apart ops oj = true)
    (hsi : ∀ cs b, oi.op ≠ .select cs b) (hsj : ∀ cs b, oj.op ≠ .select cs b)
    (hQ : ∀ c a w, Q (.panic c) (a.put oi.dst v) w → Q (.panic c) a w) {K : Act → World → Prop} {a : Act} {w : World}
    (hy : YieldsFI P ops S oi v a) (h : wpOpIn F n P ops Q j K (a.put oi.dst v) w) :
    wpOpIn F n P ops Q j (fun a' w' => YieldsFI P ops S oi v a' ∧ K (a'.put oi.dst v) w') a w := by
  obtain ⟨h1, h2, h3⟩ := Oper.apart_spec hap
  have keep : ∀ (a : Act), YieldsFI P ops S oi v a → ∀ u, YieldsFI P ops S oi v (a.put oj.dst u) := fun a hy u =>
    hy.of_same (execOp_put oi hsi a oj.dst u h3) (wanted_put oi a oj.dst u h3) (fun w => about_put oi w a oj.dst u h3)
  have keepD : ∀ d, YieldsFI P ops S oi v { a with defers := d :: a.defers } := fun d => hy.of_same rfl rfl (fun _ => rfl)
  unfold wpOpIn at *
  simp only [hj] at *
  rw [wanted_put oj a oi.dst v h1, about_put oj w a oi.dst v h1] at h
  split
  · rename_i hw
    simp only [hw, if_true] at h
    unfold Oper.wpIn at *
    rw [about_put oj w a oi.dst v h1] at h
    refine ⟨h.1, ?_⟩
    have h := h.2
    rw [Oper.semAt_eq _ _ oj hnd, execOp_put oj hsj a oi.dst v h1] at h
    rw [Oper.semAt_eq _ _ oj hnd]
    generalize (execOp a.eval oj).run P w = r at *
    cases r with
    | ok x w' =>
      cases x <;> simp only [Oper.uponIn] at h ⊢
      case value u => exact ⟨keep a hy u, by rw [← Act.put_comm a v u h2]; exact h⟩
      case skip => exact ⟨keep a hy _, by rw [← Act.put_comm a v undef h2]; exact h⟩
      case defer d =>
        refine ⟨keep _ (keepD d) _, ?_⟩
        rw [← Act.put_comm _ v undef h2, ← Act.put_defers]
        exact h
      case enter f args =>
        refine ⟨h.1, CallsIn.mono h.2 fun e w'' he => ?_⟩
        cases e with
        | returned u => exact ⟨keep a hy u, by rw [← Act.put_comm a v u h2]; exact he⟩
        | panicked c => exact hQ _ _ _ he
        | outgrown => exact he
      case row row args => exact ⟨h.1, RowsIn.mono h.2 fun u w'' he => ⟨keep a hy u, by rw [← Act.put_comm a v u h2]; exact he⟩⟩
      case round l f tmps assign body =>
        refine ⟨h.1, RoundIn.mono h.2 fun e w'' he => ?_⟩
        cases e with
        | returned u => exact ⟨keep a hy u, by rw [← Act.put_comm a v u h2]; exact he⟩
        | panicked c => exact hQ _ _ _ he
        | outgrown => exact he
    | halt x w' =>
      cases x <;> simp only [Oper.uponIn] at h ⊢
      case panic u => exact hQ _ _ _ h
  · rename_i hw
    simp only [hw] at h
    exact ⟨h.1, keep a hy _, by rw [← Act.put_comm a v undef h2]; exact h.2⟩

/-- Whatever order is picked from here on; S holds behind every operation but the last ones. -/
def wpH (F : Fence) (n : Nat) (P : Program) (md : Region.Mode) (ops : Array Oper) (Q : Exit → Act → World → Prop) (S : World → Prop) : Nat → Array Bool → Act → World → Prop
  | 0, listed, a, w => Region.ready md ops listed = [] ∧ Q .normal a w
  | fuel + 1, listed, a, w =>
    (Region.ready md ops listed = [] → Q .normal a w) ∧
    ∀ i ∈ Region.ready md ops listed, wpOpIn F n P ops Q i (fun a' w' => S w' ∧ wpH F n P md ops Q S fuel (listed.setIfInBounds i true) a' w') a w
theorem wpAnyIn_of_H : ∀ (fuel : Nat) (listed : Array Bool) (a : Act) (w : World), wpH F n P md ops Q S fuel listed a w → wpAnyIn F n P md ops Q fuel listed a w
  | 0, _, _, _, h => h
  | fuel + 1, _, _, _, h => ⟨h.1, fun i hi => wpOpIn_mono (fun a' w' h' => wpAnyIn_of_H fuel _ a' w' h'.2) (h.2 i hi)⟩
theorem wpH_first {i : Nat} {oi : Oper} {v : Value} (hnd : noDefer ops = true) (hi : ops[i]? = some oi) (hsel : ∀ (j : Nat) (o : Oper) cs b, ops[j]? = some o → o.op ≠ .select cs b)
    (hQ : ∀ c a w, Q (.panic c) (a.put oi.dst v) w → Q (.panic c) a w) :
    ∀ (fuel : Nat) (listed : Array Bool) (a : Act) (w : World),
      (∀ j oj, ops[j]? = some oj → j ≠ i → listed.getD j true = false → (∀ e ∈ oj.after, Region.binds md e = true → e.on ≠ i) → oi.apart ops oj = true) →
      i ∈ Region.ready md ops listed → YieldsFI P ops S oi v a → S w →
      wpH F n P md ops Q S fuel (listed.setIfInBounds i true) (a.put oi.dst v) w → wpH F n P md ops Q S (fuel + 1) listed a w := by
  intro fuel
  induction fuel with
  | zero =>
    intro listed a w _ hr hy hS H
    refine ⟨fun h => (by rw [h] at hr; cases hr), fun j hj => ?_⟩
    by_cases hji : j = i
    · subst hji; exact hy.wpOpIn (noDefer_spec hnd hi) hi hS ⟨hS, H⟩
    · have := ready_mono hj hji
      rw [H.1] at this
      cases this
  | succ fuel ih =>
    intro listed a w hfree hr hy hS H
    refine ⟨fun h => (by rw [h] at hr; cases hr), fun j hj => ?_⟩
    by_cases hji : j = i
    · subst hji; exact hy.wpOpIn (noDefer_spec hnd hi) hi hS ⟨hS, H⟩
    · have h1 := H.2 j (ready_mono hj hji)
      obtain ⟨hjun, oj, hoj, hall⟩ := mem_ready.1 hj
      have hnot : ∀ e ∈ oj.after, Region.binds md e = true → e.on ≠ i := fun e he hb heq => by
        have h1 := hall e he hb
        have h0 := (mem_ready.1 hr).1
        rw [heq] at h1
        rcases Nat.lt_or_ge i listed.size with h' | h'
        · simp [h'] at h0 h1; rw [h0] at h1; cases h1
        · simp [Array.getElem?_eq_none h'] at h1
      have h2 := wpOpIn_putIf (noDefer_spec hnd hoj) hoj (hfree j oj hoj hji hjun hnot) (fun cs b => hsel i oi cs b hi) (fun cs b => hsel j oj cs b hoj) hQ hy h1
      have hfree' : ∀ k ok, ops[k]? = some ok → k ≠ i → (listed.setIfInBounds j true).getD k true = false →
          (∀ e ∈ ok.after, Region.binds md e = true → e.on ≠ i) → oi.apart ops ok = true := fun k ok hk hki hun hno => by
        refine hfree k ok hk hki ?_ hno
        by_cases hjk : j = k
        · subst hjk; exact hjun
        · rw [getD_set_ne true hjk] at hun; exact hun
      refine wpOpIn_mono (fun a' w' h3 => ⟨h3.2.1, ih (listed.setIfInBounds j true) a' w' hfree' (ready_mono hr (Ne.symm hji)) h3.1 h3.2.1 ?_⟩) h2
      rw [Array.setIfInBounds_comm _ _ hji]
      exact h3.2.2
/-- Take number i first. -/
theorem wpH_take {i : Nat} {oi : Oper} {v : Value} {fuel : Nat} {listed : Array Bool} {a : Act} {w : World} (hnd : noDefer ops = true) (hi : ops[i]? = some oi)
    (hs : Region.noSelect ops = true) (hf : Region.free md ops listed i = true) (hr : (Region.ready md ops listed).contains i = true)
    (hQ : ∀ c a w, Q (.panic c) (a.put oi.dst v) w → Q (.panic c) a w) (hy : YieldsIf P ops S oi v a) (hab : ∀ w, oi.about P w a.eval = none) (hS : S w)
    (h : wpH F n P md ops Q S fuel (listed.setIfInBounds i true) (a.put oi.dst v) w) : wpH F n P md ops Q S (fuel + 1) listed a w :=
  wpH_first hnd hi (Region.noSelect_spec hs) hQ fuel listed a w (Region.free_spec hi hf) (by simpa using hr) ⟨hy, hab⟩ hS h
/-- The only one that may come up. -/
theorem wpH_one {i : Nat} {oi : Oper} {fuel : Nat} {listed : Array Bool} {a : Act} {w : World} (hr : Region.ready md ops listed = [i]) (hi : ops[i]? = some oi)
    (h : ∀ K : Act → World → Prop, (∀ a' w', (S w' ∧ wpH F n P md ops Q S fuel (listed.setIfInBounds i true) a' w') → K a' w') → if Region.wanted oi (yielded ops a.tmps) = true then Oper.wpIn F n P oi a w K Q else (∀ f, oi.about P w a.eval = some f → F.fn f) ∧ K (a.put oi.dst undef) w) :
    wpH F n P md ops Q S (fuel + 1) listed a w :=
  ⟨fun h0 => (by rw [hr] at h0; cases h0), fun j hj => by
    rw [hr] at hj
    obtain rfl := List.mem_singleton.1 hj
    exact wpOpIn_step hi h⟩
theorem wpH_done {listed : Array Bool} {a : Act} {w : World} (hr : Region.ready md ops listed = []) (h : Q .normal a w) : ∀ fuel, wpH F n P md ops Q S fuel listed a w
  | 0 => ⟨hr, h⟩
  | _ + 1 => ⟨fun _ => h, by rw [hr]; simp⟩
theorem region_H {id : Nat} {a : Act} {w : World} (S : World → Prop) (hm : P.follows .mixedOrders = true)
    (h : wpH F n P .any ops Q S ops.size (Array.replicate ops.size false) a w.drew) : (Code.region id ops true).wpIn F n P Q a w :=
  wpIn_region_any hm (wpAnyIn_of_H _ _ _ _ h)
/-- The same where no way panics. -/
def noP (Q : Exit → Act → World → Prop) : Exit → Act → World → Prop
  | .panic _, _, _ => False
  | e, a, w => Q e a w
theorem region_P {id : Nat} {a : Act} {w : World} (S : World → Prop) (hm : P.follows .mixedOrders = true)
    (h : wpH F n P .any ops (noP Q) S ops.size (Array.replicate ops.size false) a w.drew) : (Code.region id ops true).wpIn F n P Q a w := by
  refine Code.wpIn_mono (Q := noP Q) (fun e a w h => ?_) (region_H S hm h)
  cases e with
  | panic c => exact h.elim
  | _ => exact h
end
end Go.Proofs.YtlcpbfklnjlgnaaGreatDoor
