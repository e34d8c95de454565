/-
  A part of the proof of the statement NfaAccepts.
-/
import Derived.Test.YtbhkfifmgbcknaaGreatDoorG29
import Derived.Test.YtbhkfifmgbcknaaGreatDoorG28
import Derived.Test.YtbhkfifmgbcknaaGreatDoorG26
import Derived.WalkKit
import Derived.WalkLawsBesides
import Derived.Deep.LoopGhost
import Derived.Lib.Hide
import Derived.Outline
import Derived.Deep.QuietTactic
import Derived.BigQuiet
import Derived.StillTailTactics
import Derived.Deep.RegionHeld3
import Derived.IntWalk
import Derived.Laws.OwnMore
set_option linter.unusedSimpArgs false
set_option linter.unusedVariables false
namespace Go.Proofs.YtbhkfifmgbcknaaGreatDoor
open Go.RowKit Go.Extern.Stop Go.Stop Go.Extern Go.Shelf
attribute [local go_sem] Oper.semAt_some
set_option maxRecDepth 100000 in
set_option maxHeartbeats 4000000 in
theorem all1_core (n : Nat) (hn : 1 ≤ n) (Bn n₀ a b : Nat) (ha : U64 a) (hb : U64 b) (w : World) (hset : SetAt w Bn a b) (ht : TabB w) (h0 : 0 < n₀)
    (l : Nat) (J Jx : List N128 → World → Prop) (W : World) (hW : Below w.heap.size w W)
    (hY : ∀ pre x W1, (pre ++ [x]) <+: listN a b → J pre W1 → pre.length < 128 → YieldAt Fence.wide (n - 1) Tryz.prog l #[.int .i64 ((x.1 : Nat) : Int)] W1 fun e W' =>
      (e = .returned (.bool true) ∧ J (pre ++ [x]) W' ∧ Below n₀ W1 W') ∨ (e = .returned (.bool false) ∧ Jx (pre ++ [x]) W')) (hJ0 : J [] W) :
    CallsIn Fence.wide n Tryz.prog 64 (#[.func (.yield l) #[] #[]] ++ #[.pointer (some ⟨Bn, 0, none⟩)]) W fun e W' => (∃ v, e = .returned v) ∧ ((∃ xs, xs = listN a b ∧ J xs W') ∨ (∃ pre, pre <+: listN a b ∧ Jx pre W')) := by
  have hs := hset.step hW
  have htW : TabB W := ht.below ht.lt hW
  obtain ⟨k0, k1, -⟩ := hs.cells
  clear hset ht hs hW
  have HY := Lib.hid hY
  clear hY
  refine callsIn_of_wp Tryz.func64 rfl trivial ?_ rfl
  simp only [Tryz.ntmps64, List.size_toArray, List.length_cons, List.length_nil, Nat.reduceAdd, Nat.reduceSub, Array.replicate_succ, Array.replicate_zero, List.push_toArray, List.append_toArray, List.nil_append, List.cons_append]
  gi_wp2
  have i0 : ∀ w, (Instr.index 43 (.agg #[.int .u64 (a : Int), .int .u64 (b : Int)]) (.int .i64 0)).run Tryz.prog w = .ok (.int .u64 (a : Int)) w := fun _ => by kernel_rfl
  have i1 : ∀ w, (Instr.index 43 (.agg #[.int .u64 (a : Int), .int .u64 (b : Int)]) (.int .i64 1)).run Tryz.prog w = .ok (.int .u64 (b : Int)) w := fun _ => by kernel_rfl
  gi_loopw [6] (fun t wr => OutR J a b t wr) (fun t _ => 2 - (intOf t).toNat)
  case atStart => exact .inl ⟨rfl, hJ0, htW⟩
  case round =>
    obtain ⟨wo, rfl⟩ : ∃ wo : World, wo = wr := ⟨_, rfl⟩
    rcases hrel with ⟨rfl, hJr, htr⟩ | ⟨rfl, hJr, htr⟩ | ⟨rfl, hJr, htr⟩
    · skip
      gi_wp2
      gi_loopw [4] (fun v wr => InWord J 0 (by decide) ([]) a v wr) (fun v _ => (intOf v).toNat)
      case atStart => exact ⟨a, [], rfl, ha, rfl, by simpa using hJr, htr⟩
      case round =>
        obtain ⟨x, done, rfl, hx, hd, hJx, htx⟩ := hrel
        by_cases hx0 : x = 0
        · subst hx0
          rw [wordN_zero, List.append_nil] at hd
          subst hd
          gi_wp2
          go_roundw
          case rel => exact .inr (.inl ⟨rfl, by simpa using hJx, htx⟩)
          case measure => simp [intOf]
        · obtain ⟨y, hy1, hy2⟩ := wordN_step (i := 0) (by decide) hx hx0
          obtain ⟨-, -, hless⟩ := ctz_step hx hx0
          have HT := Lib.hid (tz_any x hx hx0 wr htx)
          have hq : ((x : Int) == 0) = false := by rw [beq_eq_false_iff_ne]; omega
          rw [hy2] at hd
          have hpf : ([] ++ done ++ [y]) <+: listN a b := ⟨wordN 0 (x &&& (x - 1)) (by decide) ++ wordN 1 b (by decide), by rw [listN_words, ← hd]; simp⟩
          have hlen : ([] ++ done).length < 128 := by
            have h1 := congrArg List.length hd
            have h2 := listN_len a b
            rw [listN_words] at h2
            simp at h1 h2 ⊢
            omega
          have hyl := y.2
          have hpw : IntKind.u64.wrap ((x : Int) - 1) = ((x - 1 : Nat) : Int) := wrap_nat (x - 1) (by omega) (by unfold U64 at hx ⊢; omega)
          have hand : bits .and .u64 (x : Int) ((x - 1 : Nat) : Int) = ((x &&& (x - 1) : Nat) : Int) := and64 x (x - 1) hx (by unfold U64 at hx ⊢; omega)
          generalize Lib.ctz 64 x = k at *
          have e : ((y.1 : Nat) : Int) = (k : Int) := by omega
          have hkb : (k : Int) ≤ 127 := by omega
          have hYy : YieldAt Fence.wide (n - 1) Tryz.prog l #[.int .i64 ((k : Int))] wr (fun e W' => (e = .returned (.bool true) ∧ J ([] ++ done ++ [y]) W' ∧ Below n₀ wr W') ∨ (e = .returned (.bool false) ∧ Jx ([] ++ done ++ [y]) W')) := by rw [← e]; exact HY.out ([] ++ done) y wr hpf hJx hlen
          have hux : U64 (x &&& (x - 1)) := hx.and _
          have HD := Lib.hid hd
          have HUX := Lib.hid hux
          have HL := Lib.hid hless
          generalize x &&& (x - 1) = x' at *
          clear hd hux hless hy1 hy2 e hlen hpf
          obtain ⟨fn, tmps, assign, body, hy, hR⟩ := hYy
          have HR := Lib.hid hR
          clear hR
          gi_wp2_with (refine ⟨trivial, ?_⟩; gi_at_call 65; refine (callsIn_wide.2 HT.out).mono ?_; rintro e w3 ⟨rfl, rfl⟩)
          refine HR.out.mono ?_
          rintro e w3 (⟨rfl, hJ3, hb3⟩ | ⟨rfl, hJx3⟩)
          · have ht3 := htx.below h0 hb3
            gi_wp2
            go_roundw
            case rel => exact ⟨x', done ++ [y], rfl, HUX.out, by rw [List.append_assoc]; exact HD.out, by rw [← List.append_assoc]; exact hJ3, ht3⟩
            case measure => have := HL.out; simp [intOf]; omega
          · gi_wp2
            refine bodyPost_ret (results_none rfl _ _ _) rfl ?_
            exact ⟨⟨_, rfl⟩, .inr ⟨[] ++ done ++ [y], by rw [listN_words, ← HD.out]; exact ⟨wordN 0 x' (by decide) ++ wordN 1 b (by decide), by simp⟩, hJx3⟩⟩
    · skip
      gi_wp2
      gi_loopw [4] (fun v wr => InWord J 1 (by decide) (wordN 0 a (by decide)) b v wr) (fun v _ => (intOf v).toNat)
      case atStart => exact ⟨b, [], rfl, hb, rfl, by simpa using hJr, htr⟩
      case round =>
        obtain ⟨x, done, rfl, hx, hd, hJx, htx⟩ := hrel
        by_cases hx0 : x = 0
        · subst hx0
          rw [wordN_zero, List.append_nil] at hd
          subst hd
          gi_wp2
          go_roundw
          case rel => exact .inr (.inr ⟨rfl, by rw [listN_words]; exact hJx, htx⟩)
          case measure => simp [intOf]
        · obtain ⟨y, hy1, hy2⟩ := wordN_step (i := 1) (by decide) hx hx0
          obtain ⟨-, -, hless⟩ := ctz_step hx hx0
          have HT := Lib.hid (tz_any x hx hx0 wr htx)
          have hq : ((x : Int) == 0) = false := by rw [beq_eq_false_iff_ne]; omega
          rw [hy2] at hd
          have hpf : (wordN 0 a (by decide) ++ done ++ [y]) <+: listN a b := ⟨wordN 1 (x &&& (x - 1)) (by decide), by rw [listN_words, ← hd]; simp⟩
          have hlen : (wordN 0 a (by decide) ++ done).length < 128 := by
            have h1 := congrArg List.length hd
            have h2 := listN_len a b
            rw [listN_words] at h2
            simp at h1 h2 ⊢
            omega
          have hyl := y.2
          have hpw : IntKind.u64.wrap ((x : Int) - 1) = ((x - 1 : Nat) : Int) := wrap_nat (x - 1) (by omega) (by unfold U64 at hx ⊢; omega)
          have hand : bits .and .u64 (x : Int) ((x - 1 : Nat) : Int) = ((x &&& (x - 1) : Nat) : Int) := and64 x (x - 1) hx (by unfold U64 at hx ⊢; omega)
          generalize Lib.ctz 64 x = k at *
          have e : ((y.1 : Nat) : Int) = 64 + (k : Int) := by omega
          have hkb : (k : Int) ≤ 127 := by omega
          have hYy : YieldAt Fence.wide (n - 1) Tryz.prog l #[.int .i64 (64 + (k : Int))] wr (fun e W' => (e = .returned (.bool true) ∧ J (wordN 0 a (by decide) ++ done ++ [y]) W' ∧ Below n₀ wr W') ∨ (e = .returned (.bool false) ∧ Jx (wordN 0 a (by decide) ++ done ++ [y]) W')) := by rw [← e]; exact HY.out (wordN 0 a (by decide) ++ done) y wr hpf hJx hlen
          have hux : U64 (x &&& (x - 1)) := hx.and _
          have HD := Lib.hid hd
          have HUX := Lib.hid hux
          have HL := Lib.hid hless
          generalize x &&& (x - 1) = x' at *
          clear hd hux hless hy1 hy2 e hlen hpf
          obtain ⟨fn, tmps, assign, body, hy, hR⟩ := hYy
          have HR := Lib.hid hR
          clear hR
          gi_wp2_with (refine ⟨trivial, ?_⟩; gi_at_call 65; refine (callsIn_wide.2 HT.out).mono ?_; rintro e w3 ⟨rfl, rfl⟩)
          refine HR.out.mono ?_
          rintro e w3 (⟨rfl, hJ3, hb3⟩ | ⟨rfl, hJx3⟩)
          · have ht3 := htx.below h0 hb3
            gi_wp2
            go_roundw
            case rel => exact ⟨x', done ++ [y], rfl, HUX.out, by rw [List.append_assoc]; exact HD.out, by rw [← List.append_assoc]; exact hJ3, ht3⟩
            case measure => have := HL.out; simp [intOf]; omega
          · gi_wp2
            refine bodyPost_ret (results_none rfl _ _ _) rfl ?_
            exact ⟨⟨_, rfl⟩, .inr ⟨wordN 0 a (by decide) ++ done ++ [y], by rw [listN_words, ← HD.out]; exact ⟨wordN 1 x' (by decide), by simp⟩, hJx3⟩⟩
    · gi_wp2
      go_end0
      exact ⟨⟨_, rfl⟩, .inl ⟨_, rfl, hJr⟩⟩
abbrev MemN (a b : Nat) := { k : N128 // hasB a b k.1 = true }
def listM (a b : Nat) : List (MemN a b) := (listN a b).pmap (fun k h => ⟨k, h⟩) (fun k h => by
  rw [← setL_mem, ← listN_val]
  exact List.mem_map.2 ⟨k, h, rfl⟩)
theorem listM_val (a b : Nat) : (listM a b).map (·.1) = listN a b := by
  unfold listM
  rw [List.map_pmap]
  simp
theorem memN_inj {a b : Nat} : ∀ {l l' : List (MemN a b)}, l.map (·.1) = l'.map (·.1) → l = l'
  | [], [], _ => rfl
  | [], _ :: _, h => by simp at h
  | _ :: _, [], h => by simp at h
  | x :: l, y :: l', h => by
    simp only [List.map_cons, List.cons.injEq] at h
    rw [Subtype.ext h.1, memN_inj h.2]
theorem prefix_back {a b : Nat} {pre : List (MemN a b)} (h : pre.map (·.1) <+: listN a b) : pre <+: listM a b := by
  obtain ⟨r, hr⟩ := h
  have hl : pre = (listM a b).take pre.length := by
    apply memN_inj
    rw [List.map_take, listM_val, ← hr]
    simp
  rw [hl]
  exact List.take_prefix _ _
theorem all1_stopsM (n : Nat) (hn : 1 ≤ n) (Bn n₀ a b : Nat) (ha : U64 a) (hb : U64 b) (w : World) (hset : SetAt w Bn a b) (ht : TabB w) (h0 : 0 < n₀) :
    SeqStopsK Fence.wide n Tryz.prog 64 #[.pointer (some ⟨Bn, 0, none⟩)] (fun x : MemN a b => #[.int .i64 ((x.1.1 : Nat) : Int)]) (Below n₀) (fun xs => xs = listM a b) (fun pre => pre <+: listM a b) 128 w := by
  intro l J Jx W hW _ _ hY hJ0
  refine (all1_core n hn Bn n₀ a b ha hb w hset ht h0 l (fun pre W => ∃ pre' : List (MemN a b), pre'.map (·.1) = pre ∧ J pre' W) (fun pre W => ∃ pre' : List (MemN a b), pre'.map (·.1) = pre ∧ Jx pre' W) W hW ?_ ⟨[], rfl, hJ0⟩).mono ?_
  · rintro pre x W1 hp ⟨pre', rfl, hJ⟩ hlen
    have hx : hasB a b x.1 = true := by
      rw [← setL_mem, ← listN_val]
      exact List.mem_map.2 ⟨x, hp.subset (by simp), rfl⟩
    refine (hY pre' ⟨x, hx⟩ W1 hJ (by simpa using hlen)).mono ?_
    rintro e W' (⟨rfl, h1, h2⟩ | ⟨rfl, h1⟩)
    · exact .inl ⟨rfl, ⟨pre' ++ [⟨x, hx⟩], by simp, h1⟩, h2⟩
    · exact .inr ⟨rfl, ⟨pre' ++ [⟨x, hx⟩], by simp, h1⟩⟩
  · rintro e W' ⟨hv, (⟨xs, rfl, pre', hp, hJ⟩ | ⟨pre, hpf, pre', rfl, hJ⟩)⟩
    · exact ⟨hv, .inl ⟨pre', memN_inj (by rw [hp, listM_val]), hJ⟩⟩
    · exact ⟨hv, .inr ⟨pre', prefix_back hpf, hJ⟩⟩
end Go.Proofs.YtbhkfifmgbcknaaGreatDoor
namespace Go.Proofs.YtbhkfifmgbcknaaGreatDoor
open Go.RowKit Go.Extern.Stop Go.Stop Go.Extern Go.Shelf
attribute [local go_sem] Oper.semAt_some
section
variable {ls : List Lk} {n : Nat} {F : Nat → Bool} {a : Int}
structure ReI (ls : List Lk) (n : Nat) (F : Nat → Bool) (a : Int) (p q : Nat) : Prop where
  up : U64 p
  uq : U64 q
  come : ∀ v, hasI p q v = true → Comes ls n F a v
  start : InN n a → hasI p q a = true
structure MoI (ls : List Lk) (n : Nat) (F : Nat → Bool) (a : Int) (p q : Nat) (pre : List N128) (x y : Nat) : Prop where
  ux : U64 x
  uy : U64 y
  ext : ∀ j, hasB p q j = true → hasB x y j = true
  come : ∀ v, hasI x y v = true → Comes ls n F a v
  hit : ∀ k ∈ pre, ∀ l, ls[k.1]? = some l → hasI x y l.to = true
theorem MoI.start {p q : Nat} (h : ReI ls n F a p q) : MoI ls n F a p q [] p q := ⟨h.up, h.uq, fun _ h => h, h.come, fun _ h => by cases h⟩
theorem hasI_or (x y c d : Nat) (v : Int) : hasI (x ||| c) (y ||| d) v = (hasI x y v || hasI c d v) := by unfold hasI; rw [hasB_or]; cases decide (0 ≤ v) <;> simp
theorem hasI_one (i v : Int) : hasI (oneW i).1 (oneW i).2 v = (decide (0 ≤ v ∧ v < 128) && decide (v = i)) := by
  unfold hasI
  rw [hasB_one, Bool.eq_iff_iff]
  simp
  omega
theorem MoI.next (hm : MayL n ls) (hn : n ≤ 128) {p q : Nat} {pre : List N128} {x y : Nat} (h : MoI ls n F a p q pre x y) {k : N128} {l : Lk} (hk : ls[k.1]? = some l) (hF : F k.1 = false) (hfr : hasI p q l.fr = true) (hp : ∀ v, hasI p q v = true → Comes ls n F a v) :
    MoI ls n F a p q (pre ++ [k]) (x ||| (oneW l.to).1) (y ||| (oneW l.to).2) := by
  obtain ⟨_, hto, _⟩ := hm _ _ hk
  unfold InN at hto
  refine ⟨h.ux.or (oneW_u64 _).1, h.uy.or (oneW_u64 _).2, fun j hj => by rw [hasB_or, h.ext j hj]; rfl, fun v hv => ?_, fun k' hk' l' hl' => ?_⟩
  · rw [hasI_or, Bool.or_eq_true] at hv
    rcases hv with hv | hv
    · exact h.come v hv
    · rw [hasI_one] at hv
      simp at hv
      rw [hv.2]
      obtain ⟨d, hd⟩ := hp _ hfr
      exact ⟨_, .go hd hk hF rfl⟩
  · rw [hasI_or, Bool.or_eq_true]
    rcases List.mem_append.1 hk' with hk' | hk'
    · exact .inl (h.hit k' hk' l' hl')
    · obtain rfl := List.mem_singleton.1 hk'
      rw [hk] at hl'
      injection hl' with hl'
      subst hl'
      right
      rw [hasI_one]
      simp
      omega
def lvW (ls : List Lk) (p q fa fb : Nat) : Nat × Nat := (lessN (whS (fun l => hasI p q l.fr) ls).1 fa, lessN (whS (fun l => hasI p q l.fr) ls).2 fb)
theorem has_lv {p q fa fb : Nat} (ua : U64 fa) (ub : U64 fb) (j : Nat) : hasB (lvW ls p q fa fb).1 (lvW ls p q fa fb).2 j = (decide (j < 128) && (ls[j]?.map fun l => hasI p q l.fr).getD false && !hasB fa fb j) := by
  obtain ⟨u1, u2⟩ := whS_u64 (fun l => hasI p q l.fr) ls
  unfold lvW
  rw [hasB_less u1 u2 ua ub]
  unfold whS
  rw [hasB_idx]
theorem mem_listN {x y j : Nat} (h : hasB x y j = true) : ∃ k ∈ listN x y, k.1 = j := by
  rw [← setL_mem, ← listN_val] at h
  obtain ⟨k, hk, e⟩ := List.mem_map.1 h
  exact ⟨k, hk, e⟩
theorem ReI.done (hl : ls.length ≤ 128) {p q fa fb : Nat} (ua : U64 fa) (ub : U64 fb) (h : ReI ls n (hasB fa fb) a p q) (hM : MoI ls n (hasB fa fb) a p q (listN (lvW ls p q fa fb).1 (lvW ls p q fa fb).2) p q) (v : Int) : hasI p q v = true ↔ Comes ls n (hasB fa fb) a v := by
  refine ⟨h.come v, fun hv => ?_⟩
  refine comes_closed (S := fun v => hasI p q v = true) h.start (fun i l hi hF hfr => ?_) hv
  have hlt := (List.getElem?_eq_some_iff.1 hi).1
  obtain ⟨k, hk, e⟩ := mem_listN (x := (lvW ls p q fa fb).1) (y := (lvW ls p q fa fb).2) (j := i) (by
    rw [has_lv ua ub, hi, hF]
    simp [hfr]
    omega)
  exact hM.hit k hk l (by rw [e]; exact hi)
theorem ReI.next {p q x y : Nat} {pre : List N128} (h : ReI ls n F a p q) (hM : MoI ls n F a p q pre x y) : ReI ls n F a x y := by
  refine ⟨hM.ux, hM.uy, hM.come, fun ha => ?_⟩
  have := h.start ha
  unfold hasI at this ⊢
  rw [Bool.and_eq_true] at this ⊢
  exact ⟨this.1, hM.ext _ this.2⟩
theorem ReI.init {n : Nat} (hn : n ≤ 128) : ReI ls n F a ((ofS (firstN (min (n : Int) 128).toNat)).1 &&& (ofS [a]).1) ((ofS (firstN (min (n : Int) 128).toNat)).2 &&& (ofS [a]).2) := by
  have hand : ∀ v, hasI ((ofS (firstN (min (n : Int) 128).toNat)).1 &&& (ofS [a]).1) ((ofS (firstN (min (n : Int) 128).toNat)).2 &&& (ofS [a]).2) v = (decide (InN n v) && decide (v = a)) := by
    intro v
    have h1 := has_routers n hn v
    unfold hasI at h1 ⊢
    rw [hasB_and, ← h1, hasB_ofS [a], Bool.eq_iff_iff]
    simp only [Bool.and_eq_true, decide_eq_true_eq, List.any_cons, List.any_nil, Bool.or_false]
    constructor
    · rintro ⟨h0, h2, h3, h4⟩
      exact ⟨⟨h0, h2⟩, by omega⟩
    · rintro ⟨⟨h0, h2⟩, rfl⟩
      refine ⟨h0, h2, ?_, by omega⟩
      by_cases hj : v.toNat < 128
      · exact hj
      · rw [hasB_ge _ _ (by omega)] at h2; cases h2
  refine ⟨(ofS_u64 _).1.and _, (ofS_u64 _).2.and _, fun v hv => ?_, fun ha => ?_⟩
  · rw [hand] at hv
    simp only [Bool.and_eq_true, decide_eq_true_eq] at hv
    obtain ⟨h1, rfl⟩ := hv
    exact ⟨0, .nil h1⟩
  · rw [hand]
    simp [ha]
end
end Go.Proofs.YtbhkfifmgbcknaaGreatDoor
namespace Go.Proofs.YtbhkfifmgbcknaaGreatDoor
open Go.RowKit Go.Extern.Stop Go.Stop Go.Extern Go.Shelf
attribute [local go_sem] Oper.semAt_some
structure RS (w : World) (vr vl : Value) (fa fb : Nat) (W : World) : Prop where
  topo : W.heap[w.heap.size]? = some (.cells #[vr, vl] 99 (0, 0))
  fl : SetAt W (w.heap.size + 1) fa fb
  res : SetAt W (w.heap.size + 1 + 1) 0 0
  below : Below w.heap.size w W
theorem RS.lt {w : World} {vr vl : Value} {fa fb : Nat} {W : World} (h : RS w vr vl fa fb W) : w.heap.size + 1 + 1 < W.heap.size := (Array.getElem?_eq_some_iff.1 h.res).1
theorem RS.step {w : World} {vr vl : Value} {fa fb : Nat} {W W' : World} (h : RS w vr vl fa fb W) (hb : Below W.heap.size W W') : RS w vr vl fa fb W' :=
  ⟨(hb.block _ (Array.getElem?_eq_some_iff.1 h.topo).1).trans h.topo, h.fl.step hb, h.res.step hb, h.below.trans (hb.mono h.below.size)⟩
theorem RS.far {w : World} {vr vl : Value} {fa fb : Nat} {W : World} (h : RS w vr vl fa fb W) {b : Nat} (hb : w.heap.size + 1 + 1 < b) (i : Nat) (u : Value) : RS w vr vl fa fb (W.setCell ⟨b, i, none⟩ u) :=
  ⟨(heap_setCell_other _ _ _ _ (by show w.heap.size ≠ b; omega)).trans h.topo, h.fl.far (by omega) _ _, h.res.far (by omega) _ _, h.below.setCell (p := ⟨b, i, none⟩) (by show _ ≤ b; omega) _⟩
theorem RS.cells {w : World} {vr vl : Value} {fa fb : Nat} {W : World} (h : RS w vr vl fa fb W) : W.cell? ⟨w.heap.size, 0, none⟩ = some vr ∧ W.cell? ⟨w.heap.size, 1, none⟩ = some vl :=
  ⟨by rw [Lib.cell_of_heap h.topo]; rfl, by rw [Lib.cell_of_heap h.topo]; rfl⟩
theorem RS.own {w : World} {vr vl : Value} {fa fb S : Nat} (hS : w.heap.size ≤ S) {β : Type} : OwnFrom S (fun (_ : β) W => RS w vr vl fa fb W) := fun s X Y row hs hg hr =>
  ⟨blk_kept hs.topo rfl hg (fun r e => (hr r e).2), hs.fl.own hg (fun r e => (hr r e).2), hs.res.own hg (fun r e => (hr r e).2), ownFrom_below (β := β) (Nat.le_refl _) hS s X Y row hs.below hg hr⟩
theorem RS.start (w : World) (vr vl : Value) (fa fb : Nat) : RS w vr vl fa fb (((w.alloc (.cells #[vr, vl] 99)).alloc (.cells #[.int .u64 (fa : Int), .int .u64 (fb : Int)] 43)).alloc (.cells #[.int .u64 0, .int .u64 0] 43)) := by
  refine ⟨?_, ?_, ?_, ?_⟩
  · exact ((heap_alloc_old _ _ (by simp; omega)).trans (heap_alloc_old _ _ (by simp))).trans (heap_alloc_new w _)
  · have := heap_alloc_new (w.alloc (.cells #[vr, vl] 99)) (.cells #[.int .u64 (fa : Int), .int .u64 (fb : Int)] 43)
    rw [World.size_alloc] at this
    exact (heap_alloc_old _ _ (by simp)).trans this
  · have := heap_alloc_new ((w.alloc (.cells #[vr, vl] 99)).alloc (.cells #[.int .u64 (fa : Int), .int .u64 (fb : Int)] 43)) (.cells #[.int .u64 0, .int .u64 0] 43)
    rwa [World.size_alloc, World.size_alloc] at this
  · exact ((below_new w _).trans ((below_new _ _).mono (below_new w _).size)).trans ((below_new _ _).mono (by simp; omega))
end Go.Proofs.YtbhkfifmgbcknaaGreatDoor
namespace Go.Proofs.YtbhkfifmgbcknaaGreatDoor
open Go.RowKit Go.Extern.Stop Go.Stop Go.Extern
theorem hbelow_new (w : World) (o : Obj) : Below w.heap.size w (w.alloc o) := (Below.refl _ _).alloc (Nat.le_refl _) _
def ItAt (w : World) (T : TypeId) (b : Nat) (c0 : Value) (c t h : Int) (l r : Option Addr) : Prop :=
  w.heap[b]? = some (.cells #[c0, .int .u64 c, .int .u64 t, .int .i64 h, .pointer l, .pointer r] T (0, 0))
theorem ItAt.cells {w : World} {T : TypeId} {b : Nat} {c0 : Value} {c t h : Int} {l r : Option Addr} (hi : ItAt w T b c0 c t h l r) :
    w.cell? ⟨b, 0, none⟩ = some c0 ∧ w.cell? ⟨b, 1, none⟩ = some (.int .u64 c) ∧ w.cell? ⟨b, 2, none⟩ = some (.int .u64 t) ∧ w.cell? ⟨b, 3, none⟩ = some (.int .i64 h) ∧ w.cell? ⟨b, 4, none⟩ = some (.pointer l) ∧ w.cell? ⟨b, 5, none⟩ = some (.pointer r) :=
  ⟨by rw [Lib.cell_of_heap hi]; rfl, by rw [Lib.cell_of_heap hi]; rfl, by rw [Lib.cell_of_heap hi]; rfl, by rw [Lib.cell_of_heap hi]; rfl, by rw [Lib.cell_of_heap hi]; rfl, by rw [Lib.cell_of_heap hi]; rfl⟩
theorem ItAt.lt {w : World} {T : TypeId} {b : Nat} {c0 : Value} {c t h : Int} {l r : Option Addr} (hi : ItAt w T b c0 c t h l r) : b < w.heap.size := (Array.getElem?_eq_some_iff.1 hi).1
def TreeAt {α : Type} (enc : α → Value) (T : TypeId) (B : Nat) (w : World) : Option Addr → Tr α → Prop
  | p, .nil => p = none
  | p, .node e h l r => ∃ b pl pr, p = some ⟨b, 0, none⟩ ∧ B < b ∧ ItAt w T b (enc e.x) e.c e.t h pl pr ∧ TreeAt enc T B w pl l ∧ TreeAt enc T B w pr r
theorem TreeAt.step {α : Type} {enc : α → Value} {T : TypeId} {B : Nat} {w w' : World} (hk : ∀ b, B < b → b < w.heap.size → w'.heap[b]? = w.heap[b]?) :
    ∀ {t : Tr α} {p : Option Addr}, TreeAt enc T B w p t → TreeAt enc T B w' p t
  | .nil, _, h => h
  | .node _ _ _ _, _, ⟨b, pl, pr, e, hb, hi, hl, hr⟩ => ⟨b, pl, pr, e, hb, (hk b hb hi.lt).trans hi, hl.step hk, hr.step hk⟩
theorem TreeAt.below {α : Type} {enc : α → Value} {T : TypeId} {B : Nat} {w w' : World} {t : Tr α} {p : Option Addr} (h : TreeAt enc T B w p t) (hb : Below w.heap.size w w') : TreeAt enc T B w' p t :=
  h.step fun b _ hlt => hb.block b hlt
def encS (x : ByteArray) : Value := .string x
def hencI (x : Int) : Value := .int .i64 x
def eltB (c t c' t' : Int) : Bool := decide (c < c' ∨ c = c' ∧ t < t')
theorem eltB_of {α : Type} (a b : E α) : eltB a.c a.t b.c b.t = decide (a.lt b) := rfl
set_option maxHeartbeats 400000 in
theorem highS_any {t : Tr ByteArray} {p : Option Addr} {B : Nat} (w : World) (ht : TreeAt encS 450 B w p t) :
    Calls Tryz.prog 410 #[.pointer p] w fun e w' => e = .returned (.int .i64 t.high) ∧ w = w' := by
  cases t with
  | nil =>
    obtain rfl : p = none := ht
    go_enter Tryz.func410, Tryz.ntmps410
    go_wp2
    go_ret
    exact ⟨rfl, rfl⟩
  | node e h l r =>
    obtain ⟨b, pl, pr, rfl, -, hi, -, -⟩ := ht
    obtain ⟨-, -, -, c3, -, -⟩ := hi.cells
    clear hi
    go_enter Tryz.func410, Tryz.ntmps410
    go_wp2
    go_ret
    exact ⟨rfl, rfl⟩
set_option maxRecDepth 100000 in
set_option maxHeartbeats 1000000 in
theorem aheadS_any {a b : Nat} {x y : Value} {c t h c' t' h' : Int} {l r l' r' : Option Addr} (w : World) (ha : ItAt w 450 a x c t h l r) (hb : ItAt w 450 b y c' t' h' l' r') :
    Calls Tryz.prog 408 #[.pointer (some ⟨a, 0, none⟩), .pointer (some ⟨b, 0, none⟩)] w fun e w' => e = .returned (.bool (eltB c t c' t')) ∧ ∃ n, w' = w.drewN n := by
  obtain ⟨-, a1, a2, -, -, -⟩ := ha.cells
  obtain ⟨-, b1, b2, -, -, -⟩ := hb.cells
  clear ha hb
  by_cases h1 : c < c'
  · have hd : decide (c < c') = true := decide_eq_true h1
    have HR : Hid (eltB c t c' t' = true) := Lib.hid (decide_eq_true (.inl h1))
    go_enter Tryz.func408, Tryz.ntmps408
    go_wp2
    go_quiet (fail)
    go_wp2
    go_ret
    exact ⟨by rw [HR.out]; rfl, _, rfl⟩
  · by_cases h2 : c = c'
    · subst h2
      have hd : decide (c < c) = false := decide_eq_false h1
      by_cases h3 : t < t'
      · have he : decide (t < t') = true := decide_eq_true h3
        have HR : Hid (eltB c t c t' = true) := Lib.hid (decide_eq_true (.inr ⟨rfl, h3⟩))
        clear h1
        go_enter Tryz.func408, Tryz.ntmps408
        go_wp2
        go_quiet (fail)
        go_wp2
        go_ret
        exact ⟨by rw [HR.out]; rfl, _, rfl⟩
      · have he : decide (t < t') = false := decide_eq_false h3
        have HR : Hid (eltB c t c t' = false) := Lib.hid (decide_eq_false (by omega))
        clear h1
        go_enter Tryz.func408, Tryz.ntmps408
        go_wp2
        go_quiet (fail)
        go_wp2
        go_ret
        exact ⟨by rw [HR.out]; rfl, _, rfl⟩
    · have hd : decide (c < c') = false := decide_eq_false h1
      have he : (c == c') = false := by simpa using h2
      have HR : Hid (eltB c t c' t' = false) := Lib.hid (decide_eq_false (by omega))
      clear h1 h2
      go_enter Tryz.func408, Tryz.ntmps408
      go_wp2
      go_quiet (fail)
      go_wp2
      go_ret
      exact ⟨by rw [HR.out]; rfl, _, rfl⟩
set_option maxRecDepth 100000 in
set_option maxHeartbeats 1000000 in
theorem aboveS_any {a : Nat} {e : E ByteArray} {h : Int} {pl pr p q : Option Addr} {l r : Tr ByteArray} {B : Nat} (w : World) (ha : ItAt w 450 a (encS e.x) e.c e.t h pl pr) (hp : TreeAt encS 450 B w p l) (hq : TreeAt encS 450 B w q r)
    (hB : B < w.heap.size) (ol : l.ok) (or' : r.ok) (hl : l.size ≤ 1000000) (hr : r.size ≤ 1000000) :
    Calls Tryz.prog 409 #[.pointer (some ⟨a, 0, none⟩), .pointer p, .pointer q] w fun e' w' => ∃ p', e' = .returned (.pointer p') ∧ TreeAt encS 450 B w' p' (Tr.above e l r) ∧ Below w.heap.size w w' := by
  obtain ⟨a0', a1, a2, -, -, -⟩ := ha.cells
  have a0 : w.cell? ⟨a, 0, none⟩ = some (.string e.x) := a0'
  clear a0'
  have bl := ol.high
  have br := or'.high
  have HL := Lib.hid (highS_any w hp)
  have HR := Lib.hid (highS_any w hq)
  clear ha
  unfold Tr.above
  by_cases hlt : l.high < r.high
  · rw [if_pos hlt]
    have b1 : IntKind.i64.wrap (l.high + 1) = l.high + 1 := IntWalk.i64_in _ (by omega)
    have HP := Lib.hid hp
    have HQ := Lib.hid hq
    have H3 := Lib.hid (((highS_any w.drew (hp.below (Below.refl _ _).drew)).mono fun e w' h => ⟨h.1, h.2.symm⟩ : Calls Tryz.prog 410 _ w.drew fun e w'' => e = .returned (.int .i64 l.high) ∧ w'' = w.drew))
    clear hp hq ol or' bl br
    go_enter Tryz.func409, Tryz.ntmps409
    go_wp2_with fail
    refine HL.out.mono ?_
    rintro e' w1 ⟨rfl, rfl⟩
    go_wp2_with fail
    refine HR.out.mono ?_
    rintro e' w1 ⟨rfl, rfl⟩
    go_wp2_with fail
    go_still_tail 18, (by kernel_rfl)
    still_call H3.out
    repeat still_step
    refine wpStill_nil ?_
    go_wp2_with fail
    go_ret
    have hB2 : Below w.heap.size w (w.drew.alloc (.cells #[encS e.x, .int .u64 e.c, .int .u64 e.t, .int .i64 (l.high + 1), .pointer q, .pointer p] 450)) := (Below.refl _ _).drew.alloc (Nat.le_refl _) _
    exact ⟨_, rfl, ⟨w.heap.size, _, _, rfl, hB, heap_alloc_new w.drew _, HQ.out.below hB2, HP.out.below hB2⟩, hB2⟩
  · rw [if_neg hlt]
    have hd : decide (l.high < r.high) = false := decide_eq_false hlt
    have b1 : IntKind.i64.wrap (r.high + 1) = r.high + 1 := IntWalk.i64_in _ (by omega)
    have HP := Lib.hid hp
    have HQ := Lib.hid hq
    have H3 := Lib.hid (((highS_any w.drew (hq.below (Below.refl _ _).drew)).mono fun e w' h => ⟨h.1, h.2.symm⟩ : Calls Tryz.prog 410 _ w.drew fun e w'' => e = .returned (.int .i64 r.high) ∧ w'' = w.drew))
    clear hp hq ol or' bl br
    go_enter Tryz.func409, Tryz.ntmps409
    go_wp2_with fail
    refine HL.out.mono ?_
    rintro e' w1 ⟨rfl, rfl⟩
    go_wp2_with fail
    refine HR.out.mono ?_
    rintro e' w1 ⟨rfl, rfl⟩
    go_wp2_with fail
    go_still_tail 18, (by kernel_rfl)
    still_call H3.out
    repeat still_step
    refine wpStill_nil ?_
    go_wp2_with fail
    go_ret
    have hB2 : Below w.heap.size w (w.drew.alloc (.cells #[encS e.x, .int .u64 e.c, .int .u64 e.t, .int .i64 (r.high + 1), .pointer p, .pointer q] 450)) := (Below.refl _ _).drew.alloc (Nat.le_refl _) _
    exact ⟨_, rfl, ⟨w.heap.size, _, _, rfl, hB, heap_alloc_new w.drew _, HP.out.below hB2, HQ.out.below hB2⟩, hB2⟩
set_option maxHeartbeats 400000 in
theorem highI_any {t : Tr Int} {p : Option Addr} {B : Nat} (w : World) (ht : TreeAt hencI 435 B w p t) :
    Calls Tryz.prog 407 #[.pointer p] w fun e w' => e = .returned (.int .i64 t.high) ∧ w = w' := by
  cases t with
  | nil =>
    obtain rfl : p = none := ht
    go_enter Tryz.func407, Tryz.ntmps407
    go_wp2
    go_ret
    exact ⟨rfl, rfl⟩
  | node e h l r =>
    obtain ⟨b, pl, pr, rfl, -, hi, -, -⟩ := ht
    obtain ⟨-, -, -, c3, -, -⟩ := hi.cells
    clear hi
    go_enter Tryz.func407, Tryz.ntmps407
    go_wp2
    go_ret
    exact ⟨rfl, rfl⟩
set_option maxRecDepth 100000 in
set_option maxHeartbeats 1000000 in
theorem aheadI_any {a b : Nat} {x y : Value} {c t h c' t' h' : Int} {l r l' r' : Option Addr} (w : World) (ha : ItAt w 435 a x c t h l r) (hb : ItAt w 435 b y c' t' h' l' r') :
    Calls Tryz.prog 403 #[.pointer (some ⟨a, 0, none⟩), .pointer (some ⟨b, 0, none⟩)] w fun e w' => e = .returned (.bool (eltB c t c' t')) ∧ ∃ n, w' = w.drewN n := by
  obtain ⟨-, a1, a2, -, -, -⟩ := ha.cells
  obtain ⟨-, b1, b2, -, -, -⟩ := hb.cells
  clear ha hb
  by_cases h1 : c < c'
  · have hd : decide (c < c') = true := decide_eq_true h1
    have HR : Hid (eltB c t c' t' = true) := Lib.hid (decide_eq_true (.inl h1))
    go_enter Tryz.func403, Tryz.ntmps403
    go_wp2
    go_quiet (fail)
    go_wp2
    go_ret
    exact ⟨by rw [HR.out]; rfl, _, rfl⟩
  · by_cases h2 : c = c'
    · subst h2
      have hd : decide (c < c) = false := decide_eq_false h1
      by_cases h3 : t < t'
      · have he : decide (t < t') = true := decide_eq_true h3
        have HR : Hid (eltB c t c t' = true) := Lib.hid (decide_eq_true (.inr ⟨rfl, h3⟩))
        clear h1
        go_enter Tryz.func403, Tryz.ntmps403
        go_wp2
        go_quiet (fail)
        go_wp2
        go_ret
        exact ⟨by rw [HR.out]; rfl, _, rfl⟩
      · have he : decide (t < t') = false := decide_eq_false h3
        have HR : Hid (eltB c t c t' = false) := Lib.hid (decide_eq_false (by omega))
        clear h1
        go_enter Tryz.func403, Tryz.ntmps403
        go_wp2
        go_quiet (fail)
        go_wp2
        go_ret
        exact ⟨by rw [HR.out]; rfl, _, rfl⟩
    · have hd : decide (c < c') = false := decide_eq_false h1
      have he : (c == c') = false := by simpa using h2
      have HR : Hid (eltB c t c' t' = false) := Lib.hid (decide_eq_false (by omega))
      clear h1 h2
      go_enter Tryz.func403, Tryz.ntmps403
      go_wp2
      go_quiet (fail)
      go_wp2
      go_ret
      exact ⟨by rw [HR.out]; rfl, _, rfl⟩
set_option maxRecDepth 100000 in
set_option maxHeartbeats 1000000 in
theorem aboveI_any {a : Nat} {e : E Int} {h : Int} {pl pr p q : Option Addr} {l r : Tr Int} {B : Nat} (w : World) (ha : ItAt w 435 a (hencI e.x) e.c e.t h pl pr) (hp : TreeAt hencI 435 B w p l) (hq : TreeAt hencI 435 B w q r)
    (hB : B < w.heap.size) (ol : l.ok) (or' : r.ok) (hl : l.size ≤ 1000000) (hr : r.size ≤ 1000000) :
    Calls Tryz.prog 404 #[.pointer (some ⟨a, 0, none⟩), .pointer p, .pointer q] w fun e' w' => ∃ p', e' = .returned (.pointer p') ∧ TreeAt hencI 435 B w' p' (Tr.above e l r) ∧ Below w.heap.size w w' := by
  obtain ⟨a0', a1, a2, -, -, -⟩ := ha.cells
  have a0 : w.cell? ⟨a, 0, none⟩ = some (.int .i64 e.x) := a0'
  clear a0'
  have bl := ol.high
  have br := or'.high
  have HL := Lib.hid (highI_any w hp)
  have HR := Lib.hid (highI_any w hq)
  clear ha
  unfold Tr.above
  by_cases hlt : l.high < r.high
  · rw [if_pos hlt]
    have b1 : IntKind.i64.wrap (l.high + 1) = l.high + 1 := IntWalk.i64_in _ (by omega)
    have HP := Lib.hid hp
    have HQ := Lib.hid hq
    have H3 := Lib.hid (((highI_any w.drew (hp.below (Below.refl _ _).drew)).mono fun e w' h => ⟨h.1, h.2.symm⟩ : Calls Tryz.prog 407 _ w.drew fun e w'' => e = .returned (.int .i64 l.high) ∧ w'' = w.drew))
    clear hp hq ol or' bl br
    go_enter Tryz.func404, Tryz.ntmps404
    go_wp2_with fail
    refine HL.out.mono ?_
    rintro e' w1 ⟨rfl, rfl⟩
    go_wp2_with fail
    refine HR.out.mono ?_
    rintro e' w1 ⟨rfl, rfl⟩
    go_wp2_with fail
    go_still_tail 18, (by kernel_rfl)
    still_call H3.out
    repeat still_step
    refine wpStill_nil ?_
    go_wp2_with fail
    go_ret
    have hB2 : Below w.heap.size w (w.drew.alloc (.cells #[hencI e.x, .int .u64 e.c, .int .u64 e.t, .int .i64 (l.high + 1), .pointer q, .pointer p] 435)) := (Below.refl _ _).drew.alloc (Nat.le_refl _) _
    exact ⟨_, rfl, ⟨w.heap.size, _, _, rfl, hB, heap_alloc_new w.drew _, HQ.out.below hB2, HP.out.below hB2⟩, hB2⟩
  · rw [if_neg hlt]
    have hd : decide (l.high < r.high) = false := decide_eq_false hlt
    have b1 : IntKind.i64.wrap (r.high + 1) = r.high + 1 := IntWalk.i64_in _ (by omega)
    have HP := Lib.hid hp
    have HQ := Lib.hid hq
    have H3 := Lib.hid (((highI_any w.drew (hq.below (Below.refl _ _).drew)).mono fun e w' h => ⟨h.1, h.2.symm⟩ : Calls Tryz.prog 407 _ w.drew fun e w'' => e = .returned (.int .i64 r.high) ∧ w'' = w.drew))
    clear hp hq ol or' bl br
    go_enter Tryz.func404, Tryz.ntmps404
    go_wp2_with fail
    refine HL.out.mono ?_
    rintro e' w1 ⟨rfl, rfl⟩
    go_wp2_with fail
    refine HR.out.mono ?_
    rintro e' w1 ⟨rfl, rfl⟩
    go_wp2_with fail
    go_still_tail 18, (by kernel_rfl)
    still_call H3.out
    repeat still_step
    refine wpStill_nil ?_
    go_wp2_with fail
    go_ret
    have hB2 : Below w.heap.size w (w.drew.alloc (.cells #[hencI e.x, .int .u64 e.c, .int .u64 e.t, .int .i64 (r.high + 1), .pointer p, .pointer q] 435)) := (Below.refl _ _).drew.alloc (Nat.le_refl _) _
    exact ⟨_, rfl, ⟨w.heap.size, _, _, rfl, hB, heap_alloc_new w.drew _, HP.out.below hB2, HQ.out.below hB2⟩, hB2⟩
end Go.Proofs.YtbhkfifmgbcknaaGreatDoor
