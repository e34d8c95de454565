/-
  A part of the proof of the statement NfaAccepts.
-/
import Derived.Test.YtbhkfifmgbcknaaGreatDoorG27
import Derived.Test.YtbhkfifmgbcknaaGreatDoorG24
import Derived.Test.YtbhkfifmgbcknaaGreatDoorProg
import Derived.WalkKit
import Derived.Sort.Walk0
import Derived.Test.YtbhkfifmgbcknaaGreatDoorG05
import Derived.Below
import Derived.Deep.Light
import Derived.Deep.QuietTactic
import Derived.BigQuiet
import Derived.Test.YtbhkfifmgbcknaaGreatDoorG08
import Derived.Deep.RegionHeld3
set_option linter.unusedSimpArgs false
set_option linter.unusedVariables false
namespace Go.Proofs.YtbhkfifmgbcknaaGreatDoor
open Go.RowKit Go.Extern.Stop Go.Stop Go.Extern
theorem boxed_topo (w : World) (vr vl : Value) : (w.alloc (.cells #[vr, vl] 99)).cell? ⟨w.heap.size, 0, none⟩ = some vr ∧ (w.alloc (.cells #[vr, vl] 99)).cell? ⟨w.heap.size, 1, none⟩ = some vl :=
  ⟨by rw [Lib.cell_of_heap (heap_alloc_new w _)]; rfl, by rw [Lib.cell_of_heap (heap_alloc_new w _)]; rfl⟩
structure TB (w0 : World) (B : Nat) (vr vl : Value) (rs : List ByteArray) (ls : List Lk) (W : World) : Prop where
  lt : B < W.heap.size
  c0 : W.cell? ⟨B, 0, none⟩ = some vr
  c1 : W.cell? ⟨B, 1, none⟩ = some vl
  tp : TpAt W vr vl rs ls
  below : Below w0.heap.size w0 W
theorem TB.step {w0 : World} {B : Nat} {vr vl : Value} {rs : List ByteArray} {ls : List Lk} {W W' : World} (h : TB w0 B vr vl rs ls W) (hb : Below W.heap.size W W') : TB w0 B vr vl rs ls W' :=
  ⟨Nat.lt_of_lt_of_le h.lt hb.size, (hb.cell (p := ⟨B, 0, none⟩) h.lt).trans h.c0, (hb.cell (p := ⟨B, 1, none⟩) h.lt).trans h.c1, h.tp.step hb, h.below.trans (hb.mono h.below.size)⟩
theorem TB.start {w : World} {vr vl : Value} {rs : List ByteArray} {ls : List Lk} (h : TpAt w vr vl rs ls) : TB w w.heap.size vr vl rs ls (w.alloc (.cells #[vr, vl] 99)) :=
  ⟨by simp, (boxed_topo w vr vl).1, (boxed_topo w vr vl).2, h.step (below_new w _), below_new w _⟩
abbrev frB (r : Int) (l : Lk) : Bool := l.fr == r
set_option maxRecDepth 100000 in
set_option maxHeartbeats 2000000 in
theorem tOut_any (r : Int) (vr vl : Value) (rs : List ByteArray) (ls : List Lk) (w : World) (ht : TpAt w vr vl rs ls) (hl : ls.length ≤ 1000000) :
    Calls Tryz.prog 374 #[.agg #[vr, vl], .int .i64 r] w fun e w' => e = .returned (setV (whS (frB r) ls).1 (whS (frB r) ls).2) ∧ Below w.heap.size w w' := by
  have hB0 := TB.start ht
  have hb1 := below_new (w.alloc (.cells #[vr, vl] 99)) (.cells #[.int .i64 r] 3)
  have hB1 := hB0.step hb1
  have hr1 : ((w.alloc (.cells #[vr, vl] 99)).alloc (.cells #[.int .i64 r] 3)).cell? ⟨w.heap.size + 1, 0, none⟩ = some (.int .i64 r) := by
    have := heap_alloc_new (w.alloc (.cells #[vr, vl] 99)) (.cells #[.int .i64 r] 3)
    rw [World.size_alloc] at this
    rw [Lib.cell_of_heap this]; rfl
  have hb2 := below_new ((w.alloc (.cells #[vr, vl] 99)).alloc (.cells #[.int .i64 r] 3)) (.cells #[.int .u64 0, .int .u64 0] 43)
  have hB2 := hB1.step hb2
  have hlt2 : w.heap.size + 1 < (((w.alloc (.cells #[vr, vl] 99)).alloc (.cells #[.int .i64 r] 3)).alloc (.cells #[.int .u64 0, .int .u64 0] 43)).heap.size := by simp
  have hr2 := (hb2.cell (p := ⟨w.heap.size + 1, 0, none⟩) (by simp)).trans hr1
  have hs2 : SetAt (((w.alloc (.cells #[vr, vl] 99)).alloc (.cells #[.int .i64 r] 3)).alloc (.cells #[.int .u64 0, .int .u64 0] 43)) (w.heap.size + 1 + 1) 0 0 := by
    have := heap_alloc_new ((w.alloc (.cells #[vr, vl] 99)).alloc (.cells #[.int .i64 r] 3)) (.cells #[.int .u64 0, .int .u64 0] 43)
    rwa [World.size_alloc, World.size_alloc] at this
  have HW := Lib.hid (where_tpOut1 (frB r) (.pointer (some ⟨w.heap.size + 1, 0, none⟩)) vr vl ls _ hB2.tp.ls hl
    (fun l W hb => out1_any l r (w.heap.size + 1) W ((hb.cell (p := ⟨w.heap.size + 1, 0, none⟩) hlt2).trans hr2) (Nat.lt_of_lt_of_le hlt2 hb.size)))
  have HS := Lib.hid hs2
  have HB := Lib.hid hB2.below
  clear hB0 hb1 hB1 hr1 hb2 hB2 hlt2 hr2 hs2 ht
  generalize (whS (frB r) ls).1 = p at *
  generalize (whS (frB r) ls).2 = q at *
  go_enter Tryz.func374, Tryz.ntmps374
  go_wp2_with fail
  refine HW.out.mono ?_
  rintro e w3 ⟨rfl, b3⟩
  obtain ⟨k0, k1, kf⟩ := (HS.out.step b3).cells
  have k2 := kf 0
  have k3 := kf 1
  have HB3 := Lib.hid (HB.out.trans (b3.mono HB.out.size))
  clear b3 kf HW
  go_wp2_with fail
  refine bodyPost_ret (v := setV p q) (by simp [results, Tryz.f374, go_sem, k0, k1]) rfl ⟨rfl, ?_⟩
  exact (HB3.out.setCell (p := ⟨w.heap.size + 1 + 1, 0, none⟩) (by simp; omega) _).setCell (p := ⟨w.heap.size + 1 + 1, 1, none⟩) (by simp; omega) _
set_option maxRecDepth 100000 in
set_option maxHeartbeats 2000000 in
theorem routers_any (vr vl : Value) (rs : List ByteArray) (ls : List Lk) (w : World) (ht : TpAt w vr vl rs ls) (hl : rs.length ≤ 1000000) :
    Calls Tryz.prog 369 #[.agg #[vr, vl]] w fun e w' => e = .returned (setV (ofS (firstN (min (rs.length : Int) 128).toNat)).1 (ofS (firstN (min (rs.length : Int) 128).toNat)).2) ∧ Below w.heap.size w w' := by
  have HT := Lib.hid (TB.start ht)
  obtain ⟨a, cap, rfl⟩ := ht.rs.form
  have hb0 := HT.out.below
  have hb1 := below_new (w.alloc (.cells #[.slice a rs.length cap, vl] 99)) (.cells #[.int .u64 0, .int .u64 0] 43)
  have hB := hb0.trans (hb1.mono hb0.size)
  have hs : SetAt ((w.alloc (.cells #[.slice a rs.length cap, vl] 99)).alloc (.cells #[.int .u64 0, .int .u64 0] 43)) (w.heap.size + 1) 0 0 := by
    have := heap_alloc_new (w.alloc (.cells #[.slice a rs.length cap, vl] 99)) (.cells #[.int .u64 0, .int .u64 0] 43)
    rwa [World.size_alloc] at this
  have HU := Lib.hid (upto_any (rs.length : Int) (by omega) ((w.alloc (.cells #[.slice a rs.length cap, vl] 99)).alloc (.cells #[.int .u64 0, .int .u64 0] 43)))
  have HS := Lib.hid hs
  have HB := Lib.hid hB
  clear hb0 hb1 hB hs ht
  generalize (ofS (firstN (min (rs.length : Int) 128).toNat)).1 = p at *
  generalize (ofS (firstN (min (rs.length : Int) 128).toNat)).2 = q at *
  go_enter Tryz.func369, Tryz.ntmps369
  go_wp2_with fail
  refine HU.out.mono ?_
  rintro e w3 ⟨rfl, b3⟩
  obtain ⟨k0, k1, kf⟩ := (HS.out.step b3).cells
  have k2 := kf 0
  have k3 := kf 1
  have HB3 := Lib.hid (HB.out.trans (b3.mono HB.out.size))
  clear b3 kf HU
  go_wp2_with fail
  refine bodyPost_ret (v := setV p q) (by simp [results, Tryz.f369, go_sem, k0, k1]) rfl ⟨rfl, ?_⟩
  exact (HB3.out.setCell (p := ⟨w.heap.size + 1, 0, none⟩) (by simp) _).setCell (p := ⟨w.heap.size + 1, 1, none⟩) (by simp) _
theorem has_routers (n : Nat) (hn : n ≤ 128) (i : Int) : hasI (ofS (firstN (min (n : Int) 128).toNat)).1 (ofS (firstN (min (n : Int) 128).toNat)).2 i = decide (InN n i) := by
  rw [show (min (n : Int) 128).toNat = n by omega]
  unfold hasI
  rw [hasB_ofS, Bool.eq_iff_iff]
  simp only [Bool.and_eq_true, decide_eq_true_eq, List.any_eq_true]
  unfold InN firstN
  constructor
  · rintro ⟨h0, _, x, hx, e⟩
    obtain ⟨k, hk, rfl⟩ := List.mem_map.1 hx
    have := List.mem_range.1 hk
    have e : ((i.toNat : Nat) : Int) = Int.ofNat k := e
    simp at e
    omega
  · rintro ⟨h0, h1⟩
    exact ⟨h0, by omega, i, List.mem_map.2 ⟨i.toNat, List.mem_range.2 (by omega), by simp; omega⟩, by omega⟩
end Go.Proofs.YtbhkfifmgbcknaaGreatDoor
namespace Go.Proofs.YtbhkfifmgbcknaaGreatDoor
open Go.RowKit
def ltB (a b : ByteArray) : Bool := Op.bytesLess a.toList b.toList
theorem ltB_iff (a b : ByteArray) : ltB a b = true ↔ a.data.toList < b.data.toList := by
  unfold ltB
  rw [Go.Proofs.bytesLess_eq, Go.ByteArray.toList_eq, Go.ByteArray.toList_eq, decide_eq_true_eq]
theorem ltB_irrefl (a : ByteArray) : ltB a a = false := by
  rw [Bool.eq_false_iff, Ne, ltB_iff]; exact List.lt_irrefl _
theorem ltB_trans {a b c : ByteArray} (h : ltB a b = true) (h' : ltB b c = true) : ltB a c = true := by
  rw [ltB_iff] at *; exact List.lt_trans h h'
theorem bytes_ext {a b : ByteArray} (h : a.data.toList = b.data.toList) : a = b := ByteArray.ext (Array.toList_inj.1 h)
theorem ltB_asymm {a b : ByteArray} (h : ltB a b = true) : ltB b a = false := by
  rw [Bool.eq_false_iff]
  intro h'
  have := ltB_trans h h'
  rw [ltB_irrefl] at this
  cases this
end Go.Proofs.YtbhkfifmgbcknaaGreatDoor
namespace Go.Proofs.YtbhkfifmgbcknaaGreatDoor
open Go.RowKit Go.Extern.Stop Go.Stop Go.Extern
theorem sbelow_new (w : World) (o : Obj) : Below w.heap.size w (w.alloc o) := (Below.refl _ _).alloc (Nat.le_refl _) _
def sortI (n : Int) : Int :=
  if n = 32 ∨ n = 9 ∨ n = 10 ∨ n = 13 then 1 else if 97 ≤ n ∧ n ≤ 122 ∨ 65 ≤ n ∧ n ≤ 90 ∨ n = 95 then 2 else if 48 ≤ n ∧ n ≤ 57 then 3 else if n = 45 ∨ n = 46 then 4 else 0
def isLet (n : Int) : Bool := sortI n == 2
def isIn (n : Int) : Bool := decide (2 ≤ sortI n)
def isDig (n : Int) : Bool := sortI n == 3
def byteI (s : ByteArray) (k : Nat) : Int := if h : k < s.size then (s[k].toNat : Int) else 0
theorem byteI_lt {s : ByteArray} {k : Nat} (h : k < s.size) : byteI s k = (s[k].toNat : Int) := by unfold byteI; rw [dif_pos h]
theorem byteI_ge {s : ByteArray} {k : Nat} (h : ¬ k < s.size) : byteI s k = 0 := by unfold byteI; rw [dif_neg h]
def runTo (p : Int → Bool) (s : ByteArray) (k : Nat) : Nat := if h : k < s.size then (if p (s[k].toNat : Int) then runTo p s (k + 1) else k) else k
termination_by s.size - k
theorem runTo_go {p : Int → Bool} {s : ByteArray} {k : Nat} (h : k < s.size) (hp : p (s[k].toNat : Int) = true) : runTo p s k = runTo p s (k + 1) := by
  rw [runTo, dif_pos h, if_pos hp]
theorem runTo_end {p : Int → Bool} {s : ByteArray} {k : Nat} (h : ¬ k < s.size) : runTo p s k = k := by rw [runTo, dif_neg h]
theorem runTo_stop {p : Int → Bool} {s : ByteArray} {k : Nat} (h : k < s.size) (hp : p (s[k].toNat : Int) = false) : runTo p s k = k := by
  rw [runTo, dif_pos h, if_neg (by rw [hp]; decide)]
theorem runTo_bd (p : Int → Bool) (s : ByteArray) : ∀ (n k : Nat), s.size - k = n → k ≤ s.size → k ≤ runTo p s k ∧ runTo p s k ≤ s.size := by
  intro n
  induction n with
  | zero => intro k h hk; rw [runTo_end (by omega)]; omega
  | succ n ih =>
    intro k h hk
    by_cases hp : p (s[k]'(by omega)).toNat = true
    · rw [runTo_go (by omega) hp]; have := ih (k + 1) (by omega) (by omega); omega
    · rw [runTo_stop (by omega) (by simpa using hp)]; omega
theorem le_runTo (p : Int → Bool) (s : ByteArray) (k : Nat) (hk : k ≤ s.size) : k ≤ runTo p s k := (runTo_bd p s _ k rfl hk).1
theorem runTo_le (p : Int → Bool) (s : ByteArray) (k : Nat) (hk : k ≤ s.size) : runTo p s k ≤ s.size := (runTo_bd p s _ k rfl hk).2
set_option maxHeartbeats 1000000 in
theorem sortOf_any (n : Int) (w : World) :
    Calls Tryz.prog 105 #[.int .u8 n] w fun e w' => e = .returned (.int .i64 (sortI n)) ∧ w = w' := by
  go_enter Tryz.func105, Tryz.ntmps105
  go_wp2
  all_goals
    go_ret
    refine ⟨ret_u ?_, rfl⟩
    go_light
    simp only [beq_iff_eq, beq_eq_false_iff_ne, ne_eq] at *
    unfold sortI
    repeat' split
    all_goals omega
set_option maxHeartbeats 400000 in
theorem Name1_any (n : Int) (w : World) :
    Calls Tryz.prog 144 #[.int .u8 n] w fun e w' => e = .returned (.bool (isIn n)) ∧ w = w' := by
  go_enter Tryz.func144, Tryz.ntmps144
  go_wp2_with (go_at_call 105; refine (sortOf_any _ _).mono ?_; rintro e w' ⟨rfl, rfl⟩)
  go_ret
  exact ⟨rfl, rfl⟩
set_option maxHeartbeats 400000 in
theorem Number1_any (n : Int) (w : World) :
    Calls Tryz.prog 146 #[.int .u8 n] w fun e w' => e = .returned (.bool (isDig n)) ∧ w = w' := by
  go_enter Tryz.func146, Tryz.ntmps146
  go_wp2_with (go_at_call 105; refine (sortOf_any _ _).mono ?_; rintro e w' ⟨rfl, rfl⟩)
  go_ret
  exact ⟨rfl, rfl⟩
theorem ret_b {a b : Bool} (h : a = b) : Ending.returned (.bool a) = .returned (.bool b) := by rw [h]
set_option maxHeartbeats 400000 in
theorem at_any (s : ByteArray) (k : Nat) (w : World) :
    Calls Tryz.prog 85 #[.agg #[.string s, .int .i64 k]] w fun e w' => e = .returned (.int .i64 k) ∧ Below w.heap.size w w' := by
  go_enter Tryz.func85, Tryz.ntmps85
  go_wp2
  go_ret
  exact ⟨rfl, (Below.refl _ _).alloc (Nat.le_refl _) _⟩
set_option maxHeartbeats 400000 in
theorem end_any (s : ByteArray) (k : Nat) (w : World) :
    Calls Tryz.prog 83 #[.agg #[.string s, .int .i64 k]] w fun e w' => e = .returned (.bool (decide (k = s.size))) ∧ Below w.heap.size w w' := by
  go_enter Tryz.func83, Tryz.ntmps83
  go_wp2
  go_ret
  exact ⟨ret_b (by rw [Bool.eq_iff_iff]; simp; omega), (Below.refl _ _).alloc (Nat.le_refl _) _⟩
set_option maxHeartbeats 400000 in
theorem move_any (s : ByteArray) (k : Nat) (n : Int) (hk : k ≤ 100000) (h0 : 0 ≤ n) (hn : n ≤ 100000) (w : World) :
    Calls Tryz.prog 141 #[.agg #[.string s, .int .i64 k], .int .i64 n] w fun e w' => e = .returned (.agg #[.string s, .int .i64 ((k : Int) + n)]) ∧ Below w.heap.size w w' := by
  go_enter Tryz.func141, Tryz.ntmps141
  go_wp2
  exact bodyPost_ret (v := .agg #[.string s, .int .i64 ((k : Int) + n)]) (by simp [results, Tryz.results141, go_sem]) rfl ⟨rfl, ((Below.refl _ _).alloc (Nat.le_refl _) _).alloc (by simp) _⟩
set_option maxHeartbeats 400000 in
theorem upTo_any (s : ByteArray) (k j : Nat) (hk : k ≤ j) (hj : j ≤ s.size) (w : World) :
    Calls Tryz.prog 145 #[.agg #[.string s, .int .i64 k], .agg #[.string s, .int .i64 j]] w fun e w' => e = .returned (.string (s.extract k j)) ∧ Below w.heap.size w w' := by
  go_enter Tryz.func145, Tryz.ntmps145
  go_wp2
  go_ret
  exact ⟨rfl, ((Below.refl _ _).alloc (Nat.le_refl _) _).alloc (by simp) _⟩
set_option maxHeartbeats 400000 in
theorem peek_any (s : ByteArray) (k : Nat) (hk : k ≤ s.size) (w : World) :
    Calls Tryz.prog 140 #[.agg #[.string s, .int .i64 k]] w fun e w' => e = .returned (.int .u8 (byteI s k)) ∧ Below w.heap.size w w' := by
  by_cases h : k < s.size
  · rw [byteI_lt h]
    have hE := fun w => end_any s k w
    rw [decide_eq_false (by omega)] at hE
    have HE := Lib.hid hE
    clear hE
    go_enter Tryz.func140, Tryz.ntmps140
    go_wp2_with fail
    refine (HE.out _).mono ?_
    rintro e w1 ⟨rfl, hb⟩
    have c0 := (hb.cell (p := ⟨w.heap.size, 0, none⟩) (by simp)).trans (show _ = some (Value.string s) by simp)
    have c1 := (hb.cell (p := ⟨w.heap.size, 1, none⟩) (by simp)).trans (show _ = some (Value.int .i64 k) by simp)
    go_wp2
    go_ret
    exact ⟨rfl, ((Below.refl _ _).alloc (Nat.le_refl _) _).trans (hb.mono (by simp))⟩
  · rw [byteI_ge h]
    have hE := fun w => end_any s k w
    rw [decide_eq_true (by omega)] at hE
    have HE := Lib.hid hE
    clear hE
    go_enter Tryz.func140, Tryz.ntmps140
    go_wp2_with fail
    refine (HE.out _).mono ?_
    rintro e w1 ⟨rfl, hb⟩
    go_wp2
    go_ret
    exact ⟨rfl, ((Below.refl _ _).alloc (Nat.le_refl _) _).trans (hb.mono (by simp))⟩
def ScanAt (w : World) (b : Nat) (s : ByteArray) (j : Int) : Prop :=
  b < w.heap.size ∧ w.cell? ⟨b, 0, none⟩ = some (.string s) ∧ w.cell? ⟨b, 1, none⟩ = some (.int .i64 j) ∧ ∀ i, w.frozen? ⟨b, i, none⟩ = false
theorem ScanAt.step {w w' : World} {b : Nat} {s : ByteArray} {j : Int} (h : ScanAt w b s j) (hb : Below w.heap.size w w') : ScanAt w' b s j :=
  ⟨Nat.lt_of_lt_of_le h.1 hb.size, (hb.cell (p := ⟨b, 0, none⟩) h.1).trans h.2.1, (hb.cell (p := ⟨b, 1, none⟩) h.1).trans h.2.2.1, fun i => (hb.frozen (p := ⟨b, i, none⟩) h.1).trans (h.2.2.2 i)⟩
theorem ScanAt.new (w : World) (s : ByteArray) (j : Int) (t : TypeId) : ScanAt (w.alloc (.cells #[.string s, .int .i64 j] t)) w.heap.size s j := ⟨by simp, by simp, by simp, by simp⟩
theorem ScanAt.set {w : World} {b : Nat} {s : ByteArray} {j : Int} (h : ScanAt w b s j) (s' : ByteArray) (j' : Int) :
    ScanAt ((w.setCell ⟨b, 0, none⟩ (.string s')).setCell ⟨b, 1, none⟩ (.int .i64 j')) b s' j' := by
  have ne : ∀ i j : Nat, i ≠ j → (⟨b, i, none⟩ : Addr) ≠ ⟨b, j, none⟩ := fun i j h e => h (by injection e)
  refine ⟨by rw [World.size_setCell, World.size_setCell]; exact h.1, ?_, ?_, fun i => by rw [World.frozen?_setCell, World.frozen?_setCell]; exact h.2.2.2 i⟩
  · rw [World.cell?_setCell_other _ _ _ _ (ne 1 0 (by decide))]; exact World.cell?_setCell_same _ _ _ h.2.1
  · exact World.cell?_setCell_same _ _ _ ((World.cell?_setCell_other _ _ _ _ (ne 0 1 (by decide))).trans h.2.2.1)
theorem ScanAt.put {w : World} {b : Nat} {s : ByteArray} {j : Int} (h : ScanAt w b s j) (s' : ByteArray) (z : Int) :
    ((w.setCell ⟨b, 0, none⟩ (.string s')).setCell ⟨b, 1, none⟩ (.int .i64 z)).cell? ⟨b, 0, none⟩ = some (.string s') ∧ ((w.setCell ⟨b, 0, none⟩ (.string s')).setCell ⟨b, 1, none⟩ (.int .i64 z)).cell? ⟨b, 1, none⟩ = some (.int .i64 z) := by
  have ne : ∀ i j : Nat, i ≠ j → (⟨b, i, none⟩ : Addr) ≠ ⟨b, j, none⟩ := fun i j h e => h (by injection e)
  refine ⟨?_, ?_⟩
  · rw [World.cell?_setCell_other _ _ _ _ (ne 1 0 (by decide))]; exact World.cell?_setCell_same _ _ _ h.2.1
  · exact World.cell?_setCell_same _ _ _ ((World.cell?_setCell_other _ _ _ _ (ne 0 1 (by decide))).trans h.2.2.1)
theorem ScanAt.far {w : World} {b : Nat} {s : ByteArray} {j : Int} (h : ScanAt w b s j) {q : Addr} (hq : b ≠ q.block) (v : Value) : ScanAt (w.setCell q v) b s j :=
  ⟨by rw [World.size_setCell]; exact h.1, (World.cell?_setCell_other _ _ _ _ (by rintro rfl; exact hq rfl)).trans h.2.1, (World.cell?_setCell_other _ _ _ _ (by rintro rfl; exact hq rfl)).trans h.2.2.1, fun i => by rw [World.frozen?_setCell]; exact h.2.2.2 i⟩
structure OnRel (s : ByteArray) (k : Nat) (p : Int → Bool) (w0 : World) (n : Nat) (wr : World) : Prop where
  ex : ∃ j : Nat, k ≤ j ∧ j ≤ s.size ∧ n = s.size - j ∧ runTo p s j = runTo p s k ∧ ScanAt wr w0.heap.size s j
  res : ScanAt wr (w0.heap.size + 1) ⟨#[]⟩ 0
  below : Below w0.heap.size w0 wr
set_option maxRecDepth 100000 in
set_option maxHeartbeats 1000000 in
theorem goOn_Name1 (s : ByteArray) (k : Nat) (hs : s.size ≤ 100000) (hk : k ≤ s.size) (w : World) :
    Calls Tryz.prog 103 #[.agg #[.string s, .int .i64 k], .func (.func 144) #[] #[]] w fun e w' => e = .returned (.agg #[.string s, .int .i64 (runTo isIn s k)]) ∧ Below w.heap.size w w' := by
  have H0 : Hid (OnRel s k isIn w (s.size - k) ((w.alloc (.cells #[.string s, .int .i64 k] 121)).alloc (.cells #[.string ⟨#[]⟩, .int .i64 0] 121))) :=
    ⟨⟨k, Nat.le_refl _, hk, rfl, rfl, (ScanAt.new w s k 121).step (sbelow_new _ _)⟩, (by have := ScanAt.new (w.alloc (.cells #[.string s, .int .i64 k] 121)) ⟨#[]⟩ 0 121; simpa using this), (sbelow_new _ _).trans ((sbelow_new _ _).mono (by simp))⟩
  go_enter Tryz.func103, Tryz.ntmps103
  go_wp2
  go_loopg [] (s.size - k) (fun n wr => OnRel s k isIn w n wr)
  case atStart => exact H0.out
  case round =>
    obtain ⟨⟨j, hkj, hj, hn, hrun, hat⟩, hres, hbel⟩ := hrel
    have HN := Lib.hid hn
    have HR := Lib.hid hrun
    clear hn hrun
    obtain ⟨l0, c0, c1, f0⟩ := id hat
    by_cases hlt : j < s.size
    · have hE := fun w => end_any s j w
      rw [decide_eq_false (by omega)] at hE
      have hP := fun w => peek_any s j (by omega) w
      rw [byteI_lt hlt] at hP
      have HE := Lib.hid hE
      have HP := Lib.hid hP
      clear hE hP
      by_cases hp : isIn (s[j].toNat : Int) = true
      · have HG := Lib.hid (runTo_go hlt hp)
        have hF := fun w => Name1_any (s[j].toNat : Int) w
        rw [hp] at hF
        have HF := Lib.hid hF
        clear hF hp
        go_wp2_with fail
        refine (HE.out _).mono ?_
        rintro e w1 ⟨rfl, b1⟩
        have hat1 := hat.step b1
        have HRS1 := Lib.hid (hres.step b1)
        obtain ⟨l1, d0, d1, f1⟩ := id hat1
        go_wp2_with fail
        refine (HP.out _).mono ?_
        rintro e w2 ⟨rfl, b2⟩
        have hat2 := hat1.step b2
        have HRS2 := Lib.hid (HRS1.out.step b2)
        obtain ⟨l2, e0, e1, f2⟩ := id hat2
        go_wp2_with fail
        refine (HF.out _).mono ?_
        rintro e w' ⟨rfl, rfl⟩
        go_wp2_with fail
        refine (move_any s j 1 (by omega) (by omega) (by omega) _).mono ?_
        rintro e w3 ⟨rfl, b3⟩
        have hat3 := hat2.step b3
        have HRS3 := Lib.hid (HRS2.out.step b3)
        obtain ⟨l3, g0, g1, f3⟩ := id hat3
        have HB := Lib.hid (hbel.trans (((b1.trans (b2.mono b1.size)).trans (b3.mono (Nat.le_trans b1.size b2.size))).mono hbel.size))
        go_wp2_with fail
        go_roundg (s.size - (j + 1))
        case measure => have := HN.out; omega
        case rel =>
          refine ⟨⟨j + 1, by omega, by omega, rfl, HG.out.symm.trans HR.out, ?_⟩, ?_, ?_⟩
          · have := hat3.set s (j + 1)
            simpa using this
          · exact (HRS3.out.far (by simp) _).far (by simp) _
          · exact (HB.out.setCell (by simp) _).setCell (by simp) _
      · have HG := Lib.hid (runTo_stop hlt (by simpa using hp))
        have hF := fun w => Name1_any (s[j].toNat : Int) w
        rw [show isIn (s[j].toNat : Int) = false by simpa using hp] at hF
        have HF := Lib.hid hF
        clear hF hp
        go_wp2_with fail
        refine (HE.out _).mono ?_
        rintro e w1 ⟨rfl, b1⟩
        have hat1 := hat.step b1
        have HRS1 := Lib.hid (hres.step b1)
        obtain ⟨l1, d0, d1, f1⟩ := id hat1
        go_wp2_with fail
        refine (HP.out _).mono ?_
        rintro e w2 ⟨rfl, b2⟩
        have hat2 := hat1.step b2
        have hrs2 := HRS1.out.step b2
        obtain ⟨l2, e0, e1, f2⟩ := id hat2
        obtain ⟨m2, r0, r1, rf⟩ := id hrs2
        have HB := Lib.hid (hbel.trans ((b1.trans (b2.mono b1.size)).mono hbel.size))
        go_wp2_with fail
        refine (HF.out _).mono ?_
        rintro e w' ⟨rfl, rfl⟩
        go_wp2_with fail
        obtain ⟨-, q0, q1, -⟩ := hrs2.set s j
        rw [← HR.out, HG.out]
        exact bodyPost_ret (v := .agg #[.string s, .int .i64 j]) (by simp [results, Tryz.results103, go_sem, q0, q1]) rfl ⟨rfl, (HB.out.setCell (by simp) _).setCell (by simp) _⟩
    · have HG := Lib.hid (runTo_end (p := isIn) hlt)
      have hE := fun w => end_any s j w
      rw [decide_eq_true (by omega)] at hE
      have HE := Lib.hid hE
      clear hE
      go_wp2_with fail
      refine (HE.out _).mono ?_
      rintro e w1 ⟨rfl, b1⟩
      have hat1 := hat.step b1
      have hrs1 := hres.step b1
      obtain ⟨l1, d0, d1, f1⟩ := id hat1
      obtain ⟨m1, r0, r1, rf⟩ := id hrs1
      have HB := Lib.hid (hbel.trans (b1.mono hbel.size))
      go_wp2_with fail
      obtain ⟨-, q0, q1, -⟩ := hrs1.set s j
      rw [← HR.out, HG.out]
      exact bodyPost_ret (v := .agg #[.string s, .int .i64 j]) (by simp [results, Tryz.results103, go_sem, q0, q1]) rfl ⟨rfl, (HB.out.setCell (by simp) _).setCell (by simp) _⟩
set_option maxRecDepth 100000 in
set_option maxHeartbeats 1000000 in
theorem goOn_Number1 (s : ByteArray) (k : Nat) (hs : s.size ≤ 100000) (hk : k ≤ s.size) (w : World) :
    Calls Tryz.prog 103 #[.agg #[.string s, .int .i64 k], .func (.func 146) #[] #[]] w fun e w' => e = .returned (.agg #[.string s, .int .i64 (runTo isDig s k)]) ∧ Below w.heap.size w w' := by
  have H0 : Hid (OnRel s k isDig w (s.size - k) ((w.alloc (.cells #[.string s, .int .i64 k] 121)).alloc (.cells #[.string ⟨#[]⟩, .int .i64 0] 121))) :=
    ⟨⟨k, Nat.le_refl _, hk, rfl, rfl, (ScanAt.new w s k 121).step (sbelow_new _ _)⟩, (by have := ScanAt.new (w.alloc (.cells #[.string s, .int .i64 k] 121)) ⟨#[]⟩ 0 121; simpa using this), (sbelow_new _ _).trans ((sbelow_new _ _).mono (by simp))⟩
  go_enter Tryz.func103, Tryz.ntmps103
  go_wp2
  go_loopg [] (s.size - k) (fun n wr => OnRel s k isDig w n wr)
  case atStart => exact H0.out
  case round =>
    obtain ⟨⟨j, hkj, hj, hn, hrun, hat⟩, hres, hbel⟩ := hrel
    have HN := Lib.hid hn
    have HR := Lib.hid hrun
    clear hn hrun
    obtain ⟨l0, c0, c1, f0⟩ := id hat
    by_cases hlt : j < s.size
    · have hE := fun w => end_any s j w
      rw [decide_eq_false (by omega)] at hE
      have hP := fun w => peek_any s j (by omega) w
      rw [byteI_lt hlt] at hP
      have HE := Lib.hid hE
      have HP := Lib.hid hP
      clear hE hP
      by_cases hp : isDig (s[j].toNat : Int) = true
      · have HG := Lib.hid (runTo_go hlt hp)
        have hF := fun w => Number1_any (s[j].toNat : Int) w
        rw [hp] at hF
        have HF := Lib.hid hF
        clear hF hp
        go_wp2_with fail
        refine (HE.out _).mono ?_
        rintro e w1 ⟨rfl, b1⟩
        have hat1 := hat.step b1
        have HRS1 := Lib.hid (hres.step b1)
        obtain ⟨l1, d0, d1, f1⟩ := id hat1
        go_wp2_with fail
        refine (HP.out _).mono ?_
        rintro e w2 ⟨rfl, b2⟩
        have hat2 := hat1.step b2
        have HRS2 := Lib.hid (HRS1.out.step b2)
        obtain ⟨l2, e0, e1, f2⟩ := id hat2
        go_wp2_with fail
        refine (HF.out _).mono ?_
        rintro e w' ⟨rfl, rfl⟩
        go_wp2_with fail
        refine (move_any s j 1 (by omega) (by omega) (by omega) _).mono ?_
        rintro e w3 ⟨rfl, b3⟩
        have hat3 := hat2.step b3
        have HRS3 := Lib.hid (HRS2.out.step b3)
        obtain ⟨l3, g0, g1, f3⟩ := id hat3
        have HB := Lib.hid (hbel.trans (((b1.trans (b2.mono b1.size)).trans (b3.mono (Nat.le_trans b1.size b2.size))).mono hbel.size))
        go_wp2_with fail
        go_roundg (s.size - (j + 1))
        case measure => have := HN.out; omega
        case rel =>
          refine ⟨⟨j + 1, by omega, by omega, rfl, HG.out.symm.trans HR.out, ?_⟩, ?_, ?_⟩
          · have := hat3.set s (j + 1)
            simpa using this
          · exact (HRS3.out.far (by simp) _).far (by simp) _
          · exact (HB.out.setCell (by simp) _).setCell (by simp) _
      · have HG := Lib.hid (runTo_stop hlt (by simpa using hp))
        have hF := fun w => Number1_any (s[j].toNat : Int) w
        rw [show isDig (s[j].toNat : Int) = false by simpa using hp] at hF
        have HF := Lib.hid hF
        clear hF hp
        go_wp2_with fail
        refine (HE.out _).mono ?_
        rintro e w1 ⟨rfl, b1⟩
        have hat1 := hat.step b1
        have HRS1 := Lib.hid (hres.step b1)
        obtain ⟨l1, d0, d1, f1⟩ := id hat1
        go_wp2_with fail
        refine (HP.out _).mono ?_
        rintro e w2 ⟨rfl, b2⟩
        have hat2 := hat1.step b2
        have hrs2 := HRS1.out.step b2
        obtain ⟨l2, e0, e1, f2⟩ := id hat2
        obtain ⟨m2, r0, r1, rf⟩ := id hrs2
        have HB := Lib.hid (hbel.trans ((b1.trans (b2.mono b1.size)).mono hbel.size))
        go_wp2_with fail
        refine (HF.out _).mono ?_
        rintro e w' ⟨rfl, rfl⟩
        go_wp2_with fail
        obtain ⟨-, q0, q1, -⟩ := hrs2.set s j
        rw [← HR.out, HG.out]
        exact bodyPost_ret (v := .agg #[.string s, .int .i64 j]) (by simp [results, Tryz.results103, go_sem, q0, q1]) rfl ⟨rfl, (HB.out.setCell (by simp) _).setCell (by simp) _⟩
    · have HG := Lib.hid (runTo_end (p := isDig) hlt)
      have hE := fun w => end_any s j w
      rw [decide_eq_true (by omega)] at hE
      have HE := Lib.hid hE
      clear hE
      go_wp2_with fail
      refine (HE.out _).mono ?_
      rintro e w1 ⟨rfl, b1⟩
      have hat1 := hat.step b1
      have hrs1 := hres.step b1
      obtain ⟨l1, d0, d1, f1⟩ := id hat1
      obtain ⟨m1, r0, r1, rf⟩ := id hrs1
      have HB := Lib.hid (hbel.trans (b1.mono hbel.size))
      go_wp2_with fail
      obtain ⟨-, q0, q1, -⟩ := hrs1.set s j
      rw [← HR.out, HG.out]
      exact bodyPost_ret (v := .agg #[.string s, .int .i64 j]) (by simp [results, Tryz.results103, go_sem, q0, q1]) rfl ⟨rfl, (HB.out.setCell (by simp) _).setCell (by simp) _⟩
end Go.Proofs.YtbhkfifmgbcknaaGreatDoor
namespace Go.Proofs.YtbhkfifmgbcknaaGreatDoor
open Go.RowKit Go.Extern.Stop Go.Stop Go.Extern
def ErrIs (w : World) (v : Value) (c a : Int) : Prop := (c = 0 ∧ v = .nilIface) ∨ (c ≠ 0 ∧ ∃ fb, ChainAt w (.fault fb c a) [] v)
theorem ErrIs.keep {w w' : World} {v : Value} {c a : Int} (h : ErrIs w v c a) (hb : Below w.heap.size w w') : ErrIs w' v c a :=
  h.imp id (fun ⟨h0, fb, hc⟩ => ⟨h0, fb, hc.keep hb⟩)
theorem ErrIs.nilE (w : World) (a : Int) : ErrIs w .nilIface 0 a := .inl ⟨rfl, rfl⟩
theorem ErrIs.fault {w : World} {v : Value} {c a : Int} {fb : Nat} (h0 : c ≠ 0) (h : ChainAt w (.fault fb c a) [] v) : ErrIs w v c a := .inr ⟨h0, fb, h⟩
theorem ErrIs.nil_of {w : World} {v : Value} {a : Int} (h : ErrIs w v 0 a) : v = .nilIface := h.elim (·.2) (fun h => absurd rfl h.1)
theorem ErrIs.set {w : World} {v : Value} {c a : Int} {b : Nat} {k : Int} {s : ByteArray} (h : ErrIs w v c a) (hs : ScanAt w b s k) (s' : ByteArray) (z : Int) :
    ErrIs ((w.setCell ⟨b, 0, none⟩ (.string s')).setCell ⟨b, 1, none⟩ (.int .i64 z)) v c a := by
  rcases h with h | ⟨h0, fb, e, hlt, h1, h2⟩
  · exact .inl h
  · have hne : fb ≠ b := by
      rintro rfl
      rw [hs.2.1] at h1
      cases h1
    refine .inr ⟨h0, fb, e, by rw [World.size_setCell, World.size_setCell]; exact hlt, ?_, ?_⟩
    · rw [World.cell?_setCell_other _ _ _ _ (by intro e; injection e with e; exact hne e.symm), World.cell?_setCell_other _ _ _ _ (by intro e; injection e with e; exact hne e.symm)]; exact h1
    · rw [World.cell?_setCell_other _ _ _ _ (by intro e; injection e with e; exact hne e.symm), World.cell?_setCell_other _ _ _ _ (by intro e; injection e with e; exact hne e.symm)]; exact h2
theorem lawIs_err (v : Value) (c a : Int) (w : World) (h : ErrIs w v c a) (hg : Handle w) :
    Calls Tryz.prog 112 #[v, .int .i64 c, .int .i64 a] w fun e w' => e = .returned (.bool true) ∧ Below w.heap.size w w' := by
  rcases h with ⟨rfl, rfl⟩ | ⟨h0, fb, hc⟩
  · refine (lawIs_nil a w).mono ?_
    rintro e w' ⟨rfl, rfl⟩
    exact ⟨rfl, Below.refl _ _⟩
  · exact lawIs_fault fb c a h0 v w hc hg
def Faults (w : World) (c a : Int) (e : Ending) (w' : World) : Prop := ∃ v, e = .returned v ∧ ErrIs w' v c a ∧ Below w.heap.size w w'
theorem new_faults (c a : Int) (h0 : c ≠ 0) (w : World) : Calls Tryz.prog 84 #[.int .i64 c, .int .i64 a] w (Faults w c a) := by
  refine (new_any c a h0 w).mono ?_
  rintro e w' ⟨rfl, rfl⟩
  exact ⟨_, rfl, .fault h0 (new_chain c a w), below_alloc _ _⟩
def missC (s : ByteArray) (k : Nat) : Int := if k < s.size then 4 else 3
set_option maxHeartbeats 400000 in
theorem missing_any (s : ByteArray) (k : Nat) (hk : k ≤ s.size) (w : World) :
    Calls Tryz.prog 143 #[.agg #[.string s, .int .i64 k]] w (Faults w (missC s k) k) := by
  by_cases h : k < s.size
  · rw [show missC s k = 4 by unfold missC; rw [if_pos h]]
    have hE := fun w => end_any s k w
    rw [decide_eq_false (by omega)] at hE
    have HE := Lib.hid hE
    clear hE
    go_enter Tryz.func143, Tryz.ntmps143
    go_wp2_with fail
    refine (HE.out _).mono ?_
    rintro e w1 ⟨rfl, b1⟩
    have hat := (ScanAt.new w s k 121).step b1
    obtain ⟨-, c0, c1, -⟩ := hat
    go_wp2_with fail
    refine (new_faults 4 k (by decide) _).mono ?_
    rintro e w2 ⟨v, rfl, hv, b2⟩
    have HV := Lib.hid hv
    clear hv
    go_wp2_with fail
    go_ret
    exact ⟨v, rfl, HV.out, (sbelow_new _ _).trans ((b1.trans (b2.mono b1.size)).mono (by simp))⟩
  · rw [show missC s k = 3 by unfold missC; rw [if_neg h]]
    have hE := fun w => end_any s k w
    rw [decide_eq_true (by omega)] at hE
    have HE := Lib.hid hE
    clear hE
    go_enter Tryz.func143, Tryz.ntmps143
    go_wp2_with fail
    refine (HE.out _).mono ?_
    rintro e w1 ⟨rfl, b1⟩
    have hat := (ScanAt.new w s k 121).step b1
    obtain ⟨-, c0, c1, -⟩ := hat
    go_wp2_with fail
    refine (new_faults 3 k (by decide) _).mono ?_
    rintro e w2 ⟨v, rfl, hv, b2⟩
    have HV := Lib.hid hv
    clear hv
    go_wp2_with fail
    go_ret
    exact ⟨v, rfl, HV.out, (sbelow_new _ _).trans ((b1.trans (b2.mono b1.size)).mono (by simp))⟩
set_option maxHeartbeats 400000 in
theorem scanNew_any (s : ByteArray) (h : s.size ≤ 65536) (w : World) :
    Calls Tryz.prog 80 #[.string s] w fun e w' => e = .returned (.tuple #[.agg #[.string s, .int .i64 0], .nilIface]) ∧ Below w.heap.size w w' := by
  go_enter Tryz.func80, Tryz.ntmps80
  go_wp2
  exact bodyPost_ret (v := .tuple #[.agg #[.string s, .int .i64 0], .nilIface]) (by simp [results, Tryz.results80, go_sem]) rfl ⟨rfl, sbelow_new _ _⟩
def PlaceErr (w : World) (s : ByteArray) (k : Nat) (c a : Int) (e : Ending) (w' : World) : Prop :=
  ∃ v, e = .returned (.tuple #[.agg #[.string s, .int .i64 k], v]) ∧ ErrIs w' v c a ∧ Below w.heap.size w w'
set_option maxHeartbeats 400000 in
theorem scanNew_long (s : ByteArray) (h : 65536 < s.size) (hs : s.size ≤ maxLen) (w : World) :
    Calls Tryz.prog 80 #[.string s] w (PlaceErr w ⟨#[]⟩ 0 5 65536) := by
  unfold maxLen at hs
  go_enter Tryz.func80, Tryz.ntmps80
  go_wp2_with fail
  refine (new_faults 5 65536 (by decide) _).mono ?_
  rintro e w2 ⟨v, rfl, hv, b2⟩
  have hr := (ScanAt.new w ⟨#[]⟩ 0 121).step b2
  have HS := Lib.hid (hr.put ⟨#[]⟩ 0)
  have HV := Lib.hid (hv.set hr ⟨#[]⟩ 0)
  have HB := Lib.hid ((((sbelow_new w _).trans (b2.mono (by simp))).setCell (p := ⟨w.heap.size, 0, none⟩) (Nat.le_refl _) (.string ⟨#[]⟩)).setCell (p := ⟨w.heap.size, 1, none⟩) (Nat.le_refl _) (.int .i64 0))
  obtain ⟨-, c0, c1, cf⟩ := hr
  clear hv
  go_wp2_with fail
  obtain ⟨q0, q1⟩ := HS.out
  exact bodyPost_ret (v := .tuple #[.agg #[.string ⟨#[]⟩, .int .i64 0], v]) (by simp [results, Tryz.results80, go_sem, q0, q1]) rfl ⟨v, rfl, HV.out, HB.out⟩
structure InScan (w0 : World) (s : ByteArray) (k : Nat) (w : World) : Prop where
  own : ScanAt w w0.heap.size s k
  res : ScanAt w (w0.heap.size + 1) ⟨#[]⟩ 0
  below : Below w0.heap.size w0 w
theorem InScan.step {w0 w w' : World} {s : ByteArray} {k : Nat} (h : InScan w0 s k w) (hb : Below w.heap.size w w') : InScan w0 s k w' :=
  ⟨h.own.step hb, h.res.step hb, h.below.trans (hb.mono h.below.size)⟩
theorem InScan.drew {w0 w : World} {s : ByteArray} {k : Nat} (h : InScan w0 s k w) : InScan w0 s k w.drew := ⟨h.own, h.res, h.below.drew⟩
theorem InScan.new (w : World) (s : ByteArray) (k : Nat) (t : TypeId) : InScan w s k ((w.alloc (.cells #[.string s, .int .i64 k] t)).alloc (.cells #[.string ⟨#[]⟩, .int .i64 0] t)) :=
  ⟨(ScanAt.new w s k t).step (sbelow_new _ _), by have := ScanAt.new (w.alloc (.cells #[.string s, .int .i64 k] t)) ⟨#[]⟩ 0 t; simpa using this, (sbelow_new _ _).trans ((sbelow_new _ _).mono (by simp))⟩
theorem InScan.out {w0 w : World} {s : ByteArray} {k : Nat} (h : InScan w0 s k w) (z : Int) :
    (((w.setCell ⟨w0.heap.size + 1, 0, none⟩ (.string s)).setCell ⟨w0.heap.size + 1, 1, none⟩ (.int .i64 z)).cell? ⟨w0.heap.size + 1, 0, none⟩ = some (.string s) ∧ ((w.setCell ⟨w0.heap.size + 1, 0, none⟩ (.string s)).setCell ⟨w0.heap.size + 1, 1, none⟩ (.int .i64 z)).cell? ⟨w0.heap.size + 1, 1, none⟩ = some (.int .i64 z)) ∧
      Below w0.heap.size w0 ((w.setCell ⟨w0.heap.size + 1, 0, none⟩ (.string s)).setCell ⟨w0.heap.size + 1, 1, none⟩ (.int .i64 z)) :=
  ⟨h.res.put s z, (h.below.setCell (by simp) _).setCell (by simp) _⟩
end Go.Proofs.YtbhkfifmgbcknaaGreatDoor
