/-
  Package table by contracts, for Check: whether a link is there; the first of two numbers that is not 0.
  Chapter 12's Check, plainly: the first fault of rows over a topology, with its place and its words.
  Package table by contracts, for Check: an entry, a group, a row.
  Package table by contracts, for Check: the first fault of a group's entries, of a row's groups.
  Package table by contracts, for Check: a row.
  Package table by contracts: Check.
  Package table by contracts: Check of rows, from the first on.
-/
import Derived.Test.YtlcpbfklnjlgnaaGreatDoorGw
import Derived.Test.YtlcpbfklnjlgnaaGreatDoorGl
import Derived.Test.YtlcpbfklnjlgnaaGreatDoorGb
import Derived.Test.YtlcpbfklnjlgnaaGreatDoorGj
import Derived.Test.YtlcpbfklnjlgnaaGreatDoorGt
import Derived.Test.YtlcpbfklnjlgnaaGreatDoorGp
namespace Go.Proofs.YtlcpbfklnjlgnaaGreatDoor
open Go.RowKit Go.Extern.Stop Go.Stop Go.Extern

set_option maxHeartbeats 1000000 in
theorem tbHas_any (i : Int) (vr vl : Value) (rs : List ByteArray) (ls : List Lk) (w : World) (ht : TpAt w vr vl rs ls) :
    Calls Tryz.prog 45 #[.agg #[vr, vl], .int .i64 i] w fun e w' => e = .returned (.bool (decide (InN ls.length i))) ∧ Below w.heap.size w w' := by
  have HT := Lib.hid (TB.start ht)
  obtain ⟨la, lcap, rfl⟩ := ht.ls.form
  have k1 := HT.out.c1
  clear ht
  by_cases h0 : 0 ≤ i
  · by_cases h1 : i < ls.length
    · have e : decide (InN ls.length i) = true := decide_eq_true ⟨h0, h1⟩
      rw [e]
      go_enter Tryz.func45, Tryz.ntmps45
      go_wp2_with fail
      go_ret
      exact ⟨rfl, HT.out.below⟩
    · have e : decide (InN ls.length i) = false := decide_eq_false (fun h => h1 h.2)
      rw [e]
      go_enter Tryz.func45, Tryz.ntmps45
      go_wp2_with fail
      go_ret
      exact ⟨rfl, HT.out.below⟩
  · have e : decide (InN ls.length i) = false := decide_eq_false (fun h => h0 h.1)
    rw [e]
    go_enter Tryz.func45, Tryz.ntmps45
    go_wp2_with fail
    go_ret
    exact ⟨rfl, HT.out.below⟩
set_option maxHeartbeats 1000000 in
theorem orI2_any (x y : Int) (b : Nat) (w : World) (c0 : w.cell? ⟨b, 0, none⟩ = some (.int .i64 x)) (c1 : w.cell? ⟨b, 1, none⟩ = some (.int .i64 y)) :
    Calls Tryz.prog 79 #[.slice (some ⟨b, 0, none⟩) 2 2] w fun e w' => e = .returned (.int .i64 (if x = 0 then y else x)) ∧ w' = w := by
  by_cases hx : x = 0
  · subst hx
    rw [if_pos rfl]
    by_cases hy : y = 0
    · subst hy
      go_enter Tryz.func79, Tryz.ntmps79
      go_wp2_with fail
      go_loop [8] (fun u => ∃ k : Nat, k ≤ 2 ∧ u = .int .i64 k) (fun u => 2 - (intOf u).toNat)
      case atStart => exact ⟨0, by omega, rfl⟩
      case round =>
        obtain ⟨k, hk, rfl⟩ := hrel
        rcases k with _ | _ | _ | k
        · go_wp2_with fail
          go_round
          case rel => exact ⟨1, by omega, rfl⟩
          case measure => simp [intOf]
        · go_wp2_with fail
          go_round
          case rel => exact ⟨2, by omega, rfl⟩
          case measure => simp [intOf]
        · go_wp2_with fail
          go_ret
          exact ⟨rfl, rfl⟩
        · omega
    · have hy' : (y != 0) = true := by simpa using hy
      go_enter Tryz.func79, Tryz.ntmps79
      go_wp2_with fail
      go_loop [8] (fun u => ∃ k : Nat, k ≤ 1 ∧ u = .int .i64 k) (fun u => 2 - (intOf u).toNat)
      case atStart => exact ⟨0, by omega, rfl⟩
      case round =>
        obtain ⟨k, hk, rfl⟩ := hrel
        rcases k with _ | _ | k
        · go_wp2_with fail
          go_round
          case rel => exact ⟨1, by omega, rfl⟩
          case measure => simp [intOf]
        · go_wp2_with fail
          go_ret
          exact ⟨rfl, rfl⟩
        · omega
  · rw [if_neg hx]
    have hx' : (x != 0) = true := by simpa using hx
    go_enter Tryz.func79, Tryz.ntmps79
    go_wp2_with fail
    go_loop [8] (fun u => u = .int .i64 0) (fun u => 2 - (intOf u).toNat)
    case atStart => rfl
    case round =>
      obtain rfl := hrel
      go_wp2_with fail
      go_ret
      exact ⟨rfl, rfl⟩
theorem isNaNI_any (x : Int) (w : World) : Calls Tryz.prog 117 #[.int .i64 x] w fun e w' => e = .returned (.bool false) ∧ w' = w := by
  have hx : (x != x) = false := by simp
  go_enter Tryz.func117, Tryz.ntmps117
  go_wp2_with fail
  go_ret
  exact ⟨rfl, rfl⟩
theorem cmpI_any (x y : Int) (w : World) : Calls Tryz.prog 80 #[.int .i64 x, .int .i64 y] w fun e w' => e = .returned (.int .i64 (Lib.compareInt x y)) ∧ w' = w := by
  have H1 := Lib.hid (isNaNI_any x w)
  have H2 := Lib.hid (isNaNI_any y w)
  obtain ⟨z, hz⟩ : ∃ z, Lib.compareInt x y = z := ⟨_, rfl⟩
  rw [hz]
  unfold Lib.compareInt at hz
  by_cases h1 : x < y
  · rw [if_pos h1] at hz
    subst hz
    go_enter Tryz.func80, Tryz.ntmps80
    go_wp2_with fail
    refine H1.out.mono ?_
    rintro e w' ⟨rfl, rfl⟩
    go_wp2_with fail
    refine H2.out.mono ?_
    rintro e w' ⟨rfl, rfl⟩
    go_wp2_with fail
    go_ret
    exact ⟨rfl, rfl⟩
  · rw [if_neg h1] at hz
    by_cases h2 : x > y
    · rw [if_pos h2] at hz
      subst hz
      go_enter Tryz.func80, Tryz.ntmps80
      go_wp2_with fail
      refine H1.out.mono ?_
      rintro e w' ⟨rfl, rfl⟩
      go_wp2_with fail
      refine H2.out.mono ?_
      rintro e w' ⟨rfl, rfl⟩
      go_wp2_with fail
      go_ret
      exact ⟨rfl, rfl⟩
    · rw [if_neg h2] at hz
      subst hz
      go_enter Tryz.func80, Tryz.ntmps80
      go_wp2_with fail
      refine H1.out.mono ?_
      rintro e w' ⟨rfl, rfl⟩
      go_wp2_with fail
      refine H2.out.mono ?_
      rintro e w' ⟨rfl, rfl⟩
      go_wp2_with fail
      go_ret
      exact ⟨rfl, rfl⟩
theorem ints_pair (W : World) (x y : Int) : (W.alloc (.cells #[.int .i64 x, .int .i64 y] 3)).cell? ⟨W.heap.size, 0, none⟩ = some (.int .i64 x) ∧ (W.alloc (.cells #[.int .i64 x, .int .i64 y] 3)).cell? ⟨W.heap.size, 1, none⟩ = some (.int .i64 y) :=
  ⟨by rw [Lib.cell_of_heap (heap_alloc_new W _)]; rfl, by rw [Lib.cell_of_heap (heap_alloc_new W _)]; rfl⟩
/-- Does a row come behind another one: by where it comes in, then by its label. -/
def abvI (i t i' t' : Int) : Int := if Lib.compareInt i i' = 0 then Lib.compareInt t t' else Lib.compareInt i i'
set_option maxRecDepth 100000 in
set_option maxHeartbeats 4000000 in
theorem above_any (i t i' t' : Int) (g g' : Value) (a a' : Option Addr) (n n' c c' : Nat) (hg : g = .slice a n c) (hg' : g' = .slice a' n' c') (w : World) :
    Calls Tryz.prog 47 #[rowV i t g, rowV i' t' g'] w fun e w' => e = .returned (.bool (decide (0 < abvI i t i' t'))) ∧ Below w.heap.size w w' := by
  subst hg hg'
  have hb1 := below_new w (.cells #[.int .i64 i, .int .i64 t, .slice a n c] 52)
  have hb2 := below_new (w.alloc (.cells #[.int .i64 i, .int .i64 t, .slice a n c] 52)) (.cells #[.int .i64 i', .int .i64 t', .slice a' n' c'] 52)
  have HB := Lib.hid (hb1.trans (hb2.mono hb1.size))
  have m0 := (hb2.cell (p := ⟨w.heap.size, 0, none⟩) (by simp)).trans (boxed_row w (.int .i64 i) (.int .i64 t) (.slice a n c)).1
  have m1 := (hb2.cell (p := ⟨w.heap.size, 1, none⟩) (by simp)).trans (boxed_row w (.int .i64 i) (.int .i64 t) (.slice a n c)).2.1
  have m2 := (boxed_row (w.alloc (.cells #[.int .i64 i, .int .i64 t, .slice a n c] 52)) (.int .i64 i') (.int .i64 t') (.slice a' n' c')).1
  have m3 := (boxed_row (w.alloc (.cells #[.int .i64 i, .int .i64 t, .slice a n c] 52)) (.int .i64 i') (.int .i64 t') (.slice a' n' c')).2.1
  rw [World.size_alloc] at m2 m3
  clear hb1 hb2
  obtain ⟨z, hz⟩ : ∃ z, abvI i t i' t' = z := ⟨_, rfl⟩
  rw [hz]
  unfold abvI at hz
  have HOr : Hid (∀ b W, W.cell? ⟨b, 0, none⟩ = some (.int .i64 (Lib.compareInt i i')) → W.cell? ⟨b, 1, none⟩ = some (.int .i64 (Lib.compareInt t t')) → Calls Tryz.prog 79 #[.slice (some ⟨b, 0, none⟩) 2 2] W fun e w' => e = .returned (.int .i64 z) ∧ w' = W) := Lib.hid (fun b W c0 c1 => by
    have := orI2_any _ _ b W c0 c1
    rwa [hz] at this)
  have HC1 := Lib.hid (fun W => cmpI_any i i' W)
  have HC2 := Lib.hid (fun W => cmpI_any t t' W)
  clear hz
  generalize Lib.compareInt i i' = x at *
  generalize Lib.compareInt t t' = y at *
  go_enter Tryz.func47, Tryz.ntmps47
  go_wp2_with fail
  generalize (w.alloc (.cells #[.int .i64 i, .int .i64 t, .slice a n c] 52)).alloc (.cells #[.int .i64 i', .int .i64 t', .slice a' n' c'] 52) = w1 at *
  have kk : w1.drew.cell? ⟨w.heap.size, 0, none⟩ = some (.int .i64 i) ∧ w1.drew.cell? ⟨w.heap.size, 1, none⟩ = some (.int .i64 t) ∧ w1.drew.cell? ⟨w.heap.size + 1, 0, none⟩ = some (.int .i64 i') ∧ w1.drew.cell? ⟨w.heap.size + 1, 1, none⟩ = some (.int .i64 t') := ⟨m0, m1, m2, m3⟩
  go_region_held3 (fun w' => w'.cell? ⟨w.heap.size, 0, none⟩ = some (.int .i64 i) ∧ w'.cell? ⟨w.heap.size, 1, none⟩ = some (.int .i64 t) ∧ w'.cell? ⟨w.heap.size + 1, 0, none⟩ = some (.int .i64 i') ∧ w'.cell? ⟨w.heap.size + 1, 1, none⟩ = some (.int .i64 t'))
    (first | exact kk | go_keep)
    (first
    | (go_at_call_of 80 i; refine (HC1.out _).mono ?_; rintro e w2 ⟨rfl, rfl⟩)
    | (go_at_call_of 80 t; refine (HC2.out _).mono ?_; rintro e w3 ⟨rfl, rfl⟩)
    | (go_at_call 79; refine (HOr.out w1.heap.size (w1.alloc (.cells #[.int .i64 x, .int .i64 y] 3)).drew (ints_pair w1 x y).1 (ints_pair w1 x y).2).mono ?_; rintro e w4 ⟨rfl, rfl⟩))
  all_goals
    go_wp2_with fail
    go_ret
    exact ⟨rfl, HB.out.trans ((below_new _ _).drew.mono HB.out.size)⟩
/-- What is wrong with a number of groups, or of entries; 0. -/
def lenE (n : Int) : Int := if n = 0 then 14 else if 8 < n then 6 else 0
def LenP (n : Int) (w : World) (e : Ending) (w' : World) : Prop :=
  (lenE n = 0 ∧ e = .returned .nilIface ∧ w' = w) ∨ (lenE n ≠ 0 ∧ e = .returned (.iface 99 (.pointer (some ⟨w.heap.size, 0, none⟩))) ∧ w' = w.alloc (.cells #[.int .i64 (lenE n), .int .i64 0] 102))
set_option maxHeartbeats 1000000 in
theorem checkLen_any (n : Int) (w : World) : Calls Tryz.prog 48 #[.int .i64 n] w (LenP n w) := by
  have H14 := Lib.hid (new_any 14 0 (by decide) w)
  have H6 := Lib.hid (new_any 6 0 (by decide) w)
  by_cases h0 : n = 0
  · have h : lenE n = 14 := by unfold lenE; rw [if_pos h0]
    have HP := Lib.hid (show LenP n w (.returned (.iface 99 (.pointer (some ⟨w.heap.size, 0, none⟩)))) (w.alloc (.cells #[.int .i64 14, .int .i64 0] 102)) from .inr ⟨by rw [h]; decide, rfl, by rw [h]⟩)
    subst h0
    clear h
    go_enter Tryz.func48, Tryz.ntmps48
    go_wp2_with fail
    refine H14.out.mono ?_
    rintro e w' ⟨rfl, rfl⟩
    go_wp2_with fail
    go_ret
    exact HP.out
  · have h0' : (n == 0) = false := by simpa using h0
    by_cases h8 : 8 < n
    · have h : lenE n = 6 := by unfold lenE; rw [if_neg h0, if_pos h8]
      have HP := Lib.hid (show LenP n w (.returned (.iface 99 (.pointer (some ⟨w.heap.size, 0, none⟩)))) (w.alloc (.cells #[.int .i64 6, .int .i64 0] 102)) from .inr ⟨by rw [h]; decide, rfl, by rw [h]⟩)
      clear h
      go_enter Tryz.func48, Tryz.ntmps48
      go_wp2_with fail
      refine H6.out.mono ?_
      rintro e w' ⟨rfl, rfl⟩
      go_wp2_with fail
      go_ret
      exact HP.out
    · have h : lenE n = 0 := by unfold lenE; rw [if_neg h0, if_neg h8]
      have HP := Lib.hid (show LenP n w (.returned .nilIface) w from .inl ⟨h, rfl, rfl⟩)
      clear h
      go_enter Tryz.func48, Tryz.ntmps48
      go_wp2_with fail
      go_ret
      exact HP.out
end Go.Proofs.YtlcpbfklnjlgnaaGreatDoor

namespace Go.Proofs.YtlcpbfklnjlgnaaGreatDoor
open Go.RowKit Go.Extern.Stop Go.Stop Go.Extern

/-- A fault: its number (0: none), its place, the words within which it was met. -/
abbrev Flt := Int × Int × List ByteArray
/-- A number in digits. -/
def digS (i : Nat) : ByteArray := ⟨(Lib.itoa (i : Int)).toArray⟩
/-- A fault, within one word more. -/
def inF (s : ByteArray) (f : Flt) : Flt := if f.1 = 0 then f else (f.1, f.2.1, s :: f.2.2)
/-- The first fault of so many things, from one on, within its thing's place. -/
def firstF (f : Nat → Flt) : Nat → Nat → Flt
  | 0, _ => (0, 0, [])
  | k + 1, i => if (f i).1 = 0 then firstF f k (i + 1) else inF (digS i) (f i)
theorem firstF_go {f : Nat → Flt} {n i : Nat} (h : i < n) (h0 : (f i).1 = 0) : firstF f (n - i) i = firstF f (n - (i + 1)) (i + 1) := by
  rw [show n - i = n - (i + 1) + 1 by omega, firstF, if_pos h0]
theorem firstF_at {f : Nat → Flt} {n i : Nat} (h : i < n) (h0 : (f i).1 ≠ 0) : firstF f (n - i) i = ((f i).1, (f i).2.1, digS i :: (f i).2.2) := by
  rw [show n - i = n - (i + 1) + 1 by omega, firstF, if_neg h0, inF, if_neg h0]
theorem firstF_end (f : Nat → Flt) (n : Nat) : firstF f (n - n) n = (0, 0, []) := by rw [Nat.sub_self, firstF]
theorem inF_ok {s : ByteArray} {f : Flt} (h : f.1 = 0) : inF s f = f := if_pos h
theorem inF_no {s : ByteArray} {f : Flt} (h : f.1 ≠ 0) : inF s f = (f.1, f.2.1, s :: f.2.2) := if_neg h
theorem inF_fst (s : ByteArray) (f : Flt) : (inF s f).1 = f.1 := by unfold inF; split <;> rfl
/-- Where nothing is wrong, nothing is wrong with any. -/
theorem firstF_ok {f : Nat → Flt} : ∀ (k i : Nat), (firstF f k i).1 = 0 → ∀ j, i ≤ j → j < i + k → (f j).1 = 0
  | 0, _, _, j, h1, h2 => by omega
  | k + 1, i, h, j, h1, h2 => by
    unfold firstF at h
    by_cases h0 : (f i).1 = 0
    · rw [if_pos h0] at h
      rcases Nat.lt_or_ge i j with hj | hj
      · exact firstF_ok k (i + 1) h j hj (by omega)
      · obtain rfl : j = i := by omega
        exact h0
    · rw [if_neg h0, inF_fst] at h
      exact absurd h h0

def frA (ls : List Lk) (i : Int) : Int := (ls[i.toNat]?.map (·.fr)).getD 0
def toA (ls : List Lk) (i : Int) : Int := (ls[i.toNat]?.map (·.to)).getD 0
theorem frA_at {ls : List Lk} {i : Nat} {l : Lk} (h : ls[i]? = some l) : frA ls (i : Int) = l.fr := by unfold frA; rw [Int.toNat_natCast, h]; rfl
theorem toA_at {ls : List Lk} {i : Nat} {l : Lk} (h : ls[i]? = some l) : toA ls (i : Int) = l.to := by unfold toA; rw [Int.toNat_natCast, h]; rfl
theorem OpsAt.len {w : World} {a : Option Addr} {n cp : Nat} {c : List (Int × Int)} (h : OpsAt w (.slice a n cp) c) : c.length = n := by
  obtain ⟨_, _, e⟩ := h.form
  injection e with _ e _
  exact e.symm
/-- An entry: where it goes out, its chain; a group; a row. -/
abbrev EnA := Int × List (Int × Int)
structure RwA where
  inn : Int
  top : Int
  gs : List (List EnA)
/-- What is wrong with an entry of a row that came in over a link. -/
def chkEn (ls : List Lk) (ks : List Int) (inn top : Int) (e : EnA) : Flt :=
  if ¬ InN ls.length e.1 then (11, 0, [])
  else if frA ls e.1 ≠ toA ls inn then (15, 0, [])
  else ((chkE ks top e.2).1, (chkE ks top e.2).2, [])
def chkEs (ls : List Lk) (ks : List Int) (inn top : Int) (es : List EnA) (i : Nat) : Flt := (es[i]?.map (chkEn ls ks inn top)).getD (0, 0, [])
def chkGr (ls : List Lk) (ks : List Int) (inn top : Int) (es : List EnA) : Flt :=
  if lenE es.length ≠ 0 then (lenE es.length, 0, []) else firstF (chkEs ls ks inn top es) es.length 0
def chkGi (ls : List Lk) (ks : List Int) (inn top : Int) (gs : List (List EnA)) (i : Nat) : Flt := (gs[i]?.map (chkGr ls ks inn top)).getD (0, 0, [])
def chkGs (ls : List Lk) (ks : List Int) (inn top : Int) (gs : List (List EnA)) : Flt :=
  if lenE gs.length ≠ 0 then (lenE gs.length, 0, []) else firstF (chkGi ls ks inn top gs) gs.length 0
def chkRw (ls : List Lk) (ks : List Int) (ord : Bool) (r : RwA) : Flt :=
  if ¬ InN ls.length r.inn then (11, 0, [])
  else if kindI ks r.top = 0 then (2, 0, [])
  else if ord = false then (13, 0, [])
  else chkGs ls ks r.inn r.top r.gs
/-- Does it come behind the row ahead? -/
def ordB (rows : List RwA) (i : Nat) : Bool := if i = 0 then true else
  match rows[i]?, rows[i - 1]? with
  | some r, some p => decide (0 < abvI r.inn r.top p.inn p.top)
  | _, _ => true
def tblS : ByteArray := ⟨#[116, 97, 98, 108, 101]⟩
def chkRs (ls : List Lk) (ks : List Int) (rows : List RwA) (i : Nat) : Flt := (rows[i]?.map (chkRw ls ks (ordB rows i))).getD (0, 0, [])
def chkT (ls : List Lk) (ks : List Int) (rows : List RwA) : Flt :=
  if 256 < rows.length then (6, 256, [tblS]) else inF tblS (firstF (chkRs ls ks rows) rows.length 0)

/-! ### Rows in memory -/
/-- A chain's predicate that old memory keeps. -/
def Keep (Q : World → Value → List (Int × Int) → Prop) : Prop := ∀ w w' v c, Q w v c → Below w.heap.size w w' → Q w' v c
theorem keep_ops : Keep OpsAt := fun _ _ _ _ h hb => h.step hb
/-- A group's entries. -/
def EsP (Q : World → Value → List (Int × Int) → Prop) (w : World) (v : Value) (l : List EnA) : Prop :=
  (∃ a cap, v = .slice a 0 cap ∧ l = []) ∨ ∃ b off cap, v = .slice (some ⟨b, off, none⟩) l.length cap ∧ b < w.heap.size ∧
    ∀ i p, l[i]? = some p → ∃ oa on oc, w.cell? ⟨b, off + i * 2, none⟩ = some (.int .i64 p.1) ∧ w.cell? ⟨b, off + i * 2 + 1, none⟩ = some (.slice oa on oc) ∧ Q w (.slice oa on oc) p.2
/-- A row's groups. -/
def GsP (Q : World → Value → List (Int × Int) → Prop) (w : World) (v : Value) (gs : List (List EnA)) : Prop :=
  (∃ a cap, v = .slice a 0 cap ∧ gs = []) ∨ ∃ b off cap, v = .slice (some ⟨b, off, none⟩) gs.length cap ∧ b < w.heap.size ∧
    ∀ i l, gs[i]? = some l → ∃ oa oc, w.cell? ⟨b, off + i, none⟩ = some (.slice oa l.length oc) ∧ EsP Q w (.slice oa l.length oc) l
/-- Rows. -/
def RsP (Q : World → Value → List (Int × Int) → Prop) (w : World) (v : Value) (rows : List RwA) : Prop :=
  (∃ a cap, v = .slice a 0 cap ∧ rows = []) ∨ ∃ b off cap, v = .slice (some ⟨b, off, none⟩) rows.length cap ∧ b < w.heap.size ∧
    ∀ i r, rows[i]? = some r → ∃ oa oc, w.cell? ⟨b, off + i * 3, none⟩ = some (.int .i64 r.inn) ∧ w.cell? ⟨b, off + i * 3 + 1, none⟩ = some (.int .i64 r.top) ∧ w.cell? ⟨b, off + i * 3 + 2, none⟩ = some (.slice oa r.gs.length oc) ∧ GsP Q w (.slice oa r.gs.length oc) r.gs
theorem EsP.form {Q : World → Value → List (Int × Int) → Prop} {w : World} {v : Value} {l : List (EnA)} (h : EsP Q w v l) : ∃ a cap, v = .slice a l.length cap := by
  rcases h with ⟨a, cap, rfl, rfl⟩ | ⟨b, off, cap, rfl, -⟩
  · exact ⟨a, cap, rfl⟩
  · exact ⟨_, cap, rfl⟩
theorem GsP.form {Q : World → Value → List (Int × Int) → Prop} {w : World} {v : Value} {l : List (List EnA)} (h : GsP Q w v l) : ∃ a cap, v = .slice a l.length cap := by
  rcases h with ⟨a, cap, rfl, rfl⟩ | ⟨b, off, cap, rfl, -⟩
  · exact ⟨a, cap, rfl⟩
  · exact ⟨_, cap, rfl⟩
theorem RsP.form {Q : World → Value → List (Int × Int) → Prop} {w : World} {v : Value} {l : List (RwA)} (h : RsP Q w v l) : ∃ a cap, v = .slice a l.length cap := by
  rcases h with ⟨a, cap, rfl, rfl⟩ | ⟨b, off, cap, rfl, -⟩
  · exact ⟨a, cap, rfl⟩
  · exact ⟨_, cap, rfl⟩
theorem EsP.step {Q : World → Value → List (Int × Int) → Prop} (hQ : Keep Q) {w w' : World} {v : Value} {l : List EnA} (h : EsP Q w v l) (hb : Below w.heap.size w w') : EsP Q w' v l := by
  rcases h with h | ⟨b, off, cap, e, hlt, hc⟩
  · exact .inl h
  · refine .inr ⟨b, off, cap, e, Nat.lt_of_lt_of_le hlt hb.size, fun i p hp => ?_⟩
    obtain ⟨oa, on, oc, h0, h1, h2⟩ := hc i p hp
    exact ⟨oa, on, oc, (hb.cell (p := ⟨b, off + i * 2, none⟩) hlt).trans h0, (hb.cell (p := ⟨b, off + i * 2 + 1, none⟩) hlt).trans h1, hQ _ _ _ _ h2 hb⟩
theorem GsP.step {Q : World → Value → List (Int × Int) → Prop} (hQ : Keep Q) {w w' : World} {v : Value} {l : List (List EnA)} (h : GsP Q w v l) (hb : Below w.heap.size w w') : GsP Q w' v l := by
  rcases h with h | ⟨b, off, cap, e, hlt, hc⟩
  · exact .inl h
  · refine .inr ⟨b, off, cap, e, Nat.lt_of_lt_of_le hlt hb.size, fun i p hp => ?_⟩
    obtain ⟨oa, oc, h0, h1⟩ := hc i p hp
    exact ⟨oa, oc, (hb.cell (p := ⟨b, off + i, none⟩) hlt).trans h0, h1.step hQ hb⟩
theorem RsP.step {Q : World → Value → List (Int × Int) → Prop} (hQ : Keep Q) {w w' : World} {v : Value} {l : List RwA} (h : RsP Q w v l) (hb : Below w.heap.size w w') : RsP Q w' v l := by
  rcases h with h | ⟨b, off, cap, e, hlt, hc⟩
  · exact .inl h
  · refine .inr ⟨b, off, cap, e, Nat.lt_of_lt_of_le hlt hb.size, fun i p hp => ?_⟩
    obtain ⟨oa, oc, h0, h1, h2, h3⟩ := hc i p hp
    exact ⟨oa, oc, (hb.cell (p := ⟨b, off + i * 3, none⟩) hlt).trans h0, (hb.cell (p := ⟨b, off + i * 3 + 1, none⟩) hlt).trans h1, (hb.cell (p := ⟨b, off + i * 3 + 2, none⟩) hlt).trans h2, h3.step hQ hb⟩
theorem EsP.at {Q : World → Value → List (Int × Int) → Prop} (hQ : Keep Q) {w w' : World} {a : Option Addr} {n cap : Nat} {l : List EnA} (h : EsP Q w (.slice a n cap) l) {i : Nat} {p : EnA} (hi : l[i]? = some p) (hb : Below w.heap.size w w') :
    ∃ b off oa on oc, a = some ⟨b, off, none⟩ ∧ w'.cell? ⟨b, off + i * 2, none⟩ = some (.int .i64 p.1) ∧ w'.cell? ⟨b, off + i * 2 + 1, none⟩ = some (.slice oa on oc) ∧ Q w' (.slice oa on oc) p.2 := by
  rcases h with ⟨a, cap, -, rfl⟩ | ⟨b, off, cap, e, hlt, hc⟩
  · simp at hi
  · injection e with e
    obtain ⟨oa, on, oc, h0, h1, h2⟩ := hc i p hi
    exact ⟨b, off, oa, on, oc, e, (hb.cell (p := ⟨b, off + i * 2, none⟩) hlt).trans h0, (hb.cell (p := ⟨b, off + i * 2 + 1, none⟩) hlt).trans h1, hQ _ _ _ _ h2 hb⟩
theorem GsP.at {Q : World → Value → List (Int × Int) → Prop} (hQ : Keep Q) {w w' : World} {a : Option Addr} {n cap : Nat} {gs : List (List EnA)} (h : GsP Q w (.slice a n cap) gs) {i : Nat} {l : List EnA} (hi : gs[i]? = some l) (hb : Below w.heap.size w w') :
    ∃ b off oa oc, a = some ⟨b, off, none⟩ ∧ w'.cell? ⟨b, off + i, none⟩ = some (.slice oa l.length oc) ∧ EsP Q w' (.slice oa l.length oc) l := by
  rcases h with ⟨a, cap, -, rfl⟩ | ⟨b, off, cap, e, hlt, hc⟩
  · simp at hi
  · injection e with e
    obtain ⟨oa, oc, h0, h1⟩ := hc i l hi
    exact ⟨b, off, oa, oc, e, (hb.cell (p := ⟨b, off + i, none⟩) hlt).trans h0, h1.step hQ hb⟩
theorem RsP.at {Q : World → Value → List (Int × Int) → Prop} (hQ : Keep Q) {w w' : World} {a : Option Addr} {n cap : Nat} {rows : List RwA} (h : RsP Q w (.slice a n cap) rows) {i : Nat} {r : RwA} (hi : rows[i]? = some r) (hb : Below w.heap.size w w') :
    ∃ b off oa oc, a = some ⟨b, off, none⟩ ∧ w'.cell? ⟨b, off + i * 3, none⟩ = some (.int .i64 r.inn) ∧ w'.cell? ⟨b, off + i * 3 + 1, none⟩ = some (.int .i64 r.top) ∧ w'.cell? ⟨b, off + i * 3 + 2, none⟩ = some (.slice oa r.gs.length oc) ∧ GsP Q w' (.slice oa r.gs.length oc) r.gs := by
  rcases h with ⟨a, cap, -, rfl⟩ | ⟨b, off, cap, e, hlt, hc⟩
  · simp at hi
  · injection e with e
    obtain ⟨oa, oc, h0, h1, h2, h3⟩ := hc i r hi
    exact ⟨b, off, oa, oc, e, (hb.cell (p := ⟨b, off + i * 3, none⟩) hlt).trans h0, (hb.cell (p := ⟨b, off + i * 3 + 1, none⟩) hlt).trans h1, (hb.cell (p := ⟨b, off + i * 3 + 2, none⟩) hlt).trans h2, h3.step hQ hb⟩
/-- What a check answers: no error, or a chain of just this fault within just these words; the fault's block is new. -/
def FltPost (F : Flt) (w : World) (e : Ending) (w' : World) : Prop :=
  ∃ v, e = .returned v ∧ (F.1 = 0 → v = .nilIface) ∧ (F.1 ≠ 0 → ∃ b, w.heap.size ≤ b ∧ ChainAt w' (.fault b F.1 F.2.1) F.2.2 v) ∧ Below w.heap.size w w'
theorem FltPost.ok {F : Flt} {w w' : World} (h : F.1 = 0) (hb : Below w.heap.size w w') : FltPost F w (.returned .nilIface) w' := ⟨_, rfl, fun _ => rfl, fun h' => absurd h h', hb⟩
theorem FltPost.no {F : Flt} {w w' : World} {v : Value} {b : Nat} (h : F.1 ≠ 0) (hn : w.heap.size ≤ b) (hc : ChainAt w' (.fault b F.1 F.2.1) F.2.2 v) (hb : Below w.heap.size w w') : FltPost F w (.returned v) w' := ⟨_, rfl, fun h' => absurd h' h, fun _ => ⟨b, hn, hc⟩, hb⟩
theorem FltPost.new {w w1 : World} {c a : Int} (hc : c ≠ 0) (hb : Below w.heap.size w w1) :
    FltPost (c, a, []) w (.returned (.iface 99 (.pointer (some ⟨w1.heap.size, 0, none⟩)))) (w1.alloc (.cells #[.int .i64 c, .int .i64 a] 102)) :=
  .no hc hb.size (new_chain c a w1) (hb.alloc hb.size _)
theorem FltPost.up {F : Flt} {w w1 w' : World} {e : Ending} (h : FltPost F w1 e w') (hb : Below w.heap.size w w1) : FltPost F w e w' := by
  obtain ⟨v, rfl, h0, h1, h2⟩ := h
  exact ⟨v, rfl, h0, fun hz => by obtain ⟨b, hn, hc⟩ := h1 hz; exact ⟨b, Nat.le_trans hb.size hn, hc⟩, hb.trans (h2.mono hb.size)⟩
theorem FltPost.cases {F : Flt} {w : World} {e : Ending} {w' : World} (h : FltPost F w e w') : (e = .returned .nilIface ∧ F.1 = 0 ∧ Below w.heap.size w w') ∨ ∃ T V b, e = .returned (.iface T V) ∧ F.1 ≠ 0 ∧ w.heap.size ≤ b ∧ ChainAt w' (.fault b F.1 F.2.1) F.2.2 (.iface T V) ∧ Below w.heap.size w w' := by
  obtain ⟨v, rfl, h0, h1, hb⟩ := h
  by_cases hz : F.1 = 0
  · exact .inl ⟨by rw [h0 hz], hz, hb⟩
  · obtain ⟨b, hn, hch⟩ := h1 hz
    obtain ⟨T, V, rfl⟩ := hch.iface
    exact .inr ⟨T, V, b, rfl, hz, hn, hch, hb⟩
/-- A number stored into a block that is none of a chain's. -/
theorem ChainAt.set {w : World} {b0 t j : Nat} {c a z : Int} {x : Value} {l : List ByteArray} {v : Value} (h : ChainAt w (.fault b0 c a) l v) (hq : w.cell? ⟨t, 0, none⟩ = some (.int .i64 z)) (hne : b0 ≠ t) : ChainAt (w.setCell ⟨t, j, none⟩ x) (.fault b0 c a) l v := by
  unfold ChainAt
  rw [World.size_setCell]
  exact Chain.set hq hne h
end Go.Proofs.YtlcpbfklnjlgnaaGreatDoor

namespace Go.Proofs.YtlcpbfklnjlgnaaGreatDoor
open Go.RowKit Go.Extern.Stop Go.Stop Go.Extern

/-- Boxes of a topology, a list of kinds, a row: where they lie, what they hold. -/
structure CtS (A B C : Nat) (vr vl vk : Value) (rs : List ByteArray) (ls : List Lk) (ks : List Int) (inn top : Int) (gv : Value) (W : World) : Prop where
  a0 : W.cell? ⟨A, 0, none⟩ = some vr
  a1 : W.cell? ⟨A, 1, none⟩ = some vl
  b0 : W.cell? ⟨B, 0, none⟩ = some vk
  c0 : W.cell? ⟨C, 0, none⟩ = some (.int .i64 inn)
  c1 : W.cell? ⟨C, 1, none⟩ = some (.int .i64 top)
  c2 : W.cell? ⟨C, 2, none⟩ = some gv
  tp : TpAt W vr vl rs ls
  ks : IntsAt W vk ks
  tab : TabB W
  pow : Tab W
theorem cell_step {w w' : World} {p : Addr} {v : Value} (h : w.cell? p = some v) (hb : Below w.heap.size w w') : w'.cell? p = some v := (hb.cell (p := p) (World.block_lt_of_cell? w p h)).trans h
theorem CtS.step {A B C : Nat} {vr vl vk : Value} {rs : List ByteArray} {ls : List Lk} {ks : List Int} {inn top : Int} {gv : Value} {W W' : World} (h : CtS A B C vr vl vk rs ls ks inn top gv W) (hb : Below W.heap.size W W') : CtS A B C vr vl vk rs ls ks inn top gv W' :=
  ⟨cell_step h.a0 hb, cell_step h.a1 hb, cell_step h.b0 hb, cell_step h.c0 hb, cell_step h.c1 hb, cell_step h.c2 hb, h.tp.step hb, h.ks.step hb, h.tab.below h.tab.lt hb, h.pow.below hb⟩

/-- Boxes of checkEntry's own. -/
structure EnS (w0 : World) (vr vl vk : Value) (rs : List ByteArray) (ls : List Lk) (ks : List Int) (inn top : Int) (e : En) (c : List (Int × Int)) (W : World) : Prop where
  tb : TB w0 w0.heap.size vr vl rs ls W
  r0 : W.cell? ⟨w0.heap.size + 1, 0, none⟩ = some (.int .i64 inn)
  r1 : W.cell? ⟨w0.heap.size + 1, 1, none⟩ = some (.int .i64 top)
  e0 : W.cell? ⟨w0.heap.size + 1 + 1, 0, none⟩ = some (.int .i64 e.out)
  e1 : W.cell? ⟨w0.heap.size + 1 + 1, 1, none⟩ = some (.slice e.oa e.on e.oc)
  ks : IntsAt W vk ks
  ops : OpsAt W (.slice e.oa e.on e.oc) c
  tab : TabB W
theorem EnS.step {w0 : World} {vr vl vk : Value} {rs : List ByteArray} {ls : List Lk} {ks : List Int} {inn top : Int} {e : En} {c : List (Int × Int)} {W W' : World} (h : EnS w0 vr vl vk rs ls ks inn top e c W) (hb : Below W.heap.size W W') : EnS w0 vr vl vk rs ls ks inn top e c W' :=
  ⟨h.tb.step hb, cell_step h.r0 hb, cell_step h.r1 hb, cell_step h.e0 hb, cell_step h.e1 hb, h.ks.step hb, h.ops.step hb, h.tab.below h.tab.lt hb⟩
theorem boxed_ent (w : World) (x y : Value) : (w.alloc (.cells #[x, y] 48)).cell? ⟨w.heap.size, 0, none⟩ = some x ∧ (w.alloc (.cells #[x, y] 48)).cell? ⟨w.heap.size, 1, none⟩ = some y :=
  ⟨by rw [Lib.cell_of_heap (heap_alloc_new w _)]; rfl, by rw [Lib.cell_of_heap (heap_alloc_new w _)]; rfl⟩
theorem EnS.start {w : World} {vr vl vk : Value} {rs : List ByteArray} {ls : List Lk} {ks : List Int} (ht : TpAt w vr vl rs ls) (hk : IntsAt w vk ks) (htab : TabB w) (inn top : Int) (gv : Value) (e : En) {c : List (Int × Int)} (hc : OpsAt w (.slice e.oa e.on e.oc) c) :
    EnS w vr vl vk rs ls ks inn top e c (((w.alloc (.cells #[vr, vl] 25)).alloc (.cells #[.int .i64 inn, .int .i64 top, gv] 52)).alloc (.cells #[.int .i64 e.out, .slice e.oa e.on e.oc] 48)) := by
  have h1 := TB.start ht
  have b1 := below_new w (.cells #[vr, vl] 25)
  have b2 := below_new (w.alloc (.cells #[vr, vl] 25)) (.cells #[.int .i64 inn, .int .i64 top, gv] 52)
  have b3 := below_new ((w.alloc (.cells #[vr, vl] 25)).alloc (.cells #[.int .i64 inn, .int .i64 top, gv] 52)) (.cells #[.int .i64 e.out, .slice e.oa e.on e.oc] 48)
  have hr := boxed_row (w.alloc (.cells #[vr, vl] 25)) (.int .i64 inn) (.int .i64 top) gv
  have he := boxed_ent ((w.alloc (.cells #[vr, vl] 25)).alloc (.cells #[.int .i64 inn, .int .i64 top, gv] 52)) (.int .i64 e.out) (.slice e.oa e.on e.oc)
  simp only [World.size_alloc] at hr he
  have b13 := (b1.trans (b2.mono b1.size)).trans (b3.mono (Nat.le_trans b1.size b2.size))
  exact ⟨(h1.step b2).step b3, cell_step hr.1 b3, cell_step hr.2.1 b3, he.1, he.2, hk.step b13, hc.step b13, htab.below htab.lt b13⟩
theorem fltE_out {ls : List Lk} {ks : List Int} {inn top : Int} {e : EnA} (h : ¬ InN ls.length e.1) : chkEn ls ks inn top e = (11, 0, []) := if_pos h
theorem fltE_place {ls : List Lk} {ks : List Int} {inn top : Int} {e : EnA} (h : InN ls.length e.1) (hne : frA ls e.1 ≠ toA ls inn) : chkEn ls ks inn top e = (15, 0, []) := by
  unfold chkEn; rw [if_neg (fun h' => h' h), if_pos hne]
theorem fltE_ops {ls : List Lk} {ks : List Int} {inn top : Int} {e : EnA} (h : InN ls.length e.1) (hne : frA ls e.1 = toA ls inn) : chkEn ls ks inn top e = ((chkE ks top e.2).1, (chkE ks top e.2).2, []) := by
  unfold chkEn; rw [if_neg (fun h' => h' h), if_neg (fun h' => h' hne)]
theorem nat_of_in {n : Nat} {i : Int} (h : InN n i) : ∃ j : Nat, i = j ∧ j < n := ⟨i.toNat, by unfold InN at h; omega, by unfold InN at h; omega⟩

set_option maxRecDepth 100000 in
set_option maxHeartbeats 4000000 in
theorem checkEntry_any (vr vl vk : Value) (rs : List ByteArray) (ls : List Lk) (ks : List Int) (inn top : Int) (ga : Option Addr) (gn gc : Nat) (out : Int) (oa : Option Addr) (on oc : Nat) (c : List (Int × Int)) (w : World)
    (ht : TpAt w vr vl rs ls) (hk : IntsAt w vk ks) (htab : TabB w) (hin : InN ls.length inn) (hc : OpsAt w (.slice oa on oc) c) :
    Calls Tryz.prog 83 #[.agg #[vr, vl], vk, rowV inn top (.slice ga gn gc), .agg #[.int .i64 out, .slice oa on oc]] w (FltPost (chkEn ls ks inn top (out, c)) w) := by
  have HS := Lib.hid (EnS.start ht hk htab inn top (.slice ga gn gc) ⟨out, oa, on, oc⟩ hc)
  have HHas := Lib.hid (fun i W h => tbHas_any i vr vl rs ls W h)
  have HNew := Lib.hid (fun c (hc : c ≠ 0) W => new_any c 0 hc W)
  obtain ⟨ra, rcap, rfl⟩ := ht.rs.form
  obtain ⟨la, lcap, rfl⟩ := ht.ls.form
  obtain ⟨ka, kcap, rfl⟩ := hk.form
  have HOp := Lib.hid (fun W h1 h2 h3 => opCheck_new ks top c (.slice ka ks.length kcap) (.slice oa on oc) W h1 h2 h3)
  clear ht hk htab hc
  have k0 := HS.out.tb.c0
  have k1 := HS.out.tb.c1
  have k2 := HS.out.e0
  by_cases ho : InN ls.length out
  · obtain ⟨o, rfl, hol⟩ := nat_of_in ho
    obtain ⟨i, rfl, hil⟩ := nat_of_in hin
    obtain ⟨lo, hlo⟩ : ∃ x, ls[o]? = some x := ⟨_, List.getElem?_eq_getElem hol⟩
    obtain ⟨li, hli⟩ : ∃ x, ls[i]? = some x := ⟨_, List.getElem?_eq_getElem hil⟩
    have HHo := Lib.hid (fun W (h : TpAt W (.slice ra rs.length rcap) (.slice la ls.length lcap) rs ls) => HHas.out (o : Int) W h)
    rw [decide_eq_true ho] at HHo
    have HLo := Lib.hid hlo
    have HLi := Lib.hid hli
    have HE := Lib.hid (And.intro (frA_at hlo) (toA_at hli))
    by_cases hf : lo.fr = li.to
    · have HF := Lib.hid (fltE_ops (ks := ks) (top := top) (e := ((o : Int), c)) ho (by rw [HE.out.1, HE.out.2, hf]))
      have hb1 : (lo.fr != li.to) = false := by simpa using hf
      clear hlo hli ho hin
      go_enter Tryz.func83, Tryz.ntmps83
      go_wp2_with fail
      refine (HHo.out _ HS.out.tb.tp).mono ?_
      rintro e w2 ⟨rfl, b2⟩
      have HS2 := HS.out.step b2
      clear b2 HS k0 k1 k2
      go_wp2_with fail
      have k1 := HS2.tb.c1
      have k2 := HS2.e0
      have k3 := HS2.r0
      obtain ⟨b, off, rfl, -, p1, -, -⟩ := HS2.tb.tp.ls.at HLo.out (Below.refl _ _)
      obtain ⟨b', off', e', -, -, p2, -⟩ := HS2.tb.tp.ls.at HLi.out (Below.refl _ _)
      injection e' with e'
      injection e' with e1 e2
      subst e1 e2
      go_quiet (fail)
      have hS3 := HS2.step (below_drewN w2 nq)
      clear HS2 k1 k2 k3 p1 p2
      have k4 := hS3.r1
      have k5 := hS3.e1
      have HS3 := Lib.hid hS3
      clear hS3
      go_wp2_with fail
      refine (HOp.out _ HS3.out.ks HS3.out.ops HS3.out.tab).mono ?_
      rintro e w4 ⟨v, rfl, h0, h1, b4⟩
      have hp : FltPost ((chkE ks top c).1, (chkE ks top c).2, []) _ (.returned v) w4 := ⟨v, rfl, fun h => (h0 h).1, h1, b4⟩
      have HP : Hid (FltPost (chkEn ls ks (i : Int) top ((o : Int), c)) w (.returned v) w4) := Lib.hid (by
        rw [HF.out]
        exact hp.up HS3.out.tb.below)
      have hv : v = .nilIface ∨ ∃ T V, v = .iface T V := by
        rcases hp.cases with ⟨e, -⟩ | ⟨T, V, -, e, -⟩
        · injection e with e
          exact .inl e
        · injection e with e
          exact .inr ⟨T, V, e⟩
      clear h0 h1 b4 hp HS3 HF
      rcases hv with rfl | ⟨T, V, rfl⟩
      · go_wp2_with fail
        go_ret
        exact HP.out
      · go_wp2_with fail
        go_ret
        exact HP.out
    · have HF := Lib.hid (fltE_place (ks := ks) (top := top) (e := ((o : Int), c)) ho (by rw [HE.out.1, HE.out.2]; exact hf))
      have hb1 : (lo.fr != li.to) = true := by simpa using hf
      clear hlo hli ho hin HOp
      go_enter Tryz.func83, Tryz.ntmps83
      go_wp2_with fail
      refine (HHo.out _ HS.out.tb.tp).mono ?_
      rintro e w2 ⟨rfl, b2⟩
      have HS2 := HS.out.step b2
      clear b2 HS k0 k1 k2
      go_wp2_with fail
      have k1 := HS2.tb.c1
      have k2 := HS2.e0
      have k3 := HS2.r0
      obtain ⟨b, off, rfl, -, p1, -, -⟩ := HS2.tb.tp.ls.at HLo.out (Below.refl _ _)
      obtain ⟨b', off', e', -, -, p2, -⟩ := HS2.tb.tp.ls.at HLi.out (Below.refl _ _)
      injection e' with e'
      injection e' with e1 e2
      subst e1 e2
      go_quiet (fail)
      have HS3 := Lib.hid (HS2.step (below_drewN w2 nq))
      clear HS2 k1 k2 k3 p1 p2
      go_wp2_with fail
      refine (HNew.out 15 (by decide) _).mono ?_
      rintro e w4 ⟨rfl, rfl⟩
      go_wp2_with fail
      go_ret
      rw [HF.out]
      exact FltPost.new (by decide) HS3.out.tb.below
  · have HHo := Lib.hid (fun W (h : TpAt W (.slice ra rs.length rcap) (.slice la ls.length lcap) rs ls) => HHas.out out W h)
    rw [decide_eq_false ho] at HHo
    have HF := Lib.hid (fltE_out (ks := ks) (inn := inn) (top := top) (e := (out, c)) ho)
    clear HOp hin
    go_enter Tryz.func83, Tryz.ntmps83
    go_wp2_with fail
    refine (HHo.out _ HS.out.tb.tp).mono ?_
    rintro e w2 ⟨rfl, b2⟩
    have HS2 := Lib.hid (HS.out.step b2)
    clear b2 HS k0 k1 k2
    go_wp2_with fail
    refine (HNew.out 11 (by decide) _).mono ?_
    rintro e w4 ⟨rfl, rfl⟩
    go_wp2_with fail
    go_ret
    rw [HF.out]
    exact FltPost.new (by decide) HS2.out.tb.below
end Go.Proofs.YtlcpbfklnjlgnaaGreatDoor

namespace Go.Proofs.YtlcpbfklnjlgnaaGreatDoor
open Go.RowKit Go.Extern.Stop Go.Stop Go.Extern

set_option maxRecDepth 100000 in
set_option maxHeartbeats 2000000 in
theorem checkGroup1_any (A B C : Nat) (vr vl vk : Value) (rs : List ByteArray) (ls : List Lk) (ks : List Int) (inn top : Int) (ga : Option Addr) (gn gc : Nat) (out : Int) (oa : Option Addr) (on oc : Nat) (c : List (Int × Int)) (w : World)
    (hs : CtS A B C vr vl vk rs ls ks inn top (.slice ga gn gc) w) (hin : InN ls.length inn) (hc : OpsAt w (.slice oa on oc) c) :
    Calls Tryz.prog 82 #[.agg #[.int .i64 out, .slice oa on oc], .pointer (some ⟨A, 0, none⟩), .pointer (some ⟨B, 0, none⟩), .pointer (some ⟨C, 0, none⟩)] w (FltPost (chkEn ls ks inn top (out, c)) w) := by
  have hb := below_new w (.cells #[.int .i64 out, .slice oa on oc] 48)
  have hs1 := hs.step hb
  obtain ⟨e0, e1⟩ := boxed_ent w (.int .i64 out) (.slice oa on oc)
  have HC := Lib.hid (checkEntry_any vr vl vk rs ls ks inn top ga gn gc out oa on oc c _ hs1.tp hs1.ks hs1.tab hin (hc.step hb))
  have HB := Lib.hid hb
  obtain ⟨ra, rcap, rfl⟩ := hs1.tp.rs.form
  obtain ⟨la, lcap, rfl⟩ := hs1.tp.ls.form
  obtain ⟨ka, kcap, rfl⟩ := hs1.ks.form
  have k0 := hs1.a0
  have k1 := hs1.a1
  have k2 := hs1.b0
  have k3 := hs1.c0
  have k4 := hs1.c1
  have k5 := hs1.c2
  clear hs hs1 hb hin hc
  go_enter Tryz.func82, Tryz.ntmps82
  go_wp2_with fail
  refine HC.out.mono ?_
  intro e' w2 hp
  have HP := Lib.hid (hp.up HB.out)
  rcases hp.cases with ⟨rfl, -, -⟩ | ⟨T, V, bb, rfl, -, -, -, -⟩
  · clear hp
    go_wp2_with fail
    go_ret
    exact HP.out
  · clear hp
    go_wp2_with fail
    go_ret
    exact HP.out
/-- On the way through a list, looking for the first fault. -/
def FiR (w : World) (F : Nat → Flt) (n : Nat) (g : Nat) (u : Value) (wr : World) : Prop :=
  ∃ i : Nat, i ≤ n ∧ g = n - i ∧ u = .int .i64 i ∧ firstF F n 0 = firstF F (n - i) i ∧ Below w.heap.size w wr
theorem itoa_dig (i : Nat) (hi : i ≤ 1000000) (w : World) (ht : Tab w) : Calls Tryz.prog 44 #[.int .i64 (i : Int)] w fun e w' => e = .returned (.string (digS i)) ∧ Below w.heap.size w w' := itoa_any _ (by omega) (by omega) w ht

set_option maxRecDepth 100000 in
set_option maxHeartbeats 4000000 in
theorem firstE_any (F : Nat → Flt) (pa pb pc : Value) (v : Value) (es : List EnA) (w : World) (hv : EsP OpsAt w v es) (hl : es.length ≤ 1000) (ht : Tab w)
    (HF : ∀ (i : Nat) (p : EnA) (oa : Option Addr) (on oc : Nat) (W : World), es[i]? = some p → OpsAt W (.slice oa on oc) p.2 → Below w.heap.size w W → Calls Tryz.prog 82 #[.agg #[.int .i64 p.1, .slice oa on oc], pa, pb, pc] W (FltPost (F i) W)) :
    Calls Tryz.prog 81 #[v, .func (.func 82) #[] #[pa, pb, pc]] w (FltPost (firstF F es.length 0) w) := by
  obtain ⟨va, vcap, rfl⟩ := hv.form
  have HV := Lib.hid hv
  have HH := Lib.hid HF
  have HT := Lib.hid ht
  have HI := Lib.hid (fun i (h : i ≤ 1000000) W hW => itoa_dig i h W hW)
  have HIn := Lib.hid (fun s T V W => in_any s T V W)
  clear hv HF ht
  go_enter Tryz.func81, Tryz.ntmps81
  go_wp2_with fail
  go_loopg [10] es.length (fun g u wr => FiR w F es.length g u wr)
  case atStart => exact ⟨0, Nat.zero_le _, by omega, rfl, rfl, Below.refl _ _⟩
  case round =>
    obtain ⟨i, hi, hgi, rfl, hF, hb⟩ := hrel
    have HFi := Lib.hid hF
    by_cases hlt : i < es.length
    · obtain ⟨p, hx⟩ : ∃ e, es[i]? = some e := ⟨_, List.getElem?_eq_getElem hlt⟩
      obtain ⟨b2, off2, oa, on, oc, rfl, c0, c1, hops⟩ := HV.out.at keep_ops hx hb
      have hbn := below_new wr (.cells #[.int .i64 p.1, .slice oa on oc] 48)
      have hb1 := hb.trans (hbn.mono hb.size)
      have HC := Lib.hid (HH.out i p oa on oc _ hx (hops.step hbn) hb1)
      have HB1 := Lib.hid hb1
      clear hx hb hbn hb1 hF hops
      go_wp2_with fail
      refine HC.out.mono ?_
      intro e' w3 hp
      rcases hp.cases with ⟨rfl, hz, b3⟩ | ⟨T, V, bb, rfl, hz, hn, hch, b3⟩
      · have HN : Hid (FiR w F es.length (es.length - (i + 1)) (.int .i64 ((i : Int) + 1)) w3) := Lib.hid ⟨i + 1, by omega, rfl, by go_num, by rw [HFi.out, firstF_go hlt hz], HB1.out.trans (b3.mono HB1.out.size)⟩
        clear hp b3
        go_wp2_with fail
        go_roundg (es.length - (i + 1))
        case measure => omega
        case rel => exact HN.out
      · have HB3 := Lib.hid (HB1.out.trans (b3.mono HB1.out.size))
        have HE := Lib.hid (firstF_at hlt hz)
        have HCh := Lib.hid hch
        have HZ := Lib.hid (And.intro hz (Nat.le_trans HB1.out.size hn))
        clear hp b3 hch hz hn
        go_wp2_with fail
        refine (HI.out i (by omega) _ (HT.out.below HB3.out)).mono ?_
        rintro e' w4 ⟨rfl, b4⟩
        have HB4 := Lib.hid (HB3.out.trans (b4.mono HB3.out.size))
        have HC4 := Lib.hid (HCh.out.keep b4)
        clear b4
        go_wp2_with fail
        refine (HIn.out _ T V _).mono ?_
        rintro e' w5 ⟨rfl, rfl⟩
        go_wp2_with fail
        go_ret
        rw [HFi.out, HE.out]
        exact FltPost.no (F := ((F i).1, (F i).2.1, digS i :: (F i).2.2)) HZ.out.1 HZ.out.2 (in_chain _ _ _ _ _ HC4.out) (HB4.out.trans ((below_new _ _).mono HB4.out.size))
    · obtain rfl : i = es.length := by omega
      rw [firstF_end] at hF
      have HE := Lib.hid (And.intro hF hb)
      clear hF hb
      go_wp2_with fail
      go_ret
      rw [HE.out.1]
      exact FltPost.ok rfl HE.out.2

/-- A box of a list of kinds, behind a topology's; then a row's. -/
theorem CtS.start {w : World} {vr vl vk : Value} {rs : List ByteArray} {ls : List Lk} {ks : List Int} (ht : TpAt w vr vl rs ls) (hk : IntsAt w vk ks) (htab : TabB w) (hp : Tab w) (inn top : Int) (gv : Value) :
    CtS w.heap.size (w.heap.size + 1) (w.heap.size + 1 + 1) vr vl vk rs ls ks inn top gv (((w.alloc (.cells #[vr, vl] 25)).alloc (.cells #[vk] 26)).alloc (.cells #[.int .i64 inn, .int .i64 top, gv] 52)) ∧
      Below w.heap.size w (((w.alloc (.cells #[vr, vl] 25)).alloc (.cells #[vk] 26)).alloc (.cells #[.int .i64 inn, .int .i64 top, gv] 52)) := by
  have h1 := TB.start ht
  have b1 := below_new w (.cells #[vr, vl] 25)
  have b2 := below_new (w.alloc (.cells #[vr, vl] 25)) (.cells #[vk] 26)
  have b3 := below_new ((w.alloc (.cells #[vr, vl] 25)).alloc (.cells #[vk] 26)) (.cells #[.int .i64 inn, .int .i64 top, gv] 52)
  have hr := boxed_row ((w.alloc (.cells #[vr, vl] 25)).alloc (.cells #[vk] 26)) (.int .i64 inn) (.int .i64 top) gv
  have hq : ((w.alloc (.cells #[vr, vl] 25)).alloc (.cells #[vk] 26)).cell? ⟨w.heap.size + 1, 0, none⟩ = some vk := by
    have := heap_alloc_new (w.alloc (.cells #[vr, vl] 25)) (.cells #[vk] 26)
    rw [World.size_alloc] at this
    rw [Lib.cell_of_heap this]; rfl
  simp only [World.size_alloc] at hr
  have b13 := (b1.trans (b2.mono b1.size)).trans (b3.mono (Nat.le_trans b1.size b2.size))
  have h3 := (h1.step b2).step b3
  exact ⟨⟨h3.c0, h3.c1, cell_step hq b3, hr.1, hr.2.1, hr.2.2, h3.tp, hk.step b13, htab.below htab.lt b13, hp.below b13⟩, b13⟩
theorem lenE_len {n : Nat} (h : lenE (n : Int) = 0) : 0 < n ∧ n ≤ 8 := by
  unfold lenE at h
  split at h
  · cases h
  · split at h
    · cases h
    · omega
theorem LenP.flt {n : Int} {w w' : World} {e : Ending} (h : LenP n w e w') : FltPost (lenE n, 0, []) w e w' := by
  rcases h with ⟨hz, rfl, rfl⟩ | ⟨hz, rfl, rfl⟩
  · exact FltPost.ok hz (Below.refl _ _)
  · exact FltPost.new hz (Below.refl _ _)
set_option maxRecDepth 100000 in
set_option maxHeartbeats 4000000 in
theorem checkGroup_any (vr vl vk : Value) (rs : List ByteArray) (ls : List Lk) (ks : List Int) (inn top : Int) (ga : Option Addr) (gn gc : Nat) (v : Value) (es : List EnA) (w : World)
    (ht : TpAt w vr vl rs ls) (hk : IntsAt w vk ks) (htab : TabB w) (hp : Tab w) (hin : InN ls.length inn) (hv : EsP OpsAt w v es) :
    Calls Tryz.prog 51 #[.agg #[vr, vl], vk, rowV inn top (.slice ga gn gc), v] w (FltPost (chkGr ls ks inn top es) w) := by
  obtain ⟨hS, hB⟩ := CtS.start ht hk htab hp inn top (.slice ga gn gc)
  have HLen := Lib.hid (fun W => checkLen_any (es.length : Int) W)
  have HF := Lib.hid (fun (W : World) (hS : CtS w.heap.size (w.heap.size + 1) (w.heap.size + 1 + 1) vr vl vk rs ls ks inn top (.slice ga gn gc) W) (hB : Below w.heap.size w W) (hl : es.length ≤ 8) =>
    firstE_any (chkEs ls ks inn top es) (.pointer (some ⟨w.heap.size, 0, none⟩)) (.pointer (some ⟨w.heap.size + 1, 0, none⟩)) (.pointer (some ⟨w.heap.size + 1 + 1, 0, none⟩)) v es W (hv.step keep_ops hB) (by omega) hS.pow
      (fun i p oa on oc W' he hops hb' => by
        have := checkGroup1_any w.heap.size (w.heap.size + 1) (w.heap.size + 1 + 1) vr vl vk rs ls ks inn top ga gn gc p.1 oa on oc p.2 W' (hS.step hb') hin hops
        unfold chkEs
        simp only [he, Option.map_some, Option.getD_some]
        exact this))
  obtain ⟨va, vcap, rfl⟩ := hv.form
  obtain ⟨ra, rcap, rfl⟩ := ht.rs.form
  obtain ⟨la, lcap, rfl⟩ := ht.ls.form
  obtain ⟨ka, kcap, rfl⟩ := hk.form
  have HS := Lib.hid hS
  have HB := Lib.hid hB
  clear hS hB ht hk htab hp hin hv
  go_enter Tryz.func51, Tryz.ntmps51
  go_wp2_with fail
  refine (HLen.out _).mono ?_
  intro e w2 hlp
  rcases hlp.flt.cases with ⟨rfl, hz, b2⟩ | ⟨T, V, bb, rfl, hz, hn, hch, b2⟩
  · have hl := lenE_len hz
    have HZ := Lib.hid hz
    have HS2 := Lib.hid (HS.out.step b2)
    have HB2 := Lib.hid (HB.out.trans (b2.mono HB.out.size))
    clear hz hlp b2
    go_wp2_with fail
    refine (HF.out _ HS2.out HB2.out hl.2).mono ?_
    intro e' w3 hp
    have HP : Hid (FltPost (chkGr ls ks inn top es) w e' w3) := Lib.hid (by
      unfold chkGr
      rw [if_neg (fun h => h HZ.out)]
      exact hp.up HB2.out)
    rcases hp.cases with ⟨rfl, -, -⟩ | ⟨T, V, bb, rfl, -, -, -, -⟩
    · clear hp
      go_wp2_with fail
      go_ret
      exact HP.out
    · clear hp
      go_wp2_with fail
      go_ret
      exact HP.out
  · have HP : Hid (FltPost (chkGr ls ks inn top es) w (.returned (.iface T V)) w2) := Lib.hid (by
      unfold chkGr
      rw [if_pos hz]
      exact hlp.flt.up HB.out)
    clear hz hlp b2 hn hch
    go_wp2_with fail
    go_ret
    exact HP.out
end Go.Proofs.YtlcpbfklnjlgnaaGreatDoor

namespace Go.Proofs.YtlcpbfklnjlgnaaGreatDoor
open Go.RowKit Go.Extern.Stop Go.Stop Go.Extern

set_option maxRecDepth 100000 in
set_option maxHeartbeats 2000000 in
theorem checkRow1_any (A B C : Nat) (vr vl vk : Value) (rs : List ByteArray) (ls : List Lk) (ks : List Int) (inn top : Int) (ga : Option Addr) (gn gc : Nat) (oa : Option Addr) (oc : Nat) (es : List EnA) (w : World)
    (hs : CtS A B C vr vl vk rs ls ks inn top (.slice ga gn gc) w) (hin : InN ls.length inn) (hc : EsP OpsAt w (.slice oa es.length oc) es) :
    Calls Tryz.prog 50 #[.slice oa es.length oc, .pointer (some ⟨A, 0, none⟩), .pointer (some ⟨B, 0, none⟩), .pointer (some ⟨C, 0, none⟩)] w (FltPost (chkGr ls ks inn top es) w) := by
  have HC := Lib.hid (checkGroup_any vr vl vk rs ls ks inn top ga gn gc (.slice oa es.length oc) es _ hs.tp hs.ks hs.tab hs.pow hin hc)
  obtain ⟨ra, rcap, rfl⟩ := hs.tp.rs.form
  obtain ⟨la, lcap, rfl⟩ := hs.tp.ls.form
  obtain ⟨ka, kcap, rfl⟩ := hs.ks.form
  have k0 := hs.a0
  have k1 := hs.a1
  have k2 := hs.b0
  have k3 := hs.c0
  have k4 := hs.c1
  have k5 := hs.c2
  clear hs hin hc
  go_enter Tryz.func50, Tryz.ntmps50
  go_wp2_with fail
  refine HC.out.mono ?_
  intro e' w2 hp
  have HP := Lib.hid hp
  rcases hp.cases with ⟨rfl, -, -⟩ | ⟨T, V, bb, rfl, -, -, -, -⟩
  · clear hp
    go_wp2_with fail
    go_ret
    exact HP.out
  · clear hp
    go_wp2_with fail
    go_ret
    exact HP.out
set_option maxRecDepth 100000 in
set_option maxHeartbeats 4000000 in
theorem firstG_any (F : Nat → Flt) (pa pb pc : Value) (v : Value) (gs : List (List EnA)) (w : World) (hv : GsP OpsAt w v gs) (hl : gs.length ≤ 1000) (ht : Tab w)
    (HF : ∀ (i : Nat) (p : List EnA) (oa : Option Addr) (oc : Nat) (W : World), gs[i]? = some p → EsP OpsAt W (.slice oa p.length oc) p → Below w.heap.size w W → Calls Tryz.prog 50 #[.slice oa p.length oc, pa, pb, pc] W (FltPost (F i) W)) :
    Calls Tryz.prog 49 #[v, .func (.func 50) #[] #[pa, pb, pc]] w (FltPost (firstF F gs.length 0) w) := by
  obtain ⟨va, vcap, rfl⟩ := hv.form
  have HV := Lib.hid hv
  have HH := Lib.hid HF
  have HT := Lib.hid ht
  have HI := Lib.hid (fun i (h : i ≤ 1000000) W hW => itoa_dig i h W hW)
  have HIn := Lib.hid (fun s T V W => in_any s T V W)
  clear hv HF ht
  go_enter Tryz.func49, Tryz.ntmps49
  go_wp2_with fail
  go_loopg [10] gs.length (fun g u wr => FiR w F gs.length g u wr)
  case atStart => exact ⟨0, Nat.zero_le _, by omega, rfl, rfl, Below.refl _ _⟩
  case round =>
    obtain ⟨i, hi, hgi, rfl, hF, hb⟩ := hrel
    have HFi := Lib.hid hF
    by_cases hlt : i < gs.length
    · obtain ⟨p, hx⟩ : ∃ e, gs[i]? = some e := ⟨_, List.getElem?_eq_getElem hlt⟩
      obtain ⟨b2, off2, oa, oc, rfl, c0, hes⟩ := HV.out.at keep_ops hx hb
      have HC := Lib.hid (HH.out i p oa oc _ hx hes hb)
      have HB1 := Lib.hid hb
      clear hx hb hF hes
      go_wp2_with fail
      refine HC.out.mono ?_
      intro e' w3 hp
      rcases hp.cases with ⟨rfl, hz, b3⟩ | ⟨T, V, bb, rfl, hz, hn, hch, b3⟩
      · have HN : Hid (FiR w F gs.length (gs.length - (i + 1)) (.int .i64 ((i : Int) + 1)) w3) := Lib.hid ⟨i + 1, by omega, rfl, by go_num, by rw [HFi.out, firstF_go hlt hz], HB1.out.trans (b3.mono HB1.out.size)⟩
        clear hp b3
        go_wp2_with fail
        go_roundg (gs.length - (i + 1))
        case measure => omega
        case rel => exact HN.out
      · have HB3 := Lib.hid (HB1.out.trans (b3.mono HB1.out.size))
        have HE := Lib.hid (firstF_at hlt hz)
        have HCh := Lib.hid hch
        have HZ := Lib.hid (And.intro hz (Nat.le_trans HB1.out.size hn))
        clear hp b3 hch hz hn
        go_wp2_with fail
        refine (HI.out i (by omega) _ (HT.out.below HB3.out)).mono ?_
        rintro e' w4 ⟨rfl, b4⟩
        have HB4 := Lib.hid (HB3.out.trans (b4.mono HB3.out.size))
        have HC4 := Lib.hid (HCh.out.keep b4)
        clear b4
        go_wp2_with fail
        refine (HIn.out _ T V _).mono ?_
        rintro e' w5 ⟨rfl, rfl⟩
        go_wp2_with fail
        go_ret
        rw [HFi.out, HE.out]
        exact FltPost.no (F := ((F i).1, (F i).2.1, digS i :: (F i).2.2)) HZ.out.1 HZ.out.2 (in_chain _ _ _ _ _ HC4.out) (HB4.out.trans ((below_new _ _).mono HB4.out.size))
    · obtain rfl : i = gs.length := by omega
      rw [firstF_end] at hF
      have HE := Lib.hid (And.intro hF hb)
      clear hF hb
      go_wp2_with fail
      go_ret
      rw [HE.out.1]
      exact FltPost.ok rfl HE.out.2

/-- Boxes of checkRow's own: of a topology, of kinds, of the row ahead, of the row. -/
structure RwS (w0 : World) (vr vl vk : Value) (rs : List ByteArray) (ls : List Lk) (ks : List Int) (pin ptop : Int) (pv : Value) (inn top : Int) (gv : Value) (W : World) : Prop where
  ct : CtS w0.heap.size (w0.heap.size + 1) (w0.heap.size + 1 + 1 + 1) vr vl vk rs ls ks inn top gv W
  p0 : W.cell? ⟨w0.heap.size + 1 + 1, 0, none⟩ = some (.int .i64 pin)
  p1 : W.cell? ⟨w0.heap.size + 1 + 1, 1, none⟩ = some (.int .i64 ptop)
  p2 : W.cell? ⟨w0.heap.size + 1 + 1, 2, none⟩ = some pv
  below : Below w0.heap.size w0 W
theorem RwS.step {w0 : World} {vr vl vk : Value} {rs : List ByteArray} {ls : List Lk} {ks : List Int} {pin ptop : Int} {pv : Value} {inn top : Int} {gv : Value} {W W' : World} (h : RwS w0 vr vl vk rs ls ks pin ptop pv inn top gv W) (hb : Below W.heap.size W W') : RwS w0 vr vl vk rs ls ks pin ptop pv inn top gv W' :=
  ⟨h.ct.step hb, cell_step h.p0 hb, cell_step h.p1 hb, cell_step h.p2 hb, h.below.trans (hb.mono h.below.size)⟩
theorem RwS.start {w : World} {vr vl vk : Value} {rs : List ByteArray} {ls : List Lk} {ks : List Int} (ht : TpAt w vr vl rs ls) (hk : IntsAt w vk ks) (htab : TabB w) (hp : Tab w) (pin ptop : Int) (pv : Value) (inn top : Int) (gv : Value) :
    RwS w vr vl vk rs ls ks pin ptop pv inn top gv ((((w.alloc (.cells #[vr, vl] 25)).alloc (.cells #[vk] 26)).alloc (.cells #[.int .i64 pin, .int .i64 ptop, pv] 52)).alloc (.cells #[.int .i64 inn, .int .i64 top, gv] 52)) := by
  obtain ⟨h1, b1⟩ := CtS.start ht hk htab hp pin ptop pv
  have b2 := below_new (((w.alloc (.cells #[vr, vl] 25)).alloc (.cells #[vk] 26)).alloc (.cells #[.int .i64 pin, .int .i64 ptop, pv] 52)) (.cells #[.int .i64 inn, .int .i64 top, gv] 52)
  have h2 := h1.step b2
  have hr := boxed_row (((w.alloc (.cells #[vr, vl] 25)).alloc (.cells #[vk] 26)).alloc (.cells #[.int .i64 pin, .int .i64 ptop, pv] 52)) (.int .i64 inn) (.int .i64 top) gv
  simp only [World.size_alloc] at hr
  exact ⟨⟨h2.a0, h2.a1, h2.b0, hr.1, hr.2.1, hr.2.2, h2.tp, h2.ks, h2.tab, h2.pow⟩, h2.c0, h2.c1, h2.c2, b1.trans (b2.mono b1.size)⟩
set_option maxRecDepth 100000 in
set_option maxHeartbeats 8000000 in
theorem checkRow_any (vr vl vk : Value) (rs : List ByteArray) (ls : List Lk) (ks : List Int) (pin ptop : Int) (pa : Option Addr) (pn pc : Nat) (r : RwA) (ga : Option Addr) (gc : Nat) (w : World)
    (ht : TpAt w vr vl rs ls) (hk : IntsAt w vk ks) (htab : TabB w) (hp : Tab w) (hg : GsP OpsAt w (.slice ga r.gs.length gc) r.gs) :
    Calls Tryz.prog 31 #[.agg #[vr, vl], vk, rowV pin ptop (.slice pa pn pc), rowV r.inn r.top (.slice ga r.gs.length gc)] w (FltPost (chkRw ls ks (decide (0 < abvI r.inn r.top pin ptop)) r) w) := by
  obtain ⟨inn, top, gs⟩ := r
  replace hg : GsP OpsAt w (.slice ga gs.length gc) gs := hg
  have HS := Lib.hid (RwS.start ht hk htab hp pin ptop (.slice pa pn pc) inn top (.slice ga gs.length gc))
  have HHas := Lib.hid (fun W h => tbHas_any inn vr vl rs ls W h)
  have HNew := Lib.hid (fun c (hc : c ≠ 0) W => new_any c 0 hc W)
  have HK := Lib.hid (fun W (h : IntsAt W vk ks) => kind_kv ks vk top _ W h rfl)
  have HAb := Lib.hid (fun W => above_any inn top pin ptop (.slice ga gs.length gc) (.slice pa pn pc) ga pa gs.length pn gc pc rfl rfl W)
  have HLen := Lib.hid (fun W => checkLen_any (gs.length : Int) W)
  have HF := Lib.hid (fun (W : World) (h : RwS w vr vl vk rs ls ks pin ptop (.slice pa pn pc) inn top (.slice ga gs.length gc) W) (hin : InN ls.length inn) (hl : gs.length ≤ 8) =>
    firstG_any (chkGi ls ks inn top gs) (.pointer (some ⟨w.heap.size, 0, none⟩)) (.pointer (some ⟨w.heap.size + 1, 0, none⟩)) (.pointer (some ⟨w.heap.size + 1 + 1 + 1, 0, none⟩)) (.slice ga gs.length gc) gs W (hg.step keep_ops h.below) (by omega) h.ct.pow
      (fun i p oa oc W' he hes hb' => by
        have := checkRow1_any w.heap.size (w.heap.size + 1) (w.heap.size + 1 + 1 + 1) vr vl vk rs ls ks inn top ga gs.length gc oa oc p W' (h.ct.step hb') hin hes
        unfold chkGi
        simp only [he, Option.map_some, Option.getD_some]
        exact this))
  obtain ⟨ra, rcap, rfl⟩ := ht.rs.form
  obtain ⟨la, lcap, rfl⟩ := ht.ls.form
  obtain ⟨ka, kcap, rfl⟩ := hk.form
  clear ht hk htab hp hg
  by_cases hin : InN ls.length inn
  · rw [decide_eq_true hin] at HHas
    by_cases hkz : kindI ks top = 0
    · have HE : Hid (chkRw ls ks (decide (0 < abvI inn top pin ptop)) ⟨inn, top, gs⟩ = (2, 0, [])) := Lib.hid (by unfold chkRw; rw [if_neg (fun h => h hin), if_pos hkz])
      have HK' : Hid (∀ W, IntsAt W (.slice ka ks.length kcap) ks → Calls Tryz.prog 46 #[.slice ka ks.length kcap, .int .i64 top] W fun e w' => e = .returned (.int .i64 0) ∧ w' = W) := Lib.hid (fun W h => by have := HK.out W h; rwa [hkz] at this)
      clear hkz HK HAb HLen HF hin
      go_enter Tryz.func31, Tryz.ntmps31
      have k0 := HS.out.ct.a0
      have k1 := HS.out.ct.a1
      have k3 := HS.out.ct.c0
      go_wp2_with fail
      refine (HHas.out _ HS.out.ct.tp).mono ?_
      rintro e w2 ⟨rfl, b2⟩
      have HS2 := Lib.hid (HS.out.step b2)
      clear b2 HS k0 k1 k3
      have k2 := HS2.out.ct.b0
      have k4 := HS2.out.ct.c1
      go_wp2_with fail
      refine (HK'.out _ HS2.out.ct.ks).mono ?_
      rintro e w3 ⟨rfl, rfl⟩
      go_wp2_with fail
      refine (HNew.out 2 (by decide) _).mono ?_
      rintro e w4 ⟨rfl, rfl⟩
      go_wp2_with fail
      go_ret
      rw [HE.out]
      exact FltPost.new (by decide) HS2.out.below
    · obtain ⟨kd, hkd⟩ : ∃ kd, kindI ks top = kd := ⟨_, rfl⟩
      have hkd0 : (kd == 0) = false := by rw [← hkd]; simpa using hkz
      rw [hkd] at HK
      by_cases hab : 0 < abvI inn top pin ptop
      · rw [decide_eq_true hab] at HAb
        have HE0 : Hid (chkRw ls ks (decide (0 < abvI inn top pin ptop)) ⟨inn, top, gs⟩ = chkGs ls ks inn top gs) := Lib.hid (by unfold chkRw; rw [if_neg (fun h => h hin), if_neg hkz, if_neg (by rw [decide_eq_true hab]; decide)])
        have HIN := Lib.hid hin
        clear hkz hab hin hkd
        go_enter Tryz.func31, Tryz.ntmps31
        have k0 := HS.out.ct.a0
        have k1 := HS.out.ct.a1
        have k3 := HS.out.ct.c0
        go_wp2_with fail
        refine (HHas.out _ HS.out.ct.tp).mono ?_
        rintro e w2 ⟨rfl, b2⟩
        have HS2 := Lib.hid (HS.out.step b2)
        clear b2 HS k0 k1 k3
        have k2 := HS2.out.ct.b0
        have k4 := HS2.out.ct.c1
        go_wp2_with fail
        refine (HK.out _ HS2.out.ct.ks).mono ?_
        rintro e w3 ⟨rfl, rfl⟩
        have k3 := HS2.out.ct.c0
        have k5 := HS2.out.ct.c2
        have p0 := HS2.out.p0
        have p1 := HS2.out.p1
        have p2 := HS2.out.p2
        go_wp2_with fail
        refine (HAb.out _).mono ?_
        rintro e w4 ⟨rfl, b4⟩
        have HS4 := Lib.hid (HS2.out.step b4)
        clear b4 HS2 k2 k3 k4 k5 p0 p1 p2
        have k5 := HS4.out.ct.c2
        go_wp2_with fail
        refine (HLen.out _).mono ?_
        intro e w5 hlp
        rcases hlp.flt.cases with ⟨rfl, hz, b5⟩ | ⟨T, V, bb, rfl, hz, hn, hch, b5⟩
        · have hl := lenE_len hz
          have HZ := Lib.hid hz
          have HS5 := Lib.hid (HS4.out.step b5)
          clear hz hlp b5 k5
          have k5 := HS5.out.ct.c2
          go_wp2_with fail
          refine (HF.out _ HS5.out HIN.out hl.2).mono ?_
          intro e' w6 hp
          have HP : Hid (FltPost (chkRw ls ks (decide (0 < abvI inn top pin ptop)) ⟨inn, top, gs⟩) w e' w6) := Lib.hid (by
            rw [HE0.out]
            unfold chkGs
            rw [if_neg (fun h => h HZ.out)]
            exact hp.up HS5.out.below)
          rcases hp.cases with ⟨rfl, -, -⟩ | ⟨T, V, bb, rfl, -, -, -, -⟩
          · clear hp
            go_wp2_with fail
            go_ret
            exact HP.out
          · clear hp
            go_wp2_with fail
            go_ret
            exact HP.out
        · have HP : Hid (FltPost (chkRw ls ks (decide (0 < abvI inn top pin ptop)) ⟨inn, top, gs⟩) w (.returned (.iface T V)) w5) := Lib.hid (by
            rw [HE0.out]
            unfold chkGs
            rw [if_pos hz]
            exact hlp.flt.up HS4.out.below)
          clear hz hlp b5 hn hch k5
          go_wp2_with fail
          go_ret
          exact HP.out
      · rw [decide_eq_false hab] at HAb
        have HE : Hid (chkRw ls ks (decide (0 < abvI inn top pin ptop)) ⟨inn, top, gs⟩ = (13, 0, [])) := Lib.hid (by unfold chkRw; rw [if_neg (fun h => h hin), if_neg hkz, if_pos (decide_eq_false hab)])
        clear hkz hab hin hkd HLen HF
        go_enter Tryz.func31, Tryz.ntmps31
        have k0 := HS.out.ct.a0
        have k1 := HS.out.ct.a1
        have k3 := HS.out.ct.c0
        go_wp2_with fail
        refine (HHas.out _ HS.out.ct.tp).mono ?_
        rintro e w2 ⟨rfl, b2⟩
        have HS2 := Lib.hid (HS.out.step b2)
        clear b2 HS k0 k1 k3
        have k2 := HS2.out.ct.b0
        have k4 := HS2.out.ct.c1
        go_wp2_with fail
        refine (HK.out _ HS2.out.ct.ks).mono ?_
        rintro e w3 ⟨rfl, rfl⟩
        have k3 := HS2.out.ct.c0
        have k5 := HS2.out.ct.c2
        have p0 := HS2.out.p0
        have p1 := HS2.out.p1
        have p2 := HS2.out.p2
        go_wp2_with fail
        refine (HAb.out _).mono ?_
        rintro e w4 ⟨rfl, b4⟩
        have HS4 := Lib.hid (HS2.out.step b4)
        clear b4 HS2 k2 k3 k4 k5 p0 p1 p2
        go_wp2_with fail
        refine (HNew.out 13 (by decide) _).mono ?_
        rintro e w5 ⟨rfl, rfl⟩
        go_wp2_with fail
        go_ret
        rw [HE.out]
        exact FltPost.new (by decide) HS4.out.below
  · rw [decide_eq_false hin] at HHas
    have HE : Hid (chkRw ls ks (decide (0 < abvI inn top pin ptop)) ⟨inn, top, gs⟩ = (11, 0, [])) := Lib.hid (if_pos hin)
    clear HK HAb HLen HF hin
    go_enter Tryz.func31, Tryz.ntmps31
    have k0 := HS.out.ct.a0
    have k1 := HS.out.ct.a1
    have k3 := HS.out.ct.c0
    go_wp2_with fail
    refine (HHas.out _ HS.out.ct.tp).mono ?_
    rintro e w2 ⟨rfl, b2⟩
    have HS2 := Lib.hid (HS.out.step b2)
    clear b2 HS k0 k1 k3
    go_wp2_with fail
    refine (HNew.out 11 (by decide) _).mono ?_
    rintro e w4 ⟨rfl, rfl⟩
    go_wp2_with fail
    go_ret
    rw [HE.out]
    exact FltPost.new (by decide) HS2.out.below
end Go.Proofs.YtlcpbfklnjlgnaaGreatDoor

namespace Go.Proofs.YtlcpbfklnjlgnaaGreatDoor
open Go.RowKit Go.Extern.Stop Go.Stop Go.Extern

/-- Check's own boxes, behind so many rows: of the topology, of the kinds, of the row ahead. -/
structure AhS (w : World) (vr vl vk : Value) (ls : List Lk) (rows : List RwA) (pin ptop : Int) (pa : Option Addr) (pn pc : Nat) (i : Nat) (W : World) : Prop where
  a : W.heap[w.heap.size]? = some (.cells #[vr, vl] 25 (0, 0))
  b : W.heap[w.heap.size + 1]? = some (.cells #[vk] 26 (0, 0))
  c : W.heap[w.heap.size + 1 + 1]? = some (.cells #[.int .i64 pin, .int .i64 ptop, .slice pa pn pc] 52 (0, 0))
  ord : ∀ r, rows[i]? = some r → InN ls.length r.inn → decide (0 < abvI r.inn r.top pin ptop) = ordB rows i
  below : Below w.heap.size w W
theorem AhS.step {w : World} {vr vl vk : Value} {ls : List Lk} {rows : List RwA} {pin ptop : Int} {pa : Option Addr} {pn pc : Nat} {i : Nat} {W W' : World} (h : AhS w vr vl vk ls rows pin ptop pa pn pc i W) (hb : Below W.heap.size W W') : AhS w vr vl vk ls rows pin ptop pa pn pc i W' :=
  ⟨(hb.block _ (hlt h.a)).trans h.a, (hb.block _ (hlt h.b)).trans h.b, (hb.block _ (hlt h.c)).trans h.c, h.ord, h.below.trans (hb.mono h.below.size)⟩
theorem rcells {W : World} {b : Nat} {v0 v1 v2 : Value} {T : TypeId} (h : W.heap[b]? = some (.cells #[v0, v1, v2] T (0, 0))) : W.cell? ⟨b, 0, none⟩ = some v0 ∧ W.cell? ⟨b, 1, none⟩ = some v1 ∧ W.cell? ⟨b, 2, none⟩ = some v2 ∧ ∀ i, W.frozen? ⟨b, i, none⟩ = false :=
  ⟨by rw [Lib.cell_of_heap h]; rfl, by rw [Lib.cell_of_heap h]; rfl, by rw [Lib.cell_of_heap h]; rfl, fun i => by unfold World.frozen?; rw [h]; simp⟩
/-- The row ahead stored anew. -/
theorem AhS.put {w : World} {vr vl vk : Value} {ls : List Lk} {rows : List RwA} {pin ptop : Int} {pa : Option Addr} {pn pc : Nat} {i : Nat} {W : World} (h : AhS w vr vl vk ls rows pin ptop pa pn pc i W) {r : RwA} (hr : rows[i]? = some r) (ga : Option Addr) (gn gc : Nat) :
    AhS w vr vl vk ls rows r.inn r.top ga gn gc (i + 1) (((W.setCell ⟨w.heap.size + 1 + 1, 0, none⟩ (.int .i64 r.inn)).setCell ⟨w.heap.size + 1 + 1, 1, none⟩ (.int .i64 r.top)).setCell ⟨w.heap.size + 1 + 1, 2, none⟩ (.slice ga gn gc)) := by
  have o : ∀ (W : World) (j : Nat) (v : Value) (k : Nat), k ≠ w.heap.size + 1 + 1 → (W.setCell ⟨w.heap.size + 1 + 1, j, none⟩ v).heap[k]? = W.heap[k]? := fun W j v k hk => heap_setCell_other _ _ _ _ hk
  refine ⟨?_, ?_, ?_, ?_, ?_⟩
  · rw [o _ _ _ _ (by omega), o _ _ _ _ (by omega), o _ _ _ _ (by omega)]; exact h.a
  · rw [o _ _ _ _ (by omega), o _ _ _ _ (by omega), o _ _ _ _ (by omega)]; exact h.b
  · exact heap_setCell_same _ _ 2 _ _ _ (heap_setCell_same _ _ 1 _ _ _ (heap_setCell_same _ _ 0 _ _ _ h.c))
  · intro q hq _
    unfold ordB
    rw [if_neg (by omega), Nat.add_sub_cancel, hq, hr]
  · exact ((h.below.setCell (p := ⟨w.heap.size + 1 + 1, 0, none⟩) (by show _ ≤ w.heap.size + 1 + 1; omega) _).setCell (p := ⟨w.heap.size + 1 + 1, 1, none⟩) (by show _ ≤ w.heap.size + 1 + 1; omega) _).setCell (p := ⟨w.heap.size + 1 + 1, 2, none⟩) (by show _ ≤ w.heap.size + 1 + 1; omega) _
theorem abv_first {r t : Int} (h : 0 ≤ r) : 0 < abvI r t (-1) 0 := by
  unfold abvI Lib.compareInt
  have h1 : ¬ r < -1 := by omega
  have h2 : (-1 : Int) < r := by omega
  simp [h1, h2]
theorem chkRw_ord {ls : List Lk} {ks : List Int} {o o' : Bool} {r : RwA} (h : InN ls.length r.inn → o = o') : chkRw ls ks o r = chkRw ls ks o' r := by
  unfold chkRw
  by_cases hin : InN ls.length r.inn
  · rw [h hin]
  · rw [if_pos hin, if_pos hin]
/-- Behind a row that may be, or its fault. -/
def StepP (F : Flt) (w : World) (J : World → Prop) (e : Ending) (w' : World) : Prop :=
  (e = .returned .nilIface ∧ F.1 = 0 ∧ J w') ∨ ∃ T V b, e = .returned (.iface T V) ∧ F.1 ≠ 0 ∧ w.heap.size ≤ b ∧ ChainAt w' (.fault b F.1 F.2.1) F.2.2 (.iface T V) ∧ Below w.heap.size w w'
set_option maxRecDepth 100000 in
set_option maxHeartbeats 4000000 in
theorem check1_row (vr vl vk : Value) (rs : List ByteArray) (ls : List Lk) (ks : List Int) (rows : List RwA) (pin ptop : Int) (pa : Option Addr) (pn pc : Nat) (i : Nat) (r : RwA) (ga : Option Addr) (gc : Nat) (w W : World)
    (ht : TpAt w vr vl rs ls) (hk : IntsAt w vk ks) (htab : TabB w) (hp : Tab w) (hr : rows[i]? = some r) (hg : GsP OpsAt W (.slice ga r.gs.length gc) r.gs) (hS : AhS w vr vl vk ls rows pin ptop pa pn pc i W) :
    Calls Tryz.prog 30 #[rowV r.inn r.top (.slice ga r.gs.length gc), .pointer (some ⟨w.heap.size, 0, none⟩), .pointer (some ⟨w.heap.size + 1, 0, none⟩), .pointer (some ⟨w.heap.size + 1 + 1, 0, none⟩)] W
      (StepP (chkRs ls ks rows i) w (fun W' => ∃ pin ptop pa pn pc, AhS w vr vl vk ls rows pin ptop pa pn pc (i + 1) W')) := by
  have hbn := below_new W (.cells #[.int .i64 r.inn, .int .i64 r.top, .slice ga r.gs.length gc] 52)
  have hS1 := hS.step hbn
  have hC := checkRow_any vr vl vk rs ls ks pin ptop pa pn pc r ga gc _ (ht.step hS1.below) (hk.step hS1.below) (htab.below htab.lt hS1.below) (hp.below hS1.below) (hg.step keep_ops hbn)
  rw [show chkRw ls ks (decide (0 < abvI r.inn r.top pin ptop)) r = chkRs ls ks rows i from by
    unfold chkRs
    rw [hr, chkRw_ord (hS.ord r hr)]
    rfl] at hC
  have HC := Lib.hid hC
  have hBx : (W.alloc (.cells #[.int .i64 r.inn, .int .i64 r.top, .slice ga r.gs.length gc] 52)).heap[W.heap.size]? = some (.cells #[.int .i64 r.inn, .int .i64 r.top, .slice ga r.gs.length gc] 52 (0, 0)) := heap_alloc_new W _
  have HBx := Lib.hid hBx
  have HS1 := Lib.hid hS1
  obtain ⟨ra, rcap, rfl⟩ := ht.rs.form
  obtain ⟨la, lcap, rfl⟩ := ht.ls.form
  obtain ⟨ka, kcap, rfl⟩ := hk.form
  obtain ⟨k0, k1, -⟩ := hcell hS1.a
  have k2 : (W.alloc (.cells #[.int .i64 r.inn, .int .i64 r.top, .slice ga r.gs.length gc] 52)).cell? ⟨w.heap.size + 1, 0, none⟩ = some (.slice ka ks.length kcap) := by rw [Lib.cell_of_heap hS1.b]; rfl
  obtain ⟨k3, k4, k5, -⟩ := rcells hS1.c
  obtain ⟨k6, k7, k8, -⟩ := rcells hBx
  have HR := Lib.hid hr
  clear hr hg hS hC hBx hS1 hbn ht hk htab hp
  generalize chkRs ls ks rows i = F at *
  go_enter Tryz.func30, Tryz.ntmps30
  go_wp2_with fail
  refine HC.out.mono ?_
  intro e w2 hp
  rcases hp.cases with ⟨rfl, hz, b2⟩ | ⟨T, V, b, rfl, hz, hn, hch, b2⟩
  · have hS2 := HS1.out.step b2
    have hB2 := (b2.block _ (hlt HBx.out)).trans HBx.out
    have HP := Lib.hid (And.intro hz (hS2.put HR.out ga r.gs.length gc))
    clear k0 k1 k2 k3 k4 k5 k6 k7 k8
    obtain ⟨k6, k7, k8, -⟩ := rcells hB2
    obtain ⟨k3, k4, k5, kf⟩ := rcells hS2.c
    have f0 := kf 0
    have f1 := kf 1
    have f2 := kf 2
    clear hp hz b2 hS2 hB2 kf
    go_wp2_with fail
    go_ret
    exact .inl ⟨rfl, HP.out.1, _, _, _, _, _, HP.out.2⟩
  · have hS2 := HS1.out.step b2
    have hB2 := (b2.block _ (hlt HBx.out)).trans HBx.out
    have hlc := hlt HS1.out.c
    have hh0 := hS2.c
    have hh1 := heap_setCell_same _ _ 0 _ _ (.int .i64 r.inn) hh0
    have hh2 := heap_setCell_same _ _ 1 _ _ (.int .i64 r.top) hh1
    have HP := Lib.hid (And.intro hz (And.intro (Nat.le_trans HS1.out.below.size hn) (And.intro (((hch.set (j := 0) (x := .int .i64 r.inn) (rcells hh0).1 (by omega)).set (j := 1) (x := .int .i64 r.top) (rcells hh1).1 (by omega)).set (j := 2) (x := .slice ga r.gs.length gc) (rcells hh2).1 (by omega)) (hS2.put HR.out ga r.gs.length gc).below)))
    clear k0 k1 k2 k3 k4 k5 k6 k7 k8
    obtain ⟨k6, k7, k8, -⟩ := rcells hB2
    obtain ⟨k3, k4, k5, kf⟩ := rcells hS2.c
    have f0 := kf 0
    have f1 := kf 1
    have f2 := kf 2
    clear hp hz hn b2 hS2 hB2 kf hch hh0 hh1 hh2 hlc
    go_wp2_with fail
    go_ret
    exact .inr ⟨T, V, b, rfl, HP.out.1, HP.out.2.1, HP.out.2.2.1, HP.out.2.2.2⟩
end Go.Proofs.YtlcpbfklnjlgnaaGreatDoor

namespace Go.Proofs.YtlcpbfklnjlgnaaGreatDoor
open Go.RowKit Go.Extern.Stop Go.Stop Go.Extern

def FjR (F : Nat → Flt) (J : Nat → World → Prop) (n : Nat) (g : Nat) (u : Value) (wr : World) : Prop :=
  ∃ i : Nat, i ≤ n ∧ g = n - i ∧ u = .int .i64 i ∧ firstF F n 0 = firstF F (n - i) i ∧ J i wr
set_option maxRecDepth 100000 in
set_option maxHeartbeats 4000000 in
theorem firstR_any (F : Nat → Flt) (J : Nat → World → Prop) (w : World) (hJ : ∀ i W W', J i W → Below W.heap.size W W' → J i W') (hJb : ∀ i W, J i W → Below w.heap.size w W) (ht : Tab w)
    (pa pb pc : Value) (v : Value) (rows : List RwA) (hv : RsP OpsAt w v rows) (hl : rows.length ≤ 1000) (W0 : World) (h0 : J 0 W0)
    (HF : ∀ (i : Nat) (r : RwA) (ga : Option Addr) (gc : Nat) (W : World), rows[i]? = some r → GsP OpsAt W (.slice ga r.gs.length gc) r.gs → J i W →
      Calls Tryz.prog 30 #[rowV r.inn r.top (.slice ga r.gs.length gc), pa, pb, pc] W (StepP (F i) w (J (i + 1)))) :
    Calls Tryz.prog 29 #[v, .func (.func 30) #[] #[pa, pb, pc]] W0 (FltPost (firstF F rows.length 0) w) := by
  obtain ⟨va, vcap, rfl⟩ := hv.form
  have HV := Lib.hid hv
  have HH := Lib.hid HF
  have HT := Lib.hid ht
  have HJ := Lib.hid hJ
  have HJb := Lib.hid hJb
  have H0 := Lib.hid h0
  have HI := Lib.hid (fun i (h : i ≤ 1000000) W hW => itoa_dig i h W hW)
  have HIn := Lib.hid (fun s T V W => in_any s T V W)
  clear hv HF ht hJ hJb h0
  go_enter Tryz.func29, Tryz.ntmps29
  go_wp2_with fail
  go_loopg [10] rows.length (fun g u wr => FjR F J rows.length g u wr)
  case atStart => exact ⟨0, Nat.zero_le _, by omega, rfl, rfl, H0.out⟩
  case round =>
    obtain ⟨i, hi, hgi, rfl, hF, hj⟩ := hrel
    have HFi := Lib.hid hF
    have hb := HJb.out i wr hj
    by_cases hlt : i < rows.length
    · obtain ⟨p, hx⟩ : ∃ e, rows[i]? = some e := ⟨_, List.getElem?_eq_getElem hlt⟩
      obtain ⟨b2, off2, oa, oc, rfl, c0, c1, c2, hgs⟩ := HV.out.at keep_ops hx hb
      have hbn := below_new wr (.cells #[.int .i64 p.inn, .int .i64 p.top, .slice oa p.gs.length oc] 52)
      have HC := Lib.hid (HH.out i p oa oc _ hx (hgs.step keep_ops hbn) (HJ.out i _ _ hj hbn))
      clear hx hb hF hgs hj hbn
      go_wp2_with fail
      refine HC.out.mono ?_
      rintro e' w3 (⟨rfl, hz, hj3⟩ | ⟨T, V, bb, rfl, hz, hn, hch, b3⟩)
      · have HN : Hid (FjR F J rows.length (rows.length - (i + 1)) (.int .i64 ((i : Int) + 1)) w3) := Lib.hid ⟨i + 1, by omega, rfl, by go_num, by rw [HFi.out, firstF_go hlt hz], hj3⟩
        clear hj3 hz
        go_wp2_with fail
        go_roundg (rows.length - (i + 1))
        case measure => omega
        case rel => exact HN.out
      · have HB3 := Lib.hid b3
        have HE := Lib.hid (firstF_at hlt hz)
        have HCh := Lib.hid hch
        have HZ := Lib.hid (And.intro hz hn)
        clear b3 hch hz hn
        go_wp2_with fail
        refine (HI.out i (by omega) _ (HT.out.below HB3.out)).mono ?_
        rintro e' w4 ⟨rfl, b4⟩
        have HB4 := Lib.hid (HB3.out.trans (b4.mono HB3.out.size))
        have HC4 := Lib.hid (HCh.out.keep b4)
        clear b4
        go_wp2_with fail
        refine (HIn.out _ T V _).mono ?_
        rintro e' w5 ⟨rfl, rfl⟩
        go_wp2_with fail
        go_ret
        rw [HFi.out, HE.out]
        exact FltPost.no (F := ((F i).1, (F i).2.1, digS i :: (F i).2.2)) HZ.out.1 HZ.out.2 (in_chain _ _ _ _ _ HC4.out) (HB4.out.trans ((below_new _ _).mono HB4.out.size))
    · obtain rfl : i = rows.length := by omega
      rw [firstF_end] at hF
      have HE := Lib.hid (And.intro hF hb)
      clear hF hb hj
      go_wp2_with fail
      go_ret
      rw [HE.out.1]
      exact FltPost.ok rfl HE.out.2
theorem AhS.start {w : World} {vr vl vk : Value} {ls : List Lk} {rows : List RwA} :
    AhS w vr vl vk ls rows (-1) 0 none 0 0 0 (((w.alloc (.cells #[vr, vl] 25)).alloc (.cells #[vk] 26)).alloc (.cells #[.int .i64 (-1), .int .i64 0, .slice none 0 0] 52)) := by
  have b1 := below_new w (.cells #[vr, vl] 25)
  have b2 := below_new (w.alloc (.cells #[vr, vl] 25)) (.cells #[vk] 26)
  have b3 := below_new ((w.alloc (.cells #[vr, vl] 25)).alloc (.cells #[vk] 26)) (.cells #[.int .i64 (-1), .int .i64 0, .slice none 0 0] 52)
  have n1 := heap_alloc_new w (.cells #[vr, vl] 25)
  have n2 := heap_alloc_new (w.alloc (.cells #[vr, vl] 25)) (.cells #[vk] 26)
  have n3 := heap_alloc_new ((w.alloc (.cells #[vr, vl] 25)).alloc (.cells #[vk] 26)) (.cells #[.int .i64 (-1), .int .i64 0, .slice none 0 0] 52)
  rw [World.size_alloc] at n2
  rw [World.size_alloc, World.size_alloc] at n3
  exact ⟨(b3.block _ (by simp; omega)).trans ((b2.block _ (by simp)).trans n1), (b3.block _ (by simp)).trans n2, n3, fun r _ hin => by
    rw [decide_eq_true (abv_first hin.1)]; rfl, (b1.trans (b2.mono b1.size)).trans (b3.mono (Nat.le_trans b1.size b2.size))⟩
set_option maxRecDepth 100000 in
set_option maxHeartbeats 4000000 in
theorem tbCheck_any (vr vl vk v : Value) (rs : List ByteArray) (ls : List Lk) (ks : List Int) (rows : List RwA) (w : World)
    (ht : TpAt w vr vl rs ls) (hk : IntsAt w vk ks) (htab : TabB w) (hp : Tab w) (hv : RsP OpsAt w v rows) :
    Calls Tryz.prog 12 #[.agg #[vr, vl], vk, v] w (FltPost (chkT ls ks rows) w) := by
  have HNew := Lib.hid (fun W => (new_any 6 256 (by decide) W).mono fun e w' h => (show FltPost (6, 256, []) W e w' by rw [h.1, h.2]; exact FltPost.new (by decide) (Below.refl _ _)))
  have HIn := Lib.hid (fun s T V W => in_any s T V W)
  have HIn0 := Lib.hid (fun s W => in_nil s W)
  by_cases hl : 256 < rows.length
  · have HE : Hid (chkT ls ks rows = (6, 256, [tblS])) := Lib.hid (if_pos hl)
    obtain ⟨va, vcap, rfl⟩ := hv.form
    obtain ⟨ra, rcap, rfl⟩ := ht.rs.form
    obtain ⟨la, lcap, rfl⟩ := ht.ls.form
    obtain ⟨ka, kcap, rfl⟩ := hk.form
    have hl' : (256 : Int) < rows.length := by omega
    have HB := Lib.hid ((below_new w (.cells #[.slice ra rs.length rcap, .slice la ls.length lcap] 25)).trans ((below_new (w.alloc (.cells #[.slice ra rs.length rcap, .slice la ls.length lcap] 25)) (.cells #[.slice ka ks.length kcap] 26)).mono (below_new w _).size))
    clear ht hk htab hp hv hl
    go_enter Tryz.func12, Tryz.ntmps12
    go_wp2_with fail
    generalize (w.alloc (.cells #[.slice ra rs.length rcap, .slice la ls.length lcap] 25)).alloc (.cells #[.slice ka ks.length kcap] 26) = w1 at *
    refine (HNew.out _).mono ?_
    intro e w2 hp
    rcases hp.cases with ⟨-, hz, -⟩ | ⟨T, V, b, rfl, hz, hn, hch, b2⟩
    · exact absurd hz (by decide)
    have HP := Lib.hid (And.intro (Nat.le_trans HB.out.size hn) (And.intro hch (HB.out.trans (b2.mono HB.out.size))))
    clear hp hz hn hch b2
    go_wp2_with fail
    refine (HIn.out _ T V _).mono ?_
    rintro e w3 ⟨rfl, rfl⟩
    go_wp2_with fail
    go_ret
    rw [HE.out]
    exact FltPost.no (F := (6, 256, [tblS])) (by decide) HP.out.1 (in_chain _ _ _ _ _ HP.out.2.1) (HP.out.2.2.trans ((below_new _ _).mono HP.out.2.2.size))
  · have HE : Hid (chkT ls ks rows = inF tblS (firstF (chkRs ls ks rows) rows.length 0)) := Lib.hid (if_neg hl)
    have HF := Lib.hid (fun (W0 : World) (h0 : AhS w vr vl vk ls rows (-1) 0 none 0 0 0 W0) =>
      firstR_any (chkRs ls ks rows) (fun i W => ∃ pin ptop pa pn pc, AhS w vr vl vk ls rows pin ptop pa pn pc i W) w
        (fun i W W' ⟨pin, ptop, pa, pn, pc, h⟩ hb => ⟨pin, ptop, pa, pn, pc, h.step hb⟩) (fun i W ⟨_, _, _, _, _, h⟩ => h.below) hp
        (.pointer (some ⟨w.heap.size, 0, none⟩)) (.pointer (some ⟨w.heap.size + 1, 0, none⟩)) (.pointer (some ⟨w.heap.size + 1 + 1, 0, none⟩)) v rows hv (by omega) W0 ⟨_, _, _, _, _, h0⟩
        (fun i r ga gc W hr hg ⟨pin, ptop, pa, pn, pc, h⟩ => check1_row vr vl vk rs ls ks rows pin ptop pa pn pc i r ga gc w W ht hk htab hp hr hg h))
    have hS := AhS.start (w := w) (vr := vr) (vl := vl) (vk := vk) (ls := ls) (rows := rows)
    obtain ⟨va, vcap, rfl⟩ := hv.form
    obtain ⟨ra, rcap, rfl⟩ := ht.rs.form
    obtain ⟨la, lcap, rfl⟩ := ht.ls.form
    obtain ⟨ka, kcap, rfl⟩ := hk.form
    have hl' : ¬ (256 : Int) < rows.length := by omega
    have HS := Lib.hid hS
    clear ht hk htab hp hv hl hS
    go_enter Tryz.func12, Tryz.ntmps12
    go_wp2_with fail
    refine (HF.out _ HS.out).mono ?_
    intro e w2 hp
    rcases hp.cases with ⟨rfl, hz, b2⟩ | ⟨T, V, b, rfl, hz, hn, hch, b2⟩
    · have HP := Lib.hid (And.intro hz b2)
      clear hp hz b2
      go_wp2_with fail
      refine (HIn0.out _ _).mono ?_
      rintro e w3 ⟨rfl, rfl⟩
      go_wp2_with fail
      go_ret
      rw [HE.out, inF_ok HP.out.1]
      exact FltPost.ok HP.out.1 HP.out.2
    · have HP := Lib.hid (And.intro hz (And.intro hn (And.intro hch b2)))
      clear hp hz b2 hn hch
      go_wp2_with fail
      refine (HIn.out _ T V _).mono ?_
      rintro e w3 ⟨rfl, rfl⟩
      go_wp2_with fail
      go_ret
      rw [HE.out, inF_no HP.out.1]
      exact FltPost.no (F := (_, _, tblS :: _)) HP.out.1 HP.out.2.1 (in_chain _ _ _ _ _ HP.out.2.2.1) (HP.out.2.2.2.trans ((below_new _ _).mono HP.out.2.2.2.size))
end Go.Proofs.YtlcpbfklnjlgnaaGreatDoor
