/-
  Package names by contracts: Len, Name, Find, All, with, With.
-/
import Derived.Test.YtcnaffhdiodkhaaDoorNamesB
import Derived.Test.YtcnaffhdiodkhaaDoorAwk3
namespace Go.Proofs.YtcnaffhdiodkhaaDoor
open Go.RowKit Go.Extern.Stop Go.Stop Go.Extern

/-- One slice in a block of its own, not frozen. -/
def BoxAt (w : World) (b : Nat) (A : Option Addr) (n c : Nat) : Prop := b < w.heap.size ∧ w.cell? ⟨b, 0, none⟩ = some (.slice A n c) ∧ ∀ i, w.frozen? ⟨b, i, none⟩ = false
theorem BoxAt.step {w w' : World} {b : Nat} {A : Option Addr} {n c : Nat} (h : BoxAt w b A n c) (hb : Below w.heap.size w w') : BoxAt w' b A n c :=
  ⟨Nat.lt_of_lt_of_le h.1 hb.size, (hb.cell (p := ⟨b, 0, none⟩) h.1).trans h.2.1, fun i => (hb.frozen (p := ⟨b, i, none⟩) h.1).trans (h.2.2 i)⟩
theorem BoxAt.new (w : World) (A : Option Addr) (n c : Nat) (t : TypeId) : BoxAt (w.alloc (.cells #[.slice A n c] t)) w.heap.size A n c := ⟨by simp, by simp, by simp⟩
theorem BoxAt.set {w : World} {b : Nat} {A : Option Addr} {n c : Nat} (h : BoxAt w b A n c) (A' : Option Addr) (n' c' : Nat) : BoxAt (w.setCell ⟨b, 0, none⟩ (.slice A' n' c')) b A' n' c' :=
  ⟨by rw [World.size_setCell]; exact h.1, World.cell?_setCell_same _ _ _ h.2.1, fun i => by rw [World.frozen?_setCell]; exact h.2.2 i⟩
theorem BoxAt.far {w : World} {b : Nat} {A : Option Addr} {n c : Nat} (h : BoxAt w b A n c) {q : Addr} (hq : b ≠ q.block) (u : Value) : BoxAt (w.setCell q u) b A n c :=
  ⟨by rw [World.size_setCell]; exact h.1, (World.cell?_setCell_other _ _ _ _ (by rintro rfl; exact hq rfl)).trans h.2.1, fun i => by rw [World.frozen?_setCell]; exact h.2.2 i⟩
/-- A row stays where a box is written: its cells are texts. -/
theorem RowAt.set {w : World} {v : Value} {l : List ByteArray} {b : Nat} {A : Option Addr} {n c : Nat} (h : RowAt w v l) (hs : BoxAt w b A n c) (u : Value) : RowAt (w.setCell ⟨b, 0, none⟩ u) v l := by
  obtain ⟨A', c', e, h0, hc⟩ := h
  refine ⟨A', c', e, h0, fun i hi => ?_⟩
  obtain ⟨b', e', hlt, hcell⟩ := hc i hi
  have hne : b' ≠ b := by
    rintro rfl
    obtain ⟨b2, e2, -, h2⟩ := hc 0 (by omega)
    rw [e'] at e2
    obtain rfl : b' = b2 := by injection e2 with e2; injection e2
    rw [hs.2.1] at h2
    cases h2
  exact ⟨b', e', by rw [World.size_setCell]; exact hlt, (World.cell?_setCell_other _ _ _ _ (by intro h; injection h with h; exact hne h.symm)).trans hcell⟩
/-- An error stays where a box is written. -/
theorem ErrIs.setBox {w : World} {v : Value} {c a : Int} {b : Nat} {A : Option Addr} {n k : Nat} (h : ErrIs w v c a) (hs : BoxAt w b A n k) (u : Value) : ErrIs (w.setCell ⟨b, 0, none⟩ u) v c a := by
  rcases h with h | ⟨h0, fb, e, hlt, h1, h2⟩
  · exact .inl h
  · have hne : fb ≠ b := by
      rintro rfl
      rw [hs.2.1] at h1
      cases h1
    refine .inr ⟨h0, fb, e, by rw [World.size_setCell]; exact hlt, ?_, ?_⟩
    · rw [World.cell?_setCell_other _ _ _ _ (by intro e; injection e with e; exact hne e.symm)]; exact h1
    · rw [World.cell?_setCell_other _ _ _ _ (by intro e; injection e with e; exact hne e.symm)]; exact h2

theorem RowAt.drewN {w : World} {v : Value} {l : List ByteArray} (h : RowAt w v l) (n : Nat) : RowAt (w.drewN n) v l := h.keep (below_drewN _ _)

set_option maxHeartbeats 400000 in
theorem nlen_any (A : Option Addr) (n c : Nat) (w : World) :
    Calls Tryd.prog 67 #[.agg #[.slice A n c]] w fun e w' => e = .returned (.int .i64 n) ∧ Below w.heap.size w w' := by
  go_enter Tryd.func67, Tryd.ntmps67
  go_wp2
  go_ret
  exact ⟨rfl, below_new _ _⟩

set_option maxHeartbeats 400000 in
theorem nname_low (A : Option Addr) (n c : Nat) (i : Int) (h : i < 0) (w : World) :
    Calls Tryd.prog 66 #[.agg #[.slice A n c], .int .i64 i] w fun e w' => e = .returned (.string ⟨#[]⟩) ∧ Below w.heap.size w w' := by
  go_enter Tryd.func66, Tryd.ntmps66
  go_wp2
  go_ret
  exact ⟨rfl, below_new _ _⟩
set_option maxHeartbeats 400000 in
theorem nname_high (A : Option Addr) (n c : Nat) (i : Nat) (h : n ≤ i) (w : World) :
    Calls Tryd.prog 66 #[.agg #[.slice A n c], .int .i64 i] w fun e w' => e = .returned (.string ⟨#[]⟩) ∧ Below w.heap.size w w' := by
  go_enter Tryd.func66, Tryd.ntmps66
  go_wp2
  go_ret
  exact ⟨rfl, below_new _ _⟩
set_option maxHeartbeats 400000 in
theorem nname_in (l : List ByteArray) (v : Value) (i : Nat) (h : i < l.length) (w : World) (hv : RowAt w v l) :
    Calls Tryd.prog 66 #[.agg #[v], .int .i64 i] w fun e w' => e = .returned (.string (l.getD i ⟨#[]⟩)) ∧ Below w.heap.size w w' := by
  obtain ⟨A, c, rfl, -, hc⟩ := hv
  obtain ⟨b, rfl, hlt, hcell⟩ := hc i h
  have hcell' := (World.cell?_alloc_lt w (.cells #[.slice (some ⟨b, 0, none⟩) l.length c] 58) ⟨b, i, none⟩ hlt).trans hcell
  clear hc
  generalize l.getD i ⟨#[]⟩ = s at *
  go_enter Tryd.func66, Tryd.ntmps66
  go_wp2
  go_ret
  exact ⟨rfl, below_new _ _⟩

/-- What Find tells. -/
def findK (l : List ByteArray) (x : ByteArray) : Nat := if foundB l x then posOf l x else 0
set_option maxHeartbeats 400000 in
theorem nfind_any (l : List ByteArray) (v : Value) (x : ByteArray) (w : World) (hv : RowAt w v l) (hr : Rises l) (hlen : l.length ≤ 1000) :
    Calls Tryd.prog 64 #[.agg #[v], .string x] w fun e w' => e = .returned (.tuple #[.int .i64 (findK l x), .bool (foundB l x)]) ∧ Below w.heap.size w w' := by
  have HS := Lib.hid (fun w' h => search_any l v x w' h hr hlen)
  have HV := Lib.hid hv
  obtain ⟨A, c, rfl, -, -⟩ := hv
  unfold findK
  generalize foundB l x = f at *
  generalize posOf l x = k at *
  cases f
  · go_enter Tryd.func64, Tryd.ntmps64
    go_wp2_with fail
    refine (HS.out _ (HV.out.keep (below_new _ _))).mono ?_
    rintro e w' ⟨rfl, q, rfl⟩
    go_wp2_with fail
    go_ret2
    exact ⟨rfl, (below_new _ _).trans ((below_drewN _ _).mono (by simp))⟩
  · go_enter Tryd.func64, Tryd.ntmps64
    go_wp2_with fail
    refine (HS.out _ (HV.out.keep (below_new _ _))).mono ?_
    rintro e w' ⟨rfl, q, rfl⟩
    go_wp2_with fail
    go_ret2
    exact ⟨rfl, (below_new _ _).trans ((below_drewN _ _).mono (by simp))⟩

theorem own_lower {w : World} {base base' : Nat} {v : Value} {n : Nat} {xs : List Value} (h : w.ownsRow base 9 1 v n xs) (hb : base' ≤ base) : w.ownsRow base' 9 1 v n xs := by
  obtain ⟨h1, h2 | ⟨g, cap, cur, e, hg, h3⟩⟩ := h
  · exact ⟨h1, .inl h2⟩
  · exact ⟨h1, .inr ⟨g, cap, cur, e, Nat.le_trans hb hg, h3⟩⟩

set_option maxHeartbeats 400000 in
theorem nall_any (l : List ByteArray) (v : Value) (w : World) (hv : RowAt w v l) (hlen : l.length ≤ 1000) :
    Calls Tryd.prog 37 #[.agg #[v]] w (CloneOut w l) := by
  have HS := Lib.hid (fun w' h => clone_any l v w' h hlen)
  have HV := Lib.hid hv
  obtain ⟨A, c, rfl, -, -⟩ := hv
  go_enter Tryd.func37, Tryd.ntmps37
  go_wp2_with fail
  refine (HS.out _ (HV.out.keep (below_new _ _))).mono ?_
  rintro e w' ⟨v', rfl, hown, hb, h0⟩
  have HO := Lib.hid hown
  have H0 := Lib.hid h0
  clear h0
  rcases hown with ⟨-, ⟨rfl, -⟩ | ⟨g, cap, cur, rfl, -⟩⟩
  · go_wp2_with fail
    go_ret
    exact ⟨_, rfl, own_lower HO.out (by simp), (below_new _ _).trans (hb.mono (by simp)), fun _ => rfl⟩
  · have HNE := Lib.hid (show l ≠ [] from fun h => absurd (H0.out h) (by simp))
    clear H0
    go_wp2_with fail
    go_ret
    exact ⟨_, rfl, own_lower HO.out (by simp), (below_new _ _).trans (hb.mono (by simp)), fun h => absurd h HNE.out⟩

def NilIf (l : List ByteArray) (v : Value) : Prop := l = [] → v = .slice none 0 0

/-! ### with -/
/-- The document's error, of a name that comes to a row. -/
def withC (l : List ByteArray) (x : ByteArray) : Int := if isNameB x = true then (if foundB l x = true then 10 else if 64 ≤ l.length then 6 else 0) else 4
def withL (l : List ByteArray) (x : ByteArray) : List ByteArray := if withC l x = 0 then insS l x else []
/-- What with answers. -/
def WithOut (w : World) (l : List ByteArray) (c a : Int) (e : Ending) (w' : World) : Prop :=
  ∃ v u, e = .returned (.tuple #[.agg #[v], u]) ∧ RowAt w' v l ∧ ErrIs w' u c a ∧ Below w.heap.size w w'

/-- Within a call: its own box, its result's box, and that old memory stays. -/
structure InNames (w0 : World) (A : Option Addr) (n c : Nat) (w : World) : Prop where
  own : BoxAt w w0.heap.size A n c
  res : BoxAt w (w0.heap.size + 1) none 0 0
  below : Below w0.heap.size w0 w
theorem InNames.step {w0 w w' : World} {A : Option Addr} {n c : Nat} (h : InNames w0 A n c w) (hb : Below w.heap.size w w') : InNames w0 A n c w' :=
  ⟨h.own.step hb, h.res.step hb, h.below.trans (hb.mono h.below.size)⟩
theorem InNames.new (w : World) (A : Option Addr) (n c : Nat) (t : TypeId) : InNames w A n c ((w.alloc (.cells #[.slice A n c] t)).alloc (.cells #[.slice none 0 0] t)) :=
  ⟨(BoxAt.new w A n c t).step (below_new _ _), by have := BoxAt.new (w.alloc (.cells #[.slice A n c] t)) none 0 0 t; simpa using this, (below_new _ _).trans ((below_new _ _).mono (by simp))⟩
theorem InNames.out {w0 w : World} {A : Option Addr} {n c : Nat} (h : InNames w0 A n c w) (A' : Option Addr) (n' c' : Nat) :
    (w.setCell ⟨w0.heap.size + 1, 0, none⟩ (.slice A' n' c')).cell? ⟨w0.heap.size + 1, 0, none⟩ = some (.slice A' n' c') ∧ Below w0.heap.size w0 (w.setCell ⟨w0.heap.size + 1, 0, none⟩ (.slice A' n' c')) :=
  ⟨(h.res.set A' n' c').2.1, h.below.setCell (by simp) _⟩

set_option maxRecDepth 100000 in
set_option maxHeartbeats 1000000 in
theorem with_form (l : List ByteArray) (v : Value) (x : ByteArray) (a : Int) (w : World) (hv : RowAt w v l) (hr : Rises l) (hlen : l.length ≤ 1000) (hx : x.size ≤ maxLen) (hn : isNameB x = false) :
    Calls Tryd.prog 68 #[.agg #[v], .string x, .int .i64 a] w (WithOut w [] 4 a) := by
  have HS := Lib.hid (fun w' h => search_any l v x w' h hr hlen)
  have HI := Lib.hid (fun w => isName_any x hx w)
  rw [hn] at HI
  have HV := Lib.hid hv
  obtain ⟨A, c, rfl, -, -⟩ := hv
  have H0 := Lib.hid (InNames.new w A l.length c 58)
  generalize foundB l x = f at *
  generalize posOf l x = k at *
  clear hn
  go_enter Tryd.func68, Tryd.ntmps68
  go_wp2_with fail
  refine (HS.out _ ((HV.out.keep (below_new _ _)).keep (below_new _ _))).mono ?_
  rintro e w' ⟨rfl, q, rfl⟩
  have H1 := Lib.hid (H0.out.step (below_drewN _ q))
  go_wp2_with fail
  refine (HI.out _).mono ?_
  rintro e w2 ⟨rfl, b2⟩
  have H2 := Lib.hid (H1.out.step b2)
  go_wp2_with fail
  refine (new_faults 4 a (by decide) _).mono ?_
  rintro e w3 ⟨u, rfl, hu, b3⟩
  have H3 := Lib.hid (H2.out.step b3)
  have HU := Lib.hid (hu.setBox H3.out.res (.slice none 0 0))
  obtain ⟨-, r0, rf⟩ := H3.out.res
  clear hu
  go_wp2_with fail
  obtain ⟨q0, hb⟩ := H3.out.out none 0 0
  exact bodyPost_ret (v := .tuple #[.agg #[.slice none 0 0], u]) (by simp [results, Tryd.results68, go_sem, q0]) rfl ⟨_, u, rfl, RowAt.nil _, HU.out, hb⟩

set_option maxRecDepth 100000 in
set_option maxHeartbeats 1000000 in
theorem with_twice (l : List ByteArray) (v : Value) (x : ByteArray) (a : Int) (w : World) (hv : RowAt w v l) (hr : Rises l) (hlen : l.length ≤ 1000) (hx : x.size ≤ maxLen) (hn : isNameB x = true) (hf : foundB l x = true) :
    Calls Tryd.prog 68 #[.agg #[v], .string x, .int .i64 a] w (WithOut w [] 10 a) := by
  have HS := Lib.hid (fun w' h => search_any l v x w' h hr hlen)
  have HI := Lib.hid (fun w => isName_any x hx w)
  rw [hn] at HI
  rw [hf] at HS
  have HV := Lib.hid hv
  obtain ⟨A, c, rfl, -, -⟩ := hv
  have H0 := Lib.hid (InNames.new w A l.length c 58)
  generalize posOf l x = k at *
  clear hn hf
  go_enter Tryd.func68, Tryd.ntmps68
  go_wp2_with fail
  refine (HS.out _ ((HV.out.keep (below_new _ _)).keep (below_new _ _))).mono ?_
  rintro e w' ⟨rfl, q, rfl⟩
  have H1 := Lib.hid (H0.out.step (below_drewN _ q))
  go_wp2_with fail
  refine (HI.out _).mono ?_
  rintro e w2 ⟨rfl, b2⟩
  have H2 := Lib.hid (H1.out.step b2)
  obtain ⟨-, o0, -⟩ := H2.out.own
  go_wp2_with fail
  refine (new_faults 10 a (by decide) _).mono ?_
  rintro e w3 ⟨u, rfl, hu, b3⟩
  have H3 := Lib.hid (H2.out.step b3)
  have HU := Lib.hid (hu.setBox H3.out.res (.slice none 0 0))
  obtain ⟨-, r0, rf⟩ := H3.out.res
  clear hu
  go_wp2_with fail
  obtain ⟨q0, hb⟩ := H3.out.out none 0 0
  exact bodyPost_ret (v := .tuple #[.agg #[.slice none 0 0], u]) (by simp [results, Tryd.results68, go_sem, q0]) rfl ⟨_, u, rfl, RowAt.nil _, HU.out, hb⟩

set_option maxRecDepth 100000 in
set_option maxHeartbeats 1000000 in
theorem with_many (l : List ByteArray) (v : Value) (x : ByteArray) (a : Int) (w : World) (hv : RowAt w v l) (hr : Rises l) (hlen : l.length ≤ 1000) (hx : x.size ≤ maxLen) (hn : isNameB x = true) (hf : foundB l x = false) (h64 : 64 ≤ l.length) :
    Calls Tryd.prog 68 #[.agg #[v], .string x, .int .i64 a] w (WithOut w [] 6 a) := by
  have HS := Lib.hid (fun w' h => search_any l v x w' h hr hlen)
  have HI := Lib.hid (fun w => isName_any x hx w)
  rw [hn] at HI
  rw [hf] at HS
  have HV := Lib.hid hv
  obtain ⟨A, c, rfl, -, -⟩ := hv
  have H0 := Lib.hid (InNames.new w A l.length c 58)
  generalize posOf l x = k at *
  have hm : (64 : Int) ≤ l.length := by omega
  clear hn hf
  go_enter Tryd.func68, Tryd.ntmps68
  go_wp2_with fail
  refine (HS.out _ ((HV.out.keep (below_new _ _)).keep (below_new _ _))).mono ?_
  rintro e w' ⟨rfl, q, rfl⟩
  have H1 := Lib.hid (H0.out.step (below_drewN _ q))
  go_wp2_with fail
  refine (HI.out _).mono ?_
  rintro e w2 ⟨rfl, b2⟩
  have H2 := Lib.hid (H1.out.step b2)
  obtain ⟨-, o0, -⟩ := H2.out.own
  go_wp2_with fail
  refine (new_faults 6 a (by decide) _).mono ?_
  rintro e w3 ⟨u, rfl, hu, b3⟩
  have H3 := Lib.hid (H2.out.step b3)
  have HU := Lib.hid (hu.setBox H3.out.res (.slice none 0 0))
  obtain ⟨-, r0, rf⟩ := H3.out.res
  clear hu
  go_wp2_with fail
  obtain ⟨q0, hb⟩ := H3.out.out none 0 0
  exact bodyPost_ret (v := .tuple #[.agg #[.slice none 0 0], u]) (by simp [results, Tryd.results68, go_sem, q0]) rfl ⟨_, u, rfl, RowAt.nil _, HU.out, hb⟩

set_option maxRecDepth 100000 in
set_option maxHeartbeats 1000000 in
theorem with_yes (l : List ByteArray) (v : Value) (x : ByteArray) (a : Int) (w : World) (hv : RowAt w v l) (hr : Rises l) (hx : x.size ≤ maxLen) (hn : isNameB x = true) (hf : foundB l x = false) (h64 : l.length < 64) :
    Calls Tryd.prog 68 #[.agg #[v], .string x, .int .i64 a] w (WithOut w (insS l x) 0 a) := by
  have HS := Lib.hid (fun w' h => search_any l v x w' h hr (by omega))
  have HI := Lib.hid (fun w => isName_any x hx w)
  have HC := Lib.hid (fun w' h => nall_any l v w' h (by omega))
  rw [hn] at HI
  rw [hf] at HS
  have HV := Lib.hid hv
  obtain ⟨A, c, rfl, -, -⟩ := hv
  have H0 := Lib.hid (InNames.new w A l.length c 58)
  have hm : ¬ (64 : Int) ≤ l.length := by omega
  have HINS := Lib.hid (fun base w0 v' h h0 hb => insert_any l v' x base w0 9 h h0 hb (by omega))
  generalize posOf l x = k at *
  clear hn hf
  go_enter Tryd.func68, Tryd.ntmps68
  go_wp2_with fail
  refine (HS.out _ ((HV.out.keep (below_new _ _)).keep (below_new _ _))).mono ?_
  rintro e w' ⟨rfl, q, rfl⟩
  have H1 := Lib.hid (H0.out.step (below_drewN _ q))
  go_wp2_with fail
  refine (HI.out _).mono ?_
  rintro e w2 ⟨rfl, b2⟩
  have H2 := Lib.hid (H1.out.step b2)
  obtain ⟨-, o0, -⟩ := H2.out.own
  go_wp2_with fail
  refine (HC.out _ (HV.out.keep H2.out.below)).mono ?_
  rintro e w3 ⟨v', rfl, hown, b3, h0⟩
  have H3 := Lib.hid (H2.out.step b3)
  have HO := Lib.hid hown
  have HN : Hid (NilIf l v') := Lib.hid h0
  have HB := Lib.hid b3.size
  clear h0
  rcases hown with ⟨-, ⟨rfl, -⟩ | ⟨g, cap, cur, rfl, -⟩⟩
  all_goals
    go_wp2_with fail
    refine (HINS.out _ _ _ HO.out HN.out HB.out).mono ?_
    rintro e w5 ⟨v5, rfl, hrow, b5⟩
    have H5 := Lib.hid (H2.out.step (b3.trans b5))
    have HRW := Lib.hid (hrow.set H5.out.res)
    obtain ⟨A5, c5, rfl, -, -⟩ := hrow
    obtain ⟨-, r0, rf⟩ := H5.out.res
    go_wp2_with fail
    obtain ⟨q0, hb⟩ := H5.out.out A5 (insS l x).length c5
    exact bodyPost_ret (v := .tuple #[.agg #[.slice A5 (insS l x).length c5], .nilIface]) (by simp [results, Tryd.results68, go_sem, q0]) rfl ⟨_, _, rfl, HRW.out _, .nilE _ _, hb⟩

theorem with_any (l : List ByteArray) (v : Value) (x : ByteArray) (a : Int) (w : World) (hv : RowAt w v l) (hr : Rises l) (hlen : l.length ≤ 1000) (hx : x.size ≤ maxLen) :
    Calls Tryd.prog 68 #[.agg #[v], .string x, .int .i64 a] w (WithOut w (withL l x) (withC l x) a) := by
  unfold withL withC
  by_cases hn : isNameB x = true
  · by_cases hf : foundB l x = true
    · rw [if_pos hn, if_pos hf, if_neg (by decide)]
      exact with_twice l v x a w hv hr hlen hx hn hf
    · by_cases h64 : 64 ≤ l.length
      · rw [if_pos hn, if_neg hf, if_pos h64, if_neg (by decide)]
        exact with_many l v x a w hv hr hlen hx hn (by simpa using hf) h64
      · rw [if_pos hn, if_neg hf, if_neg h64, if_pos rfl]
        exact with_yes l v x a w hv hr hx hn (by simpa using hf) (by omega)
  · rw [if_neg hn, if_neg (by decide)]
    exact with_form l v x a w hv hr hlen hx (by simpa using hn)

set_option maxRecDepth 100000 in
set_option maxHeartbeats 1000000 in
theorem nwith_any (l : List ByteArray) (v : Value) (x : ByteArray) (w : World) (hv : RowAt w v l) (hr : Rises l) (hlen : l.length ≤ 1000) (hx : x.size ≤ maxLen) :
    Calls Tryd.prog 30 #[.agg #[v], .string x] w (WithOut w (withL l x) (withC l x) l.length) := by
  have HW := Lib.hid (fun w' h => with_any l v x l.length w' h hr hlen hx)
  have HV := Lib.hid hv
  obtain ⟨A, c, rfl, -, -⟩ := hv
  have H0 := Lib.hid (InNames.new w A l.length c 58)
  generalize withL l x = l2 at *
  generalize withC l x = c2 at *
  go_enter Tryd.func30, Tryd.ntmps30
  go_wp2_with fail
  refine (HW.out _ (HV.out.keep H0.out.below)).mono ?_
  rintro e w3 ⟨v3, u, rfl, hrow, hu, b3⟩
  have H3 := Lib.hid (H0.out.step b3)
  have HRW := Lib.hid (hrow.set H3.out.res)
  have HU := Lib.hid (hu.setBox H3.out.res)
  clear hu
  obtain ⟨A3, c3, rfl, -, -⟩ := hrow
  obtain ⟨-, r0, rf⟩ := H3.out.res
  go_wp2_with fail
  obtain ⟨q0, hb⟩ := H3.out.out A3 l2.length c3
  exact bodyPost_ret (v := .tuple #[.agg #[.slice A3 l2.length c3], u]) (by simp [results, Tryd.results30, go_sem, q0]) rfl ⟨_, u, rfl, HRW.out _, HU.out _, hb⟩

/-! ### The reference -/
/-- What the reference's Find tells. -/
def findI (l : List ByteArray) (x : ByteArray) : Int := if foundB l x = true then (posOf l x : Int) else -1
set_option maxRecDepth 100000 in
set_option maxHeartbeats 1000000 in
theorem rfind_any (l : List ByteArray) (v : Value) (x : ByteArray) (w : World) (hv : RowAt w v l) (hr : Rises l) (hlen : l.length ≤ 1000) :
    Calls Tryd.prog 69 #[v, .string x] w fun e w' => e = .returned (.int .i64 (findI l x)) ∧ w = w' := by
  have HR1 : Hid (foundB l x = true → findI l x = posOf l x) := Lib.hid (fun h => by unfold findI; rw [if_pos h])
  have HR2 : Hid (foundB l x ≠ true → findI l x = -1) := Lib.hid (fun h => by unfold findI; rw [if_neg h])
  have HP : Hid (∀ i, i < l.length → (l.getD i ⟨#[]⟩ = x ↔ foundB l x = true ∧ i = posOf l x)) := by
    refine Lib.hid (fun i hi => ?_)
    have hg : l.getD i ⟨#[]⟩ = l[i] := by rw [List.getD_eq_getElem?_getD, List.getElem?_eq_getElem hi]; rfl
    rw [hg]
    constructor
    · intro e
      have hf : foundB l x = true := (found_iff hr x).2 (by rw [← e]; exact List.getElem_mem hi)
      refine ⟨hf, ?_⟩
      have h1 : ¬ i < posOf l x := fun h => by have := posOf_lt h hi; rw [e, ltB_irrefl] at this; cases this
      have h2 : ¬ posOf l x < i := fun h => by
        have h3 := List.pairwise_iff_getElem.1 hr (posOf l x) i (by omega) hi h
        rw [e, posOf_stop (by omega)] at h3
        cases h3
      omega
    · rintro ⟨hf, rfl⟩
      unfold foundB at hf
      rw [decide_eq_true_eq] at hf
      have := hf.2
      rw [List.getD_eq_getElem?_getD, List.getElem?_eq_getElem hi] at this
      exact this
  have HNF : Hid (foundB l x = true → posOf l x < l.length) := Lib.hid (fun hf => by unfold foundB at hf; rw [decide_eq_true_eq] at hf; exact hf.1)
  obtain ⟨A, c, rfl, -, hc⟩ := hv
  have HC := Lib.hid hc
  clear hc
  generalize findI l x = r at *
  generalize posOf l x = k at *
  generalize foundB l x = f at *
  go_enter Tryd.func69, Tryd.ntmps69
  go_wp2
  go_loop [9] (fun i => ∃ j : Nat, j ≤ l.length ∧ i = .int .i64 j ∧ ¬ (f = true ∧ k < j)) (fun i => l.length - (intOf i).toNat)
  case atStart => exact ⟨0, Nat.zero_le _, rfl, fun h => by omega⟩
  case round =>
    obtain ⟨j, hj, rfl, hno⟩ := hrel
    have HNO := Lib.hid hno
    clear hno
    by_cases hlt : j < l.length
    · obtain ⟨b, rfl, hb, hcell⟩ := HC.out j hlt
      have hiff := HP.out j hlt
      obtain ⟨y, hy⟩ : ∃ y, l.getD j ⟨#[]⟩ = y := ⟨_, rfl⟩
      rw [hy] at hcell hiff
      by_cases he : y = x
      · have HE := Lib.hid (hiff.1 he)
        subst he
        clear hiff hy
        go_wp2
        go_ret
        exact ⟨ret_u (by rw [HR1.out HE.out.1, HE.out.2]), rfl⟩
      · have HE : Hid (¬ (f = true ∧ j = k)) := Lib.hid (fun h => he (hiff.2 h))
        have hne := bytes_ne he
        clear hiff hy he
        go_wp2
        go_round
        case rel => exact ⟨j + 1, by omega, by go_num, fun h => by have := HNO.out; have := HE.out; simp only [h.1, true_and] at *; omega⟩
        case measure => simp [intOf]; omega
    · have HF : Hid (f ≠ true) := Lib.hid (fun h => by have := HNF.out h; have := HNO.out; simp only [h, true_and] at this; omega)
      go_wp2
      go_ret
      exact ⟨ret_u (HR2.out HF.out).symm, rfl⟩
end Go.Proofs.YtcnaffhdiodkhaaDoor
