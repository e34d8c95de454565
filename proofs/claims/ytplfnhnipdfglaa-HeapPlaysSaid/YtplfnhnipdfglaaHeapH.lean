/-
  The document's own answer for layer 8, by contract: one more in a list by rising costs, behind all that cost no more.
-/
import Derived.Test.YtplfnhnipdfglaaHeapG
import Derived.Deep.QuietTactic
import Derived.BigQuiet
import Derived.Deep.AppendSrc
namespace Go.Proofs.Ytplfnhnipdfglaa
open Go.RowKit Go.Extern.Stop Go.Stop Go.Extern

def itemCells (q : List (E ByteArray)) : List Value := q.flatMap fun e => [.int .u64 e.c, .string e.x]
theorem itemCells_nil : itemCells [] = [] := rfl
theorem itemCells_cons (e : E ByteArray) (q : List (E ByteArray)) : itemCells (e :: q) = .int .u64 e.c :: .string e.x :: itemCells q := rfl
theorem itemCells_append (p q : List (E ByteArray)) : itemCells (p ++ q) = itemCells p ++ itemCells q := by unfold itemCells; rw [List.flatMap_append]
theorem itemCells_length : ∀ q : List (E ByteArray), (itemCells q).length = q.length * 2
  | [] => rfl
  | e :: q => by rw [itemCells_cons]; simp only [List.length_cons, itemCells_length q]; omega
theorem itemCells_get : ∀ {q : List (E ByteArray)} {i : Nat} {e : E ByteArray}, q[i]? = some e → (itemCells q)[i * 2]? = some (.int .u64 e.c) ∧ (itemCells q)[i * 2 + 1]? = some (.string e.x)
  | [], _, _, h => by simp at h
  | a :: q, 0, e, h => by
    have : a = e := by simpa using h
    subst this
    exact ⟨rfl, rfl⟩
  | a :: q, i + 1, e, h => by
    obtain ⟨h1, h2⟩ := itemCells_get (q := q) (i := i) (e := e) (by simpa using h)
    rw [itemCells_cons, show (i + 1) * 2 = i * 2 + 1 + 1 by omega]
    exact ⟨h1, h2⟩
theorem itemCells_one (q : List (E ByteArray)) : ∀ u ∈ itemCells q, u.oneCell' = true := by
  intro u hu
  unfold itemCells at hu
  obtain ⟨e, -, he⟩ := List.mem_flatMap.1 hu
  simp only [List.mem_cons, List.not_mem_nil, or_false] at he
  rcases he with rfl | rfl <;> rfl
/-- Cells of a row of things from an address on. -/
def RowC (w : World) (b off : Nat) (q : List (E ByteArray)) : Prop := ∀ j u, (itemCells q)[j]? = some u → w.cell? ⟨b, off + j, none⟩ = some u
theorem RowC.take {w : World} {b off : Nat} {q : List (E ByteArray)} (h : RowC w b off q) (k : Nat) : RowC w b off (q.take k) := by
  intro j u hu
  refine h j u ?_
  rw [← List.take_append_drop k q, itemCells_append, List.getElem?_append_left (by have := (List.getElem?_eq_some_iff.1 hu).1; exact this)]
  exact hu
theorem RowC.drop {w : World} {b off : Nat} {q : List (E ByteArray)} (h : RowC w b off q) {k : Nat} (hk : k ≤ q.length) : RowC w b (off + k * 2) (q.drop k) := by
  intro j u hu
  have hl : (itemCells (q.take k)).length = k * 2 := by rw [itemCells_length, List.length_take]; omega
  have := h (k * 2 + j) u (by
    rw [← List.take_append_drop k q, itemCells_append, List.getElem?_append_right (by omega), hl, show k * 2 + j - k * 2 = j by omega]
    exact hu)
  rw [show off + k * 2 + j = off + (k * 2 + j) by omega]
  exact this
theorem RowC.step {w w' : World} {b off : Nat} {q : List (E ByteArray)} (h : RowC w b off q) (hb : w'.heap[b]? = w.heap[b]?) : RowC w' b off q :=
  fun j u hu => (World.cell?_of_block (w := w) (a := ⟨b, off + j, none⟩) hb).trans (h j u hu)
theorem RowC.add {w : World} {b off : Nat} {q : List (E ByteArray)} (h : RowC w b off q) : ∀ j u, (itemCells q)[j]? = some u → w.cell? ((⟨b, off, none⟩ : Addr).add j) = some u := by
  intro j u hu
  have e0 : (⟨b, off, none⟩ : Addr).add j = ⟨b, off + j, none⟩ := by unfold Addr.add; split <;> simp_all
  rw [e0]
  exact h j u hu
/-- A slice of things, in a block beyond B. -/
def ItemsAt (B : Nat) (w : World) (v : Value) (q : List (E ByteArray)) : Prop :=
  (v = .slice none 0 0 ∧ q = []) ∨ ∃ b off cap, v = .slice (some ⟨b, off, none⟩) q.length cap ∧ B < b ∧ b < w.heap.size ∧ q.length ≤ cap ∧ cap ≤ maxLen ∧ RowC w b off q
theorem ItemsAt.step {B : Nat} {w w' : World} {v : Value} {q : List (E ByteArray)} (h : ItemsAt B w v q) (hs : w.heap.size ≤ w'.heap.size) (hk : ∀ b, B < b → b < w.heap.size → w'.heap[b]? = w.heap[b]?) : ItemsAt B w' v q := by
  rcases h with h | ⟨b, off, cap, e, h1, h2, h3, h4, h5⟩
  · exact .inl h
  · exact .inr ⟨b, off, cap, e, h1, Nat.lt_of_lt_of_le h2 hs, h3, h4, h5.step (hk b h1 h2)⟩
theorem ItemsAt.own {B : Nat} {w : World} {base : Nat} {v : Value} {n : Nat} {q : List (E ByteArray)} (h : w.ownsRow base 32 2 v n (itemCells q)) (hB : B < base) (hn : n = q.length) (h0 : 0 < n) : ItemsAt B w v q := by
  subst hn
  have hc := h
  obtain ⟨h1, h2⟩ := h
  rcases h2 with ⟨rfl, h3⟩ | ⟨g, cap, cur, rfl, hg, hh, h3, h4, h5, h6⟩
  · omega
  · refine .inr ⟨g, 0, cap, rfl, by omega, (Array.getElem?_eq_some_iff.1 hh).1, h3, h4, fun j u hu => ?_⟩
    have := hc.cells (g := g) rfl j u hu
    have e0 : (⟨g, 0, none⟩ : Addr).add j = ⟨g, 0 + j, none⟩ := by unfold Addr.add; split <;> simp_all
    rwa [e0] at this
theorem infoItem : (Try.prog.info? 32).map (fun i => (i.zero, i.size, i.bytes)) = some (some (.agg #[.int .u64 0, .string ⟨#[]⟩]), 2, 24) := by kernel_rfl

def RPutPost (B : Nat) (q : List (E ByteArray)) (c t : Int) (s : ByteArray) (w : World) (e : Ending) (w' : World) : Prop :=
  ∃ v k, e = .returned v ∧ (∀ y ∈ q.take k, y.c ≤ c) ∧ (∀ y ∈ q.drop k, c < y.c) ∧ ItemsAt B w' v (q.take k ++ ⟨c, t, s⟩ :: q.drop k) ∧ Below w.heap.size w w'
def KRel (q : List (E ByteArray)) (c : Int) (w : World) (g : Nat) (v : Value) (wr : World) : Prop :=
  ∃ k : Nat, k ≤ q.length ∧ g = k ∧ v = .int .i64 k ∧ (∀ y ∈ q.drop k, c < y.c) ∧ wr.heap = w.heap ∧ Below w.heap.size w wr
theorem drewN_heap (w : World) (n : Nat) : (w.drewN n).heap = w.heap := by
  induction n with
  | zero => rfl
  | succ n ih => exact ih
set_option maxRecDepth 100000 in
set_option maxHeartbeats 4000000 in
theorem rput_some (B : Nat) (q : List (E ByteArray)) (b off cap : Nat) (c t : Int) (s : ByteArray) (w : World) (hs : Sorted q) (hB : B < w.heap.size) (h1 : b < w.heap.size) (h3 : q.length ≤ cap) (h4 : cap ≤ maxLen) (hr : RowC w b off q) (hl : q.length ≤ 1000) :
    Calls Try.prog 10 #[.slice (some ⟨b, off, none⟩) q.length cap, .agg #[.int .u64 c, .string s]] w (RPutPost B q c t s w) := by
  have hbn := below_new w (.cells #[.int .u64 c, .string s] 32)
  have HR := Lib.hid (hr.step (w' := w.alloc (.cells #[.int .u64 c, .string s] 32)) (hbn.block b h1))
  have HX : Hid ((w.alloc (.cells #[.int .u64 c, .string s] 32)).heap[w.heap.size]? = some (.cells #[.int .u64 c, .string s] 32 (0, 0))) := Lib.hid (heap_alloc_new w _)
  have HBN := Lib.hid hbn
  have HS := Lib.hid hs
  have H0 : Hid (KRel q c (w.alloc (.cells #[.int .u64 c, .string s] 32)) q.length (.int .i64 q.length) (w.alloc (.cells #[.int .u64 c, .string s] 32))) := Lib.hid ⟨q.length, Nat.le_refl _, rfl, rfl, by simp, rfl, Below.refl _ _⟩
  clear hr hbn hs
  unfold maxLen at h4
  obtain ⟨i0, hi, hz0, hz1, hz2⟩ := info_parts infoItem
  go_enter Try.func10, Try.ntmps10
  go_wp2_with fail
  generalize w.alloc (.cells #[.int .u64 c, .string s] 32) = w1 at *
  go_loopg [5] q.length (fun g u wr => KRel q c w1 g u wr)
  case atStart => exact H0.out
  case round =>
    obtain ⟨k, hk, hgk, rfl, hd, hh, hb⟩ := hrel
    have x0 : wr.cell? ⟨w.heap.size, 0, none⟩ = some (.int .u64 c) := by
      rw [World.cell?_of_block (w := w1) (a := ⟨w.heap.size, 0, none⟩) (by rw [hh]), Lib.cell_of_heap HX.out]; rfl
    have HD := Lib.hid hd
    have HH := Lib.hid hh
    have HB := Lib.hid hb
    clear hd hh hb
    by_cases h0 : 0 < k
    · have hkl : k - 1 < q.length := by omega
      obtain ⟨y, hy⟩ : ∃ y, q[k - 1]? = some y := ⟨_, List.getElem?_eq_getElem hkl⟩
      have f0 : wr.cell? ⟨b, off + (k - 1) * 2, none⟩ = some (.int .u64 y.c) := by
        rw [World.cell?_of_block (w := w1) (a := ⟨b, off + (k - 1) * 2, none⟩) (by rw [HH.out])]
        exact HR.out _ _ (itemCells_get hy).1
      have HY := Lib.hid hy
      clear hy
      have j0 : (0 : Int) ≤ (k : Int) - 1 := by omega
      have j1 : (k : Int) - 1 < q.length := by omega
      have j2 : ((k : Int) - 1).toNat = k - 1 := by omega
      by_cases hc : c < y.c
      · go_wp2_with fail
        go_quiet (fail)
        go_wp2_with fail
        go_roundg (k - 1)
        case measure => omega
        case rel =>
          refine ⟨k - 1, by omega, rfl, by congr 1; omega, fun z hz => ?_, (drewN_heap wr nq).trans HH.out, HB.out.trans ((below_drewN wr nq).mono HB.out.size)⟩
          rw [drop_next HY.out, show k - 1 + 1 = k by omega] at hz
          rcases List.mem_cons.1 hz with rfl | hz
          · exact hc
          · exact HD.out z hz
      · have hc' : decide (c < y.c) = false := decide_eq_false hc
        have HK1 : Hid (∀ y ∈ q.take k, y.c ≤ c) := Lib.hid (by
          intro z hz
          obtain ⟨i, hi⟩ := List.mem_iff_getElem?.1 hz
          have hik : i < k := by
            have := (List.getElem?_eq_some_iff.1 hi).1
            simp at this
            omega
          rw [List.getElem?_take_of_lt hik] at hi
          have := HS.out.le (by omega) hi HY.out
          omega)
        go_wp2_with fail
        go_quiet (fail)
        clear f0 hc hc' j0 j1 j2 HY
        have hw2 : (wr.drewN nq).heap = w1.heap := (drewN_heap wr nq).trans HH.out
        have hb2 : Below w1.heap.size w1 (wr.drewN nq) := HB.out.trans ((below_drewN wr nq).mono HB.out.size)
        have HW2 := Lib.hid hw2
        have HB2 := Lib.hid hb2
        clear hw2 hb2 x0 HB HH
        generalize wr.drewN nq = w2 at *
        have hr2 : RowC w2 b off q := HR.out.step (by rw [HW2.out])
        have HR2 := Lib.hid hr2
        have hsz := HB2.out.size
        go_wp2_with (at_builtin; refine wpList_append_own _ rfl _ _ 28 rfl w1.heap.size 32 i0 (.agg #[.int .u64 0, .string ⟨#[]⟩]) 2 24 Try.underlying28 hi hz0 hz1 hz2 rfl (by decide) _ _ _ rfl (World.ownsRow_nil w2 _ _ _) ⟨b, off, none⟩ k cap (itemCells (q.take k)) rfl ?_ ?_ ?_ ?_ ?_ ?_ ?_)
        · rw [itemCells_length, List.length_take]; omega
        · exact (HR2.out.take k).add
        · exact itemCells_one _
        · unfold maxLen; omega
        · omega
        · exact hsz
        intro v3 w3 hown3 hgrow3 _
        have hB3 : Below w1.heap.size w1 w3 := HB2.out.grown hgrow3 hsz (fun k' e => by cases e)
        try simp only [Nat.zero_add, List.nil_append] at hown3
        have hlx : w.heap.size < w1.heap.size := (Array.getElem?_eq_some_iff.1 HX.out).1
        have hx3 : w3.heap[w.heap.size]? = some (.cells #[.int .u64 c, .string s] 32 (0, 0)) := (hB3.block _ hlx).trans HX.out
        have x0 : w3.cell? ⟨w.heap.size, 0, none⟩ = some (.int .u64 c) := by rw [Lib.cell_of_heap hx3]; rfl
        have x1 : w3.cell? ⟨w.heap.size, 1, none⟩ = some (.string s) := by rw [Lib.cell_of_heap hx3]; rfl
        have HB3 := Lib.hid hB3
        have HO3 := Lib.hid hown3
        have HLX := Lib.hid hlx
        clear hown3 hgrow3 hB3 hx3 hr2 hlx
        have hsz3 := HB3.out.size
        go_wp2_with (at_builtin; refine wpList_append_own _ rfl _ _ 28 rfl w1.heap.size 32 i0 (.agg #[.int .u64 0, .string ⟨#[]⟩]) 2 24 Try.underlying28 hi hz0 hz1 hz2 rfl (by decide) _ _ _ rfl (HO3.out.alloc _) ⟨w3.heap.size, 0, none⟩ 1 1 (itemCells [⟨c, t, s⟩]) rfl rfl ?_ (itemCells_one _) ?_ ?_ ?_ ?_)
        · intro j u hu
          have e0 : (⟨w3.heap.size, 0, none⟩ : Addr).add j = ⟨w3.heap.size, j, none⟩ := by unfold Addr.add; split <;> simp_all
          rw [e0, Lib.cell_of_heap (heap_alloc_new w3 _), List.getElem?_toArray]
          exact hu
        · unfold maxLen; omega
        · omega
        · (try simp only [World.size_alloc]); omega
        intro v4 w4 hown4 hgrow4 _
        have hB4 : Below w1.heap.size w1 w4 := (HB3.out.alloc hsz3 _).grown hgrow4 (by simp; omega) (fun k' e => (HO3.out.lt k' e).1)
        rw [← itemCells_append] at hown4
        have HB4 := Lib.hid hB4
        have HO4 := Lib.hid hown4
        clear hown4 hgrow4 hB4 x0 x1 HO3 HB3 hsz3 HB2 HR2
        have hsz4 := HB4.out.size
        have hr4 : RowC w4 b off q := HR.out.step (HB4.out.block b (by have := HBN.out.size; omega))
        have HR4 := Lib.hid hr4
        clear hr4
        by_cases hkc : k = cap
        · subst hkc
          have hql : q.length = k := by omega
          go_wp2_with (at_builtin; refine wpList_append_own _ rfl _ _ 28 rfl w1.heap.size 32 i0 (.agg #[.int .u64 0, .string ⟨#[]⟩]) 2 24 Try.underlying28 hi hz0 hz1 hz2 rfl (by decide) _ _ _ rfl HO4.out ⟨b, off, none⟩ 0 0 [] rfl rfl (by intro j u hu; cases hu) (by intro u hu; cases hu) ?_ ?_ ?_ ?_)
          · unfold maxLen; omega
          · omega
          · omega
          intro v5 w5 hown5 hgrow5 _
          have hO5 : w5.ownsRow w1.heap.size 32 2 v5 (q.length + 1) (itemCells (q.take k ++ ⟨c, t, s⟩ :: q.drop k)) := by
            have e1 : k + 1 = q.length + 1 := by omega
            have e2 : itemCells (q.take k ++ [⟨c, t, s⟩]) = itemCells (q.take k ++ ⟨c, t, s⟩ :: q.drop k) := by
              rw [List.drop_eq_nil_of_le (by omega)]
            rw [← e1, ← e2]
            exact hown5
          have hB5 : Below w1.heap.size w1 w5 := HB4.out.grown hgrow5 hsz4 (fun k' e => (HO4.out.lt k' e).1)
          have HO5 := Lib.hid hO5
          have HB5 := Lib.hid hB5
          clear hown5 hgrow5 hO5 hB5
          go_wp2_with fail
          go_ret
          exact ⟨_, k, rfl, HK1.out, HD.out, ItemsAt.own HO5.out (by have := HLX.out; omega) (by simp; omega) (by omega), HBN.out.trans (HB5.out.mono HBN.out.size)⟩
        · have hkc' : ¬ (k : Int) = cap := by omega
          have hkl' : k < cap := by omega
          go_wp2_with (at_builtin; refine wpList_append_own _ rfl _ _ 28 rfl w1.heap.size 32 i0 (.agg #[.int .u64 0, .string ⟨#[]⟩]) 2 24 Try.underlying28 hi hz0 hz1 hz2 rfl (by decide) _ _ _ rfl HO4.out ⟨b, off + k * 2, none⟩ (q.length - k) (cap - k) (itemCells (q.drop k)) rfl (by rw [itemCells_length, List.length_drop]) (HR4.out.drop hk).add (itemCells_one _) ?_ ?_ ?_ ?_)
          · unfold maxLen; omega
          · omega
          · omega
          intro v5 w5 hown5 hgrow5 _
          have hO5 : w5.ownsRow w1.heap.size 32 2 v5 (q.length + 1) (itemCells (q.take k ++ ⟨c, t, s⟩ :: q.drop k)) := by
            have e1 : k + 1 + (q.length - k) = q.length + 1 := by omega
            have e2 : itemCells (q.take k ++ [⟨c, t, s⟩]) ++ itemCells (q.drop k) = itemCells (q.take k ++ ⟨c, t, s⟩ :: q.drop k) := by
              rw [← itemCells_append, List.append_assoc]; rfl
            rw [← e1, ← e2]
            exact hown5
          have hB5 : Below w1.heap.size w1 w5 := HB4.out.grown hgrow5 hsz4 (fun k' e => (HO4.out.lt k' e).1)
          have HO5 := Lib.hid hO5
          have HB5 := Lib.hid hB5
          clear hown5 hgrow5 hO5 hB5
          go_wp2_with fail
          go_ret
          exact ⟨_, k, rfl, HK1.out, HD.out, ItemsAt.own HO5.out (by have := HLX.out; omega) (by simp; omega) (by omega), HBN.out.trans (HB5.out.mono HBN.out.size)⟩
    · have hd0 : decide (0 < k) = false := decide_eq_false h0
      have HK1 : Hid (∀ y ∈ q.take k, y.c ≤ c) := Lib.hid (by
        rw [show k = 0 by omega]
        intro z hz
        cases hz)
      clear h0
      · go_wp2_with fail
        go_quiet (fail)
        clear hd0
        have hw2 : (wr.drewN nq).heap = w1.heap := (drewN_heap wr nq).trans HH.out
        have hb2 : Below w1.heap.size w1 (wr.drewN nq) := HB.out.trans ((below_drewN wr nq).mono HB.out.size)
        have HW2 := Lib.hid hw2
        have HB2 := Lib.hid hb2
        clear hw2 hb2 x0 HB HH
        generalize wr.drewN nq = w2 at *
        have hr2 : RowC w2 b off q := HR.out.step (by rw [HW2.out])
        have HR2 := Lib.hid hr2
        have hsz := HB2.out.size
        go_wp2_with (at_builtin; refine wpList_append_own _ rfl _ _ 28 rfl w1.heap.size 32 i0 (.agg #[.int .u64 0, .string ⟨#[]⟩]) 2 24 Try.underlying28 hi hz0 hz1 hz2 rfl (by decide) _ _ _ rfl (World.ownsRow_nil w2 _ _ _) ⟨b, off, none⟩ k cap (itemCells (q.take k)) rfl ?_ ?_ ?_ ?_ ?_ ?_ ?_)
        · rw [itemCells_length, List.length_take]; omega
        · exact (HR2.out.take k).add
        · exact itemCells_one _
        · unfold maxLen; omega
        · omega
        · exact hsz
        intro v3 w3 hown3 hgrow3 _
        have hB3 : Below w1.heap.size w1 w3 := HB2.out.grown hgrow3 hsz (fun k' e => by cases e)
        try simp only [Nat.zero_add, List.nil_append] at hown3
        have hlx : w.heap.size < w1.heap.size := (Array.getElem?_eq_some_iff.1 HX.out).1
        have hx3 : w3.heap[w.heap.size]? = some (.cells #[.int .u64 c, .string s] 32 (0, 0)) := (hB3.block _ hlx).trans HX.out
        have x0 : w3.cell? ⟨w.heap.size, 0, none⟩ = some (.int .u64 c) := by rw [Lib.cell_of_heap hx3]; rfl
        have x1 : w3.cell? ⟨w.heap.size, 1, none⟩ = some (.string s) := by rw [Lib.cell_of_heap hx3]; rfl
        have HB3 := Lib.hid hB3
        have HO3 := Lib.hid hown3
        have HLX := Lib.hid hlx
        clear hown3 hgrow3 hB3 hx3 hr2 hlx
        have hsz3 := HB3.out.size
        go_wp2_with (at_builtin; refine wpList_append_own _ rfl _ _ 28 rfl w1.heap.size 32 i0 (.agg #[.int .u64 0, .string ⟨#[]⟩]) 2 24 Try.underlying28 hi hz0 hz1 hz2 rfl (by decide) _ _ _ rfl (HO3.out.alloc _) ⟨w3.heap.size, 0, none⟩ 1 1 (itemCells [⟨c, t, s⟩]) rfl rfl ?_ (itemCells_one _) ?_ ?_ ?_ ?_)
        · intro j u hu
          have e0 : (⟨w3.heap.size, 0, none⟩ : Addr).add j = ⟨w3.heap.size, j, none⟩ := by unfold Addr.add; split <;> simp_all
          rw [e0, Lib.cell_of_heap (heap_alloc_new w3 _), List.getElem?_toArray]
          exact hu
        · unfold maxLen; omega
        · omega
        · (try simp only [World.size_alloc]); omega
        intro v4 w4 hown4 hgrow4 _
        have hB4 : Below w1.heap.size w1 w4 := (HB3.out.alloc hsz3 _).grown hgrow4 (by simp; omega) (fun k' e => (HO3.out.lt k' e).1)
        rw [← itemCells_append] at hown4
        have HB4 := Lib.hid hB4
        have HO4 := Lib.hid hown4
        clear hown4 hgrow4 hB4 x0 x1 HO3 HB3 hsz3 HB2 HR2
        have hsz4 := HB4.out.size
        have hr4 : RowC w4 b off q := HR.out.step (HB4.out.block b (by have := HBN.out.size; omega))
        have HR4 := Lib.hid hr4
        clear hr4
        by_cases hkc : k = cap
        · subst hkc
          have hql : q.length = k := by omega
          go_wp2_with (at_builtin; refine wpList_append_own _ rfl _ _ 28 rfl w1.heap.size 32 i0 (.agg #[.int .u64 0, .string ⟨#[]⟩]) 2 24 Try.underlying28 hi hz0 hz1 hz2 rfl (by decide) _ _ _ rfl HO4.out ⟨b, off, none⟩ 0 0 [] rfl rfl (by intro j u hu; cases hu) (by intro u hu; cases hu) ?_ ?_ ?_ ?_)
          · unfold maxLen; omega
          · omega
          · omega
          intro v5 w5 hown5 hgrow5 _
          have hO5 : w5.ownsRow w1.heap.size 32 2 v5 (q.length + 1) (itemCells (q.take k ++ ⟨c, t, s⟩ :: q.drop k)) := by
            have e1 : k + 1 = q.length + 1 := by omega
            have e2 : itemCells (q.take k ++ [⟨c, t, s⟩]) = itemCells (q.take k ++ ⟨c, t, s⟩ :: q.drop k) := by
              rw [List.drop_eq_nil_of_le (by omega)]
            rw [← e1, ← e2]
            exact hown5
          have hB5 : Below w1.heap.size w1 w5 := HB4.out.grown hgrow5 hsz4 (fun k' e => (HO4.out.lt k' e).1)
          have HO5 := Lib.hid hO5
          have HB5 := Lib.hid hB5
          clear hown5 hgrow5 hO5 hB5
          go_wp2_with fail
          go_ret
          exact ⟨_, k, rfl, HK1.out, HD.out, ItemsAt.own HO5.out (by have := HLX.out; omega) (by simp; omega) (by omega), HBN.out.trans (HB5.out.mono HBN.out.size)⟩
        · have hkc' : ¬ (k : Int) = cap := by omega
          have hkl' : k < cap := by omega
          go_wp2_with (at_builtin; refine wpList_append_own _ rfl _ _ 28 rfl w1.heap.size 32 i0 (.agg #[.int .u64 0, .string ⟨#[]⟩]) 2 24 Try.underlying28 hi hz0 hz1 hz2 rfl (by decide) _ _ _ rfl HO4.out ⟨b, off + k * 2, none⟩ (q.length - k) (cap - k) (itemCells (q.drop k)) rfl (by rw [itemCells_length, List.length_drop]) (HR4.out.drop hk).add (itemCells_one _) ?_ ?_ ?_ ?_)
          · unfold maxLen; omega
          · omega
          · omega
          intro v5 w5 hown5 hgrow5 _
          have hO5 : w5.ownsRow w1.heap.size 32 2 v5 (q.length + 1) (itemCells (q.take k ++ ⟨c, t, s⟩ :: q.drop k)) := by
            have e1 : k + 1 + (q.length - k) = q.length + 1 := by omega
            have e2 : itemCells (q.take k ++ [⟨c, t, s⟩]) ++ itemCells (q.drop k) = itemCells (q.take k ++ ⟨c, t, s⟩ :: q.drop k) := by
              rw [← itemCells_append, List.append_assoc]; rfl
            rw [← e1, ← e2]
            exact hown5
          have hB5 : Below w1.heap.size w1 w5 := HB4.out.grown hgrow5 hsz4 (fun k' e => (HO4.out.lt k' e).1)
          have HO5 := Lib.hid hO5
          have HB5 := Lib.hid hB5
          clear hown5 hgrow5 hO5 hB5
          go_wp2_with fail
          go_ret
          exact ⟨_, k, rfl, HK1.out, HD.out, ItemsAt.own HO5.out (by have := HLX.out; omega) (by simp; omega) (by omega), HBN.out.trans (HB5.out.mono HBN.out.size)⟩

theorem append_none (g n cap : Nat) (h : n ≤ cap) (w : World) : (Builtin.append_ #[28, 28] 28 #[.slice (some ⟨g, 0, none⟩) n cap, .slice none 0 0]).run Try.prog w = .ok (.slice (some ⟨g, 0, none⟩) n cap) w := by
  obtain ⟨i0, hi, hz0, hz1, hz2⟩ := info_parts infoItem
  have e := run_append_room_src (P := Try.prog) w 28 28 28 32 i0 Try.underlying28 hi g 0 n cap (.slice none 0 0) 0 [] (Src.ofNil w Try.underlying28 0) (by omega) (by intro j hj; cases hj) (by intro j hj; cases hj)
  simpa [World.setCells] using e

set_option maxRecDepth 100000 in
set_option maxHeartbeats 4000000 in
theorem rput_none (B : Nat) (c t : Int) (s : ByteArray) (w : World) (hB : B < w.heap.size) :
    Calls Try.prog 10 #[.slice none 0 0, .agg #[.int .u64 c, .string s]] w (RPutPost B [] c t s w) := by
  have hbn := below_new w (.cells #[.int .u64 c, .string s] 32)
  have HX : Hid ((w.alloc (.cells #[.int .u64 c, .string s] 32)).heap[w.heap.size]? = some (.cells #[.int .u64 c, .string s] 32 (0, 0))) := Lib.hid (heap_alloc_new w _)
  have HBN := Lib.hid hbn
  have H0 : Hid (KRel [] c (w.alloc (.cells #[.int .u64 c, .string s] 32)) 0 (.int .i64 0) (w.alloc (.cells #[.int .u64 c, .string s] 32))) := Lib.hid ⟨0, Nat.le_refl _, rfl, rfl, by simp, rfl, Below.refl _ _⟩
  clear hbn
  obtain ⟨i0, hi, hz0, hz1, hz2⟩ := info_parts infoItem
  go_enter Try.func10, Try.ntmps10
  go_wp2_with fail
  generalize w.alloc (.cells #[.int .u64 c, .string s] 32) = w1 at *
  go_loopg [5] 0 (fun g u wr => KRel [] c w1 g u wr)
  case atStart => exact H0.out
  case round =>
    obtain ⟨k, hk, hgk, rfl, hd, hh, hb⟩ := hrel
    obtain rfl : k = 0 := by simpa using hk
    have HH := Lib.hid hh
    have HB := Lib.hid hb
    clear hd hh hb
    have hd0 : decide ((0 : Int) < ((0 : Nat) : Int)) = false := by decide
    go_wp2_with fail
    go_quiet (fail)
    have hw2 : (wr.drewN nq).heap = w1.heap := (drewN_heap wr nq).trans HH.out
    have hb2 : Below w1.heap.size w1 (wr.drewN nq) := HB.out.trans ((below_drewN wr nq).mono HB.out.size)
    have HW2 := Lib.hid hw2
    have HB2 := Lib.hid hb2
    clear hw2 hb2 HB HH
    generalize wr.drewN nq = w2 at *
    have hsz := HB2.out.size
    have hlx : w.heap.size < w1.heap.size := (Array.getElem?_eq_some_iff.1 HX.out).1
    have hx3 : w2.heap[w.heap.size]? = some (.cells #[.int .u64 c, .string s] 32 (0, 0)) := (HB2.out.block _ hlx).trans HX.out
    have x0 : w2.cell? ⟨w.heap.size, 0, none⟩ = some (.int .u64 c) := by rw [Lib.cell_of_heap hx3]; rfl
    have x1 : w2.cell? ⟨w.heap.size, 1, none⟩ = some (.string s) := by rw [Lib.cell_of_heap hx3]; rfl
    have HLX := Lib.hid hlx
    clear hx3 hlx
    have hap := append_none
    go_wp2_with (at_builtin; refine wpList_append_own _ rfl _ _ 28 rfl w1.heap.size 32 i0 (.agg #[.int .u64 0, .string ⟨#[]⟩]) 2 24 Try.underlying28 hi hz0 hz1 hz2 rfl (by decide) _ _ _ rfl (World.ownsRow_nil (w2.alloc _) _ _ _) ⟨w2.heap.size, 0, none⟩ 1 1 (itemCells [⟨c, t, s⟩]) rfl rfl ?_ (itemCells_one _) ?_ ?_ ?_ ?_)
    · intro j u hu
      have e0 : (⟨w2.heap.size, 0, none⟩ : Addr).add j = ⟨w2.heap.size, j, none⟩ := by unfold Addr.add; split <;> simp_all
      rw [e0, Lib.cell_of_heap (heap_alloc_new w2 _), List.getElem?_toArray]
      exact hu
    · unfold maxLen; omega
    · omega
    · (try simp only [World.size_alloc]); omega
    intro v4 w4 hown4 hgrow4 _
    have hB4 : Below w1.heap.size w1 w4 := (HB2.out.alloc hsz _).grown hgrow4 (by simp; omega) (fun k' e => by cases e)
    try simp only [Nat.zero_add, List.nil_append] at hown4
    obtain ⟨g, cap, rfl, hg1⟩ : ∃ g cap, v4 = .slice (some ⟨g, 0, none⟩) 1 cap ∧ 1 ≤ cap := by
      rcases hown4.2 with ⟨_, h⟩ | ⟨g, cap, cur, h, _, _, h', _⟩
      · cases h
      · exact ⟨g, cap, h, h'⟩
    have HO4 := Lib.hid hown4
    have HB4 := Lib.hid hB4
    clear hown4 hgrow4 hB4 x0 x1 HB2 hap
    have hap := append_none g 1 cap hg1
    go_wp2_with fail
    go_ret
    exact ⟨_, 0, rfl, (fun y hy => by cases hy), (fun y hy => by cases hy), ItemsAt.own HO4.out (by have := HLX.out; omega) rfl (by decide), HBN.out.trans (HB4.out.mono HBN.out.size)⟩
end Go.Proofs.Ytplfnhnipdfglaa
