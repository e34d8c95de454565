/-
  The library's slices under rows of names, by contracts: search, clone, insertion.
-/
import Derived.Test.YtcnaffhdiodkhaaDoorNamesA
import Derived.Test.YtcnaffhdiodkhaaDoorWords
import Derived.Test.YtcnaffhdiodkhaaDoorShelfN
import Derived.Test.YtcnaffhdiodkhaaDoorShelf
namespace Go.Proofs.YtcnaffhdiodkhaaDoor
open Go.RowKit Go.Extern.Stop Go.Stop Go.Extern

/-- A row of texts in memory, at the head of a block; nil, where it is empty. -/
def RowAt (w : World) (v : Value) (l : List ByteArray) : Prop :=
  ∃ A c, v = .slice A l.length c ∧ (l = [] → A = none ∧ c = 0) ∧ ∀ i, i < l.length → ∃ b, A = some ⟨b, 0, none⟩ ∧ b < w.heap.size ∧ w.cell? ⟨b, i, none⟩ = some (.string (l.getD i ⟨#[]⟩))
theorem RowAt.nil (w : World) : RowAt w (.slice none 0 0) [] := ⟨none, 0, rfl, fun _ => ⟨rfl, rfl⟩, fun i hi => absurd hi (by simp)⟩
theorem RowAt.keep {w w' : World} {v : Value} {l : List ByteArray} (h : RowAt w v l) (hb : Below w.heap.size w w') : RowAt w' v l := by
  obtain ⟨A, c, e, h0, hc⟩ := h
  exact ⟨A, c, e, h0, fun i hi => by
    obtain ⟨b, e, hlt, hcell⟩ := hc i hi
    exact ⟨b, e, Nat.lt_of_lt_of_le hlt hb.size, (hb.cell (p := ⟨b, i, none⟩) hlt).trans hcell⟩⟩
theorem RowAt.strs {w : World} {v : Value} {l : List ByteArray} (h : RowAt w v l) : StrsAt w v l := by
  obtain ⟨A, c, rfl, h0, hc⟩ := h
  cases l with
  | nil => exact .inl ⟨A, c, rfl, rfl⟩
  | cons x l =>
    obtain ⟨b, rfl, hlt, -⟩ := hc 0 (by simp)
    exact .inr ⟨b, 0, c, rfl, hlt, fun i hi => by
      obtain ⟨b', e, _, hcell⟩ := hc i hi
      obtain rfl : b = b' := by injection e with e; injection e
      rw [Nat.zero_add]
      exact hcell⟩
/-- A row's parts, where it is not empty. -/
theorem RowAt.some_ {w : World} {v : Value} {l : List ByteArray} (h : RowAt w v l) (hl : l ≠ []) : ∃ b c, v = .slice (some ⟨b, 0, none⟩) l.length c ∧ b < w.heap.size ∧ ∀ i, i < l.length → w.cell? ⟨b, i, none⟩ = some (.string (l.getD i ⟨#[]⟩)) := by
  obtain ⟨A, c, rfl, h0, hc⟩ := h
  obtain ⟨b, rfl, hlt, -⟩ := hc 0 (by cases l; exact absurd rfl hl; simp)
  exact ⟨b, c, rfl, hlt, fun i hi => by
    obtain ⟨b', e, _, hcell⟩ := hc i hi
    obtain rfl : b = b' := by injection e with e; injection e
    exact hcell⟩

/-! ### Search -/
theorem search_any (l : List ByteArray) (v : Value) (x : ByteArray) (w : World) (hv : RowAt w v l) (hr : Rises l) (hlen : l.length ≤ 1000) :
    Calls Tryd.prog 82 #[v, .string x] w fun e w' => e = .returned (.tuple #[.int .i64 (posOf l x), .bool (foundB l x)]) ∧ ∃ q, w' = w.drewN q := by
  by_cases hl : l = []
  · subst hl
    obtain ⟨A, c, rfl, -, -⟩ := hv
    refine (show Calls Tryd.prog 82 #[.slice A 0 c, .string x] w _ from Any2.slices_BinarySearch_string_empty Tryd.laySearch A c x w).mono ?_
    rintro e w' ⟨rfl, rfl⟩
    exact ⟨rfl, 0, rfl⟩
  · obtain ⟨b, c, rfl, hlt, hc⟩ := hv.some_ hl
    have hk : Lib.bsGo (fun t => Op.bytesLess (l.getD t x).toList x.toList) l.length 0 l.length = posOf l x := by
      refine Lib.bsGo_spec _ _ (fun t ht => ?_) (fun t ht => ?_) l.length 0 l.length (by omega) (Nat.zero_le _) (posOf_le l x)
      · have ht' : t < l.length := Nat.lt_of_lt_of_le ht (posOf_le l x)
        rw [List.getD_eq_getElem?_getD, List.getElem?_eq_getElem ht']
        exact posOf_lt ht ht'
      · by_cases ht' : t < l.length
        · rw [List.getD_eq_getElem?_getD, List.getElem?_eq_getElem ht']
          exact posOf_ge hr ht ht'
        · rw [List.getD_eq_getElem?_getD, List.getElem?_eq_none (by omega)]
          exact ltB_irrefl x
    have H := Any2.slices_BinarySearch_string Tryd.laySearch b 0 l.length c (fun t => l.getD t x) x w (by omega) (fun j hj => by
      rw [Nat.zero_add, hc j hj]
      simp [List.getD_eq_getElem?_getD, List.getElem?_eq_getElem hj])
    rw [hk] at H
    exact H

/-! ### Clone -/
/-- What Clone leaves: a row of the call's own. -/
def CloneOut (w : World) (l : List ByteArray) (e : Ending) (w' : World) : Prop :=
  ∃ v', e = .returned v' ∧ w'.ownsRow w.heap.size 9 1 v' l.length (WordsOf l) ∧ Below w.heap.size w w' ∧ (l = [] → v' = .slice none 0 0)
theorem clone_any (l : List ByteArray) (v : Value) (w : World) (hv : RowAt w v l) (hlen : l.length ≤ 1000) :
    Calls Tryd.prog 71 #[v] w (CloneOut w l) := by
  by_cases hl : l = []
  · subst hl
    obtain ⟨A, c, rfl, h0, -⟩ := hv
    obtain ⟨rfl, rfl⟩ := h0 rfl
    refine (Tryd.slices_Clone_string_nil 0 0 w).mono ?_
    rintro e w' ⟨rfl, rfl⟩
    exact ⟨_, rfl, World.ownsRow_nil _ _ _ _, Below.refl _ _, fun _ => rfl⟩
  · obtain ⟨b, c, rfl, hlt, hc⟩ := hv.some_ hl
    refine (Tryd.slices_Clone_string b 0 l.length c l w (Nat.le_refl _) (by omega) (fun j hj => by rw [Nat.zero_add]; exact hc j hj)).mono ?_
    rintro e w' ⟨v', rfl, hown, -, hb⟩
    rw [List.take_length] at hown
    exact ⟨v', rfl, hown, hb, fun h => absurd h hl⟩
theorem row_of_own {w : World} {base : Nat} {v : Value} {l : List ByteArray} (h : w.ownsRow base 9 1 v l.length (WordsOf l)) (h0 : l = [] → v = .slice none 0 0) : RowAt w v l := by
  by_cases hl : l = []
  · rw [h0 hl, hl]; exact RowAt.nil w
  · rcases strs_own h with ⟨a, c, rfl, e⟩ | ⟨b, o, c, rfl, hlt, hc⟩
    · exact absurd e hl
    · obtain ⟨-, hv⟩ := h
      rcases hv with ⟨hv, -⟩ | ⟨g, cap, cur, hv, -⟩
      · exact absurd hv (by simp)
      injection hv with hv _ _
      injection hv with hv
      injection hv with hb ho hs
      subst hb ho
      exact ⟨_, c, rfl, fun h => absurd h hl, fun i hi => ⟨b, rfl, hlt, by have := hc i hi; rwa [Nat.zero_add] at this⟩⟩

/-! ### Insertion -/
theorem below_cells {B : Nat} {a : World} (b : Nat) (hb : B ≤ b) : ∀ (vs : List Value) (o : Nat) (w : World), Below B a w → Below B a (w.setCells b o vs)
  | [], _, _, h => h
  | v :: vs, o, w, h => below_cells b hb vs (o + 1) _ (h.setCell (p := ⟨b, o, none⟩) hb v)
theorem size_cells (b : Nat) : ∀ (vs : List Value) (o : Nat) (w : World), (w.setCells b o vs).heap.size = w.heap.size
  | [], _, _ => rfl
  | v :: vs, o, w => (size_cells b vs (o + 1) _).trans (World.size_setCell _ _ _)

theorem insS_getD (l : List ByteArray) (x d : ByteArray) (i : Nat) : (insS l x).getD i d = if i < posOf l x then l.getD i d else if i = posOf l x then x else l.getD (i - 1) d := by
  have hk := posOf_le l x
  unfold insS
  simp only [List.getD_eq_getElem?_getD]
  by_cases h1 : i < posOf l x
  · rw [if_pos h1, List.getElem?_append_left (by simp; omega), List.getElem?_take_of_lt h1]
  · rw [if_neg h1, List.getElem?_append_right (by simp; omega)]
    have e : (l.take (posOf l x)).length = posOf l x := by simp; omega
    rw [e]
    by_cases h2 : i = posOf l x
    · rw [if_pos h2, h2]; simp
    · rw [if_neg h2]
      obtain ⟨j, rfl⟩ : ∃ j, i = posOf l x + 1 + j := ⟨i - posOf l x - 1, by omega⟩
      rw [show posOf l x + 1 + j - posOf l x = j + 1 by omega, List.getElem?_cons_succ, List.getElem?_drop]
      congr 2
      omega

/-- A block's cells, as they lie. -/
theorem cell_of_block {w : World} {g : Nat} {cur : Array Value} {t : TypeId} (h : w.heap[g]? = some (.cells cur t (0, 0))) (i : Nat) : w.cell? ⟨g, i, none⟩ = cur[i]? := by
  simp [World.cell?, h]
theorem frozen_of_block {w : World} {g : Nat} {cur : Array Value} {t : TypeId} (h : w.heap[g]? = some (.cells cur t (0, 0))) (i : Nat) : w.frozen? ⟨g, i, none⟩ = false := by
  simp [World.frozen?, h]

/-- What Insert leaves. -/
def InsertOut (w0 : World) (base : Nat) (l : List ByteArray) (x : ByteArray) (e : Ending) (w' : World) : Prop :=
  ∃ v', e = .returned v' ∧ RowAt w' v' (insS l x) ∧ Below base w0 w'

theorem wordsOf_get (l : List ByteArray) (i : Nat) (hi : i < l.length) : (WordsOf l)[i]? = some (.string (l.getD i ⟨#[]⟩)) := by
  simp [WordsOf, List.getD_eq_getElem?_getD, List.getElem?_eq_getElem hi]
theorem wordsOf_one (l : List ByteArray) : ∀ v ∈ WordsOf l, v.oneCell' = true := by
  intro v hv
  obtain ⟨s, _, rfl⟩ := List.mem_map.1 hv
  rfl

/-- The cells of a row with one more, put together. -/
def insCells (l : List ByteArray) (x : ByteArray) : List Value := WordsOf (insS l x)
theorem insCells_get (l : List ByteArray) (x : ByteArray) (i : Nat) (hi : i < l.length + 1) : (insCells l x)[i]? = some (.string ((insS l x).getD i ⟨#[]⟩)) := wordsOf_get _ _ (by rw [insS_length]; exact hi)

theorem rowAt_mk {w : World} {g cap : Nat} {l : List ByteArray} {x : ByteArray} (hg : g < w.heap.size) (hc : ∀ i, i < l.length + 1 → w.cell? ⟨g, i, none⟩ = some (.string (if i < posOf l x then l.getD i ⟨#[]⟩ else if i = posOf l x then x else l.getD (i - 1) ⟨#[]⟩))) :
    RowAt w (.slice (some ⟨g, 0, none⟩) (l.length + 1) cap) (insS l x) := by
  refine ⟨_, cap, by rw [insS_length], fun h => ?_, fun i hi => ⟨g, rfl, hg, ?_⟩⟩
  · have := insS_length l x; rw [h] at this; simp at this
  · rw [insS_getD]; exact hc i (by rw [insS_length] at hi; exact hi)

theorem words_drop (l : List ByteArray) (k j : Nat) (h : k + j < l.length) : ((WordsOf l).drop k)[j]? = some (.string (l.getD (k + j) ⟨#[]⟩)) := by
  rw [List.getElem?_drop]; exact wordsOf_get l _ h

set_option maxHeartbeats 1000000 in
theorem insert_any (l : List ByteArray) (v : Value) (x : ByteArray) (base : Nat) (w0 : World) (T : TypeId) (hown : w0.ownsRow base 9 1 v l.length (WordsOf l)) (h0 : l = [] → v = .slice none 0 0) (hbase : base ≤ w0.heap.size) (hlen : l.length ≤ 1000) :
    Calls Tryd.prog 83 #[v, .int .i64 (posOf l x), .slice (some ⟨w0.heap.size, 0, none⟩) 1 1] (w0.alloc (.cells #[.string x] T)) (InsertOut w0 base l x) := by
  have hk := posOf_le l x
  have hvs : ∀ j u, [Value.string x][j]? = some u → (w0.alloc (.cells #[.string x] T)).cell? ⟨w0.heap.size, 0 + j, none⟩ = some u := by
    intro j u hj
    match j, hj with
    | 0, hj => simp at hj; subst hj; simp
  have h1v : ∀ u ∈ [Value.string x], u.oneCell' = true := by simp [Value.oneCell']
  have hB := (Below.refl base w0).alloc hbase (.cells #[.string x] T)
  have hsz : (w0.alloc (.cells #[.string x] T)).heap.size = w0.heap.size + 1 := by simp
  have hnv : (w0.alloc (.cells #[.string x] T)).heap[w0.heap.size]? = some (.cells #[.string x] T (0, 0)) := Go.heap_alloc_new w0 _
  have hgl : ∀ (g : Nat) (cur : Array Value), w0.heap[g]? = some (Obj.cells cur 9 (0, 0)) → (w0.alloc (Obj.cells #[.string x] T)).heap[g]? = some (Obj.cells cur 9 (0, 0)) := fun g cur h =>
    (Below.heap_alloc w0 (Obj.cells #[.string x] T) g (Array.getElem?_eq_some_iff.1 h).1).trans h
  obtain ⟨w, hw⟩ : ∃ w, w = w0.alloc (Obj.cells #[.string x] T) := ⟨_, rfl⟩
  rw [← hw] at hvs hB hsz hnv hgl ⊢
  have hcl : (WordsOf l).length = l.length := by simp [WordsOf]
  rcases hown with ⟨hlw, ⟨rfl, hn⟩ | ⟨g, cap, cur, rfl, hg, hh, hnc, hcm, hcs, htk⟩⟩
  · have hl : l = [] := List.eq_nil_of_length_eq_zero hn
    subst hl
    refine (show Calls Tryd.prog 83 #[.slice none 0 0, .int .i64 ((0 : Nat) : Int), .slice (some ⟨w0.heap.size, 0, none⟩) 1 1] _ _ from
      Any2.slices_Insert_string_end_grow Tryd.layInsert none 0 0 w0.heap.size 0 1 1 [] [.string x] _ (by omega) (by omega) (by omega) (by omega) rfl rfl (fun _ => rfl) (fun a h => by cases h) hvs h1v).mono ?_
    rintro e w' ⟨rfl, rfl⟩
    refine ⟨_, rfl, rowAt_mk (l := []) (g := w.heap.size) (by rw [World.size_alloc]; exact Nat.lt_succ_self _) (fun i hi => ?_), (hB.drew).alloc (by show base ≤ w.heap.size; omega) _⟩
    have hi0 : i = 0 := by have : ([] : List ByteArray).length = 0 := rfl; omega
    subst hi0
    have hnew := Go.heap_alloc_new w.drew (.cells (([] ++ [Value.string x]).toArray ++ Builtin.zeroCells (Value.string ⟨#[]⟩).cells (grownCap w (0 + 1) 0 (Tryd.layInsert_ren.t 9) - (0 + 1))) (Tryd.layInsert_ren.t 9))
    have := cell_of_block hnew 0
    refine this.trans ?_
    rw [Array.getElem?_append_left (by simp)]
    simp [posOf]
  · have hg0 := hgl g cur hh
    have hglt : g < w0.heap.size := (Array.getElem?_eq_some_iff.1 hh).1
    have hgne : w0.heap.size ≠ g := by omega
    rw [Nat.mul_one] at hcs htk
    have hcur : ∀ j u, (WordsOf l)[j]? = some u → w.cell? ⟨g, 0 + j, none⟩ = some u := by
      intro j u hj
      rw [Nat.zero_add, cell_of_block hg0]
      rw [← htk] at hj
      have hjl : j < l.length := by
        rcases Nat.lt_or_ge j l.length with h | h
        · exact h
        · rw [List.getElem?_eq_none (by simp; omega)] at hj; cases hj
      rw [List.getElem?_take_of_lt hjl] at hj
      simpa using hj
    have hget : ∀ i, i < l.length → w.cell? ⟨g, i, none⟩ = some (.string (l.getD i ⟨#[]⟩)) := fun i hi => by
      have := hcur i _ (wordsOf_get l i hi); rwa [Nat.zero_add] at this
    have hsome : ∀ i, i < cap → (w.cell? ⟨g, i, none⟩).isSome = true := fun i hi => by
      rw [cell_of_block hg0, Array.getElem?_eq_getElem (by omega)]; rfl
    have hsome0 : ∀ i, i < cap → (w.cell? ⟨g, 0 + i, none⟩).isSome = true := fun i hi => by rw [Nat.zero_add]; exact hsome i hi
    have hgw : g < w.heap.size := by omega
    have hbw : base ≤ w.heap.size := by omega
    unfold maxLen at hcm
    by_cases hroom : l.length + 1 ≤ cap
    · by_cases hkn : posOf l x < l.length
      · refine (show Calls Tryd.prog 83 #[.slice (some ⟨g, 0, none⟩) l.length cap, .int .i64 (posOf l x), .slice (some ⟨w0.heap.size, 0, none⟩) 1 1] _ _ from
          Any2.slices_Insert_string_shift Tryd.layInsert g 0 l.length cap (posOf l x) w0.heap.size 0 1 1 (WordsOf l) [.string x] w hkn (by omega) hroom (by omega) hgne hcl rfl hcur
            (fun j hj => hsome0 j (by omega)) (fun j _ => frozen_of_block hg0 _) hvs (wordsOf_one l) h1v T 9 1 cap (by simp [World.shape?, hnv]) (by simp [World.shape?, hg0, hcs]) (by omega) (frozen_of_block hnv _) (frozen_of_block hnv _)).mono ?_
        rintro e w' ⟨rfl, rfl⟩
        refine ⟨_, rfl, rowAt_mk (by rw [size_cells, size_cells]; exact hgw) (fun i hi => ?_), below_cells g hg _ _ _ (below_cells g hg _ _ _ hB.drew)⟩
        have hdl : ((WordsOf l).drop (posOf l x)).length = l.length - posOf l x := by rw [List.length_drop, hcl]
        have hS : ∀ j, j < cap → (((w.drew).setCells g (0 + (posOf l x + 1)) ((WordsOf l).drop (posOf l x))).cell? ⟨g, j, none⟩).isSome = true := fun j hj =>
          isSome_setCells g _ _ _ (fun j' hj' => by show (w.cell? _).isSome = true; rw [Nat.zero_add]; exact hsome _ (by omega)) j (hsome j hj)
        by_cases h1 : i < posOf l x
        · rw [if_pos h1, World.cell?_setCells_out g _ _ _ ⟨g, i, none⟩ (fun _ _ => .inl (by show i < 0 + posOf l x; omega)), World.cell?_setCells_out g _ _ _ ⟨g, i, none⟩ (fun _ _ => .inl (by show i < 0 + (posOf l x + 1); omega))]
          exact hget i (by omega)
        · rw [if_neg h1]
          by_cases h2 : i = posOf l x
          · rw [if_pos h2]
            have := World.cell?_setCells_in g [Value.string x] (0 + posOf l x) ((w.drew).setCells g (0 + (posOf l x + 1)) ((WordsOf l).drop (posOf l x))) (fun j hj => hS _ (by simp at hj; omega)) 0 (by simp)
            rw [Nat.add_zero] at this
            rw [h2, show (⟨g, posOf l x, none⟩ : Addr) = ⟨g, 0 + posOf l x, none⟩ by rw [Nat.zero_add]]
            exact this
          · rw [if_neg h2, World.cell?_setCells_out g _ _ _ ⟨g, i, none⟩ (fun _ _ => .inr (by show 0 + posOf l x + 1 ≤ i; omega))]
            have := World.cell?_setCells_in g ((WordsOf l).drop (posOf l x)) (0 + (posOf l x + 1)) w.drew (fun j hj => by show (w.cell? _).isSome = true; rw [Nat.zero_add]; exact hsome _ (by omega)) (i - (posOf l x + 1)) (by omega)
            rw [show 0 + (posOf l x + 1) + (i - (posOf l x + 1)) = i by omega] at this
            rw [this]
            have h3 := words_drop l (posOf l x) (i - (posOf l x + 1)) (by omega)
            rw [List.getElem?_eq_getElem (by omega)] at h3
            rw [Option.some.inj h3, show posOf l x + (i - (posOf l x + 1)) = i - 1 by omega]
      · have hke : posOf l x = l.length := by omega
        rw [hke]
        refine (show Calls Tryd.prog 83 #[.slice (some ⟨g, 0, none⟩) l.length cap, .int .i64 (l.length), .slice (some ⟨w0.heap.size, 0, none⟩) 1 1] _ _ from
          Any2.slices_Insert_string_end_room Tryd.layInsert g 0 l.length cap w0.heap.size 0 1 1 [.string x] w (by omega) hroom (by omega) rfl
            (fun j hj => by rw [Nat.zero_add]; exact hsome _ (by omega)) (fun j _ => frozen_of_block hg0 _) hvs h1v).mono ?_
        rintro e w' ⟨rfl, rfl⟩
        refine ⟨_, rfl, rowAt_mk (by rw [size_cells]; exact hgw) (fun i hi => ?_), below_cells g hg _ _ _ hB⟩
        rw [hke]
        by_cases h1 : i < l.length
        · rw [if_pos h1, World.cell?_setCells_out g _ _ _ ⟨g, i, none⟩ (fun _ _ => .inl (by show i < 0 + l.length; omega))]
          exact hget i h1
        · have h2 : i = l.length := by omega
          rw [if_neg h1, if_pos h2]
          have := World.cell?_setCells_in g [Value.string x] (0 + l.length) w (fun j hj => by rw [Nat.zero_add]; exact hsome _ (by simp at hj; omega)) 0 (by simp)
          rw [Nat.add_zero] at this
          rw [h2, show (⟨g, l.length, none⟩ : Addr) = ⟨g, 0 + l.length, none⟩ by rw [Nat.zero_add]]
          exact this
    · by_cases hkn : posOf l x < l.length
      · refine (show Calls Tryd.prog 83 #[.slice (some ⟨g, 0, none⟩) l.length cap, .int .i64 (posOf l x), .slice (some ⟨w0.heap.size, 0, none⟩) 1 1] _ _ from
          Any2.slices_Insert_string_grow Tryd.layInsert g 0 l.length cap (posOf l x) w0.heap.size 0 1 1 (WordsOf l) [.string x] w hkn (by omega) hnc (by omega) (by omega) hcl rfl hcur hvs (wordsOf_one l) h1v).mono ?_
        rintro e w' ⟨rfl, rfl⟩
        generalize grownCap w (l.length + 1) cap (Tryd.layInsert_ren.t 9) = C
        obtain ⟨arr, harr⟩ : ∃ arr, arr = ((WordsOf l).take (posOf l x)).toArray ++ Builtin.zeroCells (Value.string ⟨#[]⟩).cells (l.length + 1 - posOf l x) ++ Builtin.zeroCells (Value.string ⟨#[]⟩).cells (C - (l.length + 1)) := ⟨_, rfl⟩
        rw [← harr]
        have hnew : (w.alloc (Obj.cells arr (Tryd.layInsert_ren.t 9))).heap[w.heap.size]? = some (Obj.cells arr (Tryd.layInsert_ren.t 9) (0, 0)) := Go.heap_alloc_new w _
        have hasz : l.length + 1 ≤ arr.size := by rw [harr]; simp [hcl, size_zeroCells, Value.cells]; omega
        have hS : ∀ i, i < l.length + 1 → ((w.alloc (Obj.cells arr (Tryd.layInsert_ren.t 9))).cell? ⟨w.heap.size, i, none⟩).isSome = true := fun i hi => by
          rw [cell_of_block hnew, Array.getElem?_eq_getElem (by omega)]; rfl
        have hdl : ((WordsOf l).drop (posOf l x)).length = l.length - posOf l x := by rw [List.length_drop, hcl]
        obtain ⟨wa, hwa⟩ : ∃ wa, wa = (w.alloc (Obj.cells arr (Tryd.layInsert_ren.t 9))).drew := ⟨_, rfl⟩
        have hSa : ∀ i, i < l.length + 1 → (wa.cell? ⟨w.heap.size, i, none⟩).isSome = true := fun i hi => by rw [hwa]; exact hS i hi
        have hwas : wa.heap.size = w.heap.size + 1 := by rw [hwa]; simp [World.drew]
        have hBa : Below base w0 wa := by rw [hwa]; exact (hB.alloc hbw _).drew
        have hfirst : ∀ i, i < posOf l x → wa.cell? ⟨w.heap.size, i, none⟩ = some (.string (l.getD i ⟨#[]⟩)) := fun i hi => by
          rw [hwa]
          refine (cell_of_block hnew i).trans ?_
          rw [harr, Array.append_assoc, Array.getElem?_append_left (by simp [hcl]; omega)]
          simp only [List.getElem?_toArray]
          rw [List.getElem?_take_of_lt hi]
          exact wordsOf_get l i (by omega)
        rw [← hwa]
        have hSb : ∀ i, i < l.length + 1 → ((wa.setCells w.heap.size (posOf l x) [Value.string x]).cell? ⟨w.heap.size, i, none⟩).isSome = true := fun i hi =>
          isSome_setCells w.heap.size _ _ _ (fun j' hj' => hSa _ (by simp at hj'; omega)) i (hSa i hi)
        refine ⟨_, rfl, rowAt_mk (by rw [size_cells]; show w.heap.size < (wa.setCells w.heap.size (posOf l x) [Value.string x]).heap.size; rw [size_cells]; omega) (fun i hi => ?_), below_cells w.heap.size hbw _ _ _ (below_cells w.heap.size hbw _ _ _ hBa).drew⟩
        by_cases h1 : i < posOf l x
        · rw [if_pos h1, World.cell?_setCells_out w.heap.size _ _ _ ⟨w.heap.size, i, none⟩ (fun _ _ => .inl (by show i < posOf l x + 1; omega))]
          show (wa.setCells w.heap.size (posOf l x) [Value.string x]).cell? _ = _
          rw [World.cell?_setCells_out w.heap.size _ _ _ ⟨w.heap.size, i, none⟩ (fun _ _ => .inl h1)]
          exact hfirst i h1
        · rw [if_neg h1]
          by_cases h2 : i = posOf l x
          · rw [if_pos h2, World.cell?_setCells_out w.heap.size _ _ _ ⟨w.heap.size, i, none⟩ (fun _ _ => .inl (by show i < posOf l x + 1; omega))]
            show (wa.setCells w.heap.size (posOf l x) [Value.string x]).cell? _ = _
            have := World.cell?_setCells_in w.heap.size [Value.string x] (posOf l x) wa (fun j hj => hSa _ (by simp at hj; omega)) 0 (by simp)
            rw [Nat.add_zero] at this
            rw [h2]
            exact this
          · rw [if_neg h2]
            have := World.cell?_setCells_in w.heap.size ((WordsOf l).drop (posOf l x)) (posOf l x + 1) (wa.setCells w.heap.size (posOf l x) [Value.string x]).drew (fun j hj => by
              show ((wa.setCells w.heap.size (posOf l x) [Value.string x]).cell? _).isSome = true
              exact hSb _ (by omega)) (i - (posOf l x + 1)) (by omega)
            rw [show posOf l x + 1 + (i - (posOf l x + 1)) = i by omega] at this
            rw [this]
            have h3 := words_drop l (posOf l x) (i - (posOf l x + 1)) (by omega)
            rw [List.getElem?_eq_getElem (by omega)] at h3
            rw [Option.some.inj h3, show posOf l x + (i - (posOf l x + 1)) = i - 1 by omega]
      · have hke : posOf l x = l.length := by omega
        rw [hke]
        refine (show Calls Tryd.prog 83 #[.slice (some ⟨g, 0, none⟩) l.length cap, .int .i64 (l.length), .slice (some ⟨w0.heap.size, 0, none⟩) 1 1] _ _ from
          Any2.slices_Insert_string_end_grow Tryd.layInsert (some ⟨g, 0, none⟩) l.length cap w0.heap.size 0 1 1 (WordsOf l) [.string x] w (by omega) hnc (by omega) (by omega) hcl rfl (fun h => by cases h)
            (fun a ha j u hj => by injection ha with ha; subst ha; rw [Addr.add_lit]; exact hcur j u hj) hvs h1v).mono ?_
        rintro e w' ⟨rfl, rfl⟩
        generalize grownCap w (l.length + 1) cap (Tryd.layInsert_ren.t 9) = C
        refine ⟨_, rfl, rowAt_mk (by simp) (fun i hi => ?_), (hB.drew).alloc (by show base ≤ w.heap.size; omega) _⟩
        have hnew := Go.heap_alloc_new w.drew (Obj.cells ((WordsOf l ++ [Value.string x]).toArray ++ Builtin.zeroCells (Value.string ⟨#[]⟩).cells (C - (l.length + 1))) (Tryd.layInsert_ren.t 9))
        refine (cell_of_block hnew i).trans ?_
        rw [hke, Array.getElem?_append_left (by simp [hcl]; omega)]
        by_cases h1 : i < l.length
        · rw [if_pos h1]
          simp only [List.getElem?_toArray]
          rw [List.getElem?_append_left (by omega)]
          exact wordsOf_get l i h1
        · have h2 : i = l.length := by omega
          rw [if_neg h1, if_pos h2, h2]
          simp only [List.getElem?_toArray]
          rw [List.getElem?_append_right (by omega), hcl]
          simp
end Go.Proofs.YtcnaffhdiodkhaaDoor
