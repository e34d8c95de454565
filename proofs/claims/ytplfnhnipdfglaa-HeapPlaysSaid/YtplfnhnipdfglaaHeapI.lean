/-
  HeapPlays holds, by contract.
-/
import Derived.Test.YtplfnhnipdfglaaHeapH
namespace Go.Proofs.Ytplfnhnipdfglaa
open Go.RowKit Go.Extern.Stop Go.Stop Go.Extern

theorem rput_any (B : Nat) (q : List (E ByteArray)) (c t : Int) (x : ByteArray) (v : Value) (w : World) (hs : Sorted q) (hB : B < w.heap.size) (hl : q.length ≤ 1000) (h : ItemsAt B w v q) :
    Calls Try.prog 10 #[v, .agg #[.int .u64 c, .string x]] w (RPutPost B q c t x w) := by
  rcases h with ⟨rfl, rfl⟩ | ⟨b, off, cap, rfl, h1, h2, h3, h4, h5⟩
  · exact rput_none B c t x w hB
  · exact rput_some B q b off cap c t x w hs hB h2 h3 h4 h5 hl
theorem cut_le {q : List (E ByteArray)} {c : Int} {k k' : Nat} (h2 : ∀ y ∈ q.drop k, c < y.c) (h1' : ∀ y ∈ q.take k', y.c ≤ c) (hk : k < q.length) : k' ≤ k := by
  rcases Nat.lt_or_ge k k' with h | h
  · have m1 : q[k] ∈ q.drop k := by rw [List.drop_eq_getElem_cons hk]; exact List.mem_cons_self ..
    have m2 : q[k] ∈ q.take k' := by
      have e : (q.take k')[k]? = some q[k] := by rw [List.getElem?_take_of_lt h]; exact List.getElem?_eq_getElem hk
      exact List.mem_of_getElem? e
    have a1 := h2 _ m1
    have a2 := h1' _ m2
    omega
  · exact h
theorem cut_one {q : List (E ByteArray)} {c : Int} {k k' : Nat} (h1 : ∀ y ∈ q.take k, y.c ≤ c) (h2 : ∀ y ∈ q.drop k, c < y.c) (h1' : ∀ y ∈ q.take k', y.c ≤ c) (h2' : ∀ y ∈ q.drop k', c < y.c) (e : E ByteArray) :
    q.take k ++ e :: q.drop k = q.take k' ++ e :: q.drop k' := by
  by_cases hk : k < q.length
  · have a1 := cut_le h2 h1' hk
    have a2 := cut_le h2' h1 (by omega)
    have : k = k' := by omega
    rw [this]
  · by_cases hk' : k' < q.length
    · have a2 := cut_le h2' h1 hk'
      omega
    · rw [List.take_of_length_le (by omega), List.take_of_length_le (by omega), List.drop_eq_nil_of_le (by omega), List.drop_eq_nil_of_le (by omega)]
structure ActN where
  take : Bool
  c : Int
  x : ByteArray
/-- A slice of acts that came in. -/
def ActsAt (w : World) (v : Value) (l : List ActN) : Prop :=
  (∃ a cap, v = .slice a 0 cap ∧ l = []) ∨ ∃ b off cap, v = .slice (some ⟨b, off, none⟩) l.length cap ∧ b < w.heap.size ∧
    ∀ i a, l[i]? = some a → w.cell? ⟨b, off + i * 3, none⟩ = some (.bool a.take) ∧ w.cell? ⟨b, off + i * 3 + 1, none⟩ = some (.int .u64 a.c) ∧ w.cell? ⟨b, off + i * 3 + 2, none⟩ = some (.string a.x)
theorem ActsAt.form {w : World} {v : Value} {l : List ActN} (h : ActsAt w v l) : ∃ a cap, v = .slice a l.length cap := by
  rcases h with ⟨a, cap, rfl, rfl⟩ | ⟨b, off, cap, rfl, -⟩
  · exact ⟨a, cap, rfl⟩
  · exact ⟨_, cap, rfl⟩
theorem ActsAt.at {w w' : World} {a : Option Addr} {n cap : Nat} {l : List ActN} (h : ActsAt w (.slice a n cap) l) {i : Nat} {x : ActN} (hi : l[i]? = some x) (hb : Below w.heap.size w w') :
    ∃ b off, a = some ⟨b, off, none⟩ ∧ w'.cell? ⟨b, off + i * 3, none⟩ = some (.bool x.take) ∧ w'.cell? ⟨b, off + i * 3 + 1, none⟩ = some (.int .u64 x.c) ∧ w'.cell? ⟨b, off + i * 3 + 2, none⟩ = some (.string x.x) := by
  rcases h with ⟨a, cap, -, rfl⟩ | ⟨b, off, cap, e, hlt, hc⟩
  · simp at hi
  · injection e with e
    obtain ⟨h0, h1, h2⟩ := hc i x hi
    exact ⟨b, off, e, (hb.cell (p := ⟨b, off + i * 3, none⟩) hlt).trans h0, (hb.cell (p := ⟨b, off + i * 3 + 1, none⟩) hlt).trans h1, (hb.cell (p := ⟨b, off + i * 3 + 2, none⟩) hlt).trans h2⟩

def PlayR (w : World) (B N : Nat) (g : Nat) (v vq : Value) (wr : World) : Prop :=
  ∃ (i : Nat) (q : List (E ByteArray)) (n : Int), i ≤ N ∧ g = N - i ∧ v = .int .i64 i ∧ HpAt encS 50 27 B wr q n ∧ n ≤ i ∧ q.length ≤ i ∧ ItemsAt B wr vq q ∧ Below w.heap.size w wr

set_option maxRecDepth 100000 in
set_option maxHeartbeats 4000000 in
theorem heapPlays_some (l : List ActN) (v : Value) (w : World) (hv : ActsAt w v l) (hl : l.length ≤ 200) :
    Calls Try.prog 3 #[v] w fun e w' => e = .returned (.bool true) ∧ Below w.heap.size w w' := by
  obtain ⟨a, cap, rfl⟩ := hv.form
  have HV := Lib.hid hv
  have HA := Lib.hid (awake8_any w)
  clear hv
  go_enter Try.func3, Try.ntmps3
  go_wp2_with fail
  refine HA.out.mono ?_
  rintro e w1 ⟨rfl, b1⟩
  have H0 : Hid (PlayR w w1.heap.size l.length l.length (.int .i64 0) (.slice none 0 0) (w1.alloc (.cells #[.pointer none, .int .i64 0, .int .u64 0] 27))) := Lib.hid ⟨0, [], 0, Nat.zero_le _, by omega, rfl, heap_new w1 encS 50 27, Int.le_refl _, Nat.le_refl _, .inl ⟨rfl, rfl⟩, b1.alloc b1.size _⟩
  have HB := Lib.hid b1.size
  clear b1 HA
  go_wp2_with fail
  generalize w1.alloc (.cells #[.pointer none, .int .i64 0, .int .u64 0] 27) = w2 at *
  generalize w1.heap.size = B at *
  go_loopg [22, 4] l.length (fun g u x wr => PlayR w B l.length g u x wr)
  case atStart => exact H0.out
  case round =>
    obtain ⟨i, q, n, hi, hgi, rfl, hh, hn, hq, hit, hb⟩ := hrel
    by_cases hlt : i < l.length
    · obtain ⟨x, hx⟩ : ∃ x, l[i]? = some x := ⟨_, List.getElem?_eq_getElem hlt⟩
      obtain ⟨b, off, rfl, c0, c1, c2⟩ := HV.out.at hx hb
      have HBL := Lib.hid hb
      have HBlt := Lib.hid hh.lt
      clear hb
      have hb1 : Below wr.heap.size wr ((wr.alloc (.cells #[.bool x.take, .int .u64 x.c, .string x.x] 30)).alloc (.cells #[.int .u64 0, .string ⟨#[]⟩] 32)) := (below_new wr _).trans ((below_new _ _).mono (below_new wr _).size)
      cases q with
      | nil =>
        have HP := Lib.hid (peekS_none _ (hh.below hb1))
        have HI1 := Lib.hid (hh.below hb1)
        have HIT := Lib.hid hit
        have HB1 := Lib.hid hb1
        obtain ⟨aq, cq, rfl⟩ : ∃ aq cq, u4 = .slice aq 0 cq := by
          rcases hit with ⟨h, -⟩ | ⟨b', o', c', h, -⟩
          · exact ⟨_, _, h⟩
          · exact ⟨_, _, h⟩
        have ha1 : ((wr.alloc (.cells #[.bool x.take, .int .u64 x.c, .string x.x] 30)).alloc (.cells #[.int .u64 0, .string ⟨#[]⟩] 32)).heap[wr.heap.size]? = some (.cells #[.bool x.take, .int .u64 x.c, .string x.x] 30 (0, 0)) :=
          (heap_alloc_old _ _ (by simp)).trans (heap_alloc_new wr _)
        have hf1 : ((wr.alloc (.cells #[.bool x.take, .int .u64 x.c, .string x.x] 30)).alloc (.cells #[.int .u64 0, .string ⟨#[]⟩] 32)).heap[wr.heap.size + 1]? = some (.cells #[.int .u64 0, .string ⟨#[]⟩] 32 (0, 0)) := by
          have := heap_alloc_new (wr.alloc (.cells #[.bool x.take, .int .u64 x.c, .string x.x] 30)) (.cells #[.int .u64 0, .string ⟨#[]⟩] 32)
          rwa [World.size_alloc] at this
        have HA1 := Lib.hid ha1
        have HF1 := Lib.hid hf1
        clear hh hit hb1 ha1 hf1
        go_wp2_with fail
        refine HP.out.mono ?_
        rintro e w3 ⟨rfl, rfl⟩
        generalize (wr.alloc (.cells #[.bool x.take, .int .u64 x.c, .string x.x] 30)).alloc (.cells #[.int .u64 0, .string ⟨#[]⟩] 32) = w3 at *
        have HL := Lib.hid (lenS_any _ HI1.out)
        have f0 : w3.cell? ⟨wr.heap.size + 1, 0, none⟩ = some (.int .u64 0) := by rw [Lib.cell_of_heap HF1.out]; rfl
        have f1 : w3.cell? ⟨wr.heap.size + 1, 1, none⟩ = some (.string ⟨#[]⟩) := by rw [Lib.cell_of_heap HF1.out]; rfl
        have a0 : w3.cell? ⟨wr.heap.size, 0, none⟩ = some (.bool x.take) := by rw [Lib.cell_of_heap HA1.out]; rfl
        have a1 : w3.cell? ⟨wr.heap.size, 1, none⟩ = some (.int .u64 x.c) := by rw [Lib.cell_of_heap HA1.out]; rfl
        have a2 : w3.cell? ⟨wr.heap.size, 2, none⟩ = some (.string x.x) := by rw [Lib.cell_of_heap HA1.out]; rfl
        go_wp2_with fail
        refine HL.out.mono ?_
        rintro e w4 ⟨rfl, rfl⟩
        by_cases ht : x.take = true
        · rw [ht] at a0
          have HT := Lib.hid (takeS_none _ HI1.out)
          clear ht
          go_wp2_with fail
          refine HT.out.mono ?_
          rintro e w4 ⟨rfl, rfl⟩
          go_wp2_with fail
          go_roundg (l.length - (i + 1))
          case measure => omega
          case rel => exact ⟨i + 1, [], n, by omega, rfl, by go_num, HI1.out, by omega, by simp, HIT.out.step HB1.out.size (fun k _ h => HB1.out.block k h), HBL.out.trans (HB1.out.mono HBL.out.size)⟩
        · have ht' : x.take = false := by simpa using ht
          rw [ht'] at a0
          have HU := Lib.hid (putS_any x.c x.x 0 _ HI1.out (by omega) (by simp) (fun _ h => by cases h) (fun _ h => by cases h))
          clear ht ht'
          go_wp2_with fail
          refine HU.out.mono ?_
          rintro e w4 ⟨⟨v4, rfl⟩, h4, g4⟩
          have ha4 : w4.heap[wr.heap.size]? = some (.cells #[.bool x.take, .int .u64 x.c, .string x.x] 30 (0, 0)) := (g4.block _ (Array.getElem?_eq_some_iff.1 HA1.out).1 (fun e => by injection e with e; have := HBlt.out; omega)).trans HA1.out
          have d1 : w4.cell? ⟨wr.heap.size, 1, none⟩ = some (.int .u64 x.c) := by rw [Lib.cell_of_heap ha4]; rfl
          have d2 : w4.cell? ⟨wr.heap.size, 2, none⟩ = some (.string x.x) := by rw [Lib.cell_of_heap ha4]; rfl
          have hit4 : ItemsAt B w4 (.slice aq 0 cq) [] := (HIT.out.step HB1.out.size (fun k _ h => HB1.out.block k h)).step g4.size (fun k hk h => g4.block k h (fun e => by injection e with e; omega))
          have HR := Lib.hid (rput_any B [] x.c n x.x _ w4 List.Pairwise.nil h4.lt (by simp) hit4)
          have H4 := Lib.hid h4
          have B4 := Lib.hid (below_own (HBL.out.trans (HB1.out.mono HBL.out.size)) HB.out g4)
          clear h4 g4 hit4 ha4 a0 a1 a2 f0 f1
          go_wp2_with fail
          refine HR.out.mono ?_
          rintro e w5 ⟨v5, k, rfl, k1, k2, hit5, hb5⟩
          have HX : Hid (PlayR w B l.length (l.length - (i + 1)) (.int .i64 ((i : Int) + 1)) v5 w5) := Lib.hid (by
            refine ⟨i + 1, _, n + 1, by omega, rfl, by go_num, H4.out.below hb5, by omega, by simp, ?_, B4.out.trans (hb5.mono B4.out.size)⟩
            rw [← cut_one k1 k2 (fun _ h => by cases h) (fun _ h => by cases h)]
            exact hit5)
          clear k1 k2 hit5 hb5
          go_wp2_with fail
          go_roundg (l.length - (i + 1))
          case measure => omega
          case rel => exact HX.out
      | cons y q =>
        obtain ⟨b', o', cap', rfl, hbB, hbl, hcl, hcm, hrc⟩ : ∃ b' o' cap', u4 = .slice (some ⟨b', o', none⟩) (y :: q).length cap' ∧ B < b' ∧ b' < wr.heap.size ∧ (y :: q).length ≤ cap' ∧ cap' ≤ maxLen ∧ RowC wr b' o' (y :: q) := by
          rcases hit with ⟨-, h⟩ | h
          · cases h
          · exact h
        have g0 : wr.cell? ⟨b', o', none⟩ = some (.int .u64 y.c) := hrc 0 _ rfl
        have g1 : wr.cell? ⟨b', o' + 1, none⟩ = some (.string y.x) := hrc 1 _ rfl
        have HP := Lib.hid (peekS_some _ (hh.below ((below_new wr (.cells #[.bool x.take, .int .u64 x.c, .string x.x] 30)).trans ((below_new _ (.cells #[.int .u64 y.c, .string y.x] 32)).mono (below_new wr _).size))))
        have HRC := Lib.hid hrc
        simp only [List.length_cons] at hcl hq
        unfold maxLen at hcm
        have HH := Lib.hid hh
        have hbW : Below wr.heap.size wr ((wr.alloc (.cells #[.bool x.take, .int .u64 x.c, .string x.x] 30)).alloc (.cells #[.int .u64 y.c, .string y.x] 32)) := (below_new wr _).trans ((below_new _ _).mono (below_new wr _).size)
        have ha1 : ((wr.alloc (.cells #[.bool x.take, .int .u64 x.c, .string x.x] 30)).alloc (.cells #[.int .u64 y.c, .string y.x] 32)).heap[wr.heap.size]? = some (.cells #[.bool x.take, .int .u64 x.c, .string x.x] 30 (0, 0)) :=
          (heap_alloc_old _ _ (by simp)).trans (heap_alloc_new wr _)
        have hf1 : ((wr.alloc (.cells #[.bool x.take, .int .u64 x.c, .string x.x] 30)).alloc (.cells #[.int .u64 y.c, .string y.x] 32)).heap[wr.heap.size + 1]? = some (.cells #[.int .u64 y.c, .string y.x] 32 (0, 0)) := by
          have := heap_alloc_new (wr.alloc (.cells #[.bool x.take, .int .u64 x.c, .string x.x] 30)) (.cells #[.int .u64 y.c, .string y.x] 32)
          rwa [World.size_alloc] at this
        have HBW := Lib.hid hbW
        have HA0 := Lib.hid ha1
        have HF0 := Lib.hid hf1
        have HIT := Lib.hid hit
        clear hit hrc hb1 hh hbW ha1 hf1
        go_wp2_with fail
        refine HP.out.mono ?_
        rintro e w3 ⟨rfl, nd, rfl⟩
        have hb3 := HBW.out.trans ((below_drewN ((wr.alloc (.cells #[.bool x.take, .int .u64 x.c, .string x.x] 30)).alloc (.cells #[.int .u64 y.c, .string y.x] 32)) nd).mono HBW.out.size)
        have ha3 := (congrArg (fun h : Array Obj => h[wr.heap.size]?) (drewN_heap ((wr.alloc (.cells #[.bool x.take, .int .u64 x.c, .string x.x] 30)).alloc (.cells #[.int .u64 y.c, .string y.x] 32)) nd)).trans HA0.out
        have hf3 := (congrArg (fun h : Array Obj => h[wr.heap.size + 1]?) (drewN_heap ((wr.alloc (.cells #[.bool x.take, .int .u64 x.c, .string x.x] 30)).alloc (.cells #[.int .u64 y.c, .string y.x] 32)) nd)).trans HF0.out
        have HB1 := Lib.hid hb3
        have HA1 := Lib.hid ha3
        have HF1 := Lib.hid hf3
        clear hb3 ha3 hf3 HP HBW HA0 HF0 g0 g1
        generalize ((wr.alloc (.cells #[.bool x.take, .int .u64 x.c, .string x.x] 30)).alloc (.cells #[.int .u64 y.c, .string y.x] 32)).drewN nd = w3 at *
        have HI1 := Lib.hid (HH.out.below HB1.out)
        have HL := Lib.hid (lenS_any _ HI1.out)
        have f0 : w3.cell? ⟨wr.heap.size + 1, 0, none⟩ = some (.int .u64 y.c) := by rw [Lib.cell_of_heap HF1.out]; rfl
        have f1 : w3.cell? ⟨wr.heap.size + 1, 1, none⟩ = some (.string y.x) := by rw [Lib.cell_of_heap HF1.out]; rfl
        have a0 : w3.cell? ⟨wr.heap.size, 0, none⟩ = some (.bool x.take) := by rw [Lib.cell_of_heap HA1.out]; rfl
        have a1 : w3.cell? ⟨wr.heap.size, 1, none⟩ = some (.int .u64 x.c) := by rw [Lib.cell_of_heap HA1.out]; rfl
        have a2 : w3.cell? ⟨wr.heap.size, 2, none⟩ = some (.string x.x) := by rw [Lib.cell_of_heap HA1.out]; rfl
        go_wp2_with fail
        refine HL.out.mono ?_
        rintro e w4 ⟨rfl, rfl⟩
        by_cases ht : x.take = true
        · rw [ht] at a0
          have HT := Lib.hid (takeS_some _ HI1.out (by omega))
          clear ht
          go_wp2_with fail
          refine HT.out.mono ?_
          rintro e w4 ⟨rfl, ⟨n', hn', h4⟩, g4⟩
          have hf4 : w4.heap[wr.heap.size + 1]? = some (.cells #[.int .u64 y.c, .string y.x] 32 (0, 0)) := (g4.block _ (Array.getElem?_eq_some_iff.1 HF1.out).1 (fun e => by injection e with e; have := HBlt.out; omega)).trans HF1.out
          have d0 : w4.cell? ⟨wr.heap.size + 1, 0, none⟩ = some (.int .u64 y.c) := by rw [Lib.cell_of_heap hf4]; rfl
          have d1 : w4.cell? ⟨wr.heap.size + 1, 1, none⟩ = some (.string y.x) := by rw [Lib.cell_of_heap hf4]; rfl
          have hrc4 : RowC w4 b' o' (y :: q) := (HRC.out.step (HB1.out.block b' hbl)).step (g4.block b' (Nat.lt_of_lt_of_le hbl HB1.out.size) (fun e => by injection e with e; omega))
          have hs4 : b' < w4.heap.size := Nat.lt_of_lt_of_le hbl (Nat.le_trans HB1.out.size g4.size)
          have H4 := Lib.hid h4
          have HR4 := Lib.hid hrc4
          have B4 := Lib.hid (below_own (HBL.out.trans (HB1.out.mono HBL.out.size)) HB.out g4)
          clear h4 g4 hrc4 hf4 a0 a1 a2 f0 f1
          by_cases hc1 : cap' = 1
          · subst hc1
            go_wp2_with fail
            go_roundg (l.length - (i + 1))
            case measure => omega
            case rel =>
              obtain rfl : q = [] := List.eq_nil_of_length_eq_zero (by omega)
              exact ⟨i + 1, [], n', by omega, rfl, by go_num, H4.out, by omega, by simp, .inr ⟨b', o', 0, rfl, hbB, hs4, Nat.le_refl _, by unfold maxLen; omega, fun j u hj => by cases hj⟩, B4.out⟩
          · have hc2 : ¬ (1 : Int) = (cap' : Int) := by omega
            go_wp2_with fail
            go_roundg (l.length - (i + 1))
            case measure => omega
            case rel =>
              refine ⟨i + 1, q, n', by omega, rfl, by go_num, H4.out, by omega, by omega, .inr ⟨b', o' + 2, cap' - 1, rfl, hbB, hs4, by omega, by unfold maxLen; omega, ?_⟩, B4.out⟩
              exact HR4.out.drop (k := 1) (by simp)
        · have ht' : x.take = false := by simpa using ht
          rw [ht'] at a0
          obtain ⟨k, hk, k1, k2⟩ := Sorted.cut x.c (q := y :: q) (by obtain ⟨_, _, _, _, h, _⟩ := HI1.out; exact h.sorted)
          have HU := Lib.hid (putS_any x.c x.x k _ HI1.out (by omega) (by simp; omega) k1 k2)
          have HK1 := Lib.hid k1
          have HK2 := Lib.hid k2
          have HS : Hid (Sorted (y :: q)) := Lib.hid (by obtain ⟨_, _, _, _, h, _⟩ := HI1.out; exact h.sorted)
          clear ht ht' k1 k2 hk
          go_wp2_with fail
          refine HU.out.mono ?_
          rintro e w4 ⟨⟨v4, rfl⟩, h4, g4⟩
          have ha4 : w4.heap[wr.heap.size]? = some (.cells #[.bool x.take, .int .u64 x.c, .string x.x] 30 (0, 0)) := (g4.block _ (Array.getElem?_eq_some_iff.1 HA1.out).1 (fun e => by injection e with e; have := HBlt.out; omega)).trans HA1.out
          have d1 : w4.cell? ⟨wr.heap.size, 1, none⟩ = some (.int .u64 x.c) := by rw [Lib.cell_of_heap ha4]; rfl
          have d2 : w4.cell? ⟨wr.heap.size, 2, none⟩ = some (.string x.x) := by rw [Lib.cell_of_heap ha4]; rfl
          have hit4 : ItemsAt B w4 (.slice (some ⟨b', o', none⟩) (y :: q).length cap') (y :: q) := (HIT.out.step HB1.out.size (fun k _ h => HB1.out.block k h)).step g4.size (fun k hk h => g4.block k h (fun e => by injection e with e; omega))
          have HR := Lib.hid (rput_any B (y :: q) x.c n x.x _ w4 HS.out h4.lt (by simp; omega) hit4)
          have H4 := Lib.hid h4
          have B4 := Lib.hid (below_own (HBL.out.trans (HB1.out.mono HBL.out.size)) HB.out g4)
          clear h4 g4 hit4 ha4 a0 a1 a2 f0 f1
          go_wp2_with fail
          refine HR.out.mono ?_
          rintro e w5 ⟨v5, k', rfl, k1, k2, hit5, hb5⟩
          have HX : Hid (PlayR w B l.length (l.length - (i + 1)) (.int .i64 ((i : Int) + 1)) v5 w5) := Lib.hid (by
            refine ⟨i + 1, _, n + 1, by omega, rfl, by go_num, H4.out.below hb5, by omega, by simp; omega, ?_, B4.out.trans (hb5.mono B4.out.size)⟩
            rw [← cut_one k1 k2 HK1.out HK2.out]
            exact hit5)
          clear k1 k2 hit5 hb5
          go_wp2_with fail
          go_roundg (l.length - (i + 1))
          case measure => omega
          case rel => exact HX.out
    · obtain rfl : i = l.length := by omega
      have HL := Lib.hid (lenS_any _ hh)
      obtain ⟨aq, cq, rfl⟩ : ∃ aq cq, u4 = .slice aq q.length cq := by
        rcases hit with ⟨h, h'⟩ | ⟨b', o', c', h, -⟩
        · subst h'; exact ⟨_, _, h⟩
        · exact ⟨_, _, h⟩
      have HBL := Lib.hid hb
      clear hh hit hb
      go_wp2_with fail
      refine HL.out.mono ?_
      rintro e w4 ⟨rfl, rfl⟩
      go_wp2_with fail
      go_ret
      exact ⟨rfl, HBL.out⟩

set_option maxHeartbeats 400000 in
theorem heapPlays_many (l : List ActN) (v : Value) (w : World) (hv : ActsAt w v l) (hl : 200 < l.length) (hm : l.length ≤ maxLen) :
    Calls Try.prog 3 #[v] w fun e w' => e = .returned (.bool true) ∧ Below w.heap.size w w' := by
  unfold maxLen at hm
  obtain ⟨a, cap, rfl⟩ := hv.form
  have HA := Lib.hid (awake8_any w)
  clear hv
  go_enter Try.func3, Try.ntmps3
  go_wp2_with fail
  refine HA.out.mono ?_
  rintro e w1 ⟨rfl, b1⟩
  go_wp2_with fail
  go_ret
  exact ⟨rfl, b1⟩
theorem heapPlays_any (l : List ActN) (v : Value) (w : World) (hv : ActsAt w v l) (hm : l.length ≤ maxLen) :
    Calls Try.prog 3 #[v] w fun e w' => e = .returned (.bool true) ∧ Below w.heap.size w w' := by
  by_cases hl : l.length ≤ 200
  · exact heapPlays_some l v w hv hl
  · exact heapPlays_many l v w hv (by omega) hm
end Go.Proofs.Ytplfnhnipdfglaa
