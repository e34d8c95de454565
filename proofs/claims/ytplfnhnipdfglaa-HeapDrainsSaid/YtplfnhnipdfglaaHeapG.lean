/-
  HeapDrains holds, by contract.
-/
import Derived.Test.YtplfnhnipdfglaaHeapF
import Derived.Laws.MakeOwn
namespace Go.Proofs.Ytplfnhnipdfglaa
open Go.RowKit Go.Extern.Stop Go.Stop Go.Extern

theorem infoBool : (Try.prog.info? 4).map (fun i => (i.zero, i.size, i.bytes)) = some (some (.bool false), 1, 1) := by kernel_rfl
theorem make_came (n : Nat) (hn : n ≤ 200) (w : World) : (Instr.makeSlice 44 (.int .i64 (n : Int)) (.int .i64 (n : Int))).run Try.prog w =
    .ok (.slice (some ⟨w.heap.size, 0, none⟩) n n) (w.alloc (.cells (((List.range n).map fun _ => Value.bool false).toArray) 4)) := by
  obtain ⟨i0, hi, hz0, hz1, hz2⟩ := info_parts infoBool
  have e := run_make (P := Try.prog) w 44 4 i0 (.bool false) Try.underlying44 hi hz0 .i64 .i64 n n (by omega) (by omega) (by rw [hz2]; omega) (by omega)
  rw [e, hz1]
  have em : madeCells (Value.bool false).cells ((n : Int).toNat * 1) = ((List.range n).map fun _ => Value.bool false).toArray := by
    apply Array.ext
    · simp [size_madeCells]
    · intro k h1 h2
      simp [madeCells, Value.cells, Nat.mod_one]
  rw [em]
  simp
theorem TreeAt.other {α : Type} {enc : α → Value} {T : TypeId} {B : Nat} {w w' : World} (hk : ∀ b cs, B < b → w.heap[b]? = some (.cells cs T (0, 0)) → w'.heap[b]? = w.heap[b]?) :
    ∀ {t : Tr α} {p : Option Addr}, TreeAt enc T B w p t → TreeAt enc T B w' p t
  | .nil, _, h => h
  | .node _ _ _ _, _, ⟨b, pl, pr, e, hb, hi, hl, hr⟩ => ⟨b, pl, pr, e, hb, (hk b _ hb hi).trans hi, hl.other hk, hr.other hk⟩
theorem HpAt.other {α : Type} {enc : α → Value} {TI TH : TypeId} {B : Nat} {w w' : World} {q : List (E α)} {n : Int} (h : HpAt enc TI TH B w q n) (h0 : w'.heap[B]? = w.heap[B]?)
    (hk : ∀ b cs, B < b → w.heap[b]? = some (.cells cs TI (0, 0)) → w'.heap[b]? = w.heap[b]?) : HpAt enc TI TH B w' q n := by
  obtain ⟨p, t, g0, g1, g2⟩ := h
  exact ⟨p, t, h0.trans g0, g1.other hk, g2⟩
def PutR (w : World) (B : Nat) (zs : List Int) (g : Nat) (v : Value) (wr : World) : Prop :=
  ∃ (i : Nat) (q : List (E Int)), i ≤ zs.length ∧ g = zs.length - i ∧ v = .int .i64 i ∧ HpAt encI 55 42 B wr q i ∧ q.length = i ∧ Nice zs q ∧ Below w.heap.size w wr
def TakeR (w : World) (B C : Nat) (zs : List Int) (q : List (E Int)) (g : Nat) (v l x : Value) (wr : World) : Prop :=
  ∃ (i : Nat) (n : Int), i ≤ zs.length ∧ g = zs.length - i ∧ v = .int .i64 i ∧ l = .int .u64 (lastC q i) ∧ x = .int .i64 (lastX q i) ∧ HpAt encI 55 42 B wr (q.drop i) n ∧ CameAt wr C zs.length (gone q i) ∧ Below w.heap.size w wr

set_option maxRecDepth 100000 in
set_option maxHeartbeats 4000000 in
theorem heapDrains_some (zs : List Int) (v : Value) (hz : ∀ z ∈ zs, (0 : Int) ≤ z) (w : World) (hv : CostsAt w v zs) (hl : zs.length ≤ 200) :
    Calls Try.prog 4 #[v] w fun e w' => e = .returned (.bool true) ∧ Below w.heap.size w w' := by
  obtain ⟨a, cap, rfl⟩ := hv.form
  have HV := Lib.hid hv
  have HZ := Lib.hid hz
  have HA := Lib.hid (awake8_any w)
  clear hv hz
  go_enter Try.func4, Try.ntmps4
  go_wp2_with fail
  refine HA.out.mono ?_
  rintro e w1 ⟨rfl, b1⟩
  have H0 : Hid (PutR w w1.heap.size zs zs.length (.int .i64 0) (w1.alloc (.cells #[.pointer none, .int .i64 0, .int .u64 0] 42))) := Lib.hid ⟨0, [], Nat.zero_le _, by omega, rfl, heap_new w1 encI 55 42, rfl, (fun _ h => by cases h), b1.alloc b1.size _⟩
  have HB := Lib.hid b1.size
  clear b1 HA
  go_wp2_with fail
  generalize w1.alloc (.cells #[.pointer none, .int .i64 0, .int .u64 0] 42) = w2 at *
  generalize w1.heap.size = B at *
  go_loopg [22] zs.length (fun g u wr => PutR w B zs g u wr)
  case atStart => exact H0.out
  case round =>
    obtain ⟨i, q, hi, hgi, rfl, hh, hq, hn, hb⟩ := hrel
    by_cases hlt : i < zs.length
    · obtain ⟨c, hc⟩ : ∃ c, zs[i]? = some c := ⟨_, List.getElem?_eq_getElem hlt⟩
      obtain ⟨b, off, rfl, hcell⟩ := HV.out.at hc hb
      obtain ⟨k, hk, k1, k2⟩ := hh.choose_spec.choose_spec.2.2.1.sorted.cut c
      have HP := Lib.hid (putI_any c i k wr hh (by omega) (by omega) k1 k2)
      have HN := Lib.hid (hn.put hc k)
      have HL : Hid ((q.take k ++ ⟨c, i, i⟩ :: q.drop k).length = i + 1) := Lib.hid (by simp; omega)
      have HBL := Lib.hid hb
      clear hh hq hn hb k1 k2 hk hc
      go_wp2_with fail
      refine HP.out.mono ?_
      rintro e w3 ⟨⟨v3, rfl⟩, h3, g3⟩
      have H3 := Lib.hid h3
      have G3 := Lib.hid (below_own HBL.out HB.out g3)
      clear h3 g3 HP
      go_wp2_with fail
      go_roundg (zs.length - (i + 1))
      case measure => omega
      case rel => exact ⟨i + 1, _, by omega, rfl, by go_num, H3.out, HL.out, HN.out, G3.out⟩
    · obtain rfl : i = zs.length := by omega
      have HBL := Lib.hid hb
      have HQ := Lib.hid hq
      have HH := Lib.hid hh
      have HN := Lib.hid hn
      clear hb hq hh hn hlt hi
      have hmk := make_came zs.length hl
      go_wp2_with fail
      have H5 : Hid (TakeR w B wr.heap.size zs q zs.length (.int .i64 0) (.int .u64 0) (.int .i64 (-1)) (wr.alloc (.cells (((List.range zs.length).map fun _ => Value.bool false).toArray) 4))) :=
        Lib.hid ⟨0, _, Nat.zero_le _, by omega, rfl, rfl, rfl, HH.out.below (below_new _ _), heap_alloc_new wr _, HBL.out.alloc HBL.out.size _⟩
      have HC : Hid (B < wr.heap.size) := Lib.hid HH.out.lt
      have HW : Hid (w.heap.size ≤ wr.heap.size) := Lib.hid HBL.out.size
      have HS : Hid (Sorted q) := Lib.hid (by obtain ⟨_, _, _, _, h, _⟩ := HH.out; exact h.sorted)
      clear hmk HBL HH H0
      generalize wr.alloc (.cells (((List.range zs.length).map fun _ => Value.bool false).toArray) 4) = w4 at *
      generalize wr.heap.size = C at *
      go_loopg [36, 7, 8] zs.length (fun g u l x wr => TakeR w B C zs q g u l x wr)
      case atStart => exact H5.out
      case round =>
        obtain ⟨i, n, hi, hgi, rfl, rfl, rfl, hh, hcm, hb⟩ := hrel
        by_cases hlt : i < zs.length
        · obtain ⟨y, hy⟩ : ∃ y, q[i]? = some y := ⟨_, List.getElem?_eq_getElem (by have := HQ.out; omega)⟩
          obtain ⟨j, hx, hj, hgo, hle, heq⟩ := next_ok HS.out HN.out HZ.out hy
          have hjl : j < zs.length := (List.getElem?_eq_some_iff.1 hj).1
          rw [drop_next hy] at hh
          have HT := Lib.hid (takeI_some _ hh (by simp; have := HQ.out; omega))
          obtain ⟨b, off, rfl, hcell⟩ := HV.out.at hj (Below.refl w.heap.size w)
          have HCM := Lib.hid hcm
          have HBL := Lib.hid hb
          have HY := Lib.hid hy
          have HX := Lib.hid hx
          have HLE := Lib.hid hle
          have HEQ := Lib.hid heq
          have HJ := Lib.hid hj
          have HGO := Lib.hid hgo
          have HCELL := Lib.hid hcell
          clear hh hcm hb hy hx hle heq hj hgo hcell
          go_wp2_with fail
          refine HT.out.mono ?_
          rintro e w5 ⟨rfl, ⟨n', -, h5⟩, g5⟩
          rw [HX.out]
          have HC5 : Hid (CameAt w5 C zs.length (gone q i)) := Lib.hid (by
            have h0 := HCM.out
            unfold CameAt at h0 ⊢
            exact (g5.block C (Array.getElem?_eq_some_iff.1 h0).1 (fun e => by injection e with e; have := HC.out; omega)).trans h0)
          have HB5 := Lib.hid (below_own HBL.out HB.out g5)
          have HP5 := Lib.hid h5
          have k1 : w5.cell? ⟨C, j, none⟩ = some (.bool false) := by rw [HC5.out.cell hjl, HGO.out]
          have k2 := HC5.out.fz j
          have k3 : w5.cell? ⟨b, off + j, none⟩ = some (.int .u64 y.c) := by
            have hv := HV.out.at HJ.out HB5.out
            obtain ⟨b', off', e, hc'⟩ := hv
            injection e with e
            injection e with e1 e2
            subst e1; subst e2
            exact hc'
          clear HT HCM h5 g5
          have hle := HLE.out
          have hnew : Hid (TakeR w B C zs q (zs.length - (i + 1)) (.int .i64 ((i : Int) + 1)) (.int .u64 y.c) (.int .i64 j) (w5.setCell ⟨C, j, none⟩ (.bool true))) := Lib.hid (by
            refine ⟨i + 1, n', by omega, rfl, by go_num, by rw [lastC_s HY.out], by rw [lastX_s HY.out, HX.out], ?_, HC5.out.set _ (gone_succ HY.out HX.out), HB5.out.setCell (p := ⟨C, j, none⟩) HW.out _⟩
            refine HP5.out.other (heap_setCell_other _ _ _ _ (by have := HC.out; show B ≠ C; omega)) fun k cs _ hk => heap_setCell_other _ _ _ _ ?_
            show k ≠ C
            rintro rfl
            have h0 := HC5.out
            unfold CameAt at h0
            rw [hk] at h0
            injection h0 with h0
            injection h0 with _ h0
            exact absurd h0 (by decide))
          by_cases he : y.c = lastC q i
          · have hx2 := HEQ.out he
            have e1 : (y.c == lastC q i) = true := by simpa using he
            have HE := Lib.hid he
            clear he
            generalize lastC q i = lc at *
            generalize lastX q i = lx at *
            go_wp2_with fail
            go_roundg (zs.length - (i + 1))
            case measure => omega
            case rel => exact hnew.out
          · have e1 : (y.c == lastC q i) = false := by simpa using he
            clear he
            generalize lastC q i = lc at *
            generalize lastX q i = lx at *
            go_wp2_with fail
            go_roundg (zs.length - (i + 1))
            case measure => omega
            case rel => exact hnew.out
        · obtain rfl : i = zs.length := by omega
          have hd : q.drop zs.length = [] := List.drop_eq_nil_of_le (by have := HQ.out; omega)
          rw [hd] at hh
          have HT := Lib.hid (takeI_none _ hh)
          have HL := Lib.hid (lenI_any _ hh)
          have HBL := Lib.hid hb
          clear hh hd hb hcm
          go_wp2_with fail
          refine HT.out.mono ?_
          rintro e w5 ⟨rfl, rfl⟩
          go_wp2_with fail
          refine HL.out.mono ?_
          rintro e w5 ⟨rfl, rfl⟩
          go_wp2_with fail
          go_ret
          exact ⟨rfl, HBL.out⟩

set_option maxHeartbeats 400000 in
theorem heapDrains_many (zs : List Int) (v : Value) (w : World) (hv : CostsAt w v zs) (hl : 200 < zs.length) (hm : zs.length ≤ maxLen) :
    Calls Try.prog 4 #[v] w fun e w' => e = .returned (.bool true) ∧ Below w.heap.size w w' := by
  unfold maxLen at hm
  obtain ⟨a, cap, rfl⟩ := hv.form
  have HA := Lib.hid (awake8_any w)
  clear hv
  go_enter Try.func4, Try.ntmps4
  go_wp2_with fail
  refine HA.out.mono ?_
  rintro e w1 ⟨rfl, b1⟩
  go_wp2_with fail
  go_ret
  exact ⟨rfl, b1⟩
theorem heapDrains_any (zs : List Int) (v : Value) (hz : ∀ z ∈ zs, (0 : Int) ≤ z) (w : World) (hv : CostsAt w v zs) (hm : zs.length ≤ maxLen) :
    Calls Try.prog 4 #[v] w fun e w' => e = .returned (.bool true) ∧ Below w.heap.size w w' := by
  by_cases hl : zs.length ≤ 200
  · exact heapDrains_some zs v hz w hv hl
  · exact heapDrains_many zs v w hv (by omega) hm
end Go.Proofs.Ytplfnhnipdfglaa
