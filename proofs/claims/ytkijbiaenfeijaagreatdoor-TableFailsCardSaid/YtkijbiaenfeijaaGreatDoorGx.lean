/-
  Chapter 12's law, first part: what is gone through.
  Chapter 12's law, second part: the chapter's example.
  TableFails' law, its plain part.
  TableFails' law, by contract.
-/
import Derived.Test.YtkijbiaenfeijaaGreatDoorGw
import Derived.Test.YtkijbiaenfeijaaGreatDoorGq
import Derived.Test.YtkijbiaenfeijaaGreatDoorGj
namespace Go.Proofs.YtkijbiaenfeijaaGreatDoor
open Go.RowKit Go.Extern.Stop Go.Stop Go.Extern

def OkG (gs : List Gr) (j : Nat) : Prop := ∀ g, gs[j]? = some g → g.es.length ≤ 12 ∧ ∀ (k : Nat) (e : En), g.es[k]? = some e → e.on ≤ 12
theorem LightR.of {gs : List Gr} (h : gs.length ≤ 12) (h2 : ∀ j, j < gs.length → OkG gs j) : LightR gs :=
  ⟨h, fun i g hi => (h2 i (List.getElem?_eq_some_iff.1 hi).1 g hi).1, fun i g hi => (h2 i (List.getElem?_eq_some_iff.1 hi).1 g hi).2⟩
def Li1 (w : World) (gs : List Gr) (g : Nat) (u v : Value) (wr : World) : Prop :=
  ∃ (i : Nat) (n : Int), i ≤ 1 ∧ g = 1 - i ∧ u = .int .i64 i ∧ v = .int .i64 n ∧ 0 ≤ n ∧ n ≤ 3000 ∧ (1 ≤ i → LightR gs) ∧ Below w.heap.size w wr
def Li2 (w : World) (gs : List Gr) (g : Nat) (u v : Value) (wr : World) : Prop :=
  ∃ (i : Nat) (n : Int), i ≤ gs.length ∧ g = gs.length - i ∧ u = .int .i64 i ∧ v = .int .i64 n ∧ 0 ≤ n ∧ n ≤ 3000 ∧ (∀ j, j < i → OkG gs j) ∧ Below w.heap.size w wr
def Li3 (w : World) (es : List En) (g : Nat) (u v : Value) (wr : World) : Prop :=
  ∃ (i : Nat) (n : Int), i ≤ es.length ∧ g = es.length - i ∧ u = .int .i64 i ∧ v = .int .i64 n ∧ 0 ≤ n ∧ n ≤ 3000 + 13 * (i : Int) ∧ (∀ j e, j < i → es[j]? = some e → e.on ≤ 12) ∧ Below w.heap.size w wr
set_option maxRecDepth 100000 in
set_option maxHeartbeats 8000000 in
theorem light12_any (inn top : Int) (gv : Value) (gs : List Gr) (B : Nat) (w : World) (hg : GrsAt w gv gs) (k0 : w.cell? ⟨B, 0, none⟩ = some (.int .i64 inn)) (k1 : w.cell? ⟨B, 1, none⟩ = some (.int .i64 top)) (k2 : w.cell? ⟨B, 2, none⟩ = some gv) :
    Calls Tryz.prog 28 #[.slice (some ⟨B, 0, none⟩) 1 1, .int .i64 1] w (LiPost w (LightR gs)) := by
  obtain ⟨ga, gcap, rfl⟩ := hg.form
  have HG := Lib.hid hg
  have HK := Lib.hid (And.intro k0 (And.intro k1 k2))
  have hB := World.block_lt_of_cell? w _ k0
  have HB := Lib.hid (show B < w.heap.size from hB)
  clear hg k0 k1 k2 hB
  go_enter Tryz.func28, Tryz.ntmps28
  go_wp2_with fail
  go_loopg [18, 5] 1 (fun g u v wr => Li1 w gs g u v wr)
  case atStart => exact ⟨0, 0, by omega, rfl, rfl, rfl, by omega, by omega, fun h => by omega, Below.refl _ _⟩
  case round =>
    obtain ⟨i, n, hi, hgi, rfl, rfl, hn0, hn2, hok, hb⟩ := hrel
    rcases i with _ | _ | i
    · have c0 := (hb.cell (p := ⟨B, 0, none⟩) HB.out).trans HK.out.1
      have c1 := (hb.cell (p := ⟨B, 1, none⟩) HB.out).trans HK.out.2.1
      have c2 := (hb.cell (p := ⟨B, 2, none⟩) HB.out).trans HK.out.2.2
      have HB1 := Lib.hid (hb.trans ((below_new wr (.cells #[.int .i64 inn, .int .i64 top, .slice ga gs.length gcap] 70)).mono hb.size))
      clear hok hb
      by_cases hl : gs.length ≤ 12
      · have hl' : ¬ (12 : Int) < gs.length := by omega
        go_wp2_with fail
        generalize hW1 : wr.alloc (.cells #[.int .i64 inn, .int .i64 top, .slice ga gs.length gcap] 70) = w1 at *
        clear hW1 c0 c1 c2
        go_loopg [29, 5] gs.length (fun g u v W => Li2 w gs g u v W)
        case atStart => exact ⟨0, _, Nat.zero_le _, by omega, rfl, rfl, hn0, hn2, fun j hj => absurd hj (Nat.not_lt_zero _), HB1.out⟩
        case round =>
          clear HB1
          obtain ⟨j, m, hj, hgj, rfl, rfl, hm0, hm1, hok, hb⟩ := hrel
          have HOK := Lib.hid hok
          have HBr := Lib.hid hb
          clear hok hb
          by_cases hjl : j < gs.length
          · obtain ⟨x, hx⟩ : ∃ x, gs[j]? = some x := ⟨_, List.getElem?_eq_getElem hjl⟩
            obtain ⟨b, off, rfl, c0, hes⟩ := HG.out.at hx HBr.out
            have HX := Lib.hid hx
            clear hx
            obtain ⟨xa, xc, es⟩ := x
            replace c0 : _ = some (Value.slice xa es.length xc) := c0
            have HE : Hid (EntsAt _ (.slice xa es.length xc) es) := Lib.hid hes
            clear hes
            by_cases hel : es.length ≤ 12
            · have hel' : ¬ (12 : Int) < es.length := by omega
              go_wp2_with fail
              clear c0
              obtain ⟨w5, hw5⟩ : ∃ w5, w5 = wr := ⟨_, rfl⟩
              subst hw5
              go_loopg [38, 5] es.length (fun g u v W => Li3 w5 es g u v W)
              case atStart => exact ⟨0, _, Nat.zero_le _, by omega, rfl, rfl, hm0, by omega, fun j e hj => absurd hj (Nat.not_lt_zero _), Below.refl _ _⟩
              case round =>
                obtain ⟨i, k, hi, hgi, rfl, rfl, hk0, hk1, hon, hb⟩ := hrel
                have HON := Lib.hid hon
                by_cases hil : i < es.length
                · obtain ⟨e, hx⟩ : ∃ e, es[i]? = some e := ⟨_, List.getElem?_eq_getElem hil⟩
                  obtain ⟨b2, off2, rfl, d0, d1⟩ := HE.out.at hx hb
                  have HBe := Lib.hid (hb.trans ((below_new wr (.cells #[.int .i64 e.out, .slice e.oa e.on e.oc] 74)).mono hb.size))
                  by_cases hol : e.on ≤ 12
                  · have hol' : ¬ (12 : Int) < e.on := by omega
                    have H3 : Hid (Li3 w5 es (es.length - (i + 1)) (.int .i64 ((i : Int) + 1)) (.int .i64 (k + (1 + (e.on : Int)))) (wr.alloc (.cells #[.int .i64 e.out, .slice e.oa e.on e.oc] 74))) := Lib.hid ⟨i + 1, _, by omega, rfl, by go_num, rfl, by omega, by omega, fun j' e' hj' he' => by
                      rcases Nat.lt_succ_iff_lt_or_eq.1 hj' with hj' | rfl
                      · exact HON.out j' e' hj' he'
                      · rw [hx] at he'; injection he' with he'; rw [← he']; exact hol, HBe.out⟩
                    clear hb hon hx
                    go_wp2_with fail
                    go_roundg (es.length - (i + 1))
                    case measure => omega
                    case rel => exact H3.out
                  · have hol' : (12 : Int) < e.on := by omega
                    have HF := Lib.hid (HBr.out.trans (HBe.out.mono HBr.out.size))
                    clear hb hon hx
                    go_wp2_with fail
                    go_ret
                    exact LiPost.no HF.out
                · obtain rfl : i = es.length := by omega
                  have HF := Lib.hid (HBr.out.trans (hb.mono HBr.out.size))
                  clear hb hon
                  by_cases hbig : (3000 : Int) < k
                  · go_wp2_with fail
                    go_ret
                    exact LiPost.no HF.out
                  · have H3 : Hid (Li2 w gs (gs.length - (j + 1)) (.int .i64 ((j : Int) + 1)) (.int .i64 k) wr) := Lib.hid ⟨j + 1, k, by omega, rfl, by go_num, rfl, hk0, by omega, fun j' hj' => by
                      rcases Nat.lt_succ_iff_lt_or_eq.1 hj' with hj' | rfl
                      · exact HOK.out j' hj'
                      · intro g hg
                        rw [HX.out] at hg
                        injection hg with hg
                        rw [← hg]
                        exact ⟨hel, fun k' e' he' => HON.out k' e' (List.getElem?_eq_some_iff.1 he').1 he'⟩, HF.out⟩
                    go_wp2_with fail
                    go_roundg (gs.length - (j + 1))
                    case measure => omega
                    case rel => exact H3.out
            · have hel' : (12 : Int) < es.length := by omega
              go_wp2_with fail
              go_ret
              exact LiPost.no HBr.out
          · obtain rfl : j = gs.length := by omega
            have H3 : Hid (Li1 w gs 0 (.int .i64 1) (.int .i64 m) wr) := Lib.hid ⟨1, m, by omega, rfl, rfl, rfl, hm0, by omega, fun _ => LightR.of hl HOK.out, HBr.out⟩
            clear HOK HBr
            go_wp2_with fail
            go_roundg 0
            case measure => omega
            case rel => exact H3.out
      · have hl' : (12 : Int) < gs.length := by omega
        go_wp2_with fail
        go_ret
        exact LiPost.no HB1.out
    · have HL := Lib.hid (hok (by omega))
      have HBr := Lib.hid hb
      clear hok hb
      go_wp2_with fail
      go_ret
      exact LiPost.yes HL.out HBr.out
    · omega
end Go.Proofs.YtkijbiaenfeijaaGreatDoor

namespace Go.Proofs.YtkijbiaenfeijaaGreatDoor
open Go.RowKit Go.Extern.Stop Go.Stop Go.Extern

def ex12 (b : Nat) : List Gr := [⟨some ⟨b, 0, none⟩, 1, [⟨0, none, 0, 0⟩]⟩, ⟨some ⟨b + 1, 0, none⟩, 1, [⟨1, none, 0, 0⟩]⟩]
def sub12 (i : Nat) (fa fb : Nat) : Bool := sameB ((ofS [(i : Int)]).1 &&& fa) ((ofS [(i : Int)]).2 &&& fb) (ofS [(i : Int)]).1 (ofS [(i : Int)]).2
theorem ex12_sub (b fa fb : Nat) : subG (ex12 b) fa fb ((0 : Nat) : Int) = sub12 0 fa fb ∧ subG (ex12 b) fa fb ((1 : Nat) : Int) = sub12 1 fa fb := ⟨rfl, rfl⟩
theorem ex12_act {b fa fb : Nat} {a : Int} (h : ActR (ex12 b) fa fb a) : a = if sub12 0 fa fb then (if sub12 1 fa fb then -1 else 1) else 0 := by
  obtain ⟨e0, e1⟩ := ex12_sub b fa fb
  rcases h with ⟨rfl, h⟩ | ⟨k, rfl, hk, hs, hp⟩
  · have h0 := h 0 (Nat.zero_lt_succ _)
    have h1 := h 1 (Nat.succ_lt_succ (Nat.zero_lt_succ _))
    rw [e0] at h0
    rw [e1] at h1
    rw [h0, h1]; rfl
  · have hk : k < 2 := hk
    rcases k with _ | _ | k
    · rw [e0] at hs; rw [hs]; rfl
    · have h0 := hp 0 (Nat.zero_lt_succ _)
      rw [e0] at h0
      rw [e1] at hs
      rw [h0, hs]; rfl
    · omega
theorem ex12_light (b : Nat) : LightR (ex12 b) := by
  refine ⟨Nat.le_of_lt (by show 2 < 12; omega), fun i g h => ?_, fun i g h j e he => ?_⟩
  · match i, h with
    | 0, h => obtain rfl := Option.some.inj (show some _ = some g from h); show 1 ≤ 12; omega
    | 1, h => obtain rfl := Option.some.inj (show some _ = some g from h); show 1 ≤ 12; omega
    | i + 2, h => simp [ex12] at h
  · match i, h with
    | 0, h =>
      obtain rfl := Option.some.inj (show some _ = some g from h)
      match j, he with
      | 0, he => obtain rfl := Option.some.inj (show some _ = some e from he); show 0 ≤ 12; omega
      | j + 1, he => simp at he
    | 1, h =>
      obtain rfl := Option.some.inj (show some _ = some g from h)
      match j, he with
      | 0, he => obtain rfl := Option.some.inj (show some _ = some e from he); show 0 ≤ 12; omega
      | j + 1, he => simp at he
    | i + 2, h => simp [ex12] at h
theorem ex12_ops (w : World) (b : Nat) : OpsG w (ex12 b) := by
  intro i g h j e he
  match i, h with
  | 0, h =>
    obtain rfl := Option.some.inj (show some _ = some g from h)
    match j, he with
    | 0, he => obtain rfl := Option.some.inj (show some _ = some e from he); exact ⟨[], .inl ⟨_, _, rfl, rfl⟩⟩
    | j + 1, he => simp at he
  | 1, h =>
    obtain rfl := Option.some.inj (show some _ = some g from h)
    match j, he with
    | 0, he => obtain rfl := Option.some.inj (show some _ = some e from he); exact ⟨[], .inl ⟨_, _, rfl, rfl⟩⟩
    | j + 1, he => simp at he
  | i + 2, h => simp [ex12] at h
/-- On the way through the example. -/
structure A12 (w0 : World) (B : Nat) (gv : Value) (gs : List Gr) (W : World) : Prop where
  rw : RwB w0 B 0 0 gv gs W
  han : Handle W
  tab : TabB W
theorem A12.step {w0 : World} {B : Nat} {gv : Value} {gs : List Gr} {W W' : World} (h : A12 w0 B gv gs W) (hb : Below W.heap.size W W') : A12 w0 B gv gs W' :=
  ⟨h.rw.step hb, h.han.below hb, h.tab.below h.tab.lt hb⟩
def W12 (w : World) : World := (((w.alloc (.cells #[.int .i64 0, .slice none 0 0] 74)).alloc (.cells #[.int .i64 1, .slice none 0 0] 74)).alloc (.cells #[.slice (some ⟨w.heap.size, 0, none⟩) 1 1, .slice (some ⟨w.heap.size + 1, 0, none⟩) 1 1] 71)).alloc (.cells #[.int .i64 0, .int .i64 0, .slice (some ⟨w.heap.size + 1 + 1, 0, none⟩) 2 2] 70)
theorem ents_one (W w' : World) (x : Int) (hb : Below (W.heap.size + 1) (W.alloc (.cells #[.int .i64 x, .slice none 0 0] 74)) w') : EntsAt w' (.slice (some ⟨W.heap.size, 0, none⟩) 1 1) [⟨x, none, 0, 0⟩] := by
  have hn := heap_alloc_new W (.cells #[.int .i64 x, .slice none 0 0] 74)
  refine .inr ⟨W.heap.size, 0, 1, rfl, by have := hb.size; simp at this; omega, fun i e hi => ?_⟩
  match i, hi with
  | 0, hi =>
    obtain rfl := Option.some.inj (show some _ = some e from hi)
    exact ⟨(hb.cell (p := ⟨W.heap.size, 0 + 0 * 2, none⟩) (Nat.lt_succ_self _)).trans (by rw [Lib.cell_of_heap hn]; rfl), (hb.cell (p := ⟨W.heap.size, 0 + 0 * 2 + 1, none⟩) (Nat.lt_succ_self _)).trans (by rw [Lib.cell_of_heap hn]; rfl)⟩
  | i + 1, hi => simp at hi
theorem a12_start (w : World) (hg : Handle w) (ht : TabB w) : A12 w (w.heap.size + 1 + 1 + 1) (.slice (some ⟨w.heap.size + 1 + 1, 0, none⟩) 2 2) (ex12 w.heap.size) (W12 w) := by
  unfold W12
  have e1 : (w.alloc (.cells #[.int .i64 0, .slice none 0 0] 74)).heap.size = w.heap.size + 1 := World.size_alloc _ _
  have e2 : ((w.alloc (.cells #[.int .i64 0, .slice none 0 0] 74)).alloc (.cells #[.int .i64 1, .slice none 0 0] 74)).heap.size = w.heap.size + 1 + 1 := by rw [World.size_alloc, e1]
  have e3 : (((w.alloc (.cells #[.int .i64 0, .slice none 0 0] 74)).alloc (.cells #[.int .i64 1, .slice none 0 0] 74)).alloc (.cells #[.slice (some ⟨w.heap.size, 0, none⟩) 1 1, .slice (some ⟨w.heap.size + 1, 0, none⟩) 1 1] 71)).heap.size = w.heap.size + 1 + 1 + 1 := by rw [World.size_alloc, e2]
  have b0 := below_new w (.cells #[.int .i64 0, .slice none 0 0] 74)
  have b1 := below_new (w.alloc (.cells #[.int .i64 0, .slice none 0 0] 74)) (.cells #[.int .i64 1, .slice none 0 0] 74)
  have b2 := below_new ((w.alloc (.cells #[.int .i64 0, .slice none 0 0] 74)).alloc (.cells #[.int .i64 1, .slice none 0 0] 74)) (.cells #[.slice (some ⟨w.heap.size, 0, none⟩) 1 1, .slice (some ⟨w.heap.size + 1, 0, none⟩) 1 1] 71)
  have n2 := heap_alloc_new ((w.alloc (.cells #[.int .i64 0, .slice none 0 0] 74)).alloc (.cells #[.int .i64 1, .slice none 0 0] 74)) (.cells #[.slice (some ⟨w.heap.size, 0, none⟩) 1 1, .slice (some ⟨w.heap.size + 1, 0, none⟩) 1 1] 71)
  rw [e2] at n2
  have E0 := ents_one w _ 0 (e1 ▸ (b1.trans (b2.mono b1.size)))
  have E1 := ents_one (w.alloc (.cells #[.int .i64 0, .slice none 0 0] 74)) _ 1 (by rw [e1]; rw [e2] at b2; exact b2)
  rw [e1] at E1
  have hG : GrsAt (((w.alloc (.cells #[.int .i64 0, .slice none 0 0] 74)).alloc (.cells #[.int .i64 1, .slice none 0 0] 74)).alloc (.cells #[.slice (some ⟨w.heap.size, 0, none⟩) 1 1, .slice (some ⟨w.heap.size + 1, 0, none⟩) 1 1] 71)) (.slice (some ⟨w.heap.size + 1 + 1, 0, none⟩) 2 2) (ex12 w.heap.size) := by
    refine .inr ⟨w.heap.size + 1 + 1, 0, 2, rfl, by rw [e3]; omega, fun i g hi => ?_⟩
    match i, hi with
    | 0, hi => obtain rfl := Option.some.inj (show some _ = some g from hi); exact ⟨by rw [Lib.cell_of_heap n2]; rfl, E0⟩
    | 1, hi => obtain rfl := Option.some.inj (show some _ = some g from hi); exact ⟨by rw [Lib.cell_of_heap n2]; rfl, E1⟩
    | i + 2, hi => simp [ex12] at hi
  have hR := RwB.start (inn := 0) (top := 0) hG
  rw [e3] at hR
  have hB := b0.trans ((b1.trans (b2.mono b1.size)).mono b0.size)
  have hB3 := hB.trans (hR.below.mono hB.size)
  exact ⟨⟨hR.lt, hR.c0, hR.c1, hR.c2, hR.gr, hB3⟩, hg.below hB3, ht.below ht.lt hB3⟩
set_option maxRecDepth 100000 in
theorem Awake10_any (w : World) (ht : TabB w) (hg : Handle w) : Calls Tryz.prog 69 #[] w fun e w' => e = .returned (.bool true) ∧ Below w.heap.size w w' := by
  have HA := Lib.hid (awake10_any w ht hg)
  clear hg ht
  go_enter Tryz.func69, Tryz.ntmps69
  go_wp2_with fail
  refine HA.out.mono ?_
  rintro e w' ⟨rfl, hb⟩
  go_wp2_with fail
  go_ret
  exact ⟨rfl, hb⟩
set_option maxRecDepth 100000 in
set_option maxHeartbeats 8000000 in
theorem awake12_any (w : World) (hg : Handle w) (ht : TabB w) : Calls Tryz.prog 26 #[] w fun e w' => e = .returned (.bool true) ∧ Below w.heap.size w w' := by
  have HS := Lib.hid (a12_start w hg ht)
  have HNx := Lib.hid (fun W h => next_any 0 0 (.slice (some ⟨w.heap.size + 1 + 1, 0, none⟩) 2 2) (ex12 w.heap.size) 0 0 (by unfold U64; decide) (by unfold U64; decide) W h (ex12_light _) (ex12_ops W _))
  have HO1 := Lib.hid (fun (W : World) (v : Value) (h : IntsAt W v [0]) => of_any [0] v W h (by decide))
  have HO2 := Lib.hid (fun (W : World) (v : Value) (h : IntsAt W v [0, 1]) => of_any [0, 1] v W h (by decide))
  have HA1 := Lib.hid (fun W h => active_any 0 0 (.slice (some ⟨w.heap.size + 1 + 1, 0, none⟩) 2 2) (ex12 w.heap.size) _ _ (ofS_u64 [0]).1 (ofS_u64 [0]).2 W h (ex12_light _))
  have HA2 := Lib.hid (fun W h => active_any 0 0 (.slice (some ⟨w.heap.size + 1 + 1, 0, none⟩) 2 2) (ex12 w.heap.size) _ _ (ofS_u64 [0, 1]).1 (ofS_u64 [0, 1]).2 W h (ex12_light _))
  have HR0 := Lib.hid (fun a (h : ActR (ex12 w.heap.size) 0 0 a) => (show a = 0 from (ex12_act h).trans (by decide)))
  have HGr : Hid (((grp (ex12 w.heap.size) 0).filter fun e => !hasI 0 0 e.out).map (·.out) = [0]) := Lib.hid (by
    have e : grp (ex12 w.heap.size) 0 = [⟨0, none, 0, 0⟩] := rfl
    have h : hasI 0 0 0 = false := by decide
    rw [e]; simp [h])
  have HR1 := Lib.hid (fun a (h : ActR (ex12 w.heap.size) (ofS [0]).1 (ofS [0]).2 a) => (show a = 1 from (ex12_act h).trans (by decide)))
  have HR2 := Lib.hid (fun a (h : ActR (ex12 w.heap.size) (ofS [0, 1]).1 (ofS [0, 1]).2 a) => (show a = -1 from (ex12_act h).trans (by decide)))
  clear hg ht
  obtain ⟨f1, hf1⟩ : ∃ f, (ofS [0]).1 = f := ⟨_, rfl⟩
  obtain ⟨f2, hf2⟩ : ∃ f, (ofS [0]).2 = f := ⟨_, rfl⟩
  obtain ⟨f3, hf3⟩ : ∃ f, (ofS [0, 1]).1 = f := ⟨_, rfl⟩
  obtain ⟨f4, hf4⟩ : ∃ f, (ofS [0, 1]).2 = f := ⟨_, rfl⟩
  rw [hf1, hf2] at HO1 HA1 HR1
  rw [hf3, hf4] at HO2 HA2 HR2
  clear hf1 hf2 hf3 hf4
  go_enter Tryz.func26, Tryz.ntmps26
  unfold W12 at HS
  have k0 := HS.out.rw.c0
  have k1 := HS.out.rw.c1
  have k2 := HS.out.rw.c2
  go_wp2_with fail
  refine (HNx.out _ HS.out.rw.gr).mono ?_
  rintro e w2 ⟨a, v, l, rfl, hA, hv, hl, b2⟩
  have HS2 := Lib.hid (HS.out.step b2)
  obtain rfl := HR0.out a hA
  rw [HGr.out] at hl
  obtain ⟨x, rfl, hx0⟩ := List.map_eq_singleton_iff.1 hl
  obtain ⟨va, vc, rfl⟩ := hv.form
  obtain ⟨bb, off, rfl, d0, -⟩ := hv.at (i := 0) (e := x) rfl (Below.refl _ _)
  have hbl := World.block_lt_of_cell? _ _ d0
  have HD : Hid (∀ W, Below w2.heap.size w2 W → W.cell? ⟨bb, off, none⟩ = some (.int .i64 0)) := Lib.hid (fun W h => by
    have := (h.cell hbl).trans d0
    rw [hx0] at this
    simpa using this)
  clear hA hv b2 HS HNx HR0 HGr hx0 d0 hbl k0 k1 k2
  obtain ⟨W2, hW2⟩ : ∃ W2, W2 = w2 := ⟨_, rfl⟩
  go_wp2_with fail
  have hI := HS2.out.step (Below.refl _ _).drew
  have hB : Below w2.heap.size w2 w2.drew := (Below.refl _ _).drew
  clear HS2
  have kk : _ ∧ _ ∧ _ ∧ _ := ⟨hI.rw.c0, hI.rw.c1, hI.rw.c2, HD.out _ hB⟩
  go_region_held3 (fun w' => w'.cell? ⟨w.heap.size + 1 + 1 + 1, 0, none⟩ = some (.int .i64 0) ∧ w'.cell? ⟨w.heap.size + 1 + 1 + 1, 1, none⟩ = some (.int .i64 0) ∧ w'.cell? ⟨w.heap.size + 1 + 1 + 1, 2, none⟩ = some (.slice (some ⟨w.heap.size + 1 + 1, 0, none⟩) 2 2) ∧ w'.cell? ⟨bb, off, none⟩ = some (.int .i64 0))
    (first | exact kk | exact ⟨hI.rw.c0, hI.rw.c1, hI.rw.c2, HD.out _ hB⟩ | exact ⟨(hI.step (below_new _ _)).rw.c0, (hI.step (below_new _ _)).rw.c1, (hI.step (below_new _ _)).rw.c2, HD.out _ (hB.trans ((below_new _ _).mono hB.size))⟩ | go_keep)
    (first
    | (go_at_call 69; refine (Awake10_any _ hI.tab hI.han).mono ?_; rintro e w3 ⟨rfl, b3⟩; replace hI := hI.step b3; replace hB := hB.trans (b3.mono hB.size))
    | (go_at_call 70; refine (Awake11_any _ hI.han hI.tab).mono ?_; rintro e w4 ⟨rfl, b4⟩; replace hI := hI.step b4; replace hB := hB.trans (b4.mono hB.size))
    | (go_at_call_of 39 (1 : Nat); refine (HO1.out _ _ (by first | exact ints_new _ 0 | exact (ints_new _ 0).step (Below.refl _ _).drew)).mono ?_; rintro e w5 ⟨rfl, b5⟩; replace hI := (hI.step (below_new _ (.cells #[.int .i64 0] 3))).step b5; replace hB := (hB.trans ((below_new _ (.cells #[.int .i64 0] 3)).mono hB.size)); replace hB := hB.trans (b5.mono hB.size))
    | (go_at_call_of 34 f1; refine (HA1.out _ hI.rw.gr).mono ?_; rintro e w6 ⟨a1, rfl, hA1, b6⟩; obtain rfl := HR1.out a1 hA1; replace hI := hI.step b6; replace hB := hB.trans (b6.mono hB.size))
    | (go_at_call_of 39 (2 : Nat); refine (HO2.out _ _ (by first | exact ints2 _ 0 1 | exact (ints2 _ 0 1).step (Below.refl _ _).drew)).mono ?_; rintro e w7 ⟨rfl, b7⟩; replace hI := (hI.step (below_new _ (.cells #[.int .i64 0, .int .i64 1] 3))).step b7; replace hB := (hB.trans ((below_new _ (.cells #[.int .i64 0, .int .i64 1] 3)).mono hB.size)); replace hB := hB.trans (b7.mono hB.size))
    | (go_at_call_of 34 f3; refine (HA2.out _ hI.rw.gr).mono ?_; rintro e w8 ⟨a2, rfl, hA2, b8⟩; obtain rfl := HR2.out a2 hA2; replace hI := hI.step b8; replace hB := hB.trans (b8.mono hB.size)))
  all_goals
    have HF := Lib.hid hI.rw.below
    clear hI hB kk
    go_wp2_with fail
    go_ret
    exact ⟨rfl, HF.out⟩
end Go.Proofs.YtkijbiaenfeijaaGreatDoor

namespace Go.Proofs.YtkijbiaenfeijaaGreatDoor
open Go.RowKit Go.Extern.Stop Go.Stop Go.Extern

theorem sub_iff {gs : List Gr} {fa fb : Nat} {g : Int} : subG gs fa fb g = true ↔ ∀ j, hasB (lnk (grp gs g)).1 (lnk (grp gs g)).2 j = true → hasB fa fb j = true := by
  obtain ⟨u1, u2⟩ := lnk_u64 (grp gs g)
  unfold subG sameB
  rw [decide_eq_true_eq]
  constructor
  · rintro ⟨e1, e2⟩ j hj
    rw [← e1, ← e2, hasB_and, Bool.and_eq_true] at hj
    exact hj.2
  · intro h
    refine set_ext (u1.and _) (u2.and _) u1 u2 fun j => ?_
    rw [hasB_and]
    cases hj : hasB (lnk (grp gs g)).1 (lnk (grp gs g)).2 j with
    | false => rfl
    | true => rw [h j hj]; rfl
theorem ActR.one {gs : List Gr} {fa fb : Nat} {a a' : Int} (h : ActR gs fa fb a) (h' : ActR gs fa fb a') : a = a' := by
  rcases h with ⟨rfl, h⟩ | ⟨k, rfl, hk, hs, hp⟩ <;> rcases h' with ⟨rfl, h'⟩ | ⟨k', rfl, hk', hs', hp'⟩
  · rfl
  · rw [h k' hk'] at hs'; cases hs'
  · rw [h' k hk] at hs; cases hs
  · rcases Nat.lt_trichotomy k k' with hlt | e | hlt
    · rw [hp' k hlt] at hs; cases hs
    · rw [e]
    · rw [hp k' hlt] at hs'; cases hs'
theorem ActR.mono {gs : List Gr} {fa fb oa ob : Nat} (hm : ∀ j, hasB fa fb j = true → hasB oa ob j = true) {a b : Int} (h : ActR gs fa fb a) (h' : ActR gs oa ob b) : 0 ≤ b → 0 ≤ a ∧ a ≤ b := by
  intro hb
  have up : ∀ g, subG gs fa fb g = true → subG gs oa ob g = true := fun g hg => sub_iff.2 fun j hj => hm j (sub_iff.1 hg j hj)
  rcases h' with ⟨rfl, -⟩ | ⟨k', rfl, hk', hs', -⟩
  · omega
  · rcases h with ⟨rfl, h⟩ | ⟨k, rfl, hk, hs, hp⟩
    · rw [up _ (h k' hk')] at hs'; cases hs'
    · refine ⟨by omega, ?_⟩
      by_cases hlt : k' < k
      · rw [up _ (hp k' hlt)] at hs'; cases hs'
      · omega
theorem lnk_has {es : List En} {j : Nat} : hasB (lnk es).1 (lnk es).2 j = true ↔ j < 128 ∧ ∃ e ∈ es, e.out = (j : Int) := by
  unfold lnk
  rw [hasB_ofS]
  simp only [Bool.and_eq_true, decide_eq_true_eq, List.any_eq_true, List.mem_map]
  constructor
  · rintro ⟨h, x, ⟨e, he, rfl⟩, hx⟩
    exact ⟨h, e, he, by first | exact hx.symm | exact hx | omega⟩
  · rintro ⟨h, e, he, hx⟩
    exact ⟨h, _, ⟨e, he, rfl⟩, by first | exact hx.symm | exact hx | omega⟩
/-- Do all entries go out by links from 0 to 127? -/
def NearE (es : List En) (k : Nat) : Prop := ∀ e, es[k]? = some e → 0 ≤ e.out ∧ e.out ≤ 127
def NearJ (gs : List Gr) (j : Nat) : Prop := ∀ g, gs[j]? = some g → ∀ k, NearE g.es k
def NearG (gs : List Gr) : Prop := ∀ j, NearJ gs j
theorem near_grp {gs : List Gr} (h : NearG gs) {g : Int} {e : En} (he : e ∈ grp gs g) : 0 ≤ e.out ∧ e.out ≤ 127 := by
  unfold grp at he
  split at he
  · cases he
  · cases hx : gs[g.toNat]? with
    | none => rw [hx] at he; cases he
    | some x =>
      rw [hx] at he
      obtain ⟨k, hk⟩ := List.getElem?_of_mem (show e ∈ x.es from he)
      exact h _ x hx k e hk
/-- What goes out: by a link of the group, that did not fail. -/
theorem next_out {gs : List Gr} {fa fb : Nat} {a : Int} (hn : NearG gs) {l : List En} (hl : l.map (·.out) = ((grp gs a).filter fun e => !hasI fa fb e.out).map (·.out)) {i : Nat} {e : En} (hi : l[i]? = some e) :
    hasI fa fb e.out = false ∧ hasI (lnk (grp gs a)).1 (lnk (grp gs a)).2 e.out = true := by
  have hm : e.out ∈ l.map (·.out) := List.mem_map.2 ⟨e, List.mem_of_getElem? hi, rfl⟩
  rw [hl] at hm
  obtain ⟨x, hx, e1⟩ := List.mem_map.1 hm
  obtain ⟨hx1, hx2⟩ := List.mem_filter.1 hx
  have hb := near_grp hn hx1
  rw [← e1]
  refine ⟨by simpa using hx2, ?_⟩
  unfold hasI
  simp only [Bool.and_eq_true, decide_eq_true_eq]
  exact ⟨hb.1, lnk_has.2 ⟨by omega, x, hx1, by omega⟩⟩
theorem next_some {gs : List Gr} {fa fb : Nat} {a : Int} {l : List En} (hl : l.map (·.out) = ((grp gs a).filter fun e => !hasI fa fb e.out).map (·.out)) (hA : ActR gs fa fb a) : l.length = 0 ↔ a < 0 := by
  have hlen : l.length = ((grp gs a).filter fun e => !hasI fa fb e.out).length := by
    have := congrArg List.length hl
    rwa [List.length_map, List.length_map] at this
  rw [hlen]
  rcases hA with ⟨rfl, h⟩ | ⟨k, rfl, hk, hs, hp⟩
  · exact ⟨fun _ => by decide, fun _ => rfl⟩
  · refine ⟨fun h0 => ?_, fun h0 => by omega⟩
    have h0 := List.eq_nil_of_length_eq_zero h0
    have : subG gs fa fb (k : Int) = true := sub_iff.2 fun j hj => by
      obtain ⟨hj1, e, he, hx⟩ := lnk_has.1 hj
      have hne : ¬ (e ∈ (grp gs (k : Int)).filter fun e => !hasI fa fb e.out) := by rw [h0]; simp
      rw [List.mem_filter] at hne
      have h2 : hasI fa fb e.out = true := by
        cases h : hasI fa fb e.out with
        | true => rfl
        | false => exact absurd ⟨he, by rw [h]; rfl⟩ hne
      rw [hx] at h2
      unfold hasI at h2
      simpa using h2
    rw [this] at hs; cases hs
theorem need_under {gs : List Gr} {fa fb k p q : Nat} (up : U64 p) (uq : U64 q) (hn : NeS gs k p q) (hp : ∀ g : Nat, g < k → subG gs fa fb g = true) : sameB (p &&& fa) (q &&& fb) p q = true := by
  unfold sameB
  refine decide_eq_true (set_ext (up.and _) (uq.and _) up uq fun j => ?_)
  rw [hasB_and]
  cases hj : hasB p q j with
  | false => rfl
  | true =>
    obtain ⟨i, hi, h⟩ := hn j hj
    rw [sub_iff.1 (hp i hi) j h]; rfl
end Go.Proofs.YtkijbiaenfeijaaGreatDoor

namespace Go.Proofs.YtkijbiaenfeijaaGreatDoor
open Go.RowKit Go.Extern.Stop Go.Stop Go.Extern

/-- What the law keeps: its boxes, the handle, the table. -/
structure TfS (w0 : World) (inn top : Int) (gv : Value) (gs : List Gr) (fa fb ma mb : Nat) (W : World) : Prop where
  rw : RwB w0 w0.heap.size inn top gv gs W
  fl : SetAt W (w0.heap.size + 1) fa fb
  mo : SetAt W (w0.heap.size + 1 + 1) ma mb
  han : Handle W
  tab : TabB W
theorem TfS.step {w0 : World} {inn top : Int} {gv : Value} {gs : List Gr} {fa fb ma mb : Nat} {W W' : World} (h : TfS w0 inn top gv gs fa fb ma mb W) (hb : Below W.heap.size W W') : TfS w0 inn top gv gs fa fb ma mb W' :=
  ⟨h.rw.step hb, h.fl.step hb, h.mo.step hb, h.han.below hb, h.tab.below h.tab.lt hb⟩
theorem TfS.start {w : World} {inn top : Int} {gv : Value} {gs : List Gr} (hg : GrsAt w gv gs) (hh : Handle w) (ht : TabB w) (fa fb ma mb : Nat) :
    TfS w inn top gv gs fa fb ma mb (((w.alloc (.cells #[.int .i64 inn, .int .i64 top, gv] 70)).alloc (.cells #[.int .u64 (fa : Int), .int .u64 (fb : Int)] 35)).alloc (.cells #[.int .u64 (ma : Int), .int .u64 (mb : Int)] 35)) := by
  have h := RfB.start (inn := inn) (top := top) hg fa fb
  have hb := below_new ((w.alloc (.cells #[.int .i64 inn, .int .i64 top, gv] 70)).alloc (.cells #[.int .u64 (fa : Int), .int .u64 (fb : Int)] 35)) (.cells #[.int .u64 (ma : Int), .int .u64 (mb : Int)] 35)
  have h2 := h.step hb
  refine ⟨h2.rw, h2.fl, ?_, hh.below h2.rw.below, ht.below ht.lt h2.rw.below⟩
  have := heap_alloc_new ((w.alloc (.cells #[.int .i64 inn, .int .i64 top, gv] 70)).alloc (.cells #[.int .u64 (fa : Int), .int .u64 (fb : Int)] 35)) (.cells #[.int .u64 (ma : Int), .int .u64 (mb : Int)] 35)
  rwa [World.size_alloc, World.size_alloc] at this
theorem TfS.cells {w0 : World} {inn top : Int} {gv : Value} {gs : List Gr} {fa fb ma mb : Nat} {W : World} (h : TfS w0 inn top gv gs fa fb ma mb W) : W.cell? ⟨w0.heap.size, 0, none⟩ = some (.int .i64 inn) ∧ W.cell? ⟨w0.heap.size, 1, none⟩ = some (.int .i64 top) ∧ W.cell? ⟨w0.heap.size, 2, none⟩ = some gv ∧
    W.cell? ⟨w0.heap.size + 1, 0, none⟩ = some (.int .u64 (fa : Int)) ∧ W.cell? ⟨w0.heap.size + 1, 1, none⟩ = some (.int .u64 (fb : Int)) ∧ W.cell? ⟨w0.heap.size + 1 + 1, 0, none⟩ = some (.int .u64 (ma : Int)) ∧ W.cell? ⟨w0.heap.size + 1 + 1, 1, none⟩ = some (.int .u64 (mb : Int)) :=
  ⟨h.rw.c0, h.rw.c1, h.rw.c2, h.fl.cells.1, h.fl.cells.2.1, h.mo.cells.1, h.mo.cells.2.1⟩
def Tf1 (w : World) (inn top : Int) (gv : Value) (gs : List Gr) (fa fb ma mb : Nat) (g : Nat) (u : Value) (wr : World) : Prop :=
  ∃ i : Nat, i ≤ gs.length ∧ g = gs.length - i ∧ u = .int .i64 i ∧ (∀ j, j < i → NearJ gs j) ∧ TfS w inn top gv gs fa fb ma mb wr
def Tf2 (w : World) (inn top : Int) (gv : Value) (gs : List Gr) (fa fb ma mb : Nat) (es : List En) (g : Nat) (u : Value) (wr : World) : Prop :=
  ∃ i : Nat, i ≤ es.length ∧ g = es.length - i ∧ u = .int .i64 i ∧ (∀ j, j < i → NearE es j) ∧ TfS w inn top gv gs fa fb ma mb wr
def Tf3 (w w7 : World) (inn top : Int) (gv : Value) (gs : List Gr) (fa fb ma mb : Nat) (l : List En) (g : Nat) (u : Value) (wr : World) : Prop :=
  ∃ i : Nat, i ≤ l.length ∧ g = l.length - i ∧ u = .int .i64 i ∧ TfS w inn top gv gs fa fb ma mb wr ∧ Below w7.heap.size w7 wr
/-- An entry's box: where it goes out. -/
structure EbS (C : Nat) (x : Int) (W : World) : Prop where
  lt : C < W.heap.size
  c : W.cell? ⟨C, 0, none⟩ = some (.int .i64 x)
theorem EbS.step {C : Nat} {x : Int} {W W' : World} (h : EbS C x W) (hb : Below W.heap.size W W') : EbS C x W' := ⟨Nat.lt_of_lt_of_le h.lt hb.size, (hb.cell (p := ⟨C, 0, none⟩) h.lt).trans h.c⟩
theorem EbS.start (W : World) (x : Int) (u : Value) : EbS W.heap.size x (W.alloc (.cells #[.int .i64 x, u] 74)) := ⟨by simp, by rw [Lib.cell_of_heap (heap_alloc_new W _)]; rfl⟩
theorem grp_len {gs : List Gr} (h : LightR gs) (g : Int) : (grp gs g).length ≤ 12 := by
  unfold grp
  split
  · simp
  · cases hx : gs[g.toNat]? with
    | none => simp
    | some x => exact h.m _ x hx
set_option linter.unusedSimpArgs false in
set_option maxRecDepth 100000 in
set_option maxHeartbeats 20000000 in
theorem tableFails_any (inn top : Int) (gv : Value) (gs : List Gr) (fa fb ma mb : Nat) (ua : U64 fa) (ub : U64 fb) (va : U64 ma) (vb : U64 mb) (w : World) (hg : GrsAt w gv gs) (ho : OpsG w gs) (hh : Handle w) (ht : TabB w) :
    Calls Tryz.prog 7 #[rowV inn top gv, setV fa fb, setV ma mb] w fun e w' => e = .returned (.bool true) ∧ Below w.heap.size w w' := by
  have HI := Lib.hid (TfS.start (inn := inn) (top := top) hg hh ht fa fb ma mb)
  have HAw := Lib.hid (fun W h1 h2 => awake12_any W h1 h2)
  obtain ⟨ga, gcap, rfl⟩ := hg.form
  have HG := Lib.hid hg
  have HOps := Lib.hid ho
  clear hg hh ht ho
  go_enter Tryz.func7, Tryz.ntmps7
  go_wp2_with fail
  refine (HAw.out _ HI.out.han HI.out.tab).mono ?_
  rintro e w1 ⟨rfl, b1⟩
  have HI1 := Lib.hid (HI.out.step b1)
  clear b1 HI HAw
  obtain ⟨k0, k1, k2, k3, k4, k5, k6⟩ := HI1.out.cells
  have hbr := below_new w1 (.cells #[.int .i64 inn, .int .i64 top, .slice ga gs.length gcap] 70)
  have hIr := HI1.out.step hbr
  have HLi := Lib.hid (light12_any inn top (.slice ga gs.length gcap) gs w1.heap.size _ hIr.rw.gr (boxed_row w1 _ _ _).1 (boxed_row w1 _ _ _).2.1 (boxed_row w1 _ _ _).2.2)
  have HIr := Lib.hid hIr
  clear hbr hIr
  go_wp2_with fail
  refine HLi.out.mono ?_
  rintro e w2 ⟨m, rfl, hp, b2⟩
  have HI2 := Lib.hid (HIr.out.step b2)
  clear b2 HI1 HIr HLi k0 k1 k2 k3 k4 k5 k6
  cases m with
  | false =>
    clear hp
    go_wp2_with fail
    go_ret
    exact ⟨rfl, HI2.out.rw.below⟩
  | true =>
    have HL := Lib.hid (hp rfl)
    have hn12 := HL.out.n
    clear hp
    have k2 := HI2.out.rw.c2
    go_wp2_with fail
    clear k2
    go_loopg [24] gs.length (fun g u W => Tf1 w inn top (.slice ga gs.length gcap) gs fa fb ma mb g u W)
    case atStart => exact ⟨0, Nat.zero_le _, by omega, rfl, fun j hj => absurd hj (Nat.not_lt_zero _), HI2.out⟩
    case round =>
      clear HI2
      obtain ⟨i, hi, hgi, rfl, hnear, hst⟩ := hrel
      have HNe := Lib.hid hnear
      have HST := Lib.hid hst
      clear hnear hst
      by_cases hlt : i < gs.length
      · obtain ⟨x, hx⟩ : ∃ x, gs[i]? = some x := ⟨_, List.getElem?_eq_getElem hlt⟩
        have hml := HL.out.m i x hx
        obtain ⟨b, off, rfl, c0, hes⟩ := HG.out.at hx (Below.refl _ _)
        replace c0 := (HST.out.rw.below.cell (World.block_lt_of_cell? w _ c0)).trans c0
        have HX := Lib.hid hx
        clear hx
        obtain ⟨xa, xc, es⟩ := x
        replace c0 : _ = some (Value.slice xa es.length xc) := c0
        replace hml : es.length ≤ 12 := hml
        have HE : Hid (EntsAt w (.slice xa es.length xc) es) := Lib.hid hes
        clear hes
        go_wp2_with fail
        clear c0
        go_loopg [30] es.length (fun g u W => Tf2 w inn top (.slice (some ⟨b, off, none⟩) gs.length gcap) gs fa fb ma mb es g u W)
        case atStart => exact ⟨0, Nat.zero_le _, by omega, rfl, fun j hj => absurd hj (Nat.not_lt_zero _), HST.out⟩
        case round =>
          clear HST
          obtain ⟨j, hj, hgj, rfl, hnj, hst⟩ := hrel
          have HNj := Lib.hid hnj
          have HST := Lib.hid hst
          clear hnj hst
          by_cases hjl : j < es.length
          · obtain ⟨e, he⟩ : ∃ e, es[j]? = some e := ⟨_, List.getElem?_eq_getElem hjl⟩
            obtain ⟨b2, off2, rfl, d0, d1⟩ := HE.out.at he HST.out.rw.below
            have HST2 := Lib.hid (HST.out.step (below_new wr (.cells #[.int .i64 e.out, .slice e.oa e.on e.oc] 74)))
            have HJ : Hid (0 ≤ e.out ∧ e.out ≤ 127 → ∀ j', j' < j + 1 → NearE es j') := Lib.hid (fun hb j' hj' => by
              rcases Nat.lt_succ_iff_lt_or_eq.1 hj' with hj' | rfl
              · exact HNj.out j' hj'
              · intro e' he'
                rw [he] at he'
                injection he' with he'
                rw [← he']; exact hb)
            clear he HST
            by_cases h0 : e.out < 0
            · go_wp2_with fail
              go_ret
              exact ⟨rfl, HST2.out.rw.below⟩
            · by_cases h1 : (127 : Int) < e.out
              · go_wp2_with fail
                go_ret
                exact ⟨rfl, HST2.out.rw.below⟩
              · have H3 : Hid (Tf2 w inn top (.slice (some ⟨b, off, none⟩) gs.length gcap) gs fa fb ma mb es (es.length - (j + 1)) (.int .i64 ((j : Int) + 1)) (wr.alloc (.cells #[.int .i64 e.out, .slice e.oa e.on e.oc] 74))) := Lib.hid ⟨j + 1, by omega, rfl, by go_num, HJ.out ⟨by omega, by omega⟩, HST2.out⟩
                clear HJ HNj
                go_wp2_with fail
                go_roundg (es.length - (j + 1))
                case measure => omega
                case rel => exact H3.out
          · obtain rfl : j = es.length := by omega
            have H3 : Hid (Tf1 w inn top (.slice (some ⟨b, off, none⟩) gs.length gcap) gs fa fb ma mb (gs.length - (i + 1)) (.int .i64 ((i : Int) + 1)) wr) := Lib.hid ⟨i + 1, by omega, rfl, by go_num, fun j' hj' => by
              rcases Nat.lt_succ_iff_lt_or_eq.1 hj' with hj' | rfl
              · exact HNe.out j' hj'
              · intro g hg k e he
                rw [HX.out] at hg
                injection hg with hg
                subst hg
                exact HNj.out k (List.getElem?_eq_some_iff.1 he).1 e he, HST.out⟩
            clear HNj HST
            go_wp2_with fail
            go_roundg (gs.length - (i + 1))
            case measure => omega
            case rel => exact H3.out
      · obtain rfl : i = gs.length := by omega
        have HNr : Hid (NearG gs) := Lib.hid (fun j g hg => HNe.out j (List.getElem?_eq_some_iff.1 hg).1 g hg)
        clear HNe hi hlt hgi
        obtain ⟨w3, hw3⟩ : ∃ w3, w3 = wr := ⟨_, rfl⟩
        subst hw3
        have HA := Lib.hid (fun (p q : Nat) (up : U64 p) (uq : U64 q) W (h : GrsAt W (.slice ga gs.length gcap) gs) => active_any inn top _ gs p q up uq W h HL.out)
        have HOr := Lib.hid (fun W => or_any fa fb ma mb ua ub va vb W)
        have HM : Hid (∀ a b, ActR gs fa fb a → ActR gs (fa ||| ma) (fb ||| mb) b → 0 ≤ b → 0 ≤ a ∧ a ≤ b) := Lib.hid (fun a b h h' => h.mono (fun j hj => by rw [hasB_or, hj]; rfl) h')
        have HU2 := Lib.hid (And.intro (ua.or va) (ub.or vb))
        clear va vb
        generalize fa ||| ma = oa at *
        generalize fb ||| mb = ob at *
        go_wp2_with fail
        have hI := HST.out.step (Below.refl _ _).drew
        clear HST
        have kk := hI.cells
        go_region_held3 (fun w' => w'.cell? ⟨w.heap.size, 0, none⟩ = some (.int .i64 inn) ∧ w'.cell? ⟨w.heap.size, 1, none⟩ = some (.int .i64 top) ∧ w'.cell? ⟨w.heap.size, 2, none⟩ = some (.slice ga gs.length gcap) ∧ w'.cell? ⟨w.heap.size + 1, 0, none⟩ = some (.int .u64 (fa : Int)) ∧ w'.cell? ⟨w.heap.size + 1, 1, none⟩ = some (.int .u64 (fb : Int)) ∧ w'.cell? ⟨w.heap.size + 1 + 1, 0, none⟩ = some (.int .u64 (ma : Int)) ∧ w'.cell? ⟨w.heap.size + 1 + 1, 1, none⟩ = some (.int .u64 (mb : Int)))
          (first | exact kk | exact hI.cells)
          (first
          | (go_at_call_of 34 fa; refine (HA.out fa fb ua ub _ hI.rw.gr).mono ?_; rintro e w4 ⟨a, rfl, hA, b4⟩; replace hI := hI.step b4)
          | (go_at_call 24; refine (HOr.out _).mono ?_; rintro e w5 ⟨rfl, b5⟩; replace hI := hI.step b5)
          | (go_at_call_of 34 oa; refine (HA.out oa ob HU2.out.1 HU2.out.2 _ hI.rw.gr).mono ?_; rintro e w6 ⟨c, rfl, hC, b6⟩; replace hI := hI.step b6))
        --REST
        have HI := Lib.hid hI
        have HAa := Lib.hid hA
        have HMc := Lib.hid (HM.out a c hA hC)
        have HNx := Lib.hid (fun W (h : GrsAt W (.slice ga gs.length gcap) gs) (h2 : OpsG W gs) => next_any inn top _ gs fa fb ua ub W h HL.out h2)
        have HLk := Lib.hid (fun W (h : GrsAt W (.slice ga gs.length gcap) gs) => links_any a inn top _ gs W h HL.out)
        have HHas := Lib.hid (fun x W => has_any fa fb x ua ub W)
        have HHl := Lib.hid (fun x W => has_any _ _ x (lnk_u64 (grp gs a)).1 (lnk_u64 (grp gs a)).2 W)
        have HOut := Lib.hid (fun (l : List En) hl i e hi => next_out (a := a) (fa := fa) (fb := fb) HNr.out (l := l) hl (i := i) (e := e) hi)
        clear hI hA hC kk HA HOr HM HU2
        generalize (lnk (grp gs a)).1 = p at *
        generalize (lnk (grp gs a)).2 = q at *
        obtain ⟨k0, k1, k2, k3, k4, -, -⟩ := HI.out.cells
        by_cases ha : a < 0
        · have hc : ¬ 0 ≤ c := fun h => by have := HMc.out h; omega
          clear HMc
          obtain rfl : a = -1 := by rcases HAa.out.lt with h | ⟨k, h, -⟩ <;> omega
          go_wp2_with fail
          refine (HNx.out _ HI.out.rw.gr (HOps.out.step HI.out.rw.below)).mono ?_
          rintro e w7 ⟨a', v, l, rfl, hA2, hv, hl, b7⟩
          obtain rfl : a' = (-1 : Int) := hA2.one HAa.out
          have HI7 := Lib.hid (HI.out.step b7)
          obtain ⟨va, vcap, rfl⟩ := hv.form
          have HV := Lib.hid hv
          have HLl := Lib.hid (HOut.out l hl)
          have hll : l.length ≤ 12 := by
            have e1 := congrArg List.length hl
            rw [List.length_map, List.length_map] at e1
            have e2 := List.length_filter_le (fun e => !hasI fa fb e.out) (grp gs (-1 : Int))
            have e3 := grp_len HL.out (-1 : Int)
            omega
          clear hA2 hv hl b7 k0 k1 k2 k3 k4 HI
          go_wp2_with fail
          go_loopg [67] l.length (fun g u W => Tf3 w w7 inn top (.slice ga gs.length gcap) gs fa fb ma mb l g u W)
          case atStart => exact ⟨0, Nat.zero_le _, by omega, rfl, HI7.out, Below.refl _ _⟩
          case round =>
            clear HI7
            obtain ⟨i, hi, hgi, rfl, hst, hb7⟩ := hrel
            have HST := Lib.hid hst
            have HB7 := Lib.hid hb7
            clear hst hb7
            by_cases hli : i < l.length
            · obtain ⟨x, hx⟩ : ∃ x, l[i]? = some x := ⟨_, List.getElem?_eq_getElem hli⟩
              obtain ⟨bb, off, rfl, c0, c1⟩ := HV.out.at hx HB7.out
              obtain ⟨o1, o2⟩ := HLl.out i x hx
              have HH1 := Lib.hid (HHas.out x.out)
              have HH2 := Lib.hid (HHl.out x.out)
              rw [o1] at HH1
              rw [o2] at HH2
              have hbn := below_new wr (.cells #[.int .i64 x.out, .slice x.oa x.on x.oc] 74)
              have HE := Lib.hid (EbS.start wr x.out (.slice x.oa x.on x.oc))
              have HS2 := Lib.hid (HST.out.step hbn)
              have HB2 := Lib.hid (HB7.out.trans (hbn.mono HB7.out.size))
              clear hx o1 o2 hbn HST
              go_wp2_with fail
              clear c0 c1
              have hI := HS2.out.step (Below.refl _ _).drew
              have hE := HE.out.step (Below.refl _ _).drew
              have hB := HB2.out.trans ((Below.refl _ _).drew.mono HB2.out.size)
              clear HS2 HE HB2
              have kk : _ ∧ _ ∧ _ ∧ _ ∧ _ ∧ _ := ⟨hI.rw.c0, hI.rw.c1, hI.rw.c2, hI.fl.cells.1, hI.fl.cells.2.1, hE.c⟩
              go_region_held3 (fun w' => w'.cell? ⟨w.heap.size, 0, none⟩ = some (.int .i64 inn) ∧ w'.cell? ⟨w.heap.size, 1, none⟩ = some (.int .i64 top) ∧ w'.cell? ⟨w.heap.size, 2, none⟩ = some (.slice ga gs.length gcap) ∧ w'.cell? ⟨w.heap.size + 1, 0, none⟩ = some (.int .u64 (fa : Int)) ∧ w'.cell? ⟨w.heap.size + 1, 1, none⟩ = some (.int .u64 (fb : Int)) ∧ w'.cell? ⟨wr.heap.size, 0, none⟩ = some (.int .i64 x.out))
                (first | exact kk | exact ⟨hI.rw.c0, hI.rw.c1, hI.rw.c2, hI.fl.cells.1, hI.fl.cells.2.1, hE.c⟩)
                (first
                | (go_at_call_of 36 fa; refine (HH1.out _).mono ?_; rintro e w8 ⟨rfl, b8⟩; replace hB := hB.trans (b8.mono hB.size); replace hE := hE.step b8; replace hI := hI.step b8)
                | (go_at_call 37; refine (HLk.out _ hI.rw.gr).mono ?_; rintro e w9 ⟨rfl, b9⟩; replace hB := hB.trans (b9.mono hB.size); replace hE := hE.step b9; replace hI := hI.step b9)
                | (go_at_call_of 36 p; refine (HH2.out _).mono ?_; rintro e w10 ⟨rfl, b10⟩; replace hB := hB.trans (b10.mono hB.size); replace hE := hE.step b10; replace hI := hI.step b10))
              all_goals
                have H3 : Hid (Tf3 w w7 inn top (.slice ga gs.length gcap) gs fa fb ma mb l (l.length - (i + 1)) (.int .i64 ((i : Int) + 1)) _) := Lib.hid ⟨i + 1, by omega, rfl, by go_num, hI, hB⟩
                clear hI hE hB kk
                go_wp2_with fail
                go_roundg (l.length - (i + 1))
                case measure => omega
                case rel => exact H3.out
            · obtain rfl : i = l.length := by omega
              clear hli hi hgi HV HLl HHas HHl HLk
              obtain ⟨k0, k1, k2, k3, k4, -, -⟩ := HST.out.cells
              go_wp2_with fail
              clear k0 k1 k2 k3 k4
              have hI := HST.out.step (Below.refl _ _).drew
              clear HST
              have kk : _ ∧ _ ∧ _ ∧ _ ∧ _ := ⟨hI.rw.c0, hI.rw.c1, hI.rw.c2, hI.fl.cells.1, hI.fl.cells.2.1⟩
              refine wp_region_held_drew (S := fun w' => w'.cell? ⟨w.heap.size, 0, none⟩ = some (.int .i64 inn) ∧ w'.cell? ⟨w.heap.size, 1, none⟩ = some (.int .i64 top) ∧ w'.cell? ⟨w.heap.size, 2, none⟩ = some (.slice ga gs.length gcap) ∧ w'.cell? ⟨w.heap.size + 1, 0, none⟩ = some (.int .u64 (fa : Int)) ∧ w'.cell? ⟨w.heap.size + 1, 1, none⟩ = some (.int .u64 (fb : Int))) (by kernel_rfl) ?_ (fun hHeld => ?_)
              · exact kk
              refine wpAnyH_take (i := 0) (v := ?_) (by simp only [List.getElem?_toArray, List.getElem?_cons_succ, List.getElem?_cons_zero]; rfl) (by kernel_rfl) (by kernel_rfl) (by kernel_rfl) (by exact fun _ _ _ h => h) (Or.inl ⟨by rfl, ?_⟩) (by assumption) ?_
              rotate_left
              · (intro w' hSw; (try dsimp only at hSw); go_simp; try with_reducible rfl)
              try simp only [Act.put, List.setIfInBounds_toArray, List.set_cons_zero, List.set_cons_succ]
              refine wpAnyH_take (i := 1) (v := ?_) (by simp only [List.getElem?_toArray, List.getElem?_cons_succ, List.getElem?_cons_zero]; rfl) (by kernel_rfl) (by kernel_rfl) (by kernel_rfl) (by exact fun _ _ _ h => h) (Or.inl ⟨by rfl, ?_⟩) (by assumption) ?_
              rotate_left
              · (intro w' hSw; (try dsimp only at hSw); go_simp; try with_reducible rfl)
              try simp only [Act.put, List.setIfInBounds_toArray, List.set_cons_zero, List.set_cons_succ]
              refine wpAnyH_take (i := 2) (v := ?_) (by simp only [List.getElem?_toArray, List.getElem?_cons_succ, List.getElem?_cons_zero]; rfl) (by kernel_rfl) (by kernel_rfl) (by kernel_rfl) (by exact fun _ _ _ h => h) (Or.inl ⟨by rfl, ?_⟩) (by assumption) ?_
              rotate_left
              · (intro w' hSw; (try dsimp only at hSw); go_simp; try with_reducible rfl)
              try simp only [Act.put, List.setIfInBounds_toArray, List.set_cons_zero, List.set_cons_succ]
              refine wpAnyH_take (i := 3) (v := ?_) (by simp only [List.getElem?_toArray, List.getElem?_cons_succ, List.getElem?_cons_zero]; rfl) (by kernel_rfl) (by kernel_rfl) (by kernel_rfl) (by exact fun _ _ _ h => h) (Or.inl ⟨by rfl, ?_⟩) (by assumption) ?_
              rotate_left
              · (intro w' hSw; (try dsimp only at hSw); go_simp; try with_reducible rfl)
              try simp only [Act.put, List.setIfInBounds_toArray, List.set_cons_zero, List.set_cons_succ]
              refine wpAnyH_ready (rs := [4]) (by kernel_rfl) (by simp) ?_
              refine AllReadyH.cons (by simp only [List.getElem?_toArray, List.getElem?_cons_succ, List.getElem?_cons_zero]; rfl) (fun K hK => ?_) AllReadyH.nil
              rw [if_pos (by rfl)]
              go_simp
              refine (HNx.out _ hI.rw.gr (HOps.out.step hI.rw.below)).mono ?_
              rintro e w11 ⟨a2, v2, l2, rfl, hA2, hv2, hl2, b11⟩
              replace hI := hI.step b11
              obtain rfl : l2 = [] := List.eq_nil_of_length_eq_zero ((next_some hl2 hA2).2 (by rw [hA2.one HAa.out]; decide))
              obtain ⟨va2, vc2, rfl⟩ := hv2.form
              clear hA2 hv2 hl2
              try go_wp2_with fail
              refine hK.out _ _ ?_ (fun hHeld2 => ?_)
              · exact ⟨hI.rw.c0, hI.rw.c1, hI.rw.c2, hI.fl.cells.1, hI.fl.cells.2.1⟩
              clear hK K hHeld
              try simp only [Act.put, List.setIfInBounds_toArray, List.set_cons_zero, List.set_cons_succ]
              refine wpAnyH_take (i := 5) (v := ?_) (by simp only [List.getElem?_toArray, List.getElem?_cons_succ, List.getElem?_cons_zero]; rfl) (by kernel_rfl) (by kernel_rfl) (by kernel_rfl) (by exact fun _ _ _ h => h) (Or.inl ⟨by rfl, ?_⟩) (by assumption) ?_
              rotate_left
              · (intro w' hSw; (try dsimp only at hSw); go_simp; try with_reducible rfl)
              try simp only [Act.put, List.setIfInBounds_toArray, List.set_cons_zero, List.set_cons_succ]
              refine wpAnyH_take (i := 6) (v := ?_) (by simp only [List.getElem?_toArray, List.getElem?_cons_succ, List.getElem?_cons_zero]; rfl) (by kernel_rfl) (by kernel_rfl) (by kernel_rfl) (by exact fun _ _ _ h => h) (Or.inl ⟨by rfl, ?_⟩) (by assumption) ?_
              rotate_left
              · (intro w' hSw; (try dsimp only at hSw); go_simp; try with_reducible rfl)
              try simp only [Act.put, List.setIfInBounds_toArray, List.set_cons_zero, List.set_cons_succ]
              refine wpAnyH_take (i := 7) (v := ?_) (by simp only [List.getElem?_toArray, List.getElem?_cons_succ, List.getElem?_cons_zero]; rfl) (by kernel_rfl) (by kernel_rfl) (by kernel_rfl) (by exact fun _ _ _ h => h) (Or.inl ⟨by rfl, ?_⟩) (by assumption) ?_
              rotate_left
              · (intro w' hSw; (try dsimp only at hSw); go_simp; try with_reducible rfl)
              try simp only [Act.put, List.setIfInBounds_toArray, List.set_cons_zero, List.set_cons_succ]
              refine wpAnyH_take (i := 8) (v := ?_) (by simp only [List.getElem?_toArray, List.getElem?_cons_succ, List.getElem?_cons_zero]; rfl) (by kernel_rfl) (by kernel_rfl) (by kernel_rfl) (by exact fun _ _ _ h => h) (Or.inl ⟨by rfl, ?_⟩) (by assumption) ?_
              rotate_left
              · (intro w' hSw; (try dsimp only at hSw); go_simp; try with_reducible rfl)
              try simp only [Act.put, List.setIfInBounds_toArray, List.set_cons_zero, List.set_cons_succ]
              refine wpAnyH_take (i := 9) (v := ?_) (by simp only [List.getElem?_toArray, List.getElem?_cons_succ, List.getElem?_cons_zero]; rfl) (by kernel_rfl) (by kernel_rfl) (by kernel_rfl) (by exact fun _ _ _ h => h) (Or.inl ⟨by rfl, ?_⟩) (by assumption) ?_
              rotate_left
              · (intro w' hSw; (try dsimp only at hSw); go_simp; try with_reducible rfl)
              try simp only [Act.put, List.setIfInBounds_toArray, List.set_cons_zero, List.set_cons_succ]
              refine wpAnyH_take (i := 10) (v := ?_) (by simp only [List.getElem?_toArray, List.getElem?_cons_succ, List.getElem?_cons_zero]; rfl) (by kernel_rfl) (by kernel_rfl) (by kernel_rfl) (by exact fun _ _ _ h => h) (Or.inl ⟨by rfl, ?_⟩) (by assumption) ?_
              rotate_left
              · (intro w' hSw; (try dsimp only at hSw); go_simp; try with_reducible rfl)
              try simp only [Act.put, List.setIfInBounds_toArray, List.set_cons_zero, List.set_cons_succ]
              refine wpAnyH_take (i := 11) (v := ?_) (by simp only [List.getElem?_toArray, List.getElem?_cons_succ, List.getElem?_cons_zero]; rfl) (by kernel_rfl) (by kernel_rfl) (by kernel_rfl) (by exact fun _ _ _ h => h) (Or.inl ⟨by rfl, ?_⟩) (by assumption) ?_
              rotate_left
              · (intro w' hSw; (try dsimp only at hSw); go_simp; try with_reducible rfl)
              try simp only [Act.put, List.setIfInBounds_toArray, List.set_cons_zero, List.set_cons_succ]
              refine wpAnyH_take (i := 12) (v := undef) (by simp only [List.getElem?_toArray, List.getElem?_cons_succ, List.getElem?_cons_zero]; rfl) (by kernel_rfl) (by kernel_rfl) (by kernel_rfl) (by exact fun _ _ _ h => h) (Or.inr ⟨by rfl, rfl⟩) (by assumption) ?_
              try simp only [Act.put, List.setIfInBounds_toArray, List.set_cons_zero, List.set_cons_succ]
              refine wpAnyH_take (i := 13) (v := undef) (by simp only [List.getElem?_toArray, List.getElem?_cons_succ, List.getElem?_cons_zero]; rfl) (by kernel_rfl) (by kernel_rfl) (by kernel_rfl) (by exact fun _ _ _ h => h) (Or.inr ⟨by rfl, rfl⟩) (by assumption) ?_
              try simp only [Act.put, List.setIfInBounds_toArray, List.set_cons_zero, List.set_cons_succ]
              refine wpAnyH_take (i := 14) (v := undef) (by simp only [List.getElem?_toArray, List.getElem?_cons_succ, List.getElem?_cons_zero]; rfl) (by kernel_rfl) (by kernel_rfl) (by kernel_rfl) (by exact fun _ _ _ h => h) (Or.inr ⟨by rfl, rfl⟩) (by assumption) ?_
              try simp only [Act.put, List.setIfInBounds_toArray, List.set_cons_zero, List.set_cons_succ]
              refine wpAnyH_take (i := 15) (v := undef) (by simp only [List.getElem?_toArray, List.getElem?_cons_succ, List.getElem?_cons_zero]; rfl) (by kernel_rfl) (by kernel_rfl) (by kernel_rfl) (by exact fun _ _ _ h => h) (Or.inr ⟨by rfl, rfl⟩) (by assumption) ?_
              try simp only [Act.put, List.setIfInBounds_toArray, List.set_cons_zero, List.set_cons_succ]
              refine wpAnyH_take (i := 16) (v := undef) (by simp only [List.getElem?_toArray, List.getElem?_cons_succ, List.getElem?_cons_zero]; rfl) (by kernel_rfl) (by kernel_rfl) (by kernel_rfl) (by exact fun _ _ _ h => h) (Or.inr ⟨by rfl, rfl⟩) (by assumption) ?_
              try simp only [Act.put, List.setIfInBounds_toArray, List.set_cons_zero, List.set_cons_succ]
              refine wpAnyH_take (i := 17) (v := ?_) (by simp only [List.getElem?_toArray, List.getElem?_cons_succ, List.getElem?_cons_zero]; rfl) (by kernel_rfl) (by kernel_rfl) (by kernel_rfl) (by exact fun _ _ _ h => h) (Or.inl ⟨by rfl, ?_⟩) (by assumption) ?_
              rotate_left
              · (intro w' hSw; (try dsimp only at hSw); go_simp; try with_reducible rfl)
              try simp only [Act.put, List.setIfInBounds_toArray, List.set_cons_zero, List.set_cons_succ]
              refine wpAnyH_take (i := 18) (v := ?_) (by simp only [List.getElem?_toArray, List.getElem?_cons_succ, List.getElem?_cons_zero]; rfl) (by kernel_rfl) (by kernel_rfl) (by kernel_rfl) (by exact fun _ _ _ h => h) (Or.inl ⟨by rfl, ?_⟩) (by assumption) ?_
              rotate_left
              · (intro w' hSw; (try dsimp only at hSw); go_simp; try with_reducible rfl)
              try simp only [Act.put, List.setIfInBounds_toArray, List.set_cons_zero, List.set_cons_succ]
              refine wpAnyH_take (i := 19) (v := ?_) (by simp only [List.getElem?_toArray, List.getElem?_cons_succ, List.getElem?_cons_zero]; rfl) (by kernel_rfl) (by kernel_rfl) (by kernel_rfl) (by exact fun _ _ _ h => h) (Or.inl ⟨by rfl, ?_⟩) (by assumption) ?_
              rotate_left
              · (intro w' hSw; (try dsimp only at hSw); go_simp; try with_reducible rfl)
              try simp only [Act.put, List.setIfInBounds_toArray, List.set_cons_zero, List.set_cons_succ]
              refine wpAnyH_done (by kernel_rfl) ?_ _
              all_goals
                have HF := Lib.hid hI.rw.below
                clear hI
                go_wp2_with fail
                go_ret
                exact ⟨rfl, HF.out⟩
        · obtain ⟨K, rfl⟩ : ∃ K : Nat, a = (K : Int) := ⟨a.toNat, by omega⟩
          by_cases hc : 0 ≤ c
          · have hac : ¬ c < (K : Int) := by have := HMc.out hc; omega
            clear HMc
            go_wp2_with fail
            refine (HNx.out _ HI.out.rw.gr (HOps.out.step HI.out.rw.below)).mono ?_
            rintro e w7 ⟨a', v, l, rfl, hA2, hv, hl, b7⟩
            obtain rfl : a' = (K : Int) := hA2.one HAa.out
            have HI7 := Lib.hid (HI.out.step b7)
            obtain ⟨va, vcap, rfl⟩ := hv.form
            have HV := Lib.hid hv
            have HLl := Lib.hid (HOut.out l hl)
            have hll : l.length ≤ 12 := by
              have e1 := congrArg List.length hl
              rw [List.length_map, List.length_map] at e1
              have e2 := List.length_filter_le (fun e => !hasI fa fb e.out) (grp gs (K : Int))
              have e3 := grp_len HL.out (K : Int)
              omega
            clear hA2 hv hl b7 k0 k1 k2 k3 k4 HI
            go_wp2_with fail
            go_loopg [67] l.length (fun g u W => Tf3 w w7 inn top (.slice ga gs.length gcap) gs fa fb ma mb l g u W)
            case atStart => exact ⟨0, Nat.zero_le _, by omega, rfl, HI7.out, Below.refl _ _⟩
            case round =>
              clear HI7
              obtain ⟨i, hi, hgi, rfl, hst, hb7⟩ := hrel
              have HST := Lib.hid hst
              have HB7 := Lib.hid hb7
              clear hst hb7
              by_cases hli : i < l.length
              · obtain ⟨x, hx⟩ : ∃ x, l[i]? = some x := ⟨_, List.getElem?_eq_getElem hli⟩
                obtain ⟨bb, off, rfl, c0, c1⟩ := HV.out.at hx HB7.out
                obtain ⟨o1, o2⟩ := HLl.out i x hx
                have HH1 := Lib.hid (HHas.out x.out)
                have HH2 := Lib.hid (HHl.out x.out)
                rw [o1] at HH1
                rw [o2] at HH2
                have hbn := below_new wr (.cells #[.int .i64 x.out, .slice x.oa x.on x.oc] 74)
                have HE := Lib.hid (EbS.start wr x.out (.slice x.oa x.on x.oc))
                have HS2 := Lib.hid (HST.out.step hbn)
                have HB2 := Lib.hid (HB7.out.trans (hbn.mono HB7.out.size))
                clear hx o1 o2 hbn HST
                go_wp2_with fail
                clear c0 c1
                have hI := HS2.out.step (Below.refl _ _).drew
                have hE := HE.out.step (Below.refl _ _).drew
                have hB := HB2.out.trans ((Below.refl _ _).drew.mono HB2.out.size)
                clear HS2 HE HB2
                have kk : _ ∧ _ ∧ _ ∧ _ ∧ _ ∧ _ := ⟨hI.rw.c0, hI.rw.c1, hI.rw.c2, hI.fl.cells.1, hI.fl.cells.2.1, hE.c⟩
                go_region_held3 (fun w' => w'.cell? ⟨w.heap.size, 0, none⟩ = some (.int .i64 inn) ∧ w'.cell? ⟨w.heap.size, 1, none⟩ = some (.int .i64 top) ∧ w'.cell? ⟨w.heap.size, 2, none⟩ = some (.slice ga gs.length gcap) ∧ w'.cell? ⟨w.heap.size + 1, 0, none⟩ = some (.int .u64 (fa : Int)) ∧ w'.cell? ⟨w.heap.size + 1, 1, none⟩ = some (.int .u64 (fb : Int)) ∧ w'.cell? ⟨wr.heap.size, 0, none⟩ = some (.int .i64 x.out))
                  (first | exact kk | exact ⟨hI.rw.c0, hI.rw.c1, hI.rw.c2, hI.fl.cells.1, hI.fl.cells.2.1, hE.c⟩)
                  (first
                  | (go_at_call_of 36 fa; refine (HH1.out _).mono ?_; rintro e w8 ⟨rfl, b8⟩; replace hB := hB.trans (b8.mono hB.size); replace hE := hE.step b8; replace hI := hI.step b8)
                  | (go_at_call 37; refine (HLk.out _ hI.rw.gr).mono ?_; rintro e w9 ⟨rfl, b9⟩; replace hB := hB.trans (b9.mono hB.size); replace hE := hE.step b9; replace hI := hI.step b9)
                  | (go_at_call_of 36 p; refine (HH2.out _).mono ?_; rintro e w10 ⟨rfl, b10⟩; replace hB := hB.trans (b10.mono hB.size); replace hE := hE.step b10; replace hI := hI.step b10))
                all_goals
                  have H3 : Hid (Tf3 w w7 inn top (.slice ga gs.length gcap) gs fa fb ma mb l (l.length - (i + 1)) (.int .i64 ((i : Int) + 1)) _) := Lib.hid ⟨i + 1, by omega, rfl, by go_num, hI, hB⟩
                  clear hI hE hB kk
                  go_wp2_with fail
                  go_roundg (l.length - (i + 1))
                  case measure => omega
                  case rel => exact H3.out
              · obtain rfl : i = l.length := by omega
                clear hli hi hgi HV HLl HHas HHl HLk
                have HKp : Hid (∀ g : Nat, g < K → subG gs fa fb g = true) := Lib.hid (by
                  rcases HAa.out with ⟨h, -⟩ | ⟨k, h, -, -, hp⟩
                  · omega
                  · obtain rfl : k = K := by omega
                    exact hp)
                have HKl : Hid (K ≤ gs.length) := Lib.hid (by
                  rcases HAa.out.lt with h | ⟨k, h, h'⟩
                  · omega
                  · omega)
                have HNd := Lib.hid (fun W (h : GrsAt W (.slice ga gs.length gcap) gs) => need_any K inn top _ gs W h HL.out HKl.out)
                have HUn := Lib.hid (fun p q (up : U64 p) (uq : U64 q) W => under_any p q fa fb up uq ua ub W)
                have HSm := Lib.hid (fun p q (up : U64 p) (uq : U64 q) (h : NeS gs K p q) => need_under up uq h HKp.out)
                
                obtain ⟨k0, k1, k2, k3, k4, -, -⟩ := HST.out.cells
                go_wp2_with fail
                clear k0 k1 k2 k3 k4
                have hI := HST.out.step (Below.refl _ _).drew
                clear HST
                have kk : _ ∧ _ ∧ _ ∧ _ ∧ _ := ⟨hI.rw.c0, hI.rw.c1, hI.rw.c2, hI.fl.cells.1, hI.fl.cells.2.1⟩
                go_region_held3 (fun w' => w'.cell? ⟨w.heap.size, 0, none⟩ = some (.int .i64 inn) ∧ w'.cell? ⟨w.heap.size, 1, none⟩ = some (.int .i64 top) ∧ w'.cell? ⟨w.heap.size, 2, none⟩ = some (.slice ga gs.length gcap) ∧ w'.cell? ⟨w.heap.size + 1, 0, none⟩ = some (.int .u64 (fa : Int)) ∧ w'.cell? ⟨w.heap.size + 1, 1, none⟩ = some (.int .u64 (fb : Int)))
                  (first | exact kk | exact ⟨hI.rw.c0, hI.rw.c1, hI.rw.c2, hI.fl.cells.1, hI.fl.cells.2.1⟩)
                  (first
                  | (go_at_call 35; (refine (HNx.out _ hI.rw.gr (HOps.out.step hI.rw.below)).mono ?_; rintro e w11 ⟨a2, v2, l2, rfl, hA2, hv2, hl2, b11⟩; replace hI := hI.step b11; obtain ⟨va2, vc2, rfl⟩ := hv2.form; have hn0 : ¬ l2.length = 0 := (fun h => by have h2 := (next_some hl2 hA2).1 h; rw [hA2.one HAa.out] at h2; omega); clear hA2 hv2 hl2; generalize l2.length = n2 at *; have hn1 : ((n2 : Int) == 0) = false := (by simpa using hn0); have hn2 : ¬ (n2 : Int) = 0 := (by omega)))
                  | (go_at_call 38; refine (HNd.out _ hI.rw.gr).mono ?_; rintro e w12 ⟨x1, x2, rfl, y1, y2, hne, b12⟩; replace hI := hI.step b12; have HSb := Lib.hid (HSm.out x1 x2 y1 y2 hne); have HUb := Lib.hid (HUn.out x1 x2 y1 y2); clear hne)
                  | (go_at_call 25; refine (HUb.out _).mono ?_; rintro e w13 ⟨rfl, b13⟩; rw [HSb.out]; replace hI := hI.step b13))
                all_goals
                  have HF := Lib.hid hI.rw.below
                  clear hI
                  go_wp2_with fail
                  go_ret
                  exact ⟨rfl, HF.out⟩
          · clear HMc
            go_wp2_with fail
            refine (HNx.out _ HI.out.rw.gr (HOps.out.step HI.out.rw.below)).mono ?_
            rintro e w7 ⟨a', v, l, rfl, hA2, hv, hl, b7⟩
            obtain rfl : a' = (K : Int) := hA2.one HAa.out
            have HI7 := Lib.hid (HI.out.step b7)
            obtain ⟨va, vcap, rfl⟩ := hv.form
            have HV := Lib.hid hv
            have HLl := Lib.hid (HOut.out l hl)
            have hll : l.length ≤ 12 := by
              have e1 := congrArg List.length hl
              rw [List.length_map, List.length_map] at e1
              have e2 := List.length_filter_le (fun e => !hasI fa fb e.out) (grp gs (K : Int))
              have e3 := grp_len HL.out (K : Int)
              omega
            clear hA2 hv hl b7 k0 k1 k2 k3 k4 HI
            go_wp2_with fail
            go_loopg [67] l.length (fun g u W => Tf3 w w7 inn top (.slice ga gs.length gcap) gs fa fb ma mb l g u W)
            case atStart => exact ⟨0, Nat.zero_le _, by omega, rfl, HI7.out, Below.refl _ _⟩
            case round =>
              clear HI7
              obtain ⟨i, hi, hgi, rfl, hst, hb7⟩ := hrel
              have HST := Lib.hid hst
              have HB7 := Lib.hid hb7
              clear hst hb7
              by_cases hli : i < l.length
              · obtain ⟨x, hx⟩ : ∃ x, l[i]? = some x := ⟨_, List.getElem?_eq_getElem hli⟩
                obtain ⟨bb, off, rfl, c0, c1⟩ := HV.out.at hx HB7.out
                obtain ⟨o1, o2⟩ := HLl.out i x hx
                have HH1 := Lib.hid (HHas.out x.out)
                have HH2 := Lib.hid (HHl.out x.out)
                rw [o1] at HH1
                rw [o2] at HH2
                have hbn := below_new wr (.cells #[.int .i64 x.out, .slice x.oa x.on x.oc] 74)
                have HE := Lib.hid (EbS.start wr x.out (.slice x.oa x.on x.oc))
                have HS2 := Lib.hid (HST.out.step hbn)
                have HB2 := Lib.hid (HB7.out.trans (hbn.mono HB7.out.size))
                clear hx o1 o2 hbn HST
                go_wp2_with fail
                clear c0 c1
                have hI := HS2.out.step (Below.refl _ _).drew
                have hE := HE.out.step (Below.refl _ _).drew
                have hB := HB2.out.trans ((Below.refl _ _).drew.mono HB2.out.size)
                clear HS2 HE HB2
                have kk : _ ∧ _ ∧ _ ∧ _ ∧ _ ∧ _ := ⟨hI.rw.c0, hI.rw.c1, hI.rw.c2, hI.fl.cells.1, hI.fl.cells.2.1, hE.c⟩
                go_region_held3 (fun w' => w'.cell? ⟨w.heap.size, 0, none⟩ = some (.int .i64 inn) ∧ w'.cell? ⟨w.heap.size, 1, none⟩ = some (.int .i64 top) ∧ w'.cell? ⟨w.heap.size, 2, none⟩ = some (.slice ga gs.length gcap) ∧ w'.cell? ⟨w.heap.size + 1, 0, none⟩ = some (.int .u64 (fa : Int)) ∧ w'.cell? ⟨w.heap.size + 1, 1, none⟩ = some (.int .u64 (fb : Int)) ∧ w'.cell? ⟨wr.heap.size, 0, none⟩ = some (.int .i64 x.out))
                  (first | exact kk | exact ⟨hI.rw.c0, hI.rw.c1, hI.rw.c2, hI.fl.cells.1, hI.fl.cells.2.1, hE.c⟩)
                  (first
                  | (go_at_call_of 36 fa; refine (HH1.out _).mono ?_; rintro e w8 ⟨rfl, b8⟩; replace hB := hB.trans (b8.mono hB.size); replace hE := hE.step b8; replace hI := hI.step b8)
                  | (go_at_call 37; refine (HLk.out _ hI.rw.gr).mono ?_; rintro e w9 ⟨rfl, b9⟩; replace hB := hB.trans (b9.mono hB.size); replace hE := hE.step b9; replace hI := hI.step b9)
                  | (go_at_call_of 36 p; refine (HH2.out _).mono ?_; rintro e w10 ⟨rfl, b10⟩; replace hB := hB.trans (b10.mono hB.size); replace hE := hE.step b10; replace hI := hI.step b10))
                all_goals
                  have H3 : Hid (Tf3 w w7 inn top (.slice ga gs.length gcap) gs fa fb ma mb l (l.length - (i + 1)) (.int .i64 ((i : Int) + 1)) _) := Lib.hid ⟨i + 1, by omega, rfl, by go_num, hI, hB⟩
                  clear hI hE hB kk
                  go_wp2_with fail
                  go_roundg (l.length - (i + 1))
                  case measure => omega
                  case rel => exact H3.out
              · obtain rfl : i = l.length := by omega
                clear hli hi hgi HV HLl HHas HHl HLk
                have HKp : Hid (∀ g : Nat, g < K → subG gs fa fb g = true) := Lib.hid (by
                  rcases HAa.out with ⟨h, -⟩ | ⟨k, h, -, -, hp⟩
                  · omega
                  · obtain rfl : k = K := by omega
                    exact hp)
                have HKl : Hid (K ≤ gs.length) := Lib.hid (by
                  rcases HAa.out.lt with h | ⟨k, h, h'⟩
                  · omega
                  · omega)
                have HNd := Lib.hid (fun W (h : GrsAt W (.slice ga gs.length gcap) gs) => need_any K inn top _ gs W h HL.out HKl.out)
                have HUn := Lib.hid (fun p q (up : U64 p) (uq : U64 q) W => under_any p q fa fb up uq ua ub W)
                have HSm := Lib.hid (fun p q (up : U64 p) (uq : U64 q) (h : NeS gs K p q) => need_under up uq h HKp.out)
                
                obtain ⟨k0, k1, k2, k3, k4, -, -⟩ := HST.out.cells
                go_wp2_with fail
                clear k0 k1 k2 k3 k4
                have hI := HST.out.step (Below.refl _ _).drew
                clear HST
                have kk : _ ∧ _ ∧ _ ∧ _ ∧ _ := ⟨hI.rw.c0, hI.rw.c1, hI.rw.c2, hI.fl.cells.1, hI.fl.cells.2.1⟩
                go_region_held3 (fun w' => w'.cell? ⟨w.heap.size, 0, none⟩ = some (.int .i64 inn) ∧ w'.cell? ⟨w.heap.size, 1, none⟩ = some (.int .i64 top) ∧ w'.cell? ⟨w.heap.size, 2, none⟩ = some (.slice ga gs.length gcap) ∧ w'.cell? ⟨w.heap.size + 1, 0, none⟩ = some (.int .u64 (fa : Int)) ∧ w'.cell? ⟨w.heap.size + 1, 1, none⟩ = some (.int .u64 (fb : Int)))
                  (first | exact kk | exact ⟨hI.rw.c0, hI.rw.c1, hI.rw.c2, hI.fl.cells.1, hI.fl.cells.2.1⟩)
                  (first
                  | (go_at_call 35; (refine (HNx.out _ hI.rw.gr (HOps.out.step hI.rw.below)).mono ?_; rintro e w11 ⟨a2, v2, l2, rfl, hA2, hv2, hl2, b11⟩; replace hI := hI.step b11; obtain ⟨va2, vc2, rfl⟩ := hv2.form; have hn0 : ¬ l2.length = 0 := (fun h => by have h2 := (next_some hl2 hA2).1 h; rw [hA2.one HAa.out] at h2; omega); clear hA2 hv2 hl2; generalize l2.length = n2 at *; have hn1 : ((n2 : Int) == 0) = false := (by simpa using hn0); have hn2 : ¬ (n2 : Int) = 0 := (by omega)))
                  | (go_at_call 38; refine (HNd.out _ hI.rw.gr).mono ?_; rintro e w12 ⟨x1, x2, rfl, y1, y2, hne, b12⟩; replace hI := hI.step b12; have HSb := Lib.hid (HSm.out x1 x2 y1 y2 hne); have HUb := Lib.hid (HUn.out x1 x2 y1 y2); clear hne)
                  | (go_at_call 25; refine (HUb.out _).mono ?_; rintro e w13 ⟨rfl, b13⟩; rw [HSb.out]; replace hI := hI.step b13))
                all_goals
                  have HF := Lib.hid hI.rw.below
                  clear hI
                  go_wp2_with fail
                  go_ret
                  exact ⟨rfl, HF.out⟩
end Go.Proofs.YtkijbiaenfeijaaGreatDoor
