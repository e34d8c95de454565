/-
  Chapter 12's law, first part: what is gone through.
  Chapter 12's law, second part: the chapter's example.
-/
import Derived.Test.YtlcpbfklnjlgnaaGreatDoorGw
import Derived.Test.YtlcpbfklnjlgnaaGreatDoorGq
import Derived.Test.YtlcpbfklnjlgnaaGreatDoorGj
namespace Go.Proofs.YtlcpbfklnjlgnaaGreatDoor
open Go.RowKit Go.Extern.Stop Go.Stop Go.Extern

def OkG (gs : List Gr) (j : Nat) : Prop := ∀ g, gs[j]? = some g → g.es.length ≤ 12 ∧ ∀ (k : Nat) (e : En), g.es[k]? = some e → e.on ≤ 12
theorem LightR.of {gs : List Gr} (h : gs.length ≤ 12) (h2 : ∀ j, j < gs.length → OkG gs j) : LightR gs :=
  ⟨h, fun i g hi => (h2 i (List.getElem?_eq_some_iff.1 hi).1 g hi).1, fun i g hi => (h2 i (List.getElem?_eq_some_iff.1 hi).1 g hi).2⟩
def Li1 (w : World) (gs : List Gr) (g : Nat) (u v : Value) (wr : World) : Prop :=
  ∃ (i : Nat) (n : Int), i ≤ 1 ∧ g = 1 - i ∧ u = .int .i64 i ∧ v = .int .i64 n ∧ 0 ≤ n ∧ n ≤ 3000 ∧ (1 ≤ i → LightR gs) ∧ Below w.heap.size w wr
def Li2 (w : World) (gs : List Gr) (g : Nat) (u v : Value) (wr : World) : Prop :=
  ∃ (i : Nat) (n : Int), i ≤ gs.length ∧ g = gs.length - i ∧ u = .int .i64 i ∧ v = .int .i64 n ∧ 0 ≤ n ∧ n ≤ 3000 ∧ (∀ j, j < i → OkG gs j) ∧ Below w.heap.size w wr
def Li3 (w : World) (es : List En) (g : Nat) (u v : Value) (wr : World) : Prop :=
  ∃ (i : Nat) (n : Int), i ≤ es.length ∧ g = es.length - i ∧ u = .int .i64 i ∧ v = .int .i64 n ∧ 0 ≤ n ∧ n ≤ 3000 + 13 * (i : Int) ∧ (∀ j e, j < i → es[j]? = some e → e.on ≤ 12) ∧ Below w.heap.size w wr
set_option maxRecDepth 100000 in
set_option maxHeartbeats 8000000 in
theorem light12_any (inn top : Int) (gv : Value) (gs : List Gr) (B : Nat) (w : World) (hg : GrsAt w gv gs) (k0 : w.cell? ⟨B, 0, none⟩ = some (.int .i64 inn)) (k1 : w.cell? ⟨B, 1, none⟩ = some (.int .i64 top)) (k2 : w.cell? ⟨B, 2, none⟩ = some gv) :
    Calls Tryz.prog 6 #[.slice (some ⟨B, 0, none⟩) 1 1, .int .i64 1] w (LiPost w (LightR gs)) := by
  obtain ⟨ga, gcap, rfl⟩ := hg.form
  have HG := Lib.hid hg
  have HK := Lib.hid (And.intro k0 (And.intro k1 k2))
  have hB := World.block_lt_of_cell? w _ k0
  have HB := Lib.hid (show B < w.heap.size from hB)
  clear hg k0 k1 k2 hB
  go_enter Tryz.func6, Tryz.ntmps6
  go_wp2_with fail
  go_loopg [18, 5] 1 (fun g u v wr => Li1 w gs g u v wr)
  case atStart => exact ⟨0, 0, by omega, rfl, rfl, rfl, by omega, by omega, fun h => by omega, Below.refl _ _⟩
  case round =>
    obtain ⟨i, n, hi, hgi, rfl, rfl, hn0, hn2, hok, hb⟩ := hrel
    rcases i with _ | _ | i
    · have c0 := (hb.cell (p := ⟨B, 0, none⟩) HB.out).trans HK.out.1
      have c1 := (hb.cell (p := ⟨B, 1, none⟩) HB.out).trans HK.out.2.1
      have c2 := (hb.cell (p := ⟨B, 2, none⟩) HB.out).trans HK.out.2.2
      have HB1 := Lib.hid (hb.trans ((below_new wr (.cells #[.int .i64 inn, .int .i64 top, .slice ga gs.length gcap] 52)).mono hb.size))
      clear hok hb
      by_cases hl : gs.length ≤ 12
      · have hl' : ¬ (12 : Int) < gs.length := by omega
        go_wp2_with fail
        generalize hW1 : wr.alloc (.cells #[.int .i64 inn, .int .i64 top, .slice ga gs.length gcap] 52) = w1 at *
        clear hW1 c0 c1 c2
        go_loopg [29, 5] gs.length (fun g u v W => Li2 w gs g u v W)
        case atStart => exact ⟨0, _, Nat.zero_le _, by omega, rfl, rfl, hn0, hn2, fun j hj => absurd hj (Nat.not_lt_zero _), HB1.out⟩
        case round =>
          clear HB1
          obtain ⟨j, m, hj, hgj, rfl, rfl, hm0, hm1, hok, hb⟩ := hrel
          have HOK := Lib.hid hok
          have HBr := Lib.hid hb
          clear hok hb
          by_cases hjl : j < gs.length
          · obtain ⟨x, hx⟩ : ∃ x, gs[j]? = some x := ⟨_, List.getElem?_eq_getElem hjl⟩
            obtain ⟨b, off, rfl, c0, hes⟩ := HG.out.at hx HBr.out
            have HX := Lib.hid hx
            clear hx
            obtain ⟨xa, xc, es⟩ := x
            replace c0 : _ = some (Value.slice xa es.length xc) := c0
            have HE : Hid (EntsAt _ (.slice xa es.length xc) es) := Lib.hid hes
            clear hes
            by_cases hel : es.length ≤ 12
            · have hel' : ¬ (12 : Int) < es.length := by omega
              go_wp2_with fail
              clear c0
              obtain ⟨w5, hw5⟩ : ∃ w5, w5 = wr := ⟨_, rfl⟩
              subst hw5
              go_loopg [38, 5] es.length (fun g u v W => Li3 w5 es g u v W)
              case atStart => exact ⟨0, _, Nat.zero_le _, by omega, rfl, rfl, hm0, by omega, fun j e hj => absurd hj (Nat.not_lt_zero _), Below.refl _ _⟩
              case round =>
                obtain ⟨i, k, hi, hgi, rfl, rfl, hk0, hk1, hon, hb⟩ := hrel
                have HON := Lib.hid hon
                by_cases hil : i < es.length
                · obtain ⟨e, hx⟩ : ∃ e, es[i]? = some e := ⟨_, List.getElem?_eq_getElem hil⟩
                  obtain ⟨b2, off2, rfl, d0, d1⟩ := HE.out.at hx hb
                  have HBe := Lib.hid (hb.trans ((below_new wr (.cells #[.int .i64 e.out, .slice e.oa e.on e.oc] 48)).mono hb.size))
                  by_cases hol : e.on ≤ 12
                  · have hol' : ¬ (12 : Int) < e.on := by omega
                    have H3 : Hid (Li3 w5 es (es.length - (i + 1)) (.int .i64 ((i : Int) + 1)) (.int .i64 (k + (1 + (e.on : Int)))) (wr.alloc (.cells #[.int .i64 e.out, .slice e.oa e.on e.oc] 48))) := Lib.hid ⟨i + 1, _, by omega, rfl, by go_num, rfl, by omega, by omega, fun j' e' hj' he' => by
                      rcases Nat.lt_succ_iff_lt_or_eq.1 hj' with hj' | rfl
                      · exact HON.out j' e' hj' he'
                      · rw [hx] at he'; injection he' with he'; rw [← he']; exact hol, HBe.out⟩
                    clear hb hon hx
                    go_wp2_with fail
                    go_roundg (es.length - (i + 1))
                    case measure => omega
                    case rel => exact H3.out
                  · have hol' : (12 : Int) < e.on := by omega
                    have HF := Lib.hid (HBr.out.trans (HBe.out.mono HBr.out.size))
                    clear hb hon hx
                    go_wp2_with fail
                    go_ret
                    exact LiPost.no HF.out
                · obtain rfl : i = es.length := by omega
                  have HF := Lib.hid (HBr.out.trans (hb.mono HBr.out.size))
                  clear hb hon
                  by_cases hbig : (3000 : Int) < k
                  · go_wp2_with fail
                    go_ret
                    exact LiPost.no HF.out
                  · have H3 : Hid (Li2 w gs (gs.length - (j + 1)) (.int .i64 ((j : Int) + 1)) (.int .i64 k) wr) := Lib.hid ⟨j + 1, k, by omega, rfl, by go_num, rfl, hk0, by omega, fun j' hj' => by
                      rcases Nat.lt_succ_iff_lt_or_eq.1 hj' with hj' | rfl
                      · exact HOK.out j' hj'
                      · intro g hg
                        rw [HX.out] at hg
                        injection hg with hg
                        rw [← hg]
                        exact ⟨hel, fun k' e' he' => HON.out k' e' (List.getElem?_eq_some_iff.1 he').1 he'⟩, HF.out⟩
                    go_wp2_with fail
                    go_roundg (gs.length - (j + 1))
                    case measure => omega
                    case rel => exact H3.out
            · have hel' : (12 : Int) < es.length := by omega
              go_wp2_with fail
              go_ret
              exact LiPost.no HBr.out
          · obtain rfl : j = gs.length := by omega
            have H3 : Hid (Li1 w gs 0 (.int .i64 1) (.int .i64 m) wr) := Lib.hid ⟨1, m, by omega, rfl, rfl, rfl, hm0, by omega, fun _ => LightR.of hl HOK.out, HBr.out⟩
            clear HOK HBr
            go_wp2_with fail
            go_roundg 0
            case measure => omega
            case rel => exact H3.out
      · have hl' : (12 : Int) < gs.length := by omega
        go_wp2_with fail
        go_ret
        exact LiPost.no HB1.out
    · have HL := Lib.hid (hok (by omega))
      have HBr := Lib.hid hb
      clear hok hb
      go_wp2_with fail
      go_ret
      exact LiPost.yes HL.out HBr.out
    · omega
end Go.Proofs.YtlcpbfklnjlgnaaGreatDoor

namespace Go.Proofs.YtlcpbfklnjlgnaaGreatDoor
open Go.RowKit Go.Extern.Stop Go.Stop Go.Extern

def ex12 (b : Nat) : List Gr := [⟨some ⟨b, 0, none⟩, 1, [⟨0, none, 0, 0⟩]⟩, ⟨some ⟨b + 1, 0, none⟩, 1, [⟨1, none, 0, 0⟩]⟩]
def sub12 (i : Nat) (fa fb : Nat) : Bool := sameB ((ofS [(i : Int)]).1 &&& fa) ((ofS [(i : Int)]).2 &&& fb) (ofS [(i : Int)]).1 (ofS [(i : Int)]).2
theorem ex12_sub (b fa fb : Nat) : subG (ex12 b) fa fb ((0 : Nat) : Int) = sub12 0 fa fb ∧ subG (ex12 b) fa fb ((1 : Nat) : Int) = sub12 1 fa fb := ⟨rfl, rfl⟩
theorem ex12_act {b fa fb : Nat} {a : Int} (h : ActR (ex12 b) fa fb a) : a = if sub12 0 fa fb then (if sub12 1 fa fb then -1 else 1) else 0 := by
  obtain ⟨e0, e1⟩ := ex12_sub b fa fb
  rcases h with ⟨rfl, h⟩ | ⟨k, rfl, hk, hs, hp⟩
  · have h0 := h 0 (Nat.zero_lt_succ _)
    have h1 := h 1 (Nat.succ_lt_succ (Nat.zero_lt_succ _))
    rw [e0] at h0
    rw [e1] at h1
    rw [h0, h1]; rfl
  · have hk : k < 2 := hk
    rcases k with _ | _ | k
    · rw [e0] at hs; rw [hs]; rfl
    · have h0 := hp 0 (Nat.zero_lt_succ _)
      rw [e0] at h0
      rw [e1] at hs
      rw [h0, hs]; rfl
    · omega
theorem ex12_light (b : Nat) : LightR (ex12 b) := by
  refine ⟨Nat.le_of_lt (by show 2 < 12; omega), fun i g h => ?_, fun i g h j e he => ?_⟩
  · match i, h with
    | 0, h => obtain rfl := Option.some.inj (show some _ = some g from h); show 1 ≤ 12; omega
    | 1, h => obtain rfl := Option.some.inj (show some _ = some g from h); show 1 ≤ 12; omega
    | i + 2, h => simp [ex12] at h
  · match i, h with
    | 0, h =>
      obtain rfl := Option.some.inj (show some _ = some g from h)
      match j, he with
      | 0, he => obtain rfl := Option.some.inj (show some _ = some e from he); show 0 ≤ 12; omega
      | j + 1, he => simp at he
    | 1, h =>
      obtain rfl := Option.some.inj (show some _ = some g from h)
      match j, he with
      | 0, he => obtain rfl := Option.some.inj (show some _ = some e from he); show 0 ≤ 12; omega
      | j + 1, he => simp at he
    | i + 2, h => simp [ex12] at h
theorem ex12_ops (w : World) (b : Nat) : OpsG w (ex12 b) := by
  intro i g h j e he
  match i, h with
  | 0, h =>
    obtain rfl := Option.some.inj (show some _ = some g from h)
    match j, he with
    | 0, he => obtain rfl := Option.some.inj (show some _ = some e from he); exact ⟨[], .inl ⟨_, _, rfl, rfl⟩⟩
    | j + 1, he => simp at he
  | 1, h =>
    obtain rfl := Option.some.inj (show some _ = some g from h)
    match j, he with
    | 0, he => obtain rfl := Option.some.inj (show some _ = some e from he); exact ⟨[], .inl ⟨_, _, rfl, rfl⟩⟩
    | j + 1, he => simp at he
  | i + 2, h => simp [ex12] at h
/-- On the way through the example. -/
structure A12 (w0 : World) (B : Nat) (gv : Value) (gs : List Gr) (W : World) : Prop where
  rw : RwB w0 B 0 0 gv gs W
  han : Handle W
  tab : TabB W
theorem A12.step {w0 : World} {B : Nat} {gv : Value} {gs : List Gr} {W W' : World} (h : A12 w0 B gv gs W) (hb : Below W.heap.size W W') : A12 w0 B gv gs W' :=
  ⟨h.rw.step hb, h.han.below hb, h.tab.below h.tab.lt hb⟩
def W12 (w : World) : World := (((w.alloc (.cells #[.int .i64 0, .slice none 0 0] 48)).alloc (.cells #[.int .i64 1, .slice none 0 0] 48)).alloc (.cells #[.slice (some ⟨w.heap.size, 0, none⟩) 1 1, .slice (some ⟨w.heap.size + 1, 0, none⟩) 1 1] 49)).alloc (.cells #[.int .i64 0, .int .i64 0, .slice (some ⟨w.heap.size + 1 + 1, 0, none⟩) 2 2] 52)
theorem ents_one (W w' : World) (x : Int) (hb : Below (W.heap.size + 1) (W.alloc (.cells #[.int .i64 x, .slice none 0 0] 48)) w') : EntsAt w' (.slice (some ⟨W.heap.size, 0, none⟩) 1 1) [⟨x, none, 0, 0⟩] := by
  have hn := heap_alloc_new W (.cells #[.int .i64 x, .slice none 0 0] 48)
  refine .inr ⟨W.heap.size, 0, 1, rfl, by have := hb.size; simp at this; omega, fun i e hi => ?_⟩
  match i, hi with
  | 0, hi =>
    obtain rfl := Option.some.inj (show some _ = some e from hi)
    exact ⟨(hb.cell (p := ⟨W.heap.size, 0 + 0 * 2, none⟩) (Nat.lt_succ_self _)).trans (by rw [Lib.cell_of_heap hn]; rfl), (hb.cell (p := ⟨W.heap.size, 0 + 0 * 2 + 1, none⟩) (Nat.lt_succ_self _)).trans (by rw [Lib.cell_of_heap hn]; rfl)⟩
  | i + 1, hi => simp at hi
theorem a12_start (w : World) (hg : Handle w) (ht : TabB w) : A12 w (w.heap.size + 1 + 1 + 1) (.slice (some ⟨w.heap.size + 1 + 1, 0, none⟩) 2 2) (ex12 w.heap.size) (W12 w) := by
  unfold W12
  have e1 : (w.alloc (.cells #[.int .i64 0, .slice none 0 0] 48)).heap.size = w.heap.size + 1 := World.size_alloc _ _
  have e2 : ((w.alloc (.cells #[.int .i64 0, .slice none 0 0] 48)).alloc (.cells #[.int .i64 1, .slice none 0 0] 48)).heap.size = w.heap.size + 1 + 1 := by rw [World.size_alloc, e1]
  have e3 : (((w.alloc (.cells #[.int .i64 0, .slice none 0 0] 48)).alloc (.cells #[.int .i64 1, .slice none 0 0] 48)).alloc (.cells #[.slice (some ⟨w.heap.size, 0, none⟩) 1 1, .slice (some ⟨w.heap.size + 1, 0, none⟩) 1 1] 49)).heap.size = w.heap.size + 1 + 1 + 1 := by rw [World.size_alloc, e2]
  have b0 := below_new w (.cells #[.int .i64 0, .slice none 0 0] 48)
  have b1 := below_new (w.alloc (.cells #[.int .i64 0, .slice none 0 0] 48)) (.cells #[.int .i64 1, .slice none 0 0] 48)
  have b2 := below_new ((w.alloc (.cells #[.int .i64 0, .slice none 0 0] 48)).alloc (.cells #[.int .i64 1, .slice none 0 0] 48)) (.cells #[.slice (some ⟨w.heap.size, 0, none⟩) 1 1, .slice (some ⟨w.heap.size + 1, 0, none⟩) 1 1] 49)
  have n2 := heap_alloc_new ((w.alloc (.cells #[.int .i64 0, .slice none 0 0] 48)).alloc (.cells #[.int .i64 1, .slice none 0 0] 48)) (.cells #[.slice (some ⟨w.heap.size, 0, none⟩) 1 1, .slice (some ⟨w.heap.size + 1, 0, none⟩) 1 1] 49)
  rw [e2] at n2
  have E0 := ents_one w _ 0 (e1 ▸ (b1.trans (b2.mono b1.size)))
  have E1 := ents_one (w.alloc (.cells #[.int .i64 0, .slice none 0 0] 48)) _ 1 (by rw [e1]; rw [e2] at b2; exact b2)
  rw [e1] at E1
  have hG : GrsAt (((w.alloc (.cells #[.int .i64 0, .slice none 0 0] 48)).alloc (.cells #[.int .i64 1, .slice none 0 0] 48)).alloc (.cells #[.slice (some ⟨w.heap.size, 0, none⟩) 1 1, .slice (some ⟨w.heap.size + 1, 0, none⟩) 1 1] 49)) (.slice (some ⟨w.heap.size + 1 + 1, 0, none⟩) 2 2) (ex12 w.heap.size) := by
    refine .inr ⟨w.heap.size + 1 + 1, 0, 2, rfl, by rw [e3]; omega, fun i g hi => ?_⟩
    match i, hi with
    | 0, hi => obtain rfl := Option.some.inj (show some _ = some g from hi); exact ⟨by rw [Lib.cell_of_heap n2]; rfl, E0⟩
    | 1, hi => obtain rfl := Option.some.inj (show some _ = some g from hi); exact ⟨by rw [Lib.cell_of_heap n2]; rfl, E1⟩
    | i + 2, hi => simp [ex12] at hi
  have hR := RwB.start (inn := 0) (top := 0) hG
  rw [e3] at hR
  have hB := b0.trans ((b1.trans (b2.mono b1.size)).mono b0.size)
  have hB3 := hB.trans (hR.below.mono hB.size)
  exact ⟨⟨hR.lt, hR.c0, hR.c1, hR.c2, hR.gr, hB3⟩, hg.below hB3, ht.below ht.lt hB3⟩
set_option maxRecDepth 100000 in
theorem Awake10_any (w : World) (ht : TabB w) (hg : Handle w) : Calls Tryz.prog 14 #[] w fun e w' => e = .returned (.bool true) ∧ Below w.heap.size w w' := by
  have HA := Lib.hid (awake10_any w ht hg)
  clear hg ht
  go_enter Tryz.func14, Tryz.ntmps14
  go_wp2_with fail
  refine HA.out.mono ?_
  rintro e w' ⟨rfl, hb⟩
  go_wp2_with fail
  go_ret
  exact ⟨rfl, hb⟩
set_option maxRecDepth 100000 in
set_option maxHeartbeats 8000000 in
theorem awake12_any (w : World) (hg : Handle w) (ht : TabB w) : Calls Tryz.prog 4 #[] w fun e w' => e = .returned (.bool true) ∧ Below w.heap.size w w' := by
  have HS := Lib.hid (a12_start w hg ht)
  have HNx := Lib.hid (fun W h => next_any 0 0 (.slice (some ⟨w.heap.size + 1 + 1, 0, none⟩) 2 2) (ex12 w.heap.size) 0 0 (by unfold U64; decide) (by unfold U64; decide) W h (ex12_light _) (ex12_ops W _))
  have HO1 := Lib.hid (fun (W : World) (v : Value) (h : IntsAt W v [0]) => of_any [0] v W h (by decide))
  have HO2 := Lib.hid (fun (W : World) (v : Value) (h : IntsAt W v [0, 1]) => of_any [0, 1] v W h (by decide))
  have HA1 := Lib.hid (fun W h => active_any 0 0 (.slice (some ⟨w.heap.size + 1 + 1, 0, none⟩) 2 2) (ex12 w.heap.size) _ _ (ofS_u64 [0]).1 (ofS_u64 [0]).2 W h (ex12_light _))
  have HA2 := Lib.hid (fun W h => active_any 0 0 (.slice (some ⟨w.heap.size + 1 + 1, 0, none⟩) 2 2) (ex12 w.heap.size) _ _ (ofS_u64 [0, 1]).1 (ofS_u64 [0, 1]).2 W h (ex12_light _))
  have HR0 := Lib.hid (fun a (h : ActR (ex12 w.heap.size) 0 0 a) => (show a = 0 from (ex12_act h).trans (by decide)))
  have HGr : Hid (((grp (ex12 w.heap.size) 0).filter fun e => !hasI 0 0 e.out).map (·.out) = [0]) := Lib.hid (by
    have e : grp (ex12 w.heap.size) 0 = [⟨0, none, 0, 0⟩] := rfl
    have h : hasI 0 0 0 = false := by decide
    rw [e]; simp [h])
  have HR1 := Lib.hid (fun a (h : ActR (ex12 w.heap.size) (ofS [0]).1 (ofS [0]).2 a) => (show a = 1 from (ex12_act h).trans (by decide)))
  have HR2 := Lib.hid (fun a (h : ActR (ex12 w.heap.size) (ofS [0, 1]).1 (ofS [0, 1]).2 a) => (show a = -1 from (ex12_act h).trans (by decide)))
  clear hg ht
  obtain ⟨f1, hf1⟩ : ∃ f, (ofS [0]).1 = f := ⟨_, rfl⟩
  obtain ⟨f2, hf2⟩ : ∃ f, (ofS [0]).2 = f := ⟨_, rfl⟩
  obtain ⟨f3, hf3⟩ : ∃ f, (ofS [0, 1]).1 = f := ⟨_, rfl⟩
  obtain ⟨f4, hf4⟩ : ∃ f, (ofS [0, 1]).2 = f := ⟨_, rfl⟩
  rw [hf1, hf2] at HO1 HA1 HR1
  rw [hf3, hf4] at HO2 HA2 HR2
  clear hf1 hf2 hf3 hf4
  go_enter Tryz.func4, Tryz.ntmps4
  unfold W12 at HS
  have k0 := HS.out.rw.c0
  have k1 := HS.out.rw.c1
  have k2 := HS.out.rw.c2
  go_wp2_with fail
  refine (HNx.out _ HS.out.rw.gr).mono ?_
  rintro e w2 ⟨a, v, l, rfl, hA, hv, hl, b2⟩
  have HS2 := Lib.hid (HS.out.step b2)
  obtain rfl := HR0.out a hA
  rw [HGr.out] at hl
  obtain ⟨x, rfl, hx0⟩ := List.map_eq_singleton_iff.1 hl
  obtain ⟨va, vc, rfl⟩ := hv.form
  obtain ⟨bb, off, rfl, d0, -⟩ := hv.at (i := 0) (e := x) rfl (Below.refl _ _)
  have hbl := World.block_lt_of_cell? _ _ d0
  have HD : Hid (∀ W, Below w2.heap.size w2 W → W.cell? ⟨bb, off, none⟩ = some (.int .i64 0)) := Lib.hid (fun W h => by
    have := (h.cell hbl).trans d0
    rw [hx0] at this
    simpa using this)
  clear hA hv b2 HS HNx HR0 HGr hx0 d0 hbl k0 k1 k2
  obtain ⟨W2, hW2⟩ : ∃ W2, W2 = w2 := ⟨_, rfl⟩
  go_wp2_with fail
  have hI := HS2.out.step (Below.refl _ _).drew
  have hB : Below w2.heap.size w2 w2.drew := (Below.refl _ _).drew
  clear HS2
  have kk : _ ∧ _ ∧ _ ∧ _ := ⟨hI.rw.c0, hI.rw.c1, hI.rw.c2, HD.out _ hB⟩
  go_region_held3 (fun w' => w'.cell? ⟨w.heap.size + 1 + 1 + 1, 0, none⟩ = some (.int .i64 0) ∧ w'.cell? ⟨w.heap.size + 1 + 1 + 1, 1, none⟩ = some (.int .i64 0) ∧ w'.cell? ⟨w.heap.size + 1 + 1 + 1, 2, none⟩ = some (.slice (some ⟨w.heap.size + 1 + 1, 0, none⟩) 2 2) ∧ w'.cell? ⟨bb, off, none⟩ = some (.int .i64 0))
    (first | exact kk | exact ⟨hI.rw.c0, hI.rw.c1, hI.rw.c2, HD.out _ hB⟩ | exact ⟨(hI.step (below_new _ _)).rw.c0, (hI.step (below_new _ _)).rw.c1, (hI.step (below_new _ _)).rw.c2, HD.out _ (hB.trans ((below_new _ _).mono hB.size))⟩ | go_keep)
    (first
    | (go_at_call 14; refine (Awake10_any _ hI.tab hI.han).mono ?_; rintro e w3 ⟨rfl, b3⟩; replace hI := hI.step b3; replace hB := hB.trans (b3.mono hB.size))
    | (go_at_call 15; refine (Awake11_any _ hI.han hI.tab).mono ?_; rintro e w4 ⟨rfl, b4⟩; replace hI := hI.step b4; replace hB := hB.trans (b4.mono hB.size))
    | (go_at_call_of 17 (1 : Nat); refine (HO1.out _ _ (by first | exact ints_new _ 0 | exact (ints_new _ 0).step (Below.refl _ _).drew)).mono ?_; rintro e w5 ⟨rfl, b5⟩; replace hI := (hI.step (below_new _ (.cells #[.int .i64 0] 3))).step b5; replace hB := (hB.trans ((below_new _ (.cells #[.int .i64 0] 3)).mono hB.size)); replace hB := hB.trans (b5.mono hB.size))
    | (go_at_call_of 16 f1; refine (HA1.out _ hI.rw.gr).mono ?_; rintro e w6 ⟨a1, rfl, hA1, b6⟩; obtain rfl := HR1.out a1 hA1; replace hI := hI.step b6; replace hB := hB.trans (b6.mono hB.size))
    | (go_at_call_of 17 (2 : Nat); refine (HO2.out _ _ (by first | exact ints2 _ 0 1 | exact (ints2 _ 0 1).step (Below.refl _ _).drew)).mono ?_; rintro e w7 ⟨rfl, b7⟩; replace hI := (hI.step (below_new _ (.cells #[.int .i64 0, .int .i64 1] 3))).step b7; replace hB := (hB.trans ((below_new _ (.cells #[.int .i64 0, .int .i64 1] 3)).mono hB.size)); replace hB := hB.trans (b7.mono hB.size))
    | (go_at_call_of 16 f3; refine (HA2.out _ hI.rw.gr).mono ?_; rintro e w8 ⟨a2, rfl, hA2, b8⟩; obtain rfl := HR2.out a2 hA2; replace hI := hI.step b8; replace hB := hB.trans (b8.mono hB.size)))
  all_goals
    have HF := Lib.hid hI.rw.below
    clear hI hB kk
    go_wp2_with fail
    go_ret
    exact ⟨rfl, HF.out⟩
end Go.Proofs.YtlcpbfklnjlgnaaGreatDoor
