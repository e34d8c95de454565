/-
  fairleadlaw01.Within, by contract.
  Chapter 12's law: whether rows are gone through.
  Chapter 12's law: rows as the document's: entries.
  Chapter 12's law: rows as the document's: groups, rows.
  Chapter 12's law: rows as the document's.
-/
import Derived.Test.YtlcpbfklnjlgnaaGreatDoorGy
import Derived.Test.YtlcpbfklnjlgnaaGreatDoorGb
import Derived.Test.YtlcpbfklnjlgnaaGreatDoorGq
import Derived.Test.YtlcpbfklnjlgnaaGreatDoorGs
import Derived.Test.YtlcpbfklnjlgnaaGreatDoorGw
import Derived.Test.YtlcpbfklnjlgnaaGreatDoorGz
import Derived.Test.YtlcpbfklnjlgnaaGreatDoorGg
import Derived.Deep.AppendLies
namespace Go.Proofs.YtlcpbfklnjlgnaaGreatDoor
open Go.RowKit Go.Extern.Stop Go.Stop Go.Extern

set_option maxHeartbeats 400000 in
theorem within_nil (a : Int) (sa : Option Addr) (n cp : Nat) (w : World) : Calls Tryz.prog 11 #[.nilIface, .int .i64 0, .int .i64 a, .slice sa n cp] w fun e w' => e = .returned (.bool true) ∧ w' = w := by
  go_enter Tryz.func11, Tryz.ntmps11
  go_wp2
  go_ret
  exact ⟨rfl, rfl⟩
set_option maxRecDepth 100000 in
set_option maxHeartbeats 2000000 in
theorem within_fault (b : Nat) (c a : Int) (hc : c ≠ 0) (ws : List ByteArray) (hl : ws.length ≤ 1000) (v vs : Value) (w : World) (hch : ChainAt w (.fault b c a) ws v) (hs : StrsAt w vs ws) (hg : Handle w) :
    Calls Tryz.prog 11 #[v, .int .i64 c, .int .i64 a, vs] w fun e w' => e = .returned (.bool true) ∧ Below w.heap.size w w' := by
  obtain ⟨T, V, rfl⟩ := hch.iface
  have hcb : (c == 0) = false := by simpa using hc
  have HEq := Lib.hid (fun v1 W (h1 : StrsAt W v1 ws) (h2 : StrsAt W vs ws) => equalS_any v1 vs ws ws W h1 h2 hl)
  have HS := Lib.hid hs
  obtain ⟨sa, sc, rfl⟩ := hs.form
  clear hc hs
  go_enter Tryz.func11, Tryz.ntmps11
  go_wp2_with fail
  refine (code_some _ c rfl _ _ _ hch hg).mono ?_
  rintro e w1 ⟨rfl, b1⟩
  have c1 := Lib.hid (hch.keep b1)
  have HB1 := Lib.hid b1
  clear b1
  go_wp2_with fail
  refine (at_chain _ _ _ _ _ _ c1.out (hg.below HB1.out)).mono ?_
  rintro e w2 ⟨rfl, b2⟩
  have c2 := Lib.hid (c1.out.keep b2)
  have HB2 := Lib.hid (HB1.out.trans (b2.mono HB1.out.size))
  clear b2
  go_wp2_with fail
  refine (words_any _ _ _ _ c2.out (hg.below HB2.out) hl).mono ?_
  rintro e w3 ⟨sl, rfl, hown, b3⟩
  have hs3 := strs_own hown
  have HB3 := Lib.hid (HB2.out.trans (b3.mono HB2.out.size))
  have HS3 := Lib.hid hs3
  obtain ⟨xa, xc, rfl⟩ := hs3.form
  clear hown hs3 b3
  go_wp2_with fail
  refine (HEq.out _ _ HS3.out (HS.out.keep HB3.out)).mono ?_
  rintro e w4 ⟨rfl, n, rfl⟩
  have ht : decide (ws = ws) = true := decide_eq_true rfl
  go_wp2_with fail
  go_ret
  exact ⟨by simp, HB3.out.trans ((below_drewN w3 n).mono HB3.out.size)⟩
theorem within_any (F : Flt) (hl : F.2.2.length ≤ 1000) (e : Ending) (w0 w : World) (hp : FltPost F w0 e w) (vs : Value) (W : World) (hW : Below w.heap.size w W) (hs : StrsAt W vs F.2.2) (hg : Handle W) :
    ∃ v, e = .returned v ∧ Calls Tryz.prog 11 #[v, .int .i64 F.1, .int .i64 F.2.1, vs] W fun e w' => e = .returned (.bool true) ∧ Below W.heap.size W w' := by
  rcases hp.cases with ⟨rfl, hz, -⟩ | ⟨T, V, b, rfl, hz, -, hch, -⟩
  · obtain ⟨sa, sc, rfl⟩ := hs.form
    refine ⟨_, rfl, ?_⟩
    rw [hz]
    exact (within_nil _ _ _ _ W).mono fun _ _ ⟨h, h'⟩ => ⟨h, by rw [h']; exact Below.refl _ _⟩
  · exact ⟨_, rfl, within_fault b _ _ hz _ hl _ vs W (hch.keep hW) hs hg⟩
end Go.Proofs.YtlcpbfklnjlgnaaGreatDoor

namespace Go.Proofs.YtlcpbfklnjlgnaaGreatDoor
open Go.RowKit Go.Extern.Stop Go.Stop Go.Extern

def OkL (l : List EnA) : Prop := l.length ≤ 12 ∧ ∀ (k : Nat) (e : EnA), l[k]? = some e → e.2.length ≤ 12
def OkR (r : RwA) : Prop := r.gs.length ≤ 12 ∧ ∀ (j : Nat) (l : List EnA), r.gs[j]? = some l → OkL l
/-- Rows that are gone through. -/
structure LightRs (rows : List RwA) (most : Nat) : Prop where
  n : rows.length ≤ most
  r : ∀ (i : Nat) (r : RwA), rows[i]? = some r → OkR r
def Lk1 (w : World) (rows : List RwA) (g : Nat) (u v : Value) (wr : World) : Prop :=
  ∃ (i : Nat) (n : Int), i ≤ rows.length ∧ g = rows.length - i ∧ u = .int .i64 i ∧ v = .int .i64 n ∧ 0 ≤ n ∧ n ≤ 3000 ∧ (∀ j r, j < i → rows[j]? = some r → OkR r) ∧ Below w.heap.size w wr
def Lk2 (w : World) (gs : List (List EnA)) (g : Nat) (u v : Value) (wr : World) : Prop :=
  ∃ (i : Nat) (n : Int), i ≤ gs.length ∧ g = gs.length - i ∧ u = .int .i64 i ∧ v = .int .i64 n ∧ 0 ≤ n ∧ n ≤ 3000 ∧ (∀ j l, j < i → gs[j]? = some l → OkL l) ∧ Below w.heap.size w wr
def Lk3 (w : World) (es : List EnA) (g : Nat) (u v : Value) (wr : World) : Prop :=
  ∃ (i : Nat) (n : Int), i ≤ es.length ∧ g = es.length - i ∧ u = .int .i64 i ∧ v = .int .i64 n ∧ 0 ≤ n ∧ n ≤ 3000 + 13 * (i : Int) ∧ (∀ j (e : EnA), j < i → es[j]? = some e → e.2.length ≤ 12) ∧ Below w.heap.size w wr
set_option maxRecDepth 100000 in
set_option maxHeartbeats 8000000 in
theorem lightRs_any (rows : List RwA) (v : Value) (most : Nat) (hm : most ≤ 1000) (w : World) (hv : RsP OpsAt w v rows) :
    Calls Tryz.prog 6 #[v, .int .i64 (most : Int)] w (LiPost w (LightRs rows most)) := by
  obtain ⟨va, vcap, rfl⟩ := hv.form
  have HV := Lib.hid hv
  clear hv
  by_cases hn : rows.length ≤ most
  · have hn' : ¬ (most : Int) < rows.length := by omega
    go_enter Tryz.func6, Tryz.ntmps6
    go_wp2_with fail
    go_loopg [18, 5] rows.length (fun g u v wr => Lk1 w rows g u v wr)
    case atStart => exact ⟨0, 0, Nat.zero_le _, by omega, rfl, rfl, by omega, by omega, fun j r hj => absurd hj (Nat.not_lt_zero _), Below.refl _ _⟩
    case round =>
      obtain ⟨i, n, hi, hgi, rfl, rfl, hn0, hn2, hok, hb⟩ := hrel
      have HOi := Lib.hid hok
      by_cases hil : i < rows.length
      · obtain ⟨r, hx⟩ : ∃ r, rows[i]? = some r := ⟨_, List.getElem?_eq_getElem hil⟩
        obtain ⟨b, off, oa, oc, rfl, c0, c1, c2, hgs⟩ := HV.out.at keep_ops hx hb
        have HXi := Lib.hid hx
        have HG := Lib.hid (hgs.step keep_ops (below_new wr (.cells #[.int .i64 r.inn, .int .i64 r.top, .slice oa r.gs.length oc] 52)))
        have HB1 := Lib.hid (hb.trans ((below_new wr (.cells #[.int .i64 r.inn, .int .i64 r.top, .slice oa r.gs.length oc] 52)).mono hb.size))
        obtain ⟨inn, top, gs⟩ := r
        replace c0 : wr.cell? _ = some (.int .i64 inn) := c0
        replace c1 : wr.cell? _ = some (.int .i64 top) := c1
        replace c2 : wr.cell? _ = some (.slice oa gs.length oc) := c2
        replace HG : Hid (GsP OpsAt (wr.alloc (.cells #[.int .i64 inn, .int .i64 top, .slice oa gs.length oc] 52)) (.slice oa gs.length oc) gs) := HG
        replace HB1 : Hid (Below w.heap.size w (wr.alloc (.cells #[.int .i64 inn, .int .i64 top, .slice oa gs.length oc] 52))) := HB1
        clear hok hb hx hgs
        by_cases hl : gs.length ≤ 12
        · have hl' : ¬ (12 : Int) < gs.length := by omega
          go_wp2_with fail
          generalize hW1 : wr.alloc (.cells #[.int .i64 inn, .int .i64 top, .slice oa gs.length oc] 52) = w1 at *
          clear hW1 c0 c1 c2
          go_loopg [29, 5] gs.length (fun g u v W => Lk2 w1 gs g u v W)
          case atStart => exact ⟨0, _, Nat.zero_le _, by omega, rfl, rfl, hn0, hn2, fun j l hj => absurd hj (Nat.not_lt_zero _), Below.refl _ _⟩
          case round =>
            obtain ⟨j, m, hj, hgj, rfl, rfl, hm0, hm1, hok, hb⟩ := hrel
            have HOK := Lib.hid hok
            have HBr := Lib.hid (HB1.out.trans (hb.mono HB1.out.size))
            have HBq := Lib.hid hb
            clear hok hb
            by_cases hjl : j < gs.length
            · obtain ⟨es, hx⟩ : ∃ x, gs[j]? = some x := ⟨_, List.getElem?_eq_getElem hjl⟩
              obtain ⟨b, off, xa, xc, rfl, c0, hes⟩ := HG.out.at keep_ops hx HBq.out
              have HX := Lib.hid hx
              have HE : Hid (EsP OpsAt _ (.slice xa es.length xc) es) := Lib.hid hes
              clear hx hes
              by_cases hel : es.length ≤ 12
              · have hel' : ¬ (12 : Int) < es.length := by omega
                go_wp2_with fail
                clear c0
                obtain ⟨w5, hw5⟩ : ∃ w5, w5 = wr := ⟨_, rfl⟩
                subst hw5
                go_loopg [38, 5] es.length (fun g u v W => Lk3 w5 es g u v W)
                case atStart => exact ⟨0, _, Nat.zero_le _, by omega, rfl, rfl, hm0, by omega, fun j e hj => absurd hj (Nat.not_lt_zero _), Below.refl _ _⟩
                case round =>
                  obtain ⟨i2, k, hi2, hgi2, rfl, rfl, hk0, hk1, hon, hb⟩ := hrel
                  have HON := Lib.hid hon
                  by_cases hil2 : i2 < es.length
                  · obtain ⟨e, hx⟩ : ∃ e, es[i2]? = some e := ⟨_, List.getElem?_eq_getElem hil2⟩
                    obtain ⟨b2, off2, oa2, on2, oc2, rfl, d0, d1, hops⟩ := HE.out.at keep_ops hx hb
                    have hlen := hops.len
                    have HBe := Lib.hid (hb.trans ((below_new wr (.cells #[.int .i64 e.1, .slice oa2 on2 oc2] 48)).mono hb.size))
                    by_cases hol : on2 ≤ 12
                    · have hol' : ¬ (12 : Int) < on2 := by omega
                      have H3 : Hid (Lk3 w5 es (es.length - (i2 + 1)) (.int .i64 ((i2 : Int) + 1)) (.int .i64 (k + (1 + (on2 : Int)))) (wr.alloc (.cells #[.int .i64 e.1, .slice oa2 on2 oc2] 48))) := Lib.hid ⟨i2 + 1, _, by omega, rfl, by go_num, rfl, by omega, by omega, fun j' e' hj' he' => by
                        rcases Nat.lt_succ_iff_lt_or_eq.1 hj' with hj' | rfl
                        · exact HON.out j' e' hj' he'
                        · rw [hx] at he'; injection he' with he'; rw [← he']; omega, HBe.out⟩
                      clear hb hon hx hops hlen
                      go_wp2_with fail
                      go_roundg (es.length - (i2 + 1))
                      case measure => omega
                      case rel => exact H3.out
                    · have hol' : (12 : Int) < on2 := by omega
                      have HF := Lib.hid (HBr.out.trans (HBe.out.mono HBr.out.size))
                      clear hb hon hx hops hlen
                      go_wp2_with fail
                      go_ret
                      exact LiPost.no HF.out
                  · obtain rfl : i2 = es.length := by omega
                    have HF := Lib.hid (HBr.out.trans (hb.mono HBr.out.size))
                    have HF2 := Lib.hid (HBq.out.trans (hb.mono HBq.out.size))
                    clear hb hon
                    by_cases hbig : (3000 : Int) < k
                    · go_wp2_with fail
                      go_ret
                      exact LiPost.no HF.out
                    · have H3 : Hid (Lk2 w1 gs (gs.length - (j + 1)) (.int .i64 ((j : Int) + 1)) (.int .i64 k) wr) := Lib.hid ⟨j + 1, k, by omega, rfl, by go_num, rfl, hk0, by omega, fun j' l hj' hl' => by
                        rcases Nat.lt_succ_iff_lt_or_eq.1 hj' with hj' | rfl
                        · exact HOK.out j' l hj' hl'
                        · rw [HX.out] at hl'
                          injection hl' with hl'
                          rw [← hl']
                          exact ⟨hel, fun k' e' he' => HON.out k' e' (List.getElem?_eq_some_iff.1 he').1 he'⟩, HF2.out⟩
                      go_wp2_with fail
                      go_roundg (gs.length - (j + 1))
                      case measure => omega
                      case rel => exact H3.out
              · have hel' : (12 : Int) < es.length := by omega
                go_wp2_with fail
                go_ret
                exact LiPost.no HBr.out
            · obtain rfl : j = gs.length := by omega
              have H3 : Hid (Lk1 w rows (rows.length - (i + 1)) (.int .i64 ((i : Int) + 1)) (.int .i64 m) wr) := Lib.hid ⟨i + 1, m, by omega, rfl, by go_num, rfl, hm0, by omega, fun j' r' hj' hr' => by
                rcases Nat.lt_succ_iff_lt_or_eq.1 hj' with hj' | rfl
                · exact HOi.out j' r' hj' hr'
                · rw [HXi.out] at hr'
                  injection hr' with hr'
                  rw [← hr']
                  exact ⟨hl, fun j2 l2 hl2 => HOK.out j2 l2 (List.getElem?_eq_some_iff.1 hl2).1 hl2⟩, HBr.out⟩
              clear HOK HBr HBq
              go_wp2_with fail
              go_roundg (rows.length - (i + 1))
              case measure => omega
              case rel => exact H3.out
        · have hl' : (12 : Int) < gs.length := by omega
          go_wp2_with fail
          go_ret
          exact LiPost.no HB1.out
      · obtain rfl : i = rows.length := by omega
        have HL : Hid (LightRs rows most) := Lib.hid ⟨hn, fun j r hr => HOi.out j r (List.getElem?_eq_some_iff.1 hr).1 hr⟩
        have HBr := Lib.hid hb
        clear hok hb
        go_wp2_with fail
        go_ret
        exact LiPost.yes HL.out HBr.out
  · have hn' : (most : Int) < rows.length := by omega
    go_enter Tryz.func6, Tryz.ntmps6
    go_wp2_with fail
    go_ret
    exact LiPost.no (Below.refl _ _)
end Go.Proofs.YtlcpbfklnjlgnaaGreatDoor

namespace Go.Proofs.YtlcpbfklnjlgnaaGreatDoor
open Go.RowKit Go.Extern.Stop Go.Stop Go.Extern

/-- Rows of another element type stand as they stood. -/
def Surv (B : Nat) (T : TypeId) (w w' : World) : Prop := ∀ (k : Nat) (cur : Array Value) (e : TypeId), B ≤ k → w.heap[k]? = some (.cells cur e (0, 0)) → e ≠ T → w'.heap[k]? = some (.cells cur e (0, 0))
theorem Surv.below {B : Nat} {T : TypeId} {w w' : World} (h : Below w.heap.size w w') : Surv B T w w' := fun k _ _ _ hk _ => (h.block k (hlt hk)).trans hk
theorem Surv.grown {B B0 : Nat} {T : TypeId} {sz n : Nat} {v : Value} {xs : List Value} {w w' : World} (h : w.ownsRow B0 T sz v n xs) (hg : w.grownBy w' v.ownBlock) : Surv B T w w' := by
  intro k cur e _ hk hne
  refine (hg.block k (hlt hk) ?_).trans hk
  intro hv
  rcases h.2 with ⟨rfl, -⟩ | ⟨g, cap, cur', rfl, -, h1, -⟩
  · cases hv
  · have e2 : k = g := by injection hv
    subst e2
    rw [hk] at h1
    injection h1 with h1
    injection h1 with _ h1
    exact hne h1
theorem Surv.setCell {B : Nat} {T : TypeId} {w : World} {q : Addr} (hq : q.block < B) (v : Value) : Surv B T w (w.setCell q v) := fun k _ _ hB hk _ => (heap_setCell_other w q k v (by omega)).trans hk
theorem Surv.trans {B : Nat} {T : TypeId} {a b c : World} (h : Surv B T a b) (h' : Surv B T b c) : Surv B T a c := fun k cur e hB hk hne => h' k cur e hB (h k cur e hB hk hne) hne
theorem ownsRow_surv {B : Nat} {T e : TypeId} {sz n : Nat} {v : Value} {xs : List Value} {w w' : World} (h : w.ownsRow B e sz v n xs) (hs : Surv B T w w') (hne : e ≠ T) : w'.ownsRow B e sz v n xs := by
  refine ⟨h.1, ?_⟩
  rcases h.2 with h0 | ⟨g, cap, cur, e1, hB, h1, rest⟩
  · exact .inl h0
  · exact .inr ⟨g, cap, cur, e1, hB, hs g cur e hB h1 hne, rest⟩
theorem ownsRow_lower {B B' : Nat} {e : TypeId} {sz n : Nat} {v : Value} {xs : List Value} {w : World} (h : w.ownsRow B e sz v n xs) (hB : B' ≤ B) : w.ownsRow B' e sz v n xs := by
  refine ⟨h.1, ?_⟩
  rcases h.2 with h0 | ⟨g, cap, cur, e1, hg, rest⟩
  · exact .inl h0
  · exact .inr ⟨g, cap, cur, e1, Nat.le_trans hB hg, rest⟩
/-- The cells of the document's entries: where each goes out, the slice of its ops. -/
def reC : List EnA → List Value → List Value
  | p :: l, u :: us => .int .i64 p.1 :: u :: reC l us
  | _, _ => []
theorem reC_snoc : ∀ (l : List EnA) (us : List Value) (p : EnA) (u : Value), l.length = us.length → reC (l ++ [p]) (us ++ [u]) = reC l us ++ [.int .i64 p.1, u]
  | [], [], _, _, _ => rfl
  | _ :: l, _ :: us, p, u, h => by
    show _ :: _ :: reC (l ++ [p]) (us ++ [u]) = _
    rw [reC_snoc l us p u (by simpa using h)]; rfl
  | [], _ :: _, _, _, h => by simp at h
  | _ :: _, [], _, _, h => by simp at h
theorem reC_at : ∀ {l : List EnA} {us : List Value} {k : Nat} {p : EnA} {u : Value}, l[k]? = some p → us[k]? = some u → (reC l us)[k * 2]? = some (.int .i64 p.1) ∧ (reC l us)[k * 2 + 1]? = some u
  | [], _, _, _, _, h, _ => by simp at h
  | _ :: _, [], _, _, _, _, h => by simp at h
  | a :: l, b :: us, 0, p, u, h, h' => by
    obtain rfl : a = p := by simpa using h
    obtain rfl : b = u := by simpa using h'
    exact ⟨rfl, rfl⟩
  | a :: l, b :: us, k + 1, p, u, h, h' => by
    have := reC_at (l := l) (us := us) (k := k) (p := p) (u := u) (by simpa using h) (by simpa using h')
    rw [show (k + 1) * 2 = k * 2 + 2 by omega, show k * 2 + 2 + 1 = k * 2 + 1 + 2 by omega]
    exact this
/-- A group of the document's, all in rows of one's own. -/
structure EsO (B : Nat) (v : Value) (l : List EnA) (us : List Value) (W : World) : Prop where
  len : us.length = l.length
  own : W.ownsRow B 71 2 v l.length (reC l us)
  ops : ∀ (k : Nat) (p : EnA) (u : Value), l[k]? = some p → us[k]? = some u → W.ownsRow B 94 2 u p.2.length (opCells p.2)
theorem EsO.surv {B : Nat} {v : Value} {l : List EnA} {us : List Value} {W W' : World} {T : TypeId} (h : EsO B v l us W) (hs : Surv B T W W') (h1 : 71 ≠ T) (h2 : 94 ≠ T) : EsO B v l us W' :=
  ⟨h.len, ownsRow_surv h.own hs h1, fun k p u hp hu => ownsRow_surv (h.ops k p u hp hu) hs h2⟩
theorem EsO.lower {B B' : Nat} {v : Value} {l : List EnA} {us : List Value} {W : World} (h : EsO B v l us W) (hB : B' ≤ B) : EsO B' v l us W :=
  ⟨h.len, ownsRow_lower h.own hB, fun k p u hp hu => ownsRow_lower (h.ops k p u hp hu) hB⟩
/-- One entry more behind. -/
theorem EsO.more {B : Nat} {v : Value} {l : List EnA} {us : List Value} {W W' : World} {p : EnA} {y v' : Value} (h : EsO B v l us W) (hop : W.ownsRow B 94 2 y p.2.length (opCells p.2)) (hg : W.grownBy W' v.ownBlock)
    (hown : W'.ownsRow B 71 2 v' (l.length + 1) (reC l us ++ [.int .i64 p.1, y])) : EsO B v' (l ++ [p]) (us ++ [y]) W' := by
  have hs : Surv B 71 W W' := Surv.grown h.own hg
  refine ⟨by simp [h.len], ?_, ?_⟩
  · rw [reC_snoc _ _ _ _ h.len.symm, List.length_append]
    exact hown
  · intro k q u hq hu
    rcases Nat.lt_or_ge k l.length with hk | hk
    · rw [List.getElem?_append_left hk] at hq
      rw [List.getElem?_append_left (by rw [h.len]; exact hk)] at hu
      exact ownsRow_surv (h.ops k q u hq hu) hs (by decide)
    · rw [List.getElem?_append_right hk] at hq
      rw [List.getElem?_append_right (by rw [h.len]; exact hk), h.len] at hu
      obtain ⟨j, hj⟩ : ∃ j, j = k - l.length := ⟨_, rfl⟩
      rw [← hj] at hq hu
      cases j with
      | zero =>
        simp only [List.getElem?_cons_zero, Option.some.injEq] at hq hu
        subst hq hu
        exact ownsRow_surv hop hs (by decide)
      | succ j => simp at hq
theorem EsO.esP {B : Nat} {v : Value} {l : List EnA} {us : List Value} {W : World} (h : EsO B v l us W) : EsP OpsC W v l := by
  rcases h.own.2 with ⟨rfl, h0⟩ | ⟨g, cap, cur, rfl, -, hg, hle, -, hsz, hx⟩
  · exact .inl ⟨none, 0, rfl, List.eq_nil_of_length_eq_zero h0⟩
  · refine .inr ⟨g, 0, cap, rfl, hlt hg, fun i p hi => ?_⟩
    have hil := (List.getElem?_eq_some_iff.1 hi).1
    obtain ⟨u, hu⟩ : ∃ u, us[i]? = some u := ⟨_, List.getElem?_eq_getElem (by rw [h.len]; exact hil)⟩
    obtain ⟨k0, k1⟩ := reC_at hi hu
    have ho := h.ops i p u hi hu
    obtain ⟨oa, oc, rfl⟩ := row_form ho
    rw [← hx] at k0 k1
    rw [List.getElem?_take] at k0 k1
    rw [if_pos (by omega)] at k0 k1
    refine ⟨oa, p.2.length, oc, ?_, ?_, OpsC.own ho rfl⟩
    · rw [Lib.cell_of_heap hg]; simpa using k0
    · rw [Lib.cell_of_heap hg]; simpa using k1
theorem to10_of (c : List (Int × Int)) (v : Value) (w : World) (B : Nat) (hB : B ≤ w.heap.size) (hv : OpsAt w v c) (hl : c.length ≤ 1000) :
    Calls Tryz.prog 72 #[v] w fun e w' => ∃ ca cc, e = .returned (.slice ca c.length cc) ∧ w'.ownsRow B 94 2 (.slice ca c.length cc) c.length (opCells c) ∧ Below w.heap.size w w' :=
  (to_any c v w hv (by omega)).mono fun _ _ ⟨u, h0, h1, h2⟩ => by
    obtain ⟨ca, cc, rfl⟩ := row_form h1
    exact ⟨ca, cc, h0, ownsRow_lower h1 hB, h2⟩
/-- In a round: what is there, the entry's box. -/
structure EkS (w : World) (l : List EnA) (us : List Value) (v : Value) (C : Nat) (x : Int) (u : Value) (W : World) : Prop where
  es : EsO w.heap.size v l us W
  bx : W.heap[C]? = some (.cells #[.int .i64 x, u] 48 (0, 0))
  below : Below w.heap.size w W
theorem EkS.step {w : World} {l : List EnA} {us : List Value} {v : Value} {C : Nat} {x : Int} {u : Value} {W W' : World} (h : EkS w l us v C x u W) (hb : Below W.heap.size W W') : EkS w l us v C x u W' :=
  ⟨h.es.surv (T := 48) (Surv.below hb) (by decide) (by decide), (hb.block _ (hlt h.bx)).trans h.bx, h.below.trans (hb.mono h.below.size)⟩
def EkR (w : World) (es : List EnA) (g : Nat) (u v : Value) (wr : World) : Prop :=
  ∃ (i : Nat) (us : List Value), i ≤ es.length ∧ g = es.length - i ∧ u = .int .i64 i ∧ EsO w.heap.size v (es.take i) us wr ∧ Below w.heap.size w wr
theorem infoREnt : (Tryz.prog.info? 71).map (fun i => (i.zero, i.size, i.bytes)) = some (some (.agg #[.int .i64 0, .slice none 0 0]), 2, 32) := by kernel_rfl
set_option maxRecDepth 100000 in
set_option maxHeartbeats 8000000 in
theorem entries12_any (v : Value) (es : List EnA) (w : World) (hv : EsP OpsAt w v es) (hl : es.length ≤ 1000) (hon : ∀ (i : Nat) (p : EnA), es[i]? = some p → p.2.length ≤ 1000) :
    Calls Tryz.prog 42 #[v] w fun e w' => ∃ a cap us, e = .returned (.slice a es.length cap) ∧ EsO w.heap.size (.slice a es.length cap) es us w' ∧ Below w.heap.size w w' := by
  obtain ⟨i0, hi, hz0, hz1, hz2⟩ := info_parts infoREnt
  obtain ⟨va, vcap, rfl⟩ := hv.form
  have HV := Lib.hid hv
  have HON := Lib.hid hon
  clear hv hon
  go_enter Tryz.func42, Tryz.ntmps42
  go_wp2_with fail
  go_loopg [8, 3] es.length (fun g u v wr => EkR w es g u v wr)
  case atStart => exact ⟨0, [], Nat.zero_le _, by omega, rfl, ⟨rfl, World.ownsRow_nil _ _ _ _, fun k p u hp => by simp at hp⟩, Below.refl _ _⟩
  case round =>
    obtain ⟨i, us, hil, hgi, rfl, hes, hb⟩ := hrel
    by_cases hlt' : i < es.length
    · obtain ⟨p, hx⟩ : ∃ e, es[i]? = some e := ⟨_, List.getElem?_eq_getElem hlt'⟩
      obtain ⟨b2, off2, oa, on, oc, rfl, c0, c1, hoc⟩ := HV.out.at keep_ops hx hb
      have HXp := Lib.hid hx
      obtain ⟨out, c⟩ := p
      replace c0 : wr.cell? _ = some (.int .i64 out) := c0
      replace hoc : OpsAt wr (.slice oa on oc) c := hoc
      have honl : c.length ≤ 1000 := HON.out i (out, c) hx
      have hS : EkS w (es.take i) us u3 wr.heap.size out (.slice oa on oc) (wr.alloc (.cells #[.int .i64 out, .slice oa on oc] 48)) :=
        ⟨hes.surv (T := 48) (Surv.below (below_new wr _)) (by decide) (by decide), heap_alloc_new wr _, hb.trans ((below_new wr _).mono hb.size)⟩
      have HOC := Lib.hid (fun W (h : Below wr.heap.size wr W) => to10_of c _ W w.heap.size (Nat.le_trans hb.size h.size) (hoc.step h) honl)
      have HBr := Lib.hid hb
      have HTk : Hid ((es.take i).length = i ∧ es.take (i + 1) = es.take i ++ [(out, c)]) := Lib.hid ⟨by rw [List.length_take]; omega, by rw [List.take_add_one, hx]; rfl⟩
      have hI := hS.step (Below.refl _ _).drew
      have hBI : Below wr.heap.size wr (wr.alloc (.cells #[.int .i64 out, .slice oa on oc] 48)).drew := (below_new wr _).drew
      clear hes hb hoc hS hx
      go_wp2_with fail
      have kk := hcell hI.bx
      go_region_held3 (fun w' => w'.cell? ⟨wr.heap.size, 0, none⟩ = some (.int .i64 out) ∧ w'.cell? ⟨wr.heap.size, 1, none⟩ = some (.slice oa on oc))
        (first | exact ⟨kk.1, kk.2.1⟩ | exact ⟨(hcell hI.bx).1, (hcell hI.bx).2.1⟩ | exact ⟨(hcell (hI.step (below_new _ _)).bx).1, (hcell (hI.step (below_new _ _)).bx).2.1⟩ | exact ⟨hX.1, hX.2.1⟩)
        (first
        | (go_at_call 72; refine (HOC.out _ hBI).mono ?_; rintro e' w4 ⟨ca, cc, rfl, hop, b4⟩; replace hI := hI.step b4; replace hBI := hBI.trans (b4.mono hBI.size))
        | (have hI2 := hI.step (below_new w4 (.cells #[.int .i64 out, .slice ca c.length cc] 71)); have ho := hI2.es.own; rw [HTk.out.1] at ho; refine step_append_lies _ (by rfl) _ _ _ (by rfl) w.heap.size 71 i0 _ 2 32 Tryz.underlying68 hi hz0 hz1 hz2 rfl (by omega) _ i (reC (es.take i) us) (by rfl) ho ⟨w4.heap.size, 0, none⟩ 1 1 [.int .i64 out, .slice ca c.length cc] (by rfl) (by rfl) (World.news_of_block (cs := #[.int .i64 out, .slice ca c.length cc]) (t := 71) (fr := (0, 0)) (heap_alloc_new w4 _)) (by simp [Value.oneCell']) (by omega) (by unfold maxLen; omega) (by omega) (hI2.below.size) _ rfl ?_; intro gg cap w5 hown1 hgrow hat hlt5; have hE := hI2.es.more (p := (out, c)) (ownsRow_surv hop (T := 48) (Surv.below (below_new w4 _)) (by decide)) hgrow (by rw [HTk.out.1]; exact hown1); have hX := hcell ((hgrow.block _ (hlt hI2.bx) (fun e => hI2.es.own.own_ne hI2.bx (by decide) e.symm)).trans hI2.bx)))
      have hF : EkR w es (es.length - (i + 1)) (.int .i64 ((i : Int) + 1)) (.slice (some ⟨gg, 0, none⟩) (i + 1) cap) w5 := ⟨i + 1, _, by omega, rfl, by go_num, by rw [HTk.out.2]; exact hE, hI2.below.grown hgrow hI2.below.size (fun k e => (hI2.es.own.lt k e).1)⟩
      have HF := Lib.hid hF
      clear hF hE hX hI hI2 hBI hown1 hgrow hat hlt5 kk hop ho
      go_wp2_with fail
      go_roundg (es.length - (i + 1))
      case measure => omega
      case rel => exact HF.out
    · obtain rfl : i = es.length := by omega
      rw [List.take_length] at hes
      have HF := Lib.hid (And.intro hes hb)
      obtain ⟨ra, rc, rfl⟩ := row_form hes.own
      clear hes hb
      go_wp2_with fail
      go_ret
      exact ⟨ra, rc, us, rfl, HF.out.1, HF.out.2⟩
end Go.Proofs.YtlcpbfklnjlgnaaGreatDoor

namespace Go.Proofs.YtlcpbfklnjlgnaaGreatDoor
open Go.RowKit Go.Extern.Stop Go.Stop Go.Extern

/-- A row's groups of the document's, all in rows of one's own. -/
structure GsO (B : Nat) (v : Value) (gs : List (List EnA)) (vs : List Value) (W : World) : Prop where
  len : vs.length = gs.length
  own : W.ownsRow B 68 1 v gs.length vs
  es : ∀ (k : Nat) (l : List EnA) (u : Value), gs[k]? = some l → vs[k]? = some u → (∃ a c, u = .slice a l.length c) ∧ ∃ us, EsO B u l us W
theorem GsO.surv {B : Nat} {v : Value} {gs : List (List EnA)} {vs : List Value} {W W' : World} {T : TypeId} (h : GsO B v gs vs W) (hs : Surv B T W W') (h0 : 68 ≠ T) (h1 : 71 ≠ T) (h2 : 94 ≠ T) : GsO B v gs vs W' :=
  ⟨h.len, ownsRow_surv h.own hs h0, fun k l u hl hu => ⟨(h.es k l u hl hu).1, by obtain ⟨us, he⟩ := (h.es k l u hl hu).2; exact ⟨us, he.surv hs h1 h2⟩⟩⟩
theorem GsO.lower {B B' : Nat} {v : Value} {gs : List (List EnA)} {vs : List Value} {W : World} (h : GsO B v gs vs W) (hB : B' ≤ B) : GsO B' v gs vs W :=
  ⟨h.len, ownsRow_lower h.own hB, fun k l u hl hu => ⟨(h.es k l u hl hu).1, by obtain ⟨us, he⟩ := (h.es k l u hl hu).2; exact ⟨us, he.lower hB⟩⟩⟩
theorem GsO.more {B : Nat} {v : Value} {gs : List (List EnA)} {vs : List Value} {W W' : World} {l : List EnA} {us : List Value} {a : Option Addr} {c : Nat} {v' : Value} (h : GsO B v gs vs W) (he : EsO B (.slice a l.length c) l us W) (hg : W.grownBy W' v.ownBlock)
    (hown : W'.ownsRow B 68 1 v' (gs.length + 1) (vs ++ [.slice a l.length c])) : GsO B v' (gs ++ [l]) (vs ++ [.slice a l.length c]) W' := by
  have hs : Surv B 68 W W' := Surv.grown h.own hg
  refine ⟨by simp [h.len], by rw [List.length_append]; exact hown, ?_⟩
  intro k q u hq hu
  rcases Nat.lt_or_ge k gs.length with hk | hk
  · rw [List.getElem?_append_left hk] at hq
    rw [List.getElem?_append_left (by rw [h.len]; exact hk)] at hu
    obtain ⟨h1, us', h2⟩ := h.es k q u hq hu
    exact ⟨h1, us', h2.surv hs (by decide) (by decide)⟩
  · rw [List.getElem?_append_right hk] at hq
    rw [List.getElem?_append_right (by rw [h.len]; exact hk), h.len] at hu
    obtain ⟨j, hj⟩ : ∃ j, j = k - gs.length := ⟨_, rfl⟩
    rw [← hj] at hq hu
    cases j with
    | zero =>
      simp only [List.getElem?_cons_zero, Option.some.injEq] at hq hu
      subst hq hu
      exact ⟨⟨_, _, rfl⟩, us, he.surv hs (by decide) (by decide)⟩
    | succ j => simp at hq
theorem GsO.gsP {B : Nat} {v : Value} {gs : List (List EnA)} {vs : List Value} {W : World} (h : GsO B v gs vs W) : GsP OpsC W v gs := by
  rcases h.own.2 with ⟨rfl, h0⟩ | ⟨g, cap, cur, rfl, -, hg, hle, -, hsz, hx⟩
  · exact .inl ⟨none, 0, rfl, List.eq_nil_of_length_eq_zero h0⟩
  · refine .inr ⟨g, 0, cap, rfl, hlt hg, fun i l hi => ?_⟩
    have hil := (List.getElem?_eq_some_iff.1 hi).1
    obtain ⟨u, hu⟩ : ∃ u, vs[i]? = some u := ⟨_, List.getElem?_eq_getElem (by rw [h.len]; exact hil)⟩
    obtain ⟨⟨a, c, rfl⟩, us, he⟩ := h.es i l u hi hu
    have k0 := hu
    rw [← hx, List.getElem?_take, if_pos (by omega)] at k0
    exact ⟨a, c, by rw [Lib.cell_of_heap hg]; simpa using k0, he.esP⟩
/-- One12's boxes: of the row, of the result, of what is made; its groups. -/
structure OnS (w : World) (inn top : Int) (gv : Value) (gs : List (List EnA)) (vs : List Value) (v : Value) (W : World) : Prop where
  row : W.heap[w.heap.size]? = some (.cells #[.int .i64 inn, .int .i64 top, gv] 52 (0, 0))
  res : W.heap[w.heap.size + 1]? = some (.cells #[.int .i64 0, .int .i64 0, .slice none 0 0] 65 (0, 0))
  out : W.heap[w.heap.size + 1 + 1]? = some (.cells #[.int .i64 inn, .int .i64 top, v] 65 (0, 0))
  gs : GsO (w.heap.size + 1 + 1 + 1) v gs vs W
  below : Below w.heap.size w W
theorem OnS.step {w : World} {inn top : Int} {gv : Value} {gs : List (List EnA)} {vs : List Value} {v : Value} {W W' : World} (h : OnS w inn top gv gs vs v W) (hb : Below W.heap.size W W') : OnS w inn top gv gs vs v W' :=
  ⟨(hb.block _ (hlt h.row)).trans h.row, (hb.block _ (hlt h.res)).trans h.res, (hb.block _ (hlt h.out)).trans h.out, h.gs.surv (T := 52) (Surv.below hb) (by decide) (by decide) (by decide), h.below.trans (hb.mono h.below.size)⟩
theorem OnS.lt {w : World} {inn top : Int} {gv : Value} {gs : List (List EnA)} {vs : List Value} {v : Value} {W : World} (h : OnS w inn top gv gs vs v W) : w.heap.size + 1 + 1 + 1 ≤ W.heap.size := hlt h.out
/-- One group more behind, and its slice stored. -/
theorem OnS.more {w : World} {inn top : Int} {gv : Value} {gs : List (List EnA)} {vs : List Value} {v : Value} {W W' : World} {l : List EnA} {us : List Value} {a : Option Addr} {c : Nat} {v' : Value} (h : OnS w inn top gv gs vs v W) (he : EsO (w.heap.size + 1 + 1 + 1) (.slice a l.length c) l us W) (hg : W.grownBy W' v.ownBlock)
    (hown : W'.ownsRow (w.heap.size + 1 + 1 + 1) 68 1 v' (gs.length + 1) (vs ++ [.slice a l.length c])) :
    OnS w inn top gv (gs ++ [l]) (vs ++ [.slice a l.length c]) v' (W'.setCell ⟨w.heap.size + 1 + 1, 2, none⟩ v') ∧ W'.heap[w.heap.size + 1 + 1]? = some (.cells #[.int .i64 inn, .int .i64 top, v] 65 (0, 0)) := by
  have hge : ∀ k, v.ownBlock = some k → w.heap.size + 1 + 1 + 1 ≤ k := fun k e => (h.gs.own.lt k e).1
  have hne : ∀ b, b ≤ w.heap.size + 1 + 1 → some b ≠ v.ownBlock := fun b hb e => by have := hge b e.symm; omega
  have h0 := (hg.block _ (hlt h.row) (hne _ (by omega))).trans h.row
  have h1 := (hg.block _ (hlt h.res) (hne _ (by omega))).trans h.res
  have h2 := (hg.block _ (hlt h.out) (hne _ (by omega))).trans h.out
  refine ⟨⟨(heap_setCell_other _ _ _ _ (by show w.heap.size ≠ w.heap.size + 1 + 1; omega)).trans h0, (heap_setCell_other _ _ _ _ (by show w.heap.size + 1 ≠ w.heap.size + 1 + 1; omega)).trans h1, heap_setCell_same _ _ 2 _ _ v' h2,
    (h.gs.more he hg hown).surv (T := 52) (Surv.setCell (by show w.heap.size + 1 + 1 < _; omega) v') (by decide) (by decide) (by decide), ?_⟩, h2⟩
  exact (h.below.grown hg h.below.size (fun k e => by have := hge k e; omega)).setCell (p := ⟨w.heap.size + 1 + 1, 2, none⟩) (by show _ ≤ w.heap.size + 1 + 1; omega) _
def OnR (w : World) (inn top : Int) (gv : Value) (gs : List (List EnA)) (g : Nat) (u : Value) (wr : World) : Prop :=
  ∃ (i : Nat) (vs : List Value) (v : Value), i ≤ gs.length ∧ g = gs.length - i ∧ u = .int .i64 i ∧ OnS w inn top gv (gs.take i) vs v wr
theorem infoREnts : (Tryz.prog.info? 68).map (fun i => (i.zero, i.size, i.bytes)) = some (some (.slice none 0 0), 1, 24) := by kernel_rfl
theorem OnS.start (w : World) (inn top : Int) (gv : Value) :
    OnS w inn top gv [] [] (.slice none 0 0) (((w.alloc (.cells #[.int .i64 inn, .int .i64 top, gv] 52)).alloc (.cells #[.int .i64 0, .int .i64 0, .slice none 0 0] 65)).alloc (.cells #[.int .i64 inn, .int .i64 top, .slice none 0 0] 65)) := by
  have b1 := below_new w (.cells #[.int .i64 inn, .int .i64 top, gv] 52)
  have b2 := below_new (w.alloc (.cells #[.int .i64 inn, .int .i64 top, gv] 52)) (.cells #[.int .i64 0, .int .i64 0, .slice none 0 0] 65)
  have b3 := below_new ((w.alloc (.cells #[.int .i64 inn, .int .i64 top, gv] 52)).alloc (.cells #[.int .i64 0, .int .i64 0, .slice none 0 0] 65)) (.cells #[.int .i64 inn, .int .i64 top, .slice none 0 0] 65)
  have n1 := heap_alloc_new w (.cells #[.int .i64 inn, .int .i64 top, gv] 52)
  have n2 := heap_alloc_new (w.alloc (.cells #[.int .i64 inn, .int .i64 top, gv] 52)) (.cells #[.int .i64 0, .int .i64 0, .slice none 0 0] 65)
  have n3 := heap_alloc_new ((w.alloc (.cells #[.int .i64 inn, .int .i64 top, gv] 52)).alloc (.cells #[.int .i64 0, .int .i64 0, .slice none 0 0] 65)) (.cells #[.int .i64 inn, .int .i64 top, .slice none 0 0] 65)
  rw [World.size_alloc] at n2
  rw [World.size_alloc, World.size_alloc] at n3
  exact ⟨(b3.block _ (by simp; omega)).trans ((b2.block _ (by simp)).trans n1), (b3.block _ (by simp)).trans n2, n3, ⟨rfl, World.ownsRow_nil _ _ _ _, fun k l u h => by simp at h⟩, (b1.trans (b2.mono b1.size)).trans (b3.mono (Nat.le_trans b1.size b2.size))⟩
set_option maxRecDepth 100000 in
set_option maxHeartbeats 8000000 in
theorem one12_any (r : RwA) (ga : Option Addr) (gc : Nat) (w : World) (hg : GsP OpsAt w (.slice ga r.gs.length gc) r.gs) (hl : OkR r) :
    Calls Tryz.prog 22 #[rowV r.inn r.top (.slice ga r.gs.length gc)] w fun e w' => ∃ a c vs, e = .returned (rowV r.inn r.top (.slice a r.gs.length c)) ∧ GsO w.heap.size (.slice a r.gs.length c) r.gs vs w' ∧ Below w.heap.size w w' := by
  obtain ⟨i0, hi0, hz0, hz1, hz2⟩ := info_parts infoREnts
  obtain ⟨inn, top, gs⟩ := r
  replace hg : GsP OpsAt w (.slice ga gs.length gc) gs := hg
  have H0 := Lib.hid (OnS.start w inn top (.slice ga gs.length gc))
  have HG := Lib.hid hg
  have hgl := hl.1
  have HL : Hid (∀ (j : Nat) (l : List EnA), gs[j]? = some l → OkL l) := Lib.hid hl.2
  obtain ⟨k0, k1, k2, -⟩ := rcells H0.out.row
  clear hg hl
  go_enter Tryz.func22, Tryz.ntmps22
  go_wp2_with fail
  clear k0 k1 k2
  go_loopg [14] gs.length (fun g u wr => OnR w inn top (.slice ga gs.length gc) gs g u wr)
  case atStart => exact ⟨0, [], _, Nat.zero_le _, by omega, rfl, H0.out⟩
  case round =>
    clear H0
    obtain ⟨i, vs, v, hil, hgi, rfl, hst⟩ := hrel
    have HTk : Hid ((gs.take i).length = i) := Lib.hid (by rw [List.length_take]; omega)
    obtain ⟨va, vc, hv⟩ := row_form hst.gs.own
    rw [HTk.out] at hv
    subst hv
    by_cases hlt' : i < gs.length
    · obtain ⟨l, hx⟩ : ∃ l, gs[i]? = some l := ⟨_, List.getElem?_eq_getElem hlt'⟩
      obtain ⟨b2, off2, oa, oc, rfl, c0, hes⟩ := HG.out.at keep_ops hx hst.below
      have hok := HL.out i l hx
      have HTk2 : Hid (gs.take (i + 1) = gs.take i ++ [l]) := Lib.hid (by rw [List.take_add_one, hx]; rfl)
      have HEn := Lib.hid (fun W (h : Below wr.heap.size wr W) => (entries12_any (.slice oa l.length oc) l W (hes.step keep_ops h) (by have := hok.1; omega) (fun k p hp => by have := hok.2 k p hp; omega)))
      have HST := Lib.hid hst
      clear hst hes hok hx
      go_wp2_with fail
      have hI := HST.out.step (Below.refl _ _).drew
      have hBI : Below wr.heap.size wr wr.drew := (Below.refl _ _).drew
      clear c0 HST
      refine region_T (fun W' : World => W'.cell? ⟨w.heap.size + 1 + 1, 2, none⟩ = some (.slice va i vc)) 5 (by kernel_rfl) ?_
      have hS0 : (fun W' : World => W'.cell? ⟨w.heap.size + 1 + 1, 2, none⟩ = some (.slice va i vc)) wr.drew := (rcells hI.out).2.2.1
      refine wpT_take (i := 0) (v := .pointer (some ⟨w.heap.size + 1 + 1, 2, none⟩)) rfl (by kernel_rfl) (by kernel_rfl) (by kernel_rfl) (by kernel_rfl) (by kernel_rfl) (by kernel_rfl) (by kernel_rfl) (by kernel_rfl) (fun _ _ _ h => h) (Or.inl ⟨by rfl, ?_⟩) hS0 ?_
      · rintro w' -
        go_simp
      try simp only [Act.put]
      refine wpT_take (i := 1) (v := .slice va i vc) rfl (by kernel_rfl) (by kernel_rfl) (by kernel_rfl) (by kernel_rfl) (by kernel_rfl) (by kernel_rfl) (by kernel_rfl) (by kernel_rfl) (fun _ _ _ h => h) (Or.inl ⟨by rfl, ?_⟩) hS0 ?_
      · rintro w' s0
        go_simp
      try simp only [Act.put]
      refine wpT_take (i := 2) (v := .slice oa l.length oc) rfl (by kernel_rfl) (by kernel_rfl) (by kernel_rfl) (by kernel_rfl) (by kernel_rfl) (by kernel_rfl) (by kernel_rfl) (by kernel_rfl) (fun _ _ _ h => h) (Or.inl ⟨by rfl, ?_⟩) hS0 ?_
      · rintro w' -
        go_simp
      try simp only [Act.put]
      refine wpT_one (i := 3) (by kernel_rfl) rfl ?_
      intro KK hKK
      go_simp
      refine (HEn.out _ hBI).mono ?_
      rintro e w6 ⟨ea, ec, us, rfl, heo, b6⟩
      have hst6 := hI.step b6
      have hS6 : (fun W' : World => W'.cell? ⟨w.heap.size + 1 + 1, 2, none⟩ = some (.slice va i vc)) w6 := (rcells hst6.out).2.2.1
      refine hKK _ _ ⟨fun _ => hS6, ?_⟩
      clear hKK
      try simp only [Act.put]
      have hb7 := below_new w6 (.cells #[.slice ea l.length ec] 68)
      have hst7 := hst6.step hb7
      have he7 := (heo.lower hI.lt).surv (T := 52) (Surv.below hb7) (by decide) (by decide)
      have hN7 := heap_alloc_new w6 (.cells #[.slice ea l.length ec] 68)
      have hS7 : (fun W' : World => W'.cell? ⟨w.heap.size + 1 + 1, 2, none⟩ = some (.slice va i vc)) (w6.alloc (.cells #[.slice ea l.length ec] 68)) := (rcells hst7.out).2.2.1
      refine wpT_one (i := 4) (by kernel_rfl) rfl ?_
      intro KK hKK
      go_simp
      refine hKK _ _ ⟨fun _ => hS7, ?_⟩
      clear hKK hS0
      try simp only [Act.put]
      refine wpT_tail 5 3 rfl rfl (by kernel_rfl) (by kernel_rfl) ?_
      have hown7 := hst7.gs.own
      rw [HTk.out] at hown7
      simp only [List.drop_succ_cons, List.drop_zero]
      refine wpList_append_lies _ rfl _ _ 63 rfl (w.heap.size + 1 + 1 + 1) 68 i0 (.slice none 0 0) 1 24 Tryz.underlying63 hi0 hz0 hz1 hz2 rfl (by decide) _ _ _ rfl hown7 ⟨w6.heap.size, 0, none⟩ 1 1 [.slice ea l.length ec] rfl rfl (World.news_of_block hN7) ?ones (by decide) ?len ?bytes hst7.lt _ rfl ?main6
      case ones => intro y hy; simp only [List.mem_cons, List.not_mem_nil, or_false] at hy; rcases hy with rfl; rfl
      case len => unfold maxLen; omega
      case bytes => omega
      intro g cap w8 hown8 hgrow8 hat8 hlt8
      have hm := hst7.more he7 hgrow8 (by rw [HTk.out]; exact hown8)
      rw [← HTk2.out] at hm
      obtain ⟨d0, d1, d2, df⟩ := rcells hm.2
      have df2 := df 2
      have HM := Lib.hid hm.1
      clear hown8 hgrow8 hat8 hlt8 hst7 hst6 hI he7 hS7 hS6 hN7 hown7 hb7 hm df heo b6 hBI
      go_wp2_with fail
      go_roundg (gs.length - (i + 1))
      case measure => omega
      case rel => exact ⟨i + 1, _, _, by omega, rfl, by go_num, HM.out⟩
    · obtain rfl : i = gs.length := by omega
      rw [List.take_length] at hst
      obtain ⟨m0, m1, m2, -⟩ := rcells hst.out
      obtain ⟨r0, r1, r2, rf⟩ := rcells hst.res
      have rf0 := rf 0
      have rf1 := rf 1
      have rf2 := rf 2
      have HF := Lib.hid hst
      have hh0 := hst.res
      have hh1 := heap_setCell_same _ _ 0 _ _ (.int .i64 inn) hh0
      have hh2 := heap_setCell_same _ _ 1 _ _ (.int .i64 top) hh1
      have hh3 := heap_setCell_same _ _ 2 _ _ (.slice va gs.length vc) hh2
      obtain ⟨y0, y1, y2, -⟩ := rcells hh3
      clear hst rf hh0 hh1 hh2 hh3
      go_wp2_with fail
      refine bodyPost_ret (v := rowV inn top (.slice va gs.length vc)) (by simp [results, Tryz.f22, go_sem, y0, y1, y2]) rfl ⟨va, vc, vs, rfl, ?_, ?_⟩
      · have hs : Surv (w.heap.size + 1 + 1 + 1) 52 wr (((wr.setCell ⟨w.heap.size + 1, 0, none⟩ (.int .i64 inn)).setCell ⟨w.heap.size + 1, 1, none⟩ (.int .i64 top)).setCell ⟨w.heap.size + 1, 2, none⟩ (.slice va gs.length vc)) :=
          ((Surv.setCell (by show w.heap.size + 1 < _; omega) _).trans (Surv.setCell (by show w.heap.size + 1 < _; omega) _)).trans (Surv.setCell (by show w.heap.size + 1 < _; omega) _)
        exact (HF.out.gs.surv hs (by decide) (by decide) (by decide)).lower (by omega)
      · exact ((HF.out.below.setCell (p := ⟨w.heap.size + 1, 0, none⟩) (by show _ ≤ w.heap.size + 1; omega) _).setCell (p := ⟨w.heap.size + 1, 1, none⟩) (by show _ ≤ w.heap.size + 1; omega) _).setCell (p := ⟨w.heap.size + 1, 2, none⟩) (by show _ ≤ w.heap.size + 1; omega) _
end Go.Proofs.YtlcpbfklnjlgnaaGreatDoor

namespace Go.Proofs.YtlcpbfklnjlgnaaGreatDoor
open Go.RowKit Go.Extern.Stop Go.Stop Go.Extern

def rrC : List RwA → List Value → List Value
  | r :: l, u :: us => .int .i64 r.inn :: .int .i64 r.top :: u :: rrC l us
  | _, _ => []
theorem rrC_snoc : ∀ (l : List RwA) (us : List Value) (r : RwA) (u : Value), l.length = us.length → rrC (l ++ [r]) (us ++ [u]) = rrC l us ++ [.int .i64 r.inn, .int .i64 r.top, u]
  | [], [], _, _, _ => rfl
  | _ :: l, _ :: us, r, u, h => by
    show _ :: _ :: _ :: rrC (l ++ [r]) (us ++ [u]) = _
    rw [rrC_snoc l us r u (by simpa using h)]; rfl
  | [], _ :: _, _, _, h => by simp at h
  | _ :: _, [], _, _, h => by simp at h
theorem rrC_at : ∀ {l : List RwA} {us : List Value} {k : Nat} {r : RwA} {u : Value}, l[k]? = some r → us[k]? = some u → (rrC l us)[k * 3]? = some (.int .i64 r.inn) ∧ (rrC l us)[k * 3 + 1]? = some (.int .i64 r.top) ∧ (rrC l us)[k * 3 + 2]? = some u
  | [], _, _, _, _, h, _ => by simp at h
  | _ :: _, [], _, _, _, _, h => by simp at h
  | a :: l, b :: us, 0, r, u, h, h' => by
    obtain rfl : a = r := by simpa using h
    obtain rfl : b = u := by simpa using h'
    exact ⟨rfl, rfl, rfl⟩
  | a :: l, b :: us, k + 1, r, u, h, h' => by
    have := rrC_at (l := l) (us := us) (k := k) (r := r) (u := u) (by simpa using h) (by simpa using h')
    rw [show (k + 1) * 3 = k * 3 + 3 by omega, show k * 3 + 3 + 1 = k * 3 + 1 + 3 by omega, show k * 3 + 3 + 2 = k * 3 + 2 + 3 by omega]
    exact this
/-- The document's rows, all in rows of one's own. -/
structure RsO (B : Nat) (v : Value) (rows : List RwA) (us : List Value) (W : World) : Prop where
  len : us.length = rows.length
  own : W.ownsRow B 65 3 v rows.length (rrC rows us)
  gs : ∀ (k : Nat) (r : RwA) (u : Value), rows[k]? = some r → us[k]? = some u → (∃ a c, u = .slice a r.gs.length c) ∧ ∃ vs, GsO B u r.gs vs W
theorem RsO.surv {B : Nat} {v : Value} {rows : List RwA} {us : List Value} {W W' : World} {T : TypeId} (h : RsO B v rows us W) (hs : Surv B T W W') (h3 : 65 ≠ T) (h0 : 68 ≠ T) (h1 : 71 ≠ T) (h2 : 94 ≠ T) : RsO B v rows us W' :=
  ⟨h.len, ownsRow_surv h.own hs h3, fun k r u hr hu => ⟨(h.gs k r u hr hu).1, by obtain ⟨vs, he⟩ := (h.gs k r u hr hu).2; exact ⟨vs, he.surv hs h0 h1 h2⟩⟩⟩
theorem RsO.more {B : Nat} {v : Value} {rows : List RwA} {us : List Value} {W W' : World} {r : RwA} {vs : List Value} {a : Option Addr} {c : Nat} {v' : Value} (h : RsO B v rows us W) (he : GsO B (.slice a r.gs.length c) r.gs vs W) (hg : W.grownBy W' v.ownBlock)
    (hown : W'.ownsRow B 65 3 v' (rows.length + 1) (rrC rows us ++ [.int .i64 r.inn, .int .i64 r.top, .slice a r.gs.length c])) : RsO B v' (rows ++ [r]) (us ++ [.slice a r.gs.length c]) W' := by
  have hs : Surv B 65 W W' := Surv.grown h.own hg
  refine ⟨by simp [h.len], by rw [rrC_snoc _ _ _ _ h.len.symm, List.length_append]; exact hown, ?_⟩
  intro k q u hq hu
  rcases Nat.lt_or_ge k rows.length with hk | hk
  · rw [List.getElem?_append_left hk] at hq
    rw [List.getElem?_append_left (by rw [h.len]; exact hk)] at hu
    obtain ⟨h1, vs', h2⟩ := h.gs k q u hq hu
    exact ⟨h1, vs', h2.surv hs (by decide) (by decide) (by decide)⟩
  · rw [List.getElem?_append_right hk] at hq
    rw [List.getElem?_append_right (by rw [h.len]; exact hk), h.len] at hu
    obtain ⟨j, hj⟩ : ∃ j, j = k - rows.length := ⟨_, rfl⟩
    rw [← hj] at hq hu
    cases j with
    | zero =>
      simp only [List.getElem?_cons_zero, Option.some.injEq] at hq hu
      subst hq hu
      exact ⟨⟨_, _, rfl⟩, vs, he.surv hs (by decide) (by decide) (by decide)⟩
    | succ j => simp at hq
theorem RsO.rsP {B : Nat} {v : Value} {rows : List RwA} {us : List Value} {W : World} (h : RsO B v rows us W) : RsP OpsC W v rows := by
  rcases h.own.2 with ⟨rfl, h0⟩ | ⟨g, cap, cur, rfl, -, hg, hle, -, hsz, hx⟩
  · exact .inl ⟨none, 0, rfl, List.eq_nil_of_length_eq_zero h0⟩
  · refine .inr ⟨g, 0, cap, rfl, hlt hg, fun i r hi => ?_⟩
    have hil := (List.getElem?_eq_some_iff.1 hi).1
    obtain ⟨u, hu⟩ : ∃ u, us[i]? = some u := ⟨_, List.getElem?_eq_getElem (by rw [h.len]; exact hil)⟩
    obtain ⟨⟨a, c, rfl⟩, vs, he⟩ := h.gs i r u hi hu
    obtain ⟨k0, k1, k2⟩ := rrC_at hi hu
    rw [← hx, List.getElem?_take, if_pos (by omega)] at k0 k1 k2
    refine ⟨a, c, ?_, ?_, ?_, he.gsP⟩
    · rw [Lib.cell_of_heap hg]; simpa using k0
    · rw [Lib.cell_of_heap hg]; simpa using k1
    · rw [Lib.cell_of_heap hg]; simpa using k2
def TrR (w : World) (rows : List RwA) (g : Nat) (u v : Value) (wr : World) : Prop :=
  ∃ (i : Nat) (us : List Value), i ≤ rows.length ∧ g = rows.length - i ∧ u = .int .i64 i ∧ RsO w.heap.size v (rows.take i) us wr ∧ Below w.heap.size w wr
theorem infoRRow : (Tryz.prog.info? 65).map (fun i => (i.zero, i.size, i.bytes)) = some (some (.agg #[.int .i64 0, .int .i64 0, .slice none 0 0]), 3, 40) := by kernel_rfl
set_option maxRecDepth 100000 in
set_option maxHeartbeats 8000000 in
theorem to12_any (v : Value) (rows : List RwA) (w : World) (hv : RsP OpsAt w v rows) (hl : rows.length ≤ 1000) (hok : ∀ (i : Nat) (r : RwA), rows[i]? = some r → OkR r) :
    Calls Tryz.prog 10 #[v] w fun e w' => ∃ u, e = .returned u ∧ RsP OpsC w' u rows ∧ Below w.heap.size w w' := by
  obtain ⟨i0, hi0, hz0, hz1, hz2⟩ := info_parts infoRRow
  obtain ⟨va, vcap, rfl⟩ := hv.form
  have HV := Lib.hid hv
  have HOK := Lib.hid hok
  clear hv hok
  go_enter Tryz.func10, Tryz.ntmps10
  go_wp2_with fail
  go_loopg [8, 3] rows.length (fun g u v wr => TrR w rows g u v wr)
  case atStart => exact ⟨0, [], Nat.zero_le _, by omega, rfl, ⟨rfl, World.ownsRow_nil _ _ _ _, fun k r u h => by simp at h⟩, Below.refl _ _⟩
  case round =>
    obtain ⟨i, us, hil, hgi, rfl, hrs, hb⟩ := hrel
    by_cases hlt' : i < rows.length
    · obtain ⟨r, hx⟩ : ∃ r, rows[i]? = some r := ⟨_, List.getElem?_eq_getElem hlt'⟩
      obtain ⟨b2, off2, oa, oc, rfl, c0, c1, c2, hgs⟩ := HV.out.at keep_ops hx hb
      have hbn := below_new wr (.cells #[.int .i64 r.inn, .int .i64 r.top, .slice oa r.gs.length oc] 52)
      have HOn := Lib.hid (one12_any r oa oc _ (hgs.step keep_ops hbn) (HOK.out i r hx))
      have HTk : Hid ((rows.take i).length = i ∧ rows.take (i + 1) = rows.take i ++ [r]) := Lib.hid ⟨by rw [List.length_take]; omega, by rw [List.take_add_one, hx]; rfl⟩
      have HS := Lib.hid (And.intro (hrs.surv (T := 52) (Surv.below hbn) (by decide) (by decide) (by decide) (by decide)) (hb.trans (hbn.mono hb.size)))
      clear hgs hx hrs hb hbn
      go_wp2_with fail
      refine HOn.out.mono ?_
      rintro e w2 ⟨a, c, vs, rfl, hgo, b2⟩
      have hS2 := HS.out.1.surv (T := 52) (Surv.below b2) (by decide) (by decide) (by decide) (by decide)
      have hB2 := HS.out.2.trans (b2.mono HS.out.2.size)
      have hbn := below_new w2 (.cells #[.int .i64 r.inn, .int .i64 r.top, .slice a r.gs.length c] 65)
      have HG3 := Lib.hid ((hgo.lower HS.out.2.size).surv (T := 52) (Surv.below hbn) (by decide) (by decide) (by decide))
      have HS3 := Lib.hid (hS2.surv (T := 52) (Surv.below hbn) (by decide) (by decide) (by decide) (by decide))
      have HB3 := Lib.hid (hB2.trans (hbn.mono hB2.size))
      have HN3 : Hid ((w2.alloc (.cells #[.int .i64 r.inn, .int .i64 r.top, .slice a r.gs.length c] 65)).heap[w2.heap.size]? = some (.cells #[.int .i64 r.inn, .int .i64 r.top, .slice a r.gs.length c] 65 (0, 0))) := Lib.hid (heap_alloc_new w2 _)
      have ho := HS3.out.own
      rw [HTk.out.1] at ho
      have HO := Lib.hid ho
      clear hgo b2 hS2 hB2 hbn ho HS
      go_wp2_with (at_builtin; refine wpList_append_own _ rfl _ _ 39 rfl w.heap.size 65 i0 (.agg #[.int .i64 0, .int .i64 0, .slice none 0 0]) 3 40 Tryz.underlying39 hi0 hz0 hz1 hz2 rfl (by decide) _ _ _ rfl HO.out ⟨w2.heap.size, 0, none⟩ 1 1 [.int .i64 r.inn, .int .i64 r.top, .slice a r.gs.length c] rfl rfl ?_ (by simp [Value.oneCell']) ?_ ?_ ?_ ?_)
      · intro j u hu
        have e0 : (⟨w2.heap.size, 0, none⟩ : Addr).add j = ⟨w2.heap.size, j, none⟩ := by unfold Addr.add; split <;> simp_all
        rw [e0, Lib.cell_of_heap HN3.out, List.getElem?_toArray]
        exact hu
      · unfold maxLen; omega
      · omega
      · exact HB3.out.size
      intro v4 w4 hown4 hgrow4 _
      have hb4 := HB3.out.grown hgrow4 HB3.out.size (fun k e => (HO.out.lt k e).1)
      have hm := HS3.out.more HG3.out hgrow4 (by rw [HTk.out.1]; exact hown4)
      rw [← HTk.out.2] at hm
      have HN : Hid (TrR w rows (rows.length - (i + 1)) (.int .i64 ((i : Int) + 1)) v4 w4) := Lib.hid ⟨i + 1, _, by omega, rfl, by go_num, hm, hb4⟩
      clear hown4 hgrow4 hb4 hm HO HN3 HB3 HS3 HG3
      go_wp2_with fail
      go_roundg (rows.length - (i + 1))
      case measure => omega
      case rel => exact HN.out
    · obtain rfl : i = rows.length := by omega
      rw [List.take_length] at hrs
      have HF := Lib.hid (And.intro hrs.rsP hb)
      obtain ⟨ra, rc, rfl⟩ := row_form hrs.own
      clear hrs hb
      go_wp2_with fail
      go_ret
      exact ⟨_, rfl, HF.out.1, HF.out.2⟩
end Go.Proofs.YtlcpbfklnjlgnaaGreatDoor
