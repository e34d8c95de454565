/-
  Chapter 12's Check, the document's own, by contract.
  Chapter 12's Check, the document's own, by contract: its body.
-/
import Derived.Test.YtlcpbfklnjlgnaaGreatDoorGy
import Derived.Test.YtlcpbfklnjlgnaaGreatDoorGt
import Derived.Test.YtlcpbfklnjlgnaaGreatDoorGs
import Derived.Test.YtlcpbfklnjlgnaaGreatDoorGp
namespace Go.Proofs.YtlcpbfklnjlgnaaGreatDoor
open Go.RowKit Go.Extern.Stop Go.Stop Go.Extern

/-- What the document's check answers: a fault's number, its place, its words. -/
def RPost (F : Flt) (w : World) (e : Ending) (w' : World) : Prop :=
  ∃ u, e = .returned (.tuple #[.int .i64 F.1, .int .i64 F.2.1, u]) ∧ StrsAt w' u F.2.2 ∧ Below w.heap.size w w'
theorem dig_any (i : Nat) (hi : i ≤ 1000000) (w : World) : Calls Tryz.prog 19 #[.int .i64 (i : Int)] w fun e w' => e = .returned (.string (digS i)) ∧ Below w.heap.size w w' := digitsRef_any _ (by omega) (by omega) w
theorem keep_opsC : Keep OpsC := fun _ _ _ _ h hb => h.step hb
/-- The document's boxes: of the topology. -/
structure RcS (w : World) (vr vl : Value) (W : World) : Prop where
  t : W.heap[w.heap.size]? = some (.cells #[vr, vl] 35 (0, 0))
  below : Below w.heap.size w W
theorem RcS.step {w : World} {vr vl : Value} {W W' : World} (h : RcS w vr vl W) (hb : Below W.heap.size W W') : RcS w vr vl W' :=
  ⟨(hb.block _ (hlt h.t)).trans h.t, h.below.trans (hb.mono h.below.size)⟩
/-- A row in a block of its own, and its words. -/
structure RqS (w : World) (vr vl : Value) (wo : World) (q : Nat) (inn top : Int) (gv : Value) (vw : Value) (ws : List ByteArray) (W : World) : Prop where
  s : RcS w vr vl W
  q : W.heap[q]? = some (.cells #[.int .i64 inn, .int .i64 top, gv] 65 (0, 0))
  ws : StrsAt W vw ws
  bo : Below wo.heap.size wo W
theorem RqS.step {w : World} {vr vl : Value} {wo : World} {q : Nat} {inn top : Int} {gv vw : Value} {ws : List ByteArray} {W W' : World} (h : RqS w vr vl wo q inn top gv vw ws W) (hb : Below W.heap.size W W') : RqS w vr vl wo q inn top gv vw ws W' :=
  ⟨h.s.step hb, (hb.block _ (hlt h.q)).trans h.q, h.ws.keep hb, h.bo.trans (hb.mono h.bo.size)⟩
theorem hcells3 {W : World} {b : Nat} {v0 v1 v2 : Value} {T : TypeId} (h : W.heap[b]? = some (.cells #[v0, v1, v2] T (0, 0))) : W.cell? ⟨b, 0, none⟩ = some v0 ∧ W.cell? ⟨b, 1, none⟩ = some v1 ∧ W.cell? ⟨b, 2, none⟩ = some v2 :=
  ⟨by rw [Lib.cell_of_heap h]; rfl, by rw [Lib.cell_of_heap h]; rfl, by rw [Lib.cell_of_heap h]; rfl⟩
def RoL (w : World) (vr vl : Value) (F : Nat → Flt) (n : Nat) (g : Nat) (u : Value) (wr : World) : Prop :=
  ∃ i : Nat, i ≤ n ∧ g = n - i ∧ u = .int .i64 i ∧ firstF F n 0 = firstF F (n - i) i ∧ RcS w vr vl wr
def RmL (w : World) (vr vl : Value) (wo : World) (q : Nat) (inn top : Int) (gv vw : Value) (ws : List ByteArray) (F : Nat → Flt) (n : Nat) (g : Nat) (u : Value) (wr : World) : Prop :=
  ∃ i : Nat, i ≤ n ∧ g = n - i ∧ u = .int .i64 i ∧ firstF F n 0 = firstF F (n - i) i ∧ RqS w vr vl wo q inn top gv vw ws wr
def RiL (w : World) (vr vl : Value) (wo : World) (q : Nat) (inn top : Int) (gv vw : Value) (ws : List ByteArray) (wi : World) (vi : Value) (ws2 : List ByteArray) (F : Nat → Flt) (n : Nat) (g : Nat) (u : Value) (wr : World) : Prop :=
  ∃ i : Nat, i ≤ n ∧ g = n - i ∧ u = .int .i64 i ∧ firstF F n 0 = firstF F (n - i) i ∧ RqS w vr vl wo q inn top gv vw ws wr ∧ StrsAt wr vi ws2 ∧ Below wi.heap.size wi wr
theorem abv_iff {i t i' t' : Int} : 0 < abvI i t i' t' ↔ i' < i ∨ (i = i' ∧ t' < t) := by
  unfold abvI Lib.compareInt
  rcases Int.lt_trichotomy i i' with h | h | h
  · have h1 : ¬ i' < i := by omega
    simp only [h, if_true]
    simp
    omega
  · subst h
    rcases Int.lt_trichotomy t t' with h2 | h2 | h2
    · simp [h2]; omega
    · subst h2; simp
    · have h3 : ¬ t < t' := by omega
      simp [h2, h3]
  · have h1 : ¬ i < i' := by omega
    simp [h, h1]
theorem strs2 (W : World) (a b : ByteArray) : StrsAt (W.alloc (.cells #[.string a, .string b] 9)) (.slice (some ⟨W.heap.size, 0, none⟩) 2 2) [a, b] :=
  strs_own (World.ownsRow_lit (base := 0) (size := 1) W #[.string a, .string b] 2 (Nat.zero_le _) (by decide) rfl)
theorem fst_tbl {ls : List Lk} {ks : List Int} {rows : List RwA} {i : Nat} {r : RwA} {c a : Int} {l : List ByteArray} (hE : chkT ls ks rows = inF tblS (firstF (chkRs ls ks rows) rows.length 0))
    (hF : firstF (chkRs ls ks rows) rows.length 0 = firstF (chkRs ls ks rows) (rows.length - i) i) (hr : rows[i]? = some r) (h : chkRw ls ks (ordB rows i) r = (c, a, l)) (hc : c ≠ 0) : chkT ls ks rows = (c, a, tblS :: digS i :: l) := by
  have e : chkRs ls ks rows i = (c, a, l) := by unfold chkRs; rw [hr]; exact h
  rw [hE, hF, firstF_at (List.getElem?_eq_some_iff.1 hr).1 (by rw [e]; exact hc), e, inF_no (by exact hc)]
theorem fst_grp {ls : List Lk} {ks : List Int} {inn top : Int} {gs : List (List EnA)} {j : Nat} {l : List EnA} {c a : Int} {ws : List ByteArray} (hz : lenE gs.length = 0)
    (hF : firstF (chkGi ls ks inn top gs) gs.length 0 = firstF (chkGi ls ks inn top gs) (gs.length - j) j) (hl : gs[j]? = some l) (h : chkGr ls ks inn top l = (c, a, ws)) (hc : c ≠ 0) : chkGs ls ks inn top gs = (c, a, digS j :: ws) := by
  have e : chkGi ls ks inn top gs j = (c, a, ws) := by unfold chkGi; rw [hl]; exact h
  unfold chkGs
  rw [if_neg (fun h => h hz), hF, firstF_at (List.getElem?_eq_some_iff.1 hl).1 (by rw [e]; exact hc), e]
theorem fst_ent {ls : List Lk} {ks : List Int} {inn top : Int} {es : List EnA} {k : Nat} {p : EnA} {c a : Int} {ws : List ByteArray} (hz : lenE es.length = 0)
    (hF : firstF (chkEs ls ks inn top es) es.length 0 = firstF (chkEs ls ks inn top es) (es.length - k) k) (hp : es[k]? = some p) (h : chkEn ls ks inn top p = (c, a, ws)) (hc : c ≠ 0) : chkGr ls ks inn top es = (c, a, digS k :: ws) := by
  have e : chkEs ls ks inn top es k = (c, a, ws) := by unfold chkEs; rw [hp]; exact h
  unfold chkGr
  rw [if_neg (fun h => h hz), hF, firstF_at (List.getElem?_eq_some_iff.1 hp).1 (by rw [e]; exact hc), e]
theorem lenE_0 : lenE ((0 : Nat) : Int) = 14 := rfl
theorem lenE_8 {n : Nat} (h : 8 < n) : lenE (n : Int) = 6 := by unfold lenE; rw [if_neg (by omega), if_pos (by omega)]
theorem lenE_ok {n : Nat} (h0 : n ≠ 0) (h : n ≤ 8) : lenE (n : Int) = 0 := by unfold lenE; rw [if_neg (by omega), if_neg (by omega)]
theorem grp_len0 {ls : List Lk} {ks : List Int} {inn top : Int} {es : List EnA} {c : Int} (h : lenE es.length = c) (hc : c ≠ 0) : chkGr ls ks inn top es = (c, 0, []) := by unfold chkGr; rw [h, if_pos hc]
theorem gs_len0 {ls : List Lk} {ks : List Int} {inn top : Int} {gs : List (List EnA)} {c : Int} (h : lenE gs.length = c) (hc : c ≠ 0) : chkGs ls ks inn top gs = (c, 0, []) := by unfold chkGs; rw [h, if_pos hc]
/-- A row's own block is none of another element type. -/
theorem _root_.Go.World.ownsRow.own_ne {w : World} {B : Nat} {e e' : TypeId} {sz n b : Nat} {v : Value} {xs : List Value} {cs : Array Value} (h : w.ownsRow B e sz v n xs) (hb : w.heap[b]? = some (.cells cs e' (0, 0))) (hne : e' ≠ e) : v.ownBlock ≠ some b := by
  intro hv
  rcases h.2 with ⟨rfl, -⟩ | ⟨g, cap, cur, rfl, -, h1, -⟩
  · cases hv
  · have e2 : g = b := by injection hv
    subst e2
    rw [hb] at h1
    injection h1 with h1
    injection h1 with _ h1
    exact hne h1
end Go.Proofs.YtlcpbfklnjlgnaaGreatDoor

namespace Go.Proofs.YtlcpbfklnjlgnaaGreatDoor
open Go.RowKit Go.Extern.Stop Go.Stop Go.Extern

theorem strs1 (W : World) (a : ByteArray) : StrsAt (W.alloc (.cells #[.string a] 9)) (.slice (some ⟨W.heap.size, 0, none⟩) 1 1) [a] :=
  strs_own (World.ownsRow_lit (base := 0) (size := 1) W #[.string a] 1 (Nat.zero_le _) (by decide) rfl)
theorem add_spot (b j : Nat) : (⟨b, 0, none⟩ : Addr).add j = ⟨b, j, none⟩ := by unfold Addr.add; split <;> simp_all
theorem own_none (W : World) (B : Nat) (hB : B ≤ W.heap.size) : (W.alloc (.cells #[] 9)).ownsRow B 9 1 (.slice (some ⟨W.heap.size, 0, none⟩) 0 0) 0 [] :=
  World.ownsRow_lit W #[] 0 hB (by decide) rfl
/-- One word more behind a row of words of one's own. -/
theorem strs_more {W : World} {B : Nat} {v : Value} {ws : List ByteArray} {s : ByteArray} {n : Nat} (h : W.ownsRow B 9 1 v (n + 1) (WordsOf ws ++ [.string s])) (hn : n = ws.length) : StrsAt W v (ws ++ [s]) := by
  subst hn
  refine strs_own (base := B) ?_
  rw [List.length_append]
  have : WordsOf (ws ++ [s]) = WordsOf ws ++ [.string s] := by unfold WordsOf; rw [List.map_append]; rfl
  rw [this]
  exact h
set_option maxRecDepth 100000 in
set_option maxHeartbeats 40000000 in
theorem rtbCheck_any (vr vl vk v : Value) (rs : List ByteArray) (ls : List Lk) (ks : List Int) (rows : List RwA) (w : World)
    (ht : TpAt w vr vl rs ls) (hk : IntsAt w vk ks) (hv : RsP OpsC w v rows) (hkl : ks.length ≤ 100) (_hll : ls.length ≤ 1000)
    (hch : ∀ (i : Nat) (r : RwA) (j : Nat) (l : List EnA) (k : Nat) (p : EnA), rows[i]? = some r → r.gs[j]? = some l → l[k]? = some p → p.2.length ≤ 20) :
    Calls Tryz.prog 9 #[.agg #[vr, vl], vk, v] w (RPost (chkT ls ks rows) w) := by
  have hS0 : RcS w vr vl (w.alloc (.cells #[vr, vl] 35)) := ⟨heap_alloc_new w _, below_new w _⟩
  have HTp := Lib.hid ht
  have HKs := Lib.hid hk
  have HV := Lib.hid hv
  have HCh := Lib.hid hch
  obtain ⟨va, vcap, rfl⟩ := hv.form
  obtain ⟨ra, rcap, rfl⟩ := ht.rs.form
  obtain ⟨la, lcap, rfl⟩ := ht.ls.form
  obtain ⟨ka, kcap, rfl⟩ := hk.form
  have HS0 := Lib.hid hS0
  have HD := Lib.hid (fun i (h : i ≤ 1000000) W => dig_any i h W)
  obtain ⟨i0, hinf, hz0, hz1, hz2⟩ := info_parts infoStr
  clear ht hk hv hch hS0
  by_cases hl : 256 < rows.length
  · have HE : Hid (chkT ls ks rows = (6, 256, [tblS])) := Lib.hid (if_pos hl)
    have hl' : (256 : Int) < rows.length := by omega
    go_enter Tryz.func9, Tryz.ntmps9
    go_wp2_with fail
    go_ret3
    rw [HE.out]
    have hs1 := strs1 (w.alloc (.cells #[.slice ra rs.length rcap, .slice la ls.length lcap] 35)) tblS
    rw [World.size_alloc] at hs1
    exact ⟨_, rfl, hs1, HS0.out.below.trans ((below_new _ _).mono HS0.out.below.size)⟩
  · have hl' : ¬ (256 : Int) < rows.length := by omega
    have HT : Hid (chkT ls ks rows = inF tblS (firstF (chkRs ls ks rows) rows.length 0)) := Lib.hid (if_neg hl)
    go_enter Tryz.func9, Tryz.ntmps9
    go_wp2_with fail
    go_loopg [26] rows.length (fun g u wr => RoL w (.slice ra rs.length rcap) (.slice la ls.length lcap) (chkRs ls ks rows) rows.length g u wr)
    case atStart => exact ⟨0, Nat.zero_le _, by omega, rfl, rfl, HS0.out⟩
    case round =>
      clear HS0
      obtain ⟨i, hi, hgi, rfl, hFo, hst⟩ := hrel
      have HFo := Lib.hid hFo
      have HST := Lib.hid hst
      by_cases hlt' : i < rows.length
      · obtain ⟨r, hx⟩ : ∃ r, rows[i]? = some r := ⟨_, List.getElem?_eq_getElem hlt'⟩
        obtain ⟨b, off, oa, oc, rfl, c0, c1, c2, hgs⟩ := HV.out.at keep_opsC hx hst.below
        have HX := Lib.hid hx
        have HL := Lib.hid (fun j l k p => HCh.out i r j l k p hx)
        obtain ⟨inn, top, gs⟩ := r
        replace c0 : wr.cell? _ = some (.int .i64 inn) := c0
        replace c1 : wr.cell? _ = some (.int .i64 top) := c1
        replace c2 : wr.cell? _ = some (.slice oa gs.length oc) := c2
        have hbn := below_new wr (.cells #[.int .i64 inn, .int .i64 top, .slice oa gs.length oc] 65)
        have HS1 := Lib.hid (hst.step hbn)
        have HQ1 : Hid ((wr.alloc (.cells #[.int .i64 inn, .int .i64 top, .slice oa gs.length oc] 65)).heap[wr.heap.size]? = some (.cells #[.int .i64 inn, .int .i64 top, .slice oa gs.length oc] 65 (0, 0))) := Lib.hid (heap_alloc_new wr _)
        have HB1 := Lib.hid hbn
        have HG : Hid (GsP OpsC wr (.slice oa gs.length oc) gs) := Lib.hid hgs
        clear hbn hst hFo hx hgs
        by_cases hin : InN ls.length inn
        · obtain ⟨ii, rfl, hil⟩ := nat_of_in hin
          obtain ⟨li, hli⟩ : ∃ x, ls[ii]? = some x := ⟨_, List.getElem?_eq_getElem hil⟩
          have HLi := Lib.hid hli
          have f1' : decide ((ii : Int) < 0) = false := decide_eq_false (by omega)
          have f2' : decide ((ls.length : Int) ≤ (ii : Int)) = false := decide_eq_false (by omega)
          by_cases hkz : kindI ks top = 0
          · have HE := Lib.hid (fst_tbl HT.out HFo.out HX.out (c := 2) (a := 0) (l := []) (by unfold chkRw; rw [if_neg (fun h => h hin), if_pos hkz]) (by decide))
            have HKd := Lib.hid (fun W (h : IntsAt W (.slice ka ks.length kcap) ks) => rkind_kv ks (.slice ka ks.length kcap) top 0 W h hkz)
            clear hli hin hkz
            go_wp2_with fail
            refine (HD.out i (by omega) _).mono ?_
            rintro e w2 ⟨rfl, b2⟩
            have bn3 := below_new w2 (.cells #[.string ⟨#[116, 97, 98, 108, 101]⟩, .string (digS i)] 9)
            have HBw : Hid (Below wr.heap.size wr (w2.alloc (.cells #[.string ⟨#[116, 97, 98, 108, 101]⟩, .string (digS i)] 9))) := Lib.hid ((HB1.out.trans (b2.mono HB1.out.size)).trans (bn3.mono (Nat.le_trans HB1.out.size b2.size)))
            have HQ : Hid (RqS w (.slice ra rs.length rcap) (.slice la ls.length lcap) wr wr.heap.size _ top (.slice oa gs.length oc) (.slice (some ⟨w2.heap.size, 0, none⟩) 2 2) [tblS, digS i] (w2.alloc (.cells #[.string ⟨#[116, 97, 98, 108, 101]⟩, .string (digS i)] 9))) :=
              Lib.hid ⟨(HS1.out.step b2).step bn3, (bn3.block _ (Nat.lt_of_lt_of_le (hlt HQ1.out) b2.size)).trans ((b2.block _ (hlt HQ1.out)).trans HQ1.out), strs2 w2 tblS (digS i), HBw.out⟩
            clear b2 bn3 HS1 HQ1 HB1
            obtain ⟨k0, k1, k2⟩ := hcells3 HQ.out.q
            obtain ⟨t0, t1, -⟩ := hcell HQ.out.s.t
            go_wp2_with fail
            refine (HKd.out _ (HKs.out.step HQ.out.s.below)).mono ?_
            rintro e w4 ⟨rfl, rfl⟩
            go_wp2_with fail
            go_ret3
            rw [HE.out]
            exact ⟨_, rfl, HQ.out.ws, HQ.out.s.below⟩
          · obtain ⟨kd, hkd⟩ : ∃ kd, kindI ks top = kd := ⟨_, rfl⟩
            have HKd := Lib.hid (fun W (h : IntsAt W (.slice ka ks.length kcap) ks) => rkind_kv ks (.slice ka ks.length kcap) top kd W h hkd)
            have hkd0 : (kd == 0) = false := by rw [← hkd]; simpa using hkz
            have HRC := Lib.hid (fun (W : World) (va : Value) (c : List (Int × Int)) (h1 : IntsAt W (.slice ka ks.length kcap) ks) (h2 : OpsC W va c) (h3 : c.length ≤ 20) => rCheck_any ks top c (.slice ka ks.length kcap) va W h1 h2 h3 hkl)
            by_cases h0 : i = 0
            · have HRw : Hid (chkRw ls ks (ordB rows i) ⟨(ii : Int), top, gs⟩ = chkGs ls ks (ii : Int) top gs) := Lib.hid (by unfold chkRw; rw [if_neg (fun h => h hin), if_neg hkz, if_neg (by unfold ordB; rw [if_pos h0]; decide)])
              have hi0 : ¬ (0 : Int) < (i : Int) := by omega
              have hi0n : ¬ 0 < i := by omega
              clear hli hin hkz hkd h0
              go_wp2_with fail
              refine (HD.out i (by omega) _).mono ?_
              rintro e w2 ⟨rfl, b2⟩
              have bn3 := below_new w2 (.cells #[.string ⟨#[116, 97, 98, 108, 101]⟩, .string (digS i)] 9)
              have HBw : Hid (Below wr.heap.size wr (w2.alloc (.cells #[.string ⟨#[116, 97, 98, 108, 101]⟩, .string (digS i)] 9))) := Lib.hid ((HB1.out.trans (b2.mono HB1.out.size)).trans (bn3.mono (Nat.le_trans HB1.out.size b2.size)))
              have HQ : Hid (RqS w (.slice ra rs.length rcap) (.slice la ls.length lcap) wr wr.heap.size _ top (.slice oa gs.length oc) (.slice (some ⟨w2.heap.size, 0, none⟩) 2 2) [tblS, digS i] (w2.alloc (.cells #[.string ⟨#[116, 97, 98, 108, 101]⟩, .string (digS i)] 9))) :=
                Lib.hid ⟨(HS1.out.step b2).step bn3, (bn3.block _ (Nat.lt_of_lt_of_le (hlt HQ1.out) b2.size)).trans ((b2.block _ (hlt HQ1.out)).trans HQ1.out), strs2 w2 tblS (digS i), HBw.out⟩
              clear b2 bn3 HS1 HQ1 HB1
              obtain ⟨k0, k1, k2⟩ := hcells3 HQ.out.q
              obtain ⟨t0, t1, -⟩ := hcell HQ.out.s.t
              go_wp2_with fail
              refine (HKd.out _ (HKs.out.step HQ.out.s.below)).mono ?_
              rintro e w4 ⟨rfl, rfl⟩
              go_wp2_with fail
              go_quiet (fail)
              have HQ3 := Lib.hid (HQ.out.step (below_drewN _ nq))
              clear HQ k0 k1 k2 t0 t1 HBw
              obtain ⟨k0, k1, k2⟩ := hcells3 HQ3.out.q
              obtain ⟨t0, t1, -⟩ := hcell HQ3.out.s.t
              by_cases hg0 : gs.length = 0
              · obtain rfl : gs = [] := List.eq_nil_of_length_eq_zero hg0
                have HE := Lib.hid (fst_tbl HT.out HFo.out HX.out (c := 14) (a := 0) (l := []) (HRw.out.trans (gs_len0 lenE_0 (by decide))) (by decide))
                go_wp2_with fail
                go_ret3
                rw [HE.out]
                exact ⟨_, rfl, HQ3.out.ws, HQ3.out.s.below⟩
              · have hg0' : ((gs.length : Int) == 0) = false := by rw [beq_eq_false_iff_ne]; omega
                by_cases hg8 : 8 < gs.length
                · have hg8' : (8 : Int) < gs.length := by omega
                  have HE := Lib.hid (fst_tbl HT.out HFo.out HX.out (c := 6) (a := 0) (l := []) (HRw.out.trans (gs_len0 (lenE_8 hg8) (by decide))) (by decide))
                  go_wp2_with fail
                  go_ret3
                  rw [HE.out]
                  exact ⟨_, rfl, HQ3.out.ws, HQ3.out.s.below⟩
                · have hg8' : ¬ (8 : Int) < gs.length := by omega
                  have HGz := Lib.hid (lenE_ok hg0 (by omega : gs.length ≤ 8))
                  obtain ⟨bw, hbw⟩ : ∃ bw, w2.heap.size = bw := ⟨_, rfl⟩
                  rw [hbw] at HQ3
                  go_wp2_with fail
                  try rw [hbw]
                  clear k0 k1 k2 t0 t1 hbw
                  go_loopg [101] gs.length (fun g u W => RmL w (.slice ra rs.length rcap) (.slice la ls.length lcap) wr wr.heap.size (ii : Int) top (.slice oa gs.length oc) (.slice (some ⟨bw, 0, none⟩) 2 2) [tblS, digS i] (chkGi ls ks (ii : Int) top gs) gs.length g u W)
                  case atStart => exact ⟨0, Nat.zero_le _, by omega, rfl, rfl, HQ3.out⟩
                  case round =>
                    clear HQ3
                    rename World => wm
                    obtain ⟨j, hj, hgj, rfl, hFj, hq⟩ := hrel
                    have HFj := Lib.hid hFj
                    have HQ := Lib.hid hq
                    clear hFj hq
                    by_cases hjl : j < gs.length
                    · obtain ⟨l, hl⟩ : ∃ l, gs[j]? = some l := ⟨_, List.getElem?_eq_getElem hjl⟩
                      obtain ⟨gb, goff, ga, gc, rfl, g0, hes⟩ := HG.out.at keep_opsC hl HQ.out.bo
                      have HLl := Lib.hid hl
                      have HEs := Lib.hid hes
                      have HO0 := Lib.hid (own_none wm wm.heap.size (Nat.le_refl _))
                      have HW0 := Lib.hid (HQ.out.ws.keep (below_new wm (.cells #[] 9)))
                      clear hl hes
                      go_wp2_with (at_builtin; refine wpList_append_strs _ rfl _ _ rfl wm.heap.size _ _ _ rfl HO0.out _ [tblS, digS i] rfl HW0.out (by simp) (by rw [World.size_alloc]; omega) ?_)
                      intro v5 w5 hown5 hgrow5
                      replace hown5 : w5.ownsRow wm.heap.size 9 1 v5 2 (WordsOf [tblS, digS i]) := by simpa using hown5
                      have HB5 := Lib.hid ((below_new wm (.cells #[] 9)).grown hgrow5 (by rw [World.size_alloc]; omega) (fun k e => (HO0.out.lt k e).1))
                      obtain ⟨a5, c5, rfl⟩ := row_form hown5
                      have HO5 := Lib.hid hown5
                      clear hown5 hgrow5 HO0 HW0 g0
                      go_wp2_with fail
                      refine (HD.out j (by omega) _).mono ?_
                      rintro e w6 ⟨rfl, b6⟩
                      have hown6 := HO5.out.kept (grown_of_below b6) (by cases Value.ownBlock _ <;> simp)
                      have hb7 := (HB5.out.trans (b6.mono HB5.out.size)).trans ((below_new w6 (.cells #[.string (digS j)] 9)).mono (Nat.le_trans HB5.out.size b6.size))
                      have HN7 : Hid ((w6.alloc (.cells #[.string (digS j)] 9)).heap[w6.heap.size]? = some (.cells #[.string (digS j)] 9 (0, 0))) := Lib.hid (heap_alloc_new w6 _)
                      have HO6 := Lib.hid (hown6.alloc (.cells #[.string (digS j)] 9))
                      have HB7 := Lib.hid hb7
                      clear hown6 hb7 b6 HO5
                      go_wp2_with (at_builtin; refine wpList_append_own _ rfl _ _ 22 rfl wm.heap.size 9 i0 (.string ByteArray.empty) 1 16 Tryz.underlying22 hinf hz0 hz1 hz2 rfl (by decide) _ _ _ rfl HO6.out ⟨w6.heap.size, 0, none⟩ 1 1 [.string (digS j)] rfl rfl ?_ (fun u hu => by simp at hu; subst hu; rfl) ?_ ?_ ?_ ?_)
                      · intro j' u hu
                        rw [add_spot, Lib.cell_of_heap HN7.out, List.getElem?_toArray]
                        exact hu
                      · unfold maxLen; omega
                      · omega
                      · (try simp only [World.size_alloc]); have := HB7.out.size; simp only [World.size_alloc] at this; omega
                      intro vi w8 hown8 hgrow8 _
                      have hb8 := HB7.out.grown hgrow8 (by have := HB7.out.size; exact this) (fun k e => (HO6.out.lt k e).1)
                      have hs8 : StrsAt w8 vi [tblS, digS i, digS j] := strs_more hown8 rfl
                      obtain ⟨xa, xc, hv8⟩ := hs8.form
                      replace hv8 : vi = .slice xa 3 xc := hv8
                      subst hv8
                      have HQ8 := Lib.hid (HQ.out.step hb8)
                      have HS8 := Lib.hid hs8
                      have HB8 := Lib.hid hb8
                      clear hown8 hgrow8 hb8 hs8 HO6 HB7 HN7 HB5
                      by_cases hl0 : l.length = 0
                      · obtain rfl : l = [] := List.eq_nil_of_length_eq_zero hl0
                        have HE := Lib.hid (fst_tbl HT.out HFo.out HX.out (c := 14) (a := 0) (l := [digS j]) (HRw.out.trans (fst_grp HGz.out HFj.out HLl.out (grp_len0 lenE_0 (by decide)) (by decide))) (by decide))
                        go_wp2_with fail
                        go_ret3
                        rw [HE.out]
                        exact ⟨_, rfl, HS8.out, HQ8.out.s.below⟩
                      · have hl0' : ((l.length : Int) == 0) = false := by rw [beq_eq_false_iff_ne]; omega
                        by_cases hl8 : 8 < l.length
                        · have hl8' : (8 : Int) < l.length := by omega
                          have HE := Lib.hid (fst_tbl HT.out HFo.out HX.out (c := 6) (a := 0) (l := [digS j]) (HRw.out.trans (fst_grp HGz.out HFj.out HLl.out (grp_len0 (lenE_8 hl8) (by decide)) (by decide))) (by decide))
                          go_wp2_with fail
                          go_ret3
                          rw [HE.out]
                          exact ⟨_, rfl, HS8.out, HQ8.out.s.below⟩
                        · have hl8' : ¬ (8 : Int) < l.length := by omega
                          have HEz := Lib.hid (lenE_ok hl0 (by omega : l.length ≤ 8))
                          go_wp2_with fail
                          go_loopg [124] l.length (fun g u W => RiL w (.slice ra rs.length rcap) (.slice la ls.length lcap) wr wr.heap.size (ii : Int) top (.slice (some ⟨gb, goff, none⟩) gs.length oc) (.slice (some ⟨bw, 0, none⟩) 2 2) [tblS, digS i] wm (.slice xa 3 xc) [tblS, digS i, digS j] (chkEs ls ks (ii : Int) top l) l.length g u W)
                          case atStart => exact ⟨0, Nat.zero_le _, by omega, rfl, rfl, HQ8.out, HS8.out, HB8.out⟩
                          case round =>
                            clear HQ8 HS8 HB8
                            rename World => wk
                            obtain ⟨k, hk, hgk, rfl, hFk, hq, hs, hb⟩ := hrel
                            have HFk := Lib.hid hFk
                            by_cases hkl : k < l.length
                            · obtain ⟨p, hp⟩ : ∃ p, l[k]? = some p := ⟨_, List.getElem?_eq_getElem hkl⟩
                              obtain ⟨eb, eoff, oa2, on2, oc2, rfl, d0, d1, hoc⟩ := HEs.out.at keep_opsC hp hb
                              have HPl := Lib.hid (HL.out j l k p HLl.out hp)
                              have HP := Lib.hid hp
                              obtain ⟨out, c⟩ := p
                              replace d0 : wk.cell? _ = some (.int .i64 out) := d0
                              replace hoc : OpsC wk (.slice oa2 on2 oc2) c := hoc
                              have hbe := below_new wk (.cells #[.int .i64 out, .slice oa2 on2 oc2] 71)
                              have HE0 : Hid ((wk.alloc (.cells #[.int .i64 out, .slice oa2 on2 oc2] 71)).heap[wk.heap.size]? = some (.cells #[.int .i64 out, .slice oa2 on2 oc2] 71 (0, 0))) := Lib.hid (heap_alloc_new wk _)
                              have HOC := Lib.hid (fun W (h : Below wk.heap.size wk W) => OpsC.step hoc h)
                              have HQk := Lib.hid hq
                              have HSk := Lib.hid hs
                              have HBk := Lib.hid hb
                              have hO0 := own_none (wk.alloc (.cells #[.int .i64 out, .slice oa2 on2 oc2] 71)) wk.heap.size (by rw [World.size_alloc]; omega)
                              rw [World.size_alloc] at hO0
                              have HO0 := Lib.hid hO0
                              clear hO0
                              have hbe2 := hbe.trans ((below_new (wk.alloc (.cells #[.int .i64 out, .slice oa2 on2 oc2] 71)) (.cells #[] 9)).mono hbe.size)
                              have HW0 := Lib.hid (hs.keep hbe2)
                              have HBE := Lib.hid hbe2
                              clear hp hq hs hb hFk hoc hbe hbe2
                              go_wp2_with (at_builtin; refine wpList_append_strs _ rfl _ _ rfl wk.heap.size _ _ _ rfl HO0.out _ [tblS, digS i, digS j] rfl HW0.out (by simp) (by have := HBE.out.size; omega) ?_)
                              intro v5 w5 hown5 hgrow5
                              replace hown5 : w5.ownsRow wk.heap.size 9 1 v5 3 (WordsOf [tblS, digS i, digS j]) := by simpa using hown5
                              have HB5 := Lib.hid (HBE.out.grown hgrow5 HBE.out.size (fun k e => (HO0.out.lt k e).1))
                              have HE5 := Lib.hid ((hgrow5.block wk.heap.size (by have := hlt HE0.out; rw [World.size_alloc]; omega) (fun e => by have := (HO0.out.lt _ e.symm).2; injection e with e; simp at e)).trans ((below_new (wk.alloc (.cells #[.int .i64 out, .slice oa2 on2 oc2] 71)) (.cells #[] 9)).block _ (hlt HE0.out) |>.trans HE0.out))
                              obtain ⟨a5, c5, rfl⟩ := row_form hown5
                              have HO5 := Lib.hid hown5
                              clear hown5 hgrow5 HO0 HW0 HE0 HBE d0 d1
                              go_wp2_with fail
                              refine (HD.out k (by omega) _).mono ?_
                              rintro e w6 ⟨rfl, b6⟩
                              have HE6 := Lib.hid ((b6.block _ (hlt HE5.out)).trans HE5.out)
                              have hown6 := HO5.out.kept (grown_of_below b6) (by cases Value.ownBlock _ <;> simp)
                              have hb7 := (HB5.out.trans (b6.mono HB5.out.size)).trans ((below_new w6 (.cells #[.string (digS k)] 9)).mono (Nat.le_trans HB5.out.size b6.size))
                              have HN7 : Hid ((w6.alloc (.cells #[.string (digS k)] 9)).heap[w6.heap.size]? = some (.cells #[.string (digS k)] 9 (0, 0))) := Lib.hid (heap_alloc_new w6 _)
                              have HO6 := Lib.hid (hown6.alloc (.cells #[.string (digS k)] 9))
                              have HB7 := Lib.hid hb7
                              clear hown6 hb7 b6 HO5
                              go_wp2_with (at_builtin; refine wpList_append_own _ rfl _ _ 22 rfl wk.heap.size 9 i0 (.string ByteArray.empty) 1 16 Tryz.underlying22 hinf hz0 hz1 hz2 rfl (by decide) _ _ _ rfl HO6.out ⟨w6.heap.size, 0, none⟩ 1 1 [.string (digS k)] rfl rfl ?_ (fun u hu => by simp at hu; subst hu; rfl) ?_ ?_ ?_ ?_)
                              · intro j' u hu
                                rw [add_spot, Lib.cell_of_heap HN7.out, List.getElem?_toArray]
                                exact hu
                              · unfold maxLen; omega
                              · omega
                              · have := HB7.out.size; omega
                              intro v8 w8 hown8 hgrow8 _
                              have hb8 := HB7.out.grown hgrow8 HB7.out.size (fun k e => (HO6.out.lt k e).1)
                              have hs8 : StrsAt w8 v8 [tblS, digS i, digS j, digS k] := strs_more hown8 rfl
                              have hE8 := (hgrow8.block wk.heap.size (by have := hlt HE6.out; rw [World.size_alloc]; omega) (fun e => by have := (HO6.out.own_ne (by exact ((below_new w6 (.cells #[.string (digS k)] 9)).block _ (hlt HE6.out)).trans HE6.out) (by decide)) e.symm; exact this)).trans (((below_new w6 (.cells #[.string (digS k)] 9)).block _ (hlt HE6.out)).trans HE6.out)
                              obtain ⟨xb, xd, hv8⟩ := hs8.form
                              subst hv8
                              have HQ8 := Lib.hid (HQk.out.step hb8)
                              have HS8 := Lib.hid (HSk.out.keep hb8)
                              have HT8 := Lib.hid hs8
                              have HB8 := Lib.hid (HBk.out.trans (hb8.mono HBk.out.size))
                              have HOC8 := Lib.hid (HOC.out _ hb8)
                              have HEb := Lib.hid hE8
                              clear hown8 hgrow8 hb8 hs8 HO6 HB7 HN7 HB5 HE5 HE6 hE8 HOC
                              obtain ⟨k0, k1, k2⟩ := hcells3 HQ8.out.q
                              obtain ⟨t0, t1, -⟩ := hcell HQ8.out.s.t
                              obtain ⟨e0, e1, -⟩ := hcell HEb.out
                              by_cases ho : InN ls.length out
                              · obtain ⟨o, rfl, hol⟩ := nat_of_in ho
                                obtain ⟨lo, hlo⟩ : ∃ x, ls[o]? = some x := ⟨_, List.getElem?_eq_getElem hol⟩
                                have HLo := Lib.hid hlo
                                have f1' : decide ((o : Int) < 0) = false := decide_eq_false (by omega)
                                have f2' : decide ((ls.length : Int) ≤ (o : Int)) = false := decide_eq_false (by omega)
                                obtain ⟨tb, toff, rfl, -, p1, -, -⟩ := (HTp.out.ls).at HLo.out HQ8.out.s.below
                                obtain ⟨tb', toff', te, -, -, p2, -⟩ := (HTp.out.ls).at HLi.out HQ8.out.s.below
                                injection te with te
                                injection te with te1 te2
                                subst te1 te2
                                by_cases hf : lo.fr = li.to
                                · have HEn := Lib.hid (fltE_ops (ks := ks) (top := top) (e := ((o : Int), c)) ho (by rw [frA_at hlo, toA_at HLi.out, hf]))
                                  have hb1 : (lo.fr != li.to) = false := by simpa using hf
                                  clear hlo ho
                                  go_wp2_with fail
                                  go_quiet (fail)
                                  have HQ9' := HQ8.out.step (below_drewN w8 nq)
                                  have HS9' := HS8.out.keep (below_drewN w8 nq)
                                  have HT9' := HT8.out.keep (below_drewN w8 nq)
                                  have HB9' := HB8.out.trans ((below_drewN w8 nq).mono HB8.out.size)
                                  have HC9' := Lib.hid (HOC8.out.step (below_drewN w8 nq))
                                  have HEb' := ((below_drewN w8 nq).block _ (hlt HEb.out)).trans HEb.out
                                  have HR9 := Lib.hid (And.intro HQ9' (And.intro HS9' (And.intro HT9' HB9')))
                                  clear k0 k1 k2 t0 t1 e0 e1 p1 p2
                                  obtain ⟨k0, k1, k2⟩ := hcells3 HQ9'.q
                                  obtain ⟨e0, e1, -⟩ := hcell HEb'
                                  clear HQ9' HS9' HT9' HB9' HEb' HQ8 HS8 HT8 HB8 HOC8 HEb
                                  go_wp2_with fail
                                  refine (HRC.out _ _ _ (HKs.out.step HR9.out.1.s.below) HC9'.out HPl.out).mono ?_
                                  rintro e w9 ⟨rfl, b9⟩
                                  have HQ9 := Lib.hid (HR9.out.1.step b9)
                                  have HS9 := Lib.hid (HR9.out.2.1.keep b9)
                                  have HT9 := Lib.hid (HR9.out.2.2.1.keep b9)
                                  have HB9 := Lib.hid (HR9.out.2.2.2.trans (b9.mono HR9.out.2.2.2.size))
                                  clear b9 HR9 k0 k1 k2 e0 e1 HC9'
                                  rw [← chkE_same]
                                  obtain ⟨ca, hca⟩ : ∃ ca, chkE ks top c = ca := ⟨_, rfl⟩
                                  obtain ⟨cc, caa⟩ := ca
                                  rw [hca]
                                  have HCa := Lib.hid hca
                                  clear hca
                                  by_cases hcz : cc = 0
                                  · subst hcz
                                    have HN : Hid (RiL w _ _ wr wr.heap.size (ii : Int) top (.slice (some ⟨gb, goff, none⟩) gs.length oc) (.slice (some ⟨bw, 0, none⟩) 2 2) [tblS, digS i] wm (.slice xa 3 xc) [tblS, digS i, digS j] (chkEs ls ks (ii : Int) top l) l.length (l.length - (k + 1)) (.int .i64 ((k : Int) + 1)) w9) :=
                                      Lib.hid ⟨k + 1, by omega, rfl, by go_num, by
                                        rw [HFk.out]
                                        refine firstF_go hkl ?_
                                        unfold chkEs
                                        rw [HP.out]
                                        show (chkEn ls ks (ii : Int) top ((o : Int), c)).1 = 0
                                        rw [HEn.out, HCa.out], HQ9.out, HS9.out, HB9.out⟩
                                    go_wp2_with fail
                                    go_roundg (l.length - (k + 1))
                                    case measure => omega
                                    case rel => exact HN.out
                                  · have hcz' : (cc != 0) = true := by simpa using hcz
                                    have HE := Lib.hid (fst_tbl HT.out HFo.out HX.out (c := cc) (a := caa) (l := [digS j, digS k]) (HRw.out.trans (fst_grp HGz.out HFj.out HLl.out (fst_ent HEz.out HFk.out HP.out (HEn.out.trans (by rw [HCa.out])) hcz) hcz)) hcz)
                                    go_wp2_with fail
                                    go_ret3
                                    rw [HE.out]
                                    exact ⟨_, rfl, HT9.out, HQ9.out.s.below⟩
                                · have HEn := Lib.hid (fltE_place (ks := ks) (top := top) (e := ((o : Int), c)) ho (by rw [frA_at hlo, toA_at HLi.out]; exact hf))
                                  have hb1 : (lo.fr != li.to) = true := by simpa using hf
                                  have HE := Lib.hid (fst_tbl HT.out HFo.out HX.out (c := 15) (a := 0) (l := [digS j, digS k]) (HRw.out.trans (fst_grp HGz.out HFj.out HLl.out (fst_ent HEz.out HFk.out HP.out HEn.out (by decide)) (by decide))) (by decide))
                                  clear hlo ho
                                  go_wp2_with fail
                                  go_quiet (fail)
                                  go_wp2_with fail
                                  go_ret3
                                  rw [HE.out]
                                  exact ⟨_, rfl, HT8.out.keep (below_drewN _ _), HQ8.out.s.below.trans ((below_drewN _ _).mono HQ8.out.s.below.size)⟩
                              · have HEn := Lib.hid (fltE_out (ks := ks) (inn := (ii : Int)) (top := top) (e := (out, c)) ho)
                                have HE := Lib.hid (fst_tbl HT.out HFo.out HX.out (c := 11) (a := 0) (l := [digS j, digS k]) (HRw.out.trans (fst_grp HGz.out HFj.out HLl.out (fst_ent HEz.out HFk.out HP.out HEn.out (by decide)) (by decide))) (by decide))
                                by_cases f1 : out < 0
                                · clear ho
                                  go_wp2_with fail
                                  go_ret3
                                  rw [HE.out]
                                  exact ⟨_, rfl, HT8.out, HQ8.out.s.below⟩
                                · have f1' : decide (out < 0) = false := decide_eq_false f1
                                  have f2 : (ls.length : Int) ≤ out := by unfold InN at ho; omega
                                  clear ho
                                  go_wp2_with fail
                                  go_ret3
                                  rw [HE.out]
                                  exact ⟨_, rfl, HT8.out, HQ8.out.s.below⟩
                            · obtain rfl : k = l.length := by omega
                              have HN : Hid (RmL w (.slice ra rs.length rcap) (.slice la ls.length lcap) wr wr.heap.size (ii : Int) top (.slice (some ⟨gb, goff, none⟩) gs.length oc) (.slice (some ⟨bw, 0, none⟩) 2 2) [tblS, digS i] (chkGi ls ks (ii : Int) top gs) gs.length (gs.length - (j + 1)) (.int .i64 ((j : Int) + 1)) wk) := Lib.hid ⟨j + 1, by omega, rfl, by go_num, by
                                rw [HFj.out]
                                refine firstF_go hjl ?_
                                unfold chkGi
                                rw [HLl.out]
                                show (chkGr ls ks (ii : Int) top l).1 = 0
                                unfold chkGr
                                rw [if_neg (fun h => h HEz.out), HFk.out, firstF_end], hq⟩
                              clear hq hs hb hFk
                              go_wp2_with fail
                              go_roundg (gs.length - (j + 1))
                              case measure => omega
                              case rel => exact HN.out
                    · obtain rfl : j = gs.length := by omega
                      have HN : Hid (RoL w (.slice ra rs.length rcap) (.slice la ls.length lcap) (chkRs ls ks rows) rows.length (rows.length - (i + 1)) (.int .i64 ((i : Int) + 1)) wm) := Lib.hid ⟨i + 1, by omega, rfl, by go_num, by
                        rw [HFo.out]
                        refine firstF_go hlt' ?_
                        unfold chkRs
                        rw [HX.out]
                        show (chkRw ls ks (ordB rows i) ⟨(ii : Int), top, gs⟩).1 = 0
                        rw [HRw.out]
                        unfold chkGs
                        rw [if_neg (fun h => h HGz.out), HFj.out, firstF_end], HQ.out.s⟩
                      clear HQ
                      go_wp2_with fail
                      go_roundg (rows.length - (i + 1))
                      case measure => omega
                      case rel => exact HN.out
            · obtain ⟨p, hx'⟩ : ∃ p, rows[i - 1]? = some p := ⟨_, List.getElem?_eq_getElem (by omega)⟩
              have hi1 : (i : Int) - 1 = ((i - 1 : Nat) : Int) := by omega
              have hi0 : (0 : Int) < (i : Int) := by omega
              have hi0n : 0 < i := by omega
              have hi2 : ((i - 1 : Nat) : Int) < rows.length := by omega
              obtain ⟨b', off', oa', oc', eb, q0, q1, -, -⟩ := HV.out.at keep_opsC hx' HST.out.below
              injection eb with eb
              injection eb with eb1 eb2
              subst eb1 eb2
              have hord : ordB rows i = decide (0 < abvI (ii : Int) top p.inn p.top) := by
                unfold ordB
                rw [if_neg h0, HX.out, hx']
              obtain ⟨pin, ptop, pgs⟩ := p
              replace q0 : wr.cell? _ = some (.int .i64 pin) := q0
              replace q1 : wr.cell? _ = some (.int .i64 ptop) := q1
              replace hord : ordB rows i = decide (0 < abvI (ii : Int) top pin ptop) := hord
              have HQq := Lib.hid (fun W (h : Below wr.heap.size wr W) => And.intro (cell_step q0 h) (cell_step q1 h))
              clear q0 q1 hx'
              by_cases hab : 0 < abvI (ii : Int) top pin ptop
              · have HRw : Hid (chkRw ls ks (ordB rows i) ⟨(ii : Int), top, gs⟩ = chkGs ls ks (ii : Int) top gs) := Lib.hid (by unfold chkRw; rw [if_neg (fun h => h hin), if_neg hkz, if_neg (by rw [hord, decide_eq_true hab]; decide)])
                rw [abv_iff] at hab
                rcases hab with hab | ⟨hab, hab2⟩
                · have o1 : decide ((ii : Int) < pin) = false := decide_eq_false (by omega)
                  have o2 : ((ii : Int) == pin) = false := by rw [beq_eq_false_iff_ne]; omega
                  clear hli hin hkz hkd h0 hord hab
                  go_wp2_with fail
                  refine (HD.out i (by omega) _).mono ?_
                  rintro e w2 ⟨rfl, b2⟩
                  have bn3 := below_new w2 (.cells #[.string ⟨#[116, 97, 98, 108, 101]⟩, .string (digS i)] 9)
                  have HBw : Hid (Below wr.heap.size wr (w2.alloc (.cells #[.string ⟨#[116, 97, 98, 108, 101]⟩, .string (digS i)] 9))) := Lib.hid ((HB1.out.trans (b2.mono HB1.out.size)).trans (bn3.mono (Nat.le_trans HB1.out.size b2.size)))
                  have HQ : Hid (RqS w (.slice ra rs.length rcap) (.slice la ls.length lcap) wr wr.heap.size _ top (.slice oa gs.length oc) (.slice (some ⟨w2.heap.size, 0, none⟩) 2 2) [tblS, digS i] (w2.alloc (.cells #[.string ⟨#[116, 97, 98, 108, 101]⟩, .string (digS i)] 9))) :=
                    Lib.hid ⟨(HS1.out.step b2).step bn3, (bn3.block _ (Nat.lt_of_lt_of_le (hlt HQ1.out) b2.size)).trans ((b2.block _ (hlt HQ1.out)).trans HQ1.out), strs2 w2 tblS (digS i), HBw.out⟩
                  clear b2 bn3 HS1 HQ1 HB1
                  obtain ⟨k0, k1, k2⟩ := hcells3 HQ.out.q
                  obtain ⟨t0, t1, -⟩ := hcell HQ.out.s.t
                  go_wp2_with fail
                  refine (HKd.out _ (HKs.out.step HQ.out.s.below)).mono ?_
                  rintro e w4 ⟨rfl, rfl⟩
                  obtain ⟨q0, q1⟩ := HQq.out _ HBw.out
                  go_wp2_with fail
                  go_quiet (fail)
                  have HQ3 := Lib.hid (HQ.out.step (below_drewN _ nq))
                  clear HQ k0 k1 k2 t0 t1 HBw q0 q1
                  obtain ⟨k0, k1, k2⟩ := hcells3 HQ3.out.q
                  obtain ⟨t0, t1, -⟩ := hcell HQ3.out.s.t
                  by_cases hg0 : gs.length = 0
                  · obtain rfl : gs = [] := List.eq_nil_of_length_eq_zero hg0
                    have HE := Lib.hid (fst_tbl HT.out HFo.out HX.out (c := 14) (a := 0) (l := []) (HRw.out.trans (gs_len0 lenE_0 (by decide))) (by decide))
                    go_wp2_with fail
                    go_ret3
                    rw [HE.out]
                    exact ⟨_, rfl, HQ3.out.ws, HQ3.out.s.below⟩
                  · have hg0' : ((gs.length : Int) == 0) = false := by rw [beq_eq_false_iff_ne]; omega
                    by_cases hg8 : 8 < gs.length
                    · have hg8' : (8 : Int) < gs.length := by omega
                      have HE := Lib.hid (fst_tbl HT.out HFo.out HX.out (c := 6) (a := 0) (l := []) (HRw.out.trans (gs_len0 (lenE_8 hg8) (by decide))) (by decide))
                      go_wp2_with fail
                      go_ret3
                      rw [HE.out]
                      exact ⟨_, rfl, HQ3.out.ws, HQ3.out.s.below⟩
                    · have hg8' : ¬ (8 : Int) < gs.length := by omega
                      have HGz := Lib.hid (lenE_ok hg0 (by omega : gs.length ≤ 8))
                      obtain ⟨bw, hbw⟩ : ∃ bw, w2.heap.size = bw := ⟨_, rfl⟩
                      rw [hbw] at HQ3
                      go_wp2_with fail
                      try rw [hbw]
                      clear k0 k1 k2 t0 t1 hbw
                      go_loopg [101] gs.length (fun g u W => RmL w (.slice ra rs.length rcap) (.slice la ls.length lcap) wr wr.heap.size (ii : Int) top (.slice oa gs.length oc) (.slice (some ⟨bw, 0, none⟩) 2 2) [tblS, digS i] (chkGi ls ks (ii : Int) top gs) gs.length g u W)
                      case atStart => exact ⟨0, Nat.zero_le _, by omega, rfl, rfl, HQ3.out⟩
                      case round =>
                        clear HQ3
                        rename World => wm
                        obtain ⟨j, hj, hgj, rfl, hFj, hq⟩ := hrel
                        have HFj := Lib.hid hFj
                        have HQ := Lib.hid hq
                        clear hFj hq
                        by_cases hjl : j < gs.length
                        · obtain ⟨l, hl⟩ : ∃ l, gs[j]? = some l := ⟨_, List.getElem?_eq_getElem hjl⟩
                          obtain ⟨gb, goff, ga, gc, rfl, g0, hes⟩ := HG.out.at keep_opsC hl HQ.out.bo
                          have HLl := Lib.hid hl
                          have HEs := Lib.hid hes
                          have HO0 := Lib.hid (own_none wm wm.heap.size (Nat.le_refl _))
                          have HW0 := Lib.hid (HQ.out.ws.keep (below_new wm (.cells #[] 9)))
                          clear hl hes
                          go_wp2_with (at_builtin; refine wpList_append_strs _ rfl _ _ rfl wm.heap.size _ _ _ rfl HO0.out _ [tblS, digS i] rfl HW0.out (by simp) (by rw [World.size_alloc]; omega) ?_)
                          intro v5 w5 hown5 hgrow5
                          replace hown5 : w5.ownsRow wm.heap.size 9 1 v5 2 (WordsOf [tblS, digS i]) := by simpa using hown5
                          have HB5 := Lib.hid ((below_new wm (.cells #[] 9)).grown hgrow5 (by rw [World.size_alloc]; omega) (fun k e => (HO0.out.lt k e).1))
                          obtain ⟨a5, c5, rfl⟩ := row_form hown5
                          have HO5 := Lib.hid hown5
                          clear hown5 hgrow5 HO0 HW0 g0
                          go_wp2_with fail
                          refine (HD.out j (by omega) _).mono ?_
                          rintro e w6 ⟨rfl, b6⟩
                          have hown6 := HO5.out.kept (grown_of_below b6) (by cases Value.ownBlock _ <;> simp)
                          have hb7 := (HB5.out.trans (b6.mono HB5.out.size)).trans ((below_new w6 (.cells #[.string (digS j)] 9)).mono (Nat.le_trans HB5.out.size b6.size))
                          have HN7 : Hid ((w6.alloc (.cells #[.string (digS j)] 9)).heap[w6.heap.size]? = some (.cells #[.string (digS j)] 9 (0, 0))) := Lib.hid (heap_alloc_new w6 _)
                          have HO6 := Lib.hid (hown6.alloc (.cells #[.string (digS j)] 9))
                          have HB7 := Lib.hid hb7
                          clear hown6 hb7 b6 HO5
                          go_wp2_with (at_builtin; refine wpList_append_own _ rfl _ _ 22 rfl wm.heap.size 9 i0 (.string ByteArray.empty) 1 16 Tryz.underlying22 hinf hz0 hz1 hz2 rfl (by decide) _ _ _ rfl HO6.out ⟨w6.heap.size, 0, none⟩ 1 1 [.string (digS j)] rfl rfl ?_ (fun u hu => by simp at hu; subst hu; rfl) ?_ ?_ ?_ ?_)
                          · intro j' u hu
                            rw [add_spot, Lib.cell_of_heap HN7.out, List.getElem?_toArray]
                            exact hu
                          · unfold maxLen; omega
                          · omega
                          · (try simp only [World.size_alloc]); have := HB7.out.size; simp only [World.size_alloc] at this; omega
                          intro vi w8 hown8 hgrow8 _
                          have hb8 := HB7.out.grown hgrow8 (by have := HB7.out.size; exact this) (fun k e => (HO6.out.lt k e).1)
                          have hs8 : StrsAt w8 vi [tblS, digS i, digS j] := strs_more hown8 rfl
                          obtain ⟨xa, xc, hv8⟩ := hs8.form
                          replace hv8 : vi = .slice xa 3 xc := hv8
                          subst hv8
                          have HQ8 := Lib.hid (HQ.out.step hb8)
                          have HS8 := Lib.hid hs8
                          have HB8 := Lib.hid hb8
                          clear hown8 hgrow8 hb8 hs8 HO6 HB7 HN7 HB5
                          by_cases hl0 : l.length = 0
                          · obtain rfl : l = [] := List.eq_nil_of_length_eq_zero hl0
                            have HE := Lib.hid (fst_tbl HT.out HFo.out HX.out (c := 14) (a := 0) (l := [digS j]) (HRw.out.trans (fst_grp HGz.out HFj.out HLl.out (grp_len0 lenE_0 (by decide)) (by decide))) (by decide))
                            go_wp2_with fail
                            go_ret3
                            rw [HE.out]
                            exact ⟨_, rfl, HS8.out, HQ8.out.s.below⟩
                          · have hl0' : ((l.length : Int) == 0) = false := by rw [beq_eq_false_iff_ne]; omega
                            by_cases hl8 : 8 < l.length
                            · have hl8' : (8 : Int) < l.length := by omega
                              have HE := Lib.hid (fst_tbl HT.out HFo.out HX.out (c := 6) (a := 0) (l := [digS j]) (HRw.out.trans (fst_grp HGz.out HFj.out HLl.out (grp_len0 (lenE_8 hl8) (by decide)) (by decide))) (by decide))
                              go_wp2_with fail
                              go_ret3
                              rw [HE.out]
                              exact ⟨_, rfl, HS8.out, HQ8.out.s.below⟩
                            · have hl8' : ¬ (8 : Int) < l.length := by omega
                              have HEz := Lib.hid (lenE_ok hl0 (by omega : l.length ≤ 8))
                              go_wp2_with fail
                              go_loopg [124] l.length (fun g u W => RiL w (.slice ra rs.length rcap) (.slice la ls.length lcap) wr wr.heap.size (ii : Int) top (.slice (some ⟨gb, goff, none⟩) gs.length oc) (.slice (some ⟨bw, 0, none⟩) 2 2) [tblS, digS i] wm (.slice xa 3 xc) [tblS, digS i, digS j] (chkEs ls ks (ii : Int) top l) l.length g u W)
                              case atStart => exact ⟨0, Nat.zero_le _, by omega, rfl, rfl, HQ8.out, HS8.out, HB8.out⟩
                              case round =>
                                clear HQ8 HS8 HB8
                                rename World => wk
                                obtain ⟨k, hk, hgk, rfl, hFk, hq, hs, hb⟩ := hrel
                                have HFk := Lib.hid hFk
                                by_cases hkl : k < l.length
                                · obtain ⟨p, hp⟩ : ∃ p, l[k]? = some p := ⟨_, List.getElem?_eq_getElem hkl⟩
                                  obtain ⟨eb, eoff, oa2, on2, oc2, rfl, d0, d1, hoc⟩ := HEs.out.at keep_opsC hp hb
                                  have HPl := Lib.hid (HL.out j l k p HLl.out hp)
                                  have HP := Lib.hid hp
                                  obtain ⟨out, c⟩ := p
                                  replace d0 : wk.cell? _ = some (.int .i64 out) := d0
                                  replace hoc : OpsC wk (.slice oa2 on2 oc2) c := hoc
                                  have hbe := below_new wk (.cells #[.int .i64 out, .slice oa2 on2 oc2] 71)
                                  have HE0 : Hid ((wk.alloc (.cells #[.int .i64 out, .slice oa2 on2 oc2] 71)).heap[wk.heap.size]? = some (.cells #[.int .i64 out, .slice oa2 on2 oc2] 71 (0, 0))) := Lib.hid (heap_alloc_new wk _)
                                  have HOC := Lib.hid (fun W (h : Below wk.heap.size wk W) => OpsC.step hoc h)
                                  have HQk := Lib.hid hq
                                  have HSk := Lib.hid hs
                                  have HBk := Lib.hid hb
                                  have hO0 := own_none (wk.alloc (.cells #[.int .i64 out, .slice oa2 on2 oc2] 71)) wk.heap.size (by rw [World.size_alloc]; omega)
                                  rw [World.size_alloc] at hO0
                                  have HO0 := Lib.hid hO0
                                  clear hO0
                                  have hbe2 := hbe.trans ((below_new (wk.alloc (.cells #[.int .i64 out, .slice oa2 on2 oc2] 71)) (.cells #[] 9)).mono hbe.size)
                                  have HW0 := Lib.hid (hs.keep hbe2)
                                  have HBE := Lib.hid hbe2
                                  clear hp hq hs hb hFk hoc hbe hbe2
                                  go_wp2_with (at_builtin; refine wpList_append_strs _ rfl _ _ rfl wk.heap.size _ _ _ rfl HO0.out _ [tblS, digS i, digS j] rfl HW0.out (by simp) (by have := HBE.out.size; omega) ?_)
                                  intro v5 w5 hown5 hgrow5
                                  replace hown5 : w5.ownsRow wk.heap.size 9 1 v5 3 (WordsOf [tblS, digS i, digS j]) := by simpa using hown5
                                  have HB5 := Lib.hid (HBE.out.grown hgrow5 HBE.out.size (fun k e => (HO0.out.lt k e).1))
                                  have HE5 := Lib.hid ((hgrow5.block wk.heap.size (by have := hlt HE0.out; rw [World.size_alloc]; omega) (fun e => by have := (HO0.out.lt _ e.symm).2; injection e with e; simp at e)).trans ((below_new (wk.alloc (.cells #[.int .i64 out, .slice oa2 on2 oc2] 71)) (.cells #[] 9)).block _ (hlt HE0.out) |>.trans HE0.out))
                                  obtain ⟨a5, c5, rfl⟩ := row_form hown5
                                  have HO5 := Lib.hid hown5
                                  clear hown5 hgrow5 HO0 HW0 HE0 HBE d0 d1
                                  go_wp2_with fail
                                  refine (HD.out k (by omega) _).mono ?_
                                  rintro e w6 ⟨rfl, b6⟩
                                  have HE6 := Lib.hid ((b6.block _ (hlt HE5.out)).trans HE5.out)
                                  have hown6 := HO5.out.kept (grown_of_below b6) (by cases Value.ownBlock _ <;> simp)
                                  have hb7 := (HB5.out.trans (b6.mono HB5.out.size)).trans ((below_new w6 (.cells #[.string (digS k)] 9)).mono (Nat.le_trans HB5.out.size b6.size))
                                  have HN7 : Hid ((w6.alloc (.cells #[.string (digS k)] 9)).heap[w6.heap.size]? = some (.cells #[.string (digS k)] 9 (0, 0))) := Lib.hid (heap_alloc_new w6 _)
                                  have HO6 := Lib.hid (hown6.alloc (.cells #[.string (digS k)] 9))
                                  have HB7 := Lib.hid hb7
                                  clear hown6 hb7 b6 HO5
                                  go_wp2_with (at_builtin; refine wpList_append_own _ rfl _ _ 22 rfl wk.heap.size 9 i0 (.string ByteArray.empty) 1 16 Tryz.underlying22 hinf hz0 hz1 hz2 rfl (by decide) _ _ _ rfl HO6.out ⟨w6.heap.size, 0, none⟩ 1 1 [.string (digS k)] rfl rfl ?_ (fun u hu => by simp at hu; subst hu; rfl) ?_ ?_ ?_ ?_)
                                  · intro j' u hu
                                    rw [add_spot, Lib.cell_of_heap HN7.out, List.getElem?_toArray]
                                    exact hu
                                  · unfold maxLen; omega
                                  · omega
                                  · have := HB7.out.size; omega
                                  intro v8 w8 hown8 hgrow8 _
                                  have hb8 := HB7.out.grown hgrow8 HB7.out.size (fun k e => (HO6.out.lt k e).1)
                                  have hs8 : StrsAt w8 v8 [tblS, digS i, digS j, digS k] := strs_more hown8 rfl
                                  have hE8 := (hgrow8.block wk.heap.size (by have := hlt HE6.out; rw [World.size_alloc]; omega) (fun e => by have := (HO6.out.own_ne (by exact ((below_new w6 (.cells #[.string (digS k)] 9)).block _ (hlt HE6.out)).trans HE6.out) (by decide)) e.symm; exact this)).trans (((below_new w6 (.cells #[.string (digS k)] 9)).block _ (hlt HE6.out)).trans HE6.out)
                                  obtain ⟨xb, xd, hv8⟩ := hs8.form
                                  subst hv8
                                  have HQ8 := Lib.hid (HQk.out.step hb8)
                                  have HS8 := Lib.hid (HSk.out.keep hb8)
                                  have HT8 := Lib.hid hs8
                                  have HB8 := Lib.hid (HBk.out.trans (hb8.mono HBk.out.size))
                                  have HOC8 := Lib.hid (HOC.out _ hb8)
                                  have HEb := Lib.hid hE8
                                  clear hown8 hgrow8 hb8 hs8 HO6 HB7 HN7 HB5 HE5 HE6 hE8 HOC
                                  obtain ⟨k0, k1, k2⟩ := hcells3 HQ8.out.q
                                  obtain ⟨t0, t1, -⟩ := hcell HQ8.out.s.t
                                  obtain ⟨e0, e1, -⟩ := hcell HEb.out
                                  by_cases ho : InN ls.length out
                                  · obtain ⟨o, rfl, hol⟩ := nat_of_in ho
                                    obtain ⟨lo, hlo⟩ : ∃ x, ls[o]? = some x := ⟨_, List.getElem?_eq_getElem hol⟩
                                    have HLo := Lib.hid hlo
                                    have f1' : decide ((o : Int) < 0) = false := decide_eq_false (by omega)
                                    have f2' : decide ((ls.length : Int) ≤ (o : Int)) = false := decide_eq_false (by omega)
                                    obtain ⟨tb, toff, rfl, -, p1, -, -⟩ := (HTp.out.ls).at HLo.out HQ8.out.s.below
                                    obtain ⟨tb', toff', te, -, -, p2, -⟩ := (HTp.out.ls).at HLi.out HQ8.out.s.below
                                    injection te with te
                                    injection te with te1 te2
                                    subst te1 te2
                                    by_cases hf : lo.fr = li.to
                                    · have HEn := Lib.hid (fltE_ops (ks := ks) (top := top) (e := ((o : Int), c)) ho (by rw [frA_at hlo, toA_at HLi.out, hf]))
                                      have hb1 : (lo.fr != li.to) = false := by simpa using hf
                                      clear hlo ho
                                      go_wp2_with fail
                                      go_quiet (fail)
                                      have HQ9' := HQ8.out.step (below_drewN w8 nq)
                                      have HS9' := HS8.out.keep (below_drewN w8 nq)
                                      have HT9' := HT8.out.keep (below_drewN w8 nq)
                                      have HB9' := HB8.out.trans ((below_drewN w8 nq).mono HB8.out.size)
                                      have HC9' := Lib.hid (HOC8.out.step (below_drewN w8 nq))
                                      have HEb' := ((below_drewN w8 nq).block _ (hlt HEb.out)).trans HEb.out
                                      have HR9 := Lib.hid (And.intro HQ9' (And.intro HS9' (And.intro HT9' HB9')))
                                      clear k0 k1 k2 t0 t1 e0 e1 p1 p2
                                      obtain ⟨k0, k1, k2⟩ := hcells3 HQ9'.q
                                      obtain ⟨e0, e1, -⟩ := hcell HEb'
                                      clear HQ9' HS9' HT9' HB9' HEb' HQ8 HS8 HT8 HB8 HOC8 HEb
                                      go_wp2_with fail
                                      refine (HRC.out _ _ _ (HKs.out.step HR9.out.1.s.below) HC9'.out HPl.out).mono ?_
                                      rintro e w9 ⟨rfl, b9⟩
                                      have HQ9 := Lib.hid (HR9.out.1.step b9)
                                      have HS9 := Lib.hid (HR9.out.2.1.keep b9)
                                      have HT9 := Lib.hid (HR9.out.2.2.1.keep b9)
                                      have HB9 := Lib.hid (HR9.out.2.2.2.trans (b9.mono HR9.out.2.2.2.size))
                                      clear b9 HR9 k0 k1 k2 e0 e1 HC9'
                                      rw [← chkE_same]
                                      obtain ⟨ca, hca⟩ : ∃ ca, chkE ks top c = ca := ⟨_, rfl⟩
                                      obtain ⟨cc, caa⟩ := ca
                                      rw [hca]
                                      have HCa := Lib.hid hca
                                      clear hca
                                      by_cases hcz : cc = 0
                                      · subst hcz
                                        have HN : Hid (RiL w _ _ wr wr.heap.size (ii : Int) top (.slice (some ⟨gb, goff, none⟩) gs.length oc) (.slice (some ⟨bw, 0, none⟩) 2 2) [tblS, digS i] wm (.slice xa 3 xc) [tblS, digS i, digS j] (chkEs ls ks (ii : Int) top l) l.length (l.length - (k + 1)) (.int .i64 ((k : Int) + 1)) w9) :=
                                          Lib.hid ⟨k + 1, by omega, rfl, by go_num, by
                                            rw [HFk.out]
                                            refine firstF_go hkl ?_
                                            unfold chkEs
                                            rw [HP.out]
                                            show (chkEn ls ks (ii : Int) top ((o : Int), c)).1 = 0
                                            rw [HEn.out, HCa.out], HQ9.out, HS9.out, HB9.out⟩
                                        go_wp2_with fail
                                        go_roundg (l.length - (k + 1))
                                        case measure => omega
                                        case rel => exact HN.out
                                      · have hcz' : (cc != 0) = true := by simpa using hcz
                                        have HE := Lib.hid (fst_tbl HT.out HFo.out HX.out (c := cc) (a := caa) (l := [digS j, digS k]) (HRw.out.trans (fst_grp HGz.out HFj.out HLl.out (fst_ent HEz.out HFk.out HP.out (HEn.out.trans (by rw [HCa.out])) hcz) hcz)) hcz)
                                        go_wp2_with fail
                                        go_ret3
                                        rw [HE.out]
                                        exact ⟨_, rfl, HT9.out, HQ9.out.s.below⟩
                                    · have HEn := Lib.hid (fltE_place (ks := ks) (top := top) (e := ((o : Int), c)) ho (by rw [frA_at hlo, toA_at HLi.out]; exact hf))
                                      have hb1 : (lo.fr != li.to) = true := by simpa using hf
                                      have HE := Lib.hid (fst_tbl HT.out HFo.out HX.out (c := 15) (a := 0) (l := [digS j, digS k]) (HRw.out.trans (fst_grp HGz.out HFj.out HLl.out (fst_ent HEz.out HFk.out HP.out HEn.out (by decide)) (by decide))) (by decide))
                                      clear hlo ho
                                      go_wp2_with fail
                                      go_quiet (fail)
                                      go_wp2_with fail
                                      go_ret3
                                      rw [HE.out]
                                      exact ⟨_, rfl, HT8.out.keep (below_drewN _ _), HQ8.out.s.below.trans ((below_drewN _ _).mono HQ8.out.s.below.size)⟩
                                  · have HEn := Lib.hid (fltE_out (ks := ks) (inn := (ii : Int)) (top := top) (e := (out, c)) ho)
                                    have HE := Lib.hid (fst_tbl HT.out HFo.out HX.out (c := 11) (a := 0) (l := [digS j, digS k]) (HRw.out.trans (fst_grp HGz.out HFj.out HLl.out (fst_ent HEz.out HFk.out HP.out HEn.out (by decide)) (by decide))) (by decide))
                                    by_cases f1 : out < 0
                                    · clear ho
                                      go_wp2_with fail
                                      go_ret3
                                      rw [HE.out]
                                      exact ⟨_, rfl, HT8.out, HQ8.out.s.below⟩
                                    · have f1' : decide (out < 0) = false := decide_eq_false f1
                                      have f2 : (ls.length : Int) ≤ out := by unfold InN at ho; omega
                                      clear ho
                                      go_wp2_with fail
                                      go_ret3
                                      rw [HE.out]
                                      exact ⟨_, rfl, HT8.out, HQ8.out.s.below⟩
                                · obtain rfl : k = l.length := by omega
                                  have HN : Hid (RmL w (.slice ra rs.length rcap) (.slice la ls.length lcap) wr wr.heap.size (ii : Int) top (.slice (some ⟨gb, goff, none⟩) gs.length oc) (.slice (some ⟨bw, 0, none⟩) 2 2) [tblS, digS i] (chkGi ls ks (ii : Int) top gs) gs.length (gs.length - (j + 1)) (.int .i64 ((j : Int) + 1)) wk) := Lib.hid ⟨j + 1, by omega, rfl, by go_num, by
                                    rw [HFj.out]
                                    refine firstF_go hjl ?_
                                    unfold chkGi
                                    rw [HLl.out]
                                    show (chkGr ls ks (ii : Int) top l).1 = 0
                                    unfold chkGr
                                    rw [if_neg (fun h => h HEz.out), HFk.out, firstF_end], hq⟩
                                  clear hq hs hb hFk
                                  go_wp2_with fail
                                  go_roundg (gs.length - (j + 1))
                                  case measure => omega
                                  case rel => exact HN.out
                        · obtain rfl : j = gs.length := by omega
                          have HN : Hid (RoL w (.slice ra rs.length rcap) (.slice la ls.length lcap) (chkRs ls ks rows) rows.length (rows.length - (i + 1)) (.int .i64 ((i : Int) + 1)) wm) := Lib.hid ⟨i + 1, by omega, rfl, by go_num, by
                            rw [HFo.out]
                            refine firstF_go hlt' ?_
                            unfold chkRs
                            rw [HX.out]
                            show (chkRw ls ks (ordB rows i) ⟨(ii : Int), top, gs⟩).1 = 0
                            rw [HRw.out]
                            unfold chkGs
                            rw [if_neg (fun h => h HGz.out), HFj.out, firstF_end], HQ.out.s⟩
                          clear HQ
                          go_wp2_with fail
                          go_roundg (rows.length - (i + 1))
                          case measure => omega
                          case rel => exact HN.out
                · have o1 : decide ((ii : Int) < pin) = false := decide_eq_false (by omega)
                  have o2 : ((ii : Int) == pin) = true := by rw [beq_iff_eq]; omega
                  have o3 : decide (top ≤ ptop) = false := decide_eq_false (by omega)
                  clear hli hin hkz hkd h0 hord hab hab2
                  go_wp2_with fail
                  refine (HD.out i (by omega) _).mono ?_
                  rintro e w2 ⟨rfl, b2⟩
                  have bn3 := below_new w2 (.cells #[.string ⟨#[116, 97, 98, 108, 101]⟩, .string (digS i)] 9)
                  have HBw : Hid (Below wr.heap.size wr (w2.alloc (.cells #[.string ⟨#[116, 97, 98, 108, 101]⟩, .string (digS i)] 9))) := Lib.hid ((HB1.out.trans (b2.mono HB1.out.size)).trans (bn3.mono (Nat.le_trans HB1.out.size b2.size)))
                  have HQ : Hid (RqS w (.slice ra rs.length rcap) (.slice la ls.length lcap) wr wr.heap.size _ top (.slice oa gs.length oc) (.slice (some ⟨w2.heap.size, 0, none⟩) 2 2) [tblS, digS i] (w2.alloc (.cells #[.string ⟨#[116, 97, 98, 108, 101]⟩, .string (digS i)] 9))) :=
                    Lib.hid ⟨(HS1.out.step b2).step bn3, (bn3.block _ (Nat.lt_of_lt_of_le (hlt HQ1.out) b2.size)).trans ((b2.block _ (hlt HQ1.out)).trans HQ1.out), strs2 w2 tblS (digS i), HBw.out⟩
                  clear b2 bn3 HS1 HQ1 HB1
                  obtain ⟨k0, k1, k2⟩ := hcells3 HQ.out.q
                  obtain ⟨t0, t1, -⟩ := hcell HQ.out.s.t
                  go_wp2_with fail
                  refine (HKd.out _ (HKs.out.step HQ.out.s.below)).mono ?_
                  rintro e w4 ⟨rfl, rfl⟩
                  obtain ⟨q0, q1⟩ := HQq.out _ HBw.out
                  go_wp2_with fail
                  go_quiet (fail)
                  have HQ3 := Lib.hid (HQ.out.step (below_drewN _ nq))
                  clear HQ k0 k1 k2 t0 t1 HBw q0 q1
                  obtain ⟨k0, k1, k2⟩ := hcells3 HQ3.out.q
                  obtain ⟨t0, t1, -⟩ := hcell HQ3.out.s.t
                  by_cases hg0 : gs.length = 0
                  · obtain rfl : gs = [] := List.eq_nil_of_length_eq_zero hg0
                    have HE := Lib.hid (fst_tbl HT.out HFo.out HX.out (c := 14) (a := 0) (l := []) (HRw.out.trans (gs_len0 lenE_0 (by decide))) (by decide))
                    go_wp2_with fail
                    go_ret3
                    rw [HE.out]
                    exact ⟨_, rfl, HQ3.out.ws, HQ3.out.s.below⟩
                  · have hg0' : ((gs.length : Int) == 0) = false := by rw [beq_eq_false_iff_ne]; omega
                    by_cases hg8 : 8 < gs.length
                    · have hg8' : (8 : Int) < gs.length := by omega
                      have HE := Lib.hid (fst_tbl HT.out HFo.out HX.out (c := 6) (a := 0) (l := []) (HRw.out.trans (gs_len0 (lenE_8 hg8) (by decide))) (by decide))
                      go_wp2_with fail
                      go_ret3
                      rw [HE.out]
                      exact ⟨_, rfl, HQ3.out.ws, HQ3.out.s.below⟩
                    · have hg8' : ¬ (8 : Int) < gs.length := by omega
                      have HGz := Lib.hid (lenE_ok hg0 (by omega : gs.length ≤ 8))
                      obtain ⟨bw, hbw⟩ : ∃ bw, w2.heap.size = bw := ⟨_, rfl⟩
                      rw [hbw] at HQ3
                      go_wp2_with fail
                      try rw [hbw]
                      clear k0 k1 k2 t0 t1 hbw
                      go_loopg [101] gs.length (fun g u W => RmL w (.slice ra rs.length rcap) (.slice la ls.length lcap) wr wr.heap.size (ii : Int) top (.slice oa gs.length oc) (.slice (some ⟨bw, 0, none⟩) 2 2) [tblS, digS i] (chkGi ls ks (ii : Int) top gs) gs.length g u W)
                      case atStart => exact ⟨0, Nat.zero_le _, by omega, rfl, rfl, HQ3.out⟩
                      case round =>
                        clear HQ3
                        rename World => wm
                        obtain ⟨j, hj, hgj, rfl, hFj, hq⟩ := hrel
                        have HFj := Lib.hid hFj
                        have HQ := Lib.hid hq
                        clear hFj hq
                        by_cases hjl : j < gs.length
                        · obtain ⟨l, hl⟩ : ∃ l, gs[j]? = some l := ⟨_, List.getElem?_eq_getElem hjl⟩
                          obtain ⟨gb, goff, ga, gc, rfl, g0, hes⟩ := HG.out.at keep_opsC hl HQ.out.bo
                          have HLl := Lib.hid hl
                          have HEs := Lib.hid hes
                          have HO0 := Lib.hid (own_none wm wm.heap.size (Nat.le_refl _))
                          have HW0 := Lib.hid (HQ.out.ws.keep (below_new wm (.cells #[] 9)))
                          clear hl hes
                          go_wp2_with (at_builtin; refine wpList_append_strs _ rfl _ _ rfl wm.heap.size _ _ _ rfl HO0.out _ [tblS, digS i] rfl HW0.out (by simp) (by rw [World.size_alloc]; omega) ?_)
                          intro v5 w5 hown5 hgrow5
                          replace hown5 : w5.ownsRow wm.heap.size 9 1 v5 2 (WordsOf [tblS, digS i]) := by simpa using hown5
                          have HB5 := Lib.hid ((below_new wm (.cells #[] 9)).grown hgrow5 (by rw [World.size_alloc]; omega) (fun k e => (HO0.out.lt k e).1))
                          obtain ⟨a5, c5, rfl⟩ := row_form hown5
                          have HO5 := Lib.hid hown5
                          clear hown5 hgrow5 HO0 HW0 g0
                          go_wp2_with fail
                          refine (HD.out j (by omega) _).mono ?_
                          rintro e w6 ⟨rfl, b6⟩
                          have hown6 := HO5.out.kept (grown_of_below b6) (by cases Value.ownBlock _ <;> simp)
                          have hb7 := (HB5.out.trans (b6.mono HB5.out.size)).trans ((below_new w6 (.cells #[.string (digS j)] 9)).mono (Nat.le_trans HB5.out.size b6.size))
                          have HN7 : Hid ((w6.alloc (.cells #[.string (digS j)] 9)).heap[w6.heap.size]? = some (.cells #[.string (digS j)] 9 (0, 0))) := Lib.hid (heap_alloc_new w6 _)
                          have HO6 := Lib.hid (hown6.alloc (.cells #[.string (digS j)] 9))
                          have HB7 := Lib.hid hb7
                          clear hown6 hb7 b6 HO5
                          go_wp2_with (at_builtin; refine wpList_append_own _ rfl _ _ 22 rfl wm.heap.size 9 i0 (.string ByteArray.empty) 1 16 Tryz.underlying22 hinf hz0 hz1 hz2 rfl (by decide) _ _ _ rfl HO6.out ⟨w6.heap.size, 0, none⟩ 1 1 [.string (digS j)] rfl rfl ?_ (fun u hu => by simp at hu; subst hu; rfl) ?_ ?_ ?_ ?_)
                          · intro j' u hu
                            rw [add_spot, Lib.cell_of_heap HN7.out, List.getElem?_toArray]
                            exact hu
                          · unfold maxLen; omega
                          · omega
                          · (try simp only [World.size_alloc]); have := HB7.out.size; simp only [World.size_alloc] at this; omega
                          intro vi w8 hown8 hgrow8 _
                          have hb8 := HB7.out.grown hgrow8 (by have := HB7.out.size; exact this) (fun k e => (HO6.out.lt k e).1)
                          have hs8 : StrsAt w8 vi [tblS, digS i, digS j] := strs_more hown8 rfl
                          obtain ⟨xa, xc, hv8⟩ := hs8.form
                          replace hv8 : vi = .slice xa 3 xc := hv8
                          subst hv8
                          have HQ8 := Lib.hid (HQ.out.step hb8)
                          have HS8 := Lib.hid hs8
                          have HB8 := Lib.hid hb8
                          clear hown8 hgrow8 hb8 hs8 HO6 HB7 HN7 HB5
                          by_cases hl0 : l.length = 0
                          · obtain rfl : l = [] := List.eq_nil_of_length_eq_zero hl0
                            have HE := Lib.hid (fst_tbl HT.out HFo.out HX.out (c := 14) (a := 0) (l := [digS j]) (HRw.out.trans (fst_grp HGz.out HFj.out HLl.out (grp_len0 lenE_0 (by decide)) (by decide))) (by decide))
                            go_wp2_with fail
                            go_ret3
                            rw [HE.out]
                            exact ⟨_, rfl, HS8.out, HQ8.out.s.below⟩
                          · have hl0' : ((l.length : Int) == 0) = false := by rw [beq_eq_false_iff_ne]; omega
                            by_cases hl8 : 8 < l.length
                            · have hl8' : (8 : Int) < l.length := by omega
                              have HE := Lib.hid (fst_tbl HT.out HFo.out HX.out (c := 6) (a := 0) (l := [digS j]) (HRw.out.trans (fst_grp HGz.out HFj.out HLl.out (grp_len0 (lenE_8 hl8) (by decide)) (by decide))) (by decide))
                              go_wp2_with fail
                              go_ret3
                              rw [HE.out]
                              exact ⟨_, rfl, HS8.out, HQ8.out.s.below⟩
                            · have hl8' : ¬ (8 : Int) < l.length := by omega
                              have HEz := Lib.hid (lenE_ok hl0 (by omega : l.length ≤ 8))
                              go_wp2_with fail
                              go_loopg [124] l.length (fun g u W => RiL w (.slice ra rs.length rcap) (.slice la ls.length lcap) wr wr.heap.size (ii : Int) top (.slice (some ⟨gb, goff, none⟩) gs.length oc) (.slice (some ⟨bw, 0, none⟩) 2 2) [tblS, digS i] wm (.slice xa 3 xc) [tblS, digS i, digS j] (chkEs ls ks (ii : Int) top l) l.length g u W)
                              case atStart => exact ⟨0, Nat.zero_le _, by omega, rfl, rfl, HQ8.out, HS8.out, HB8.out⟩
                              case round =>
                                clear HQ8 HS8 HB8
                                rename World => wk
                                obtain ⟨k, hk, hgk, rfl, hFk, hq, hs, hb⟩ := hrel
                                have HFk := Lib.hid hFk
                                by_cases hkl : k < l.length
                                · obtain ⟨p, hp⟩ : ∃ p, l[k]? = some p := ⟨_, List.getElem?_eq_getElem hkl⟩
                                  obtain ⟨eb, eoff, oa2, on2, oc2, rfl, d0, d1, hoc⟩ := HEs.out.at keep_opsC hp hb
                                  have HPl := Lib.hid (HL.out j l k p HLl.out hp)
                                  have HP := Lib.hid hp
                                  obtain ⟨out, c⟩ := p
                                  replace d0 : wk.cell? _ = some (.int .i64 out) := d0
                                  replace hoc : OpsC wk (.slice oa2 on2 oc2) c := hoc
                                  have hbe := below_new wk (.cells #[.int .i64 out, .slice oa2 on2 oc2] 71)
                                  have HE0 : Hid ((wk.alloc (.cells #[.int .i64 out, .slice oa2 on2 oc2] 71)).heap[wk.heap.size]? = some (.cells #[.int .i64 out, .slice oa2 on2 oc2] 71 (0, 0))) := Lib.hid (heap_alloc_new wk _)
                                  have HOC := Lib.hid (fun W (h : Below wk.heap.size wk W) => OpsC.step hoc h)
                                  have HQk := Lib.hid hq
                                  have HSk := Lib.hid hs
                                  have HBk := Lib.hid hb
                                  have hO0 := own_none (wk.alloc (.cells #[.int .i64 out, .slice oa2 on2 oc2] 71)) wk.heap.size (by rw [World.size_alloc]; omega)
                                  rw [World.size_alloc] at hO0
                                  have HO0 := Lib.hid hO0
                                  clear hO0
                                  have hbe2 := hbe.trans ((below_new (wk.alloc (.cells #[.int .i64 out, .slice oa2 on2 oc2] 71)) (.cells #[] 9)).mono hbe.size)
                                  have HW0 := Lib.hid (hs.keep hbe2)
                                  have HBE := Lib.hid hbe2
                                  clear hp hq hs hb hFk hoc hbe hbe2
                                  go_wp2_with (at_builtin; refine wpList_append_strs _ rfl _ _ rfl wk.heap.size _ _ _ rfl HO0.out _ [tblS, digS i, digS j] rfl HW0.out (by simp) (by have := HBE.out.size; omega) ?_)
                                  intro v5 w5 hown5 hgrow5
                                  replace hown5 : w5.ownsRow wk.heap.size 9 1 v5 3 (WordsOf [tblS, digS i, digS j]) := by simpa using hown5
                                  have HB5 := Lib.hid (HBE.out.grown hgrow5 HBE.out.size (fun k e => (HO0.out.lt k e).1))
                                  have HE5 := Lib.hid ((hgrow5.block wk.heap.size (by have := hlt HE0.out; rw [World.size_alloc]; omega) (fun e => by have := (HO0.out.lt _ e.symm).2; injection e with e; simp at e)).trans ((below_new (wk.alloc (.cells #[.int .i64 out, .slice oa2 on2 oc2] 71)) (.cells #[] 9)).block _ (hlt HE0.out) |>.trans HE0.out))
                                  obtain ⟨a5, c5, rfl⟩ := row_form hown5
                                  have HO5 := Lib.hid hown5
                                  clear hown5 hgrow5 HO0 HW0 HE0 HBE d0 d1
                                  go_wp2_with fail
                                  refine (HD.out k (by omega) _).mono ?_
                                  rintro e w6 ⟨rfl, b6⟩
                                  have HE6 := Lib.hid ((b6.block _ (hlt HE5.out)).trans HE5.out)
                                  have hown6 := HO5.out.kept (grown_of_below b6) (by cases Value.ownBlock _ <;> simp)
                                  have hb7 := (HB5.out.trans (b6.mono HB5.out.size)).trans ((below_new w6 (.cells #[.string (digS k)] 9)).mono (Nat.le_trans HB5.out.size b6.size))
                                  have HN7 : Hid ((w6.alloc (.cells #[.string (digS k)] 9)).heap[w6.heap.size]? = some (.cells #[.string (digS k)] 9 (0, 0))) := Lib.hid (heap_alloc_new w6 _)
                                  have HO6 := Lib.hid (hown6.alloc (.cells #[.string (digS k)] 9))
                                  have HB7 := Lib.hid hb7
                                  clear hown6 hb7 b6 HO5
                                  go_wp2_with (at_builtin; refine wpList_append_own _ rfl _ _ 22 rfl wk.heap.size 9 i0 (.string ByteArray.empty) 1 16 Tryz.underlying22 hinf hz0 hz1 hz2 rfl (by decide) _ _ _ rfl HO6.out ⟨w6.heap.size, 0, none⟩ 1 1 [.string (digS k)] rfl rfl ?_ (fun u hu => by simp at hu; subst hu; rfl) ?_ ?_ ?_ ?_)
                                  · intro j' u hu
                                    rw [add_spot, Lib.cell_of_heap HN7.out, List.getElem?_toArray]
                                    exact hu
                                  · unfold maxLen; omega
                                  · omega
                                  · have := HB7.out.size; omega
                                  intro v8 w8 hown8 hgrow8 _
                                  have hb8 := HB7.out.grown hgrow8 HB7.out.size (fun k e => (HO6.out.lt k e).1)
                                  have hs8 : StrsAt w8 v8 [tblS, digS i, digS j, digS k] := strs_more hown8 rfl
                                  have hE8 := (hgrow8.block wk.heap.size (by have := hlt HE6.out; rw [World.size_alloc]; omega) (fun e => by have := (HO6.out.own_ne (by exact ((below_new w6 (.cells #[.string (digS k)] 9)).block _ (hlt HE6.out)).trans HE6.out) (by decide)) e.symm; exact this)).trans (((below_new w6 (.cells #[.string (digS k)] 9)).block _ (hlt HE6.out)).trans HE6.out)
                                  obtain ⟨xb, xd, hv8⟩ := hs8.form
                                  subst hv8
                                  have HQ8 := Lib.hid (HQk.out.step hb8)
                                  have HS8 := Lib.hid (HSk.out.keep hb8)
                                  have HT8 := Lib.hid hs8
                                  have HB8 := Lib.hid (HBk.out.trans (hb8.mono HBk.out.size))
                                  have HOC8 := Lib.hid (HOC.out _ hb8)
                                  have HEb := Lib.hid hE8
                                  clear hown8 hgrow8 hb8 hs8 HO6 HB7 HN7 HB5 HE5 HE6 hE8 HOC
                                  obtain ⟨k0, k1, k2⟩ := hcells3 HQ8.out.q
                                  obtain ⟨t0, t1, -⟩ := hcell HQ8.out.s.t
                                  obtain ⟨e0, e1, -⟩ := hcell HEb.out
                                  by_cases ho : InN ls.length out
                                  · obtain ⟨o, rfl, hol⟩ := nat_of_in ho
                                    obtain ⟨lo, hlo⟩ : ∃ x, ls[o]? = some x := ⟨_, List.getElem?_eq_getElem hol⟩
                                    have HLo := Lib.hid hlo
                                    have f1' : decide ((o : Int) < 0) = false := decide_eq_false (by omega)
                                    have f2' : decide ((ls.length : Int) ≤ (o : Int)) = false := decide_eq_false (by omega)
                                    obtain ⟨tb, toff, rfl, -, p1, -, -⟩ := (HTp.out.ls).at HLo.out HQ8.out.s.below
                                    obtain ⟨tb', toff', te, -, -, p2, -⟩ := (HTp.out.ls).at HLi.out HQ8.out.s.below
                                    injection te with te
                                    injection te with te1 te2
                                    subst te1 te2
                                    by_cases hf : lo.fr = li.to
                                    · have HEn := Lib.hid (fltE_ops (ks := ks) (top := top) (e := ((o : Int), c)) ho (by rw [frA_at hlo, toA_at HLi.out, hf]))
                                      have hb1 : (lo.fr != li.to) = false := by simpa using hf
                                      clear hlo ho
                                      go_wp2_with fail
                                      go_quiet (fail)
                                      have HQ9' := HQ8.out.step (below_drewN w8 nq)
                                      have HS9' := HS8.out.keep (below_drewN w8 nq)
                                      have HT9' := HT8.out.keep (below_drewN w8 nq)
                                      have HB9' := HB8.out.trans ((below_drewN w8 nq).mono HB8.out.size)
                                      have HC9' := Lib.hid (HOC8.out.step (below_drewN w8 nq))
                                      have HEb' := ((below_drewN w8 nq).block _ (hlt HEb.out)).trans HEb.out
                                      have HR9 := Lib.hid (And.intro HQ9' (And.intro HS9' (And.intro HT9' HB9')))
                                      clear k0 k1 k2 t0 t1 e0 e1 p1 p2
                                      obtain ⟨k0, k1, k2⟩ := hcells3 HQ9'.q
                                      obtain ⟨e0, e1, -⟩ := hcell HEb'
                                      clear HQ9' HS9' HT9' HB9' HEb' HQ8 HS8 HT8 HB8 HOC8 HEb
                                      go_wp2_with fail
                                      refine (HRC.out _ _ _ (HKs.out.step HR9.out.1.s.below) HC9'.out HPl.out).mono ?_
                                      rintro e w9 ⟨rfl, b9⟩
                                      have HQ9 := Lib.hid (HR9.out.1.step b9)
                                      have HS9 := Lib.hid (HR9.out.2.1.keep b9)
                                      have HT9 := Lib.hid (HR9.out.2.2.1.keep b9)
                                      have HB9 := Lib.hid (HR9.out.2.2.2.trans (b9.mono HR9.out.2.2.2.size))
                                      clear b9 HR9 k0 k1 k2 e0 e1 HC9'
                                      rw [← chkE_same]
                                      obtain ⟨ca, hca⟩ : ∃ ca, chkE ks top c = ca := ⟨_, rfl⟩
                                      obtain ⟨cc, caa⟩ := ca
                                      rw [hca]
                                      have HCa := Lib.hid hca
                                      clear hca
                                      by_cases hcz : cc = 0
                                      · subst hcz
                                        have HN : Hid (RiL w _ _ wr wr.heap.size (ii : Int) top (.slice (some ⟨gb, goff, none⟩) gs.length oc) (.slice (some ⟨bw, 0, none⟩) 2 2) [tblS, digS i] wm (.slice xa 3 xc) [tblS, digS i, digS j] (chkEs ls ks (ii : Int) top l) l.length (l.length - (k + 1)) (.int .i64 ((k : Int) + 1)) w9) :=
                                          Lib.hid ⟨k + 1, by omega, rfl, by go_num, by
                                            rw [HFk.out]
                                            refine firstF_go hkl ?_
                                            unfold chkEs
                                            rw [HP.out]
                                            show (chkEn ls ks (ii : Int) top ((o : Int), c)).1 = 0
                                            rw [HEn.out, HCa.out], HQ9.out, HS9.out, HB9.out⟩
                                        go_wp2_with fail
                                        go_roundg (l.length - (k + 1))
                                        case measure => omega
                                        case rel => exact HN.out
                                      · have hcz' : (cc != 0) = true := by simpa using hcz
                                        have HE := Lib.hid (fst_tbl HT.out HFo.out HX.out (c := cc) (a := caa) (l := [digS j, digS k]) (HRw.out.trans (fst_grp HGz.out HFj.out HLl.out (fst_ent HEz.out HFk.out HP.out (HEn.out.trans (by rw [HCa.out])) hcz) hcz)) hcz)
                                        go_wp2_with fail
                                        go_ret3
                                        rw [HE.out]
                                        exact ⟨_, rfl, HT9.out, HQ9.out.s.below⟩
                                    · have HEn := Lib.hid (fltE_place (ks := ks) (top := top) (e := ((o : Int), c)) ho (by rw [frA_at hlo, toA_at HLi.out]; exact hf))
                                      have hb1 : (lo.fr != li.to) = true := by simpa using hf
                                      have HE := Lib.hid (fst_tbl HT.out HFo.out HX.out (c := 15) (a := 0) (l := [digS j, digS k]) (HRw.out.trans (fst_grp HGz.out HFj.out HLl.out (fst_ent HEz.out HFk.out HP.out HEn.out (by decide)) (by decide))) (by decide))
                                      clear hlo ho
                                      go_wp2_with fail
                                      go_quiet (fail)
                                      go_wp2_with fail
                                      go_ret3
                                      rw [HE.out]
                                      exact ⟨_, rfl, HT8.out.keep (below_drewN _ _), HQ8.out.s.below.trans ((below_drewN _ _).mono HQ8.out.s.below.size)⟩
                                  · have HEn := Lib.hid (fltE_out (ks := ks) (inn := (ii : Int)) (top := top) (e := (out, c)) ho)
                                    have HE := Lib.hid (fst_tbl HT.out HFo.out HX.out (c := 11) (a := 0) (l := [digS j, digS k]) (HRw.out.trans (fst_grp HGz.out HFj.out HLl.out (fst_ent HEz.out HFk.out HP.out HEn.out (by decide)) (by decide))) (by decide))
                                    by_cases f1 : out < 0
                                    · clear ho
                                      go_wp2_with fail
                                      go_ret3
                                      rw [HE.out]
                                      exact ⟨_, rfl, HT8.out, HQ8.out.s.below⟩
                                    · have f1' : decide (out < 0) = false := decide_eq_false f1
                                      have f2 : (ls.length : Int) ≤ out := by unfold InN at ho; omega
                                      clear ho
                                      go_wp2_with fail
                                      go_ret3
                                      rw [HE.out]
                                      exact ⟨_, rfl, HT8.out, HQ8.out.s.below⟩
                                · obtain rfl : k = l.length := by omega
                                  have HN : Hid (RmL w (.slice ra rs.length rcap) (.slice la ls.length lcap) wr wr.heap.size (ii : Int) top (.slice (some ⟨gb, goff, none⟩) gs.length oc) (.slice (some ⟨bw, 0, none⟩) 2 2) [tblS, digS i] (chkGi ls ks (ii : Int) top gs) gs.length (gs.length - (j + 1)) (.int .i64 ((j : Int) + 1)) wk) := Lib.hid ⟨j + 1, by omega, rfl, by go_num, by
                                    rw [HFj.out]
                                    refine firstF_go hjl ?_
                                    unfold chkGi
                                    rw [HLl.out]
                                    show (chkGr ls ks (ii : Int) top l).1 = 0
                                    unfold chkGr
                                    rw [if_neg (fun h => h HEz.out), HFk.out, firstF_end], hq⟩
                                  clear hq hs hb hFk
                                  go_wp2_with fail
                                  go_roundg (gs.length - (j + 1))
                                  case measure => omega
                                  case rel => exact HN.out
                        · obtain rfl : j = gs.length := by omega
                          have HN : Hid (RoL w (.slice ra rs.length rcap) (.slice la ls.length lcap) (chkRs ls ks rows) rows.length (rows.length - (i + 1)) (.int .i64 ((i : Int) + 1)) wm) := Lib.hid ⟨i + 1, by omega, rfl, by go_num, by
                            rw [HFo.out]
                            refine firstF_go hlt' ?_
                            unfold chkRs
                            rw [HX.out]
                            show (chkRw ls ks (ordB rows i) ⟨(ii : Int), top, gs⟩).1 = 0
                            rw [HRw.out]
                            unfold chkGs
                            rw [if_neg (fun h => h HGz.out), HFj.out, firstF_end], HQ.out.s⟩
                          clear HQ
                          go_wp2_with fail
                          go_roundg (rows.length - (i + 1))
                          case measure => omega
                          case rel => exact HN.out
              · have HE := Lib.hid (fst_tbl HT.out HFo.out HX.out (c := 13) (a := 0) (l := []) (by unfold chkRw; rw [if_neg (fun h => h hin), if_neg hkz, if_pos (by rw [hord, decide_eq_false hab])]) (by decide))
                rw [abv_iff] at hab
                by_cases o1 : (ii : Int) < pin
                · clear hli hin hkz hkd h0 hord hab
                  go_wp2_with fail
                  refine (HD.out i (by omega) _).mono ?_
                  rintro e w2 ⟨rfl, b2⟩
                  have bn3 := below_new w2 (.cells #[.string ⟨#[116, 97, 98, 108, 101]⟩, .string (digS i)] 9)
                  have HBw : Hid (Below wr.heap.size wr (w2.alloc (.cells #[.string ⟨#[116, 97, 98, 108, 101]⟩, .string (digS i)] 9))) := Lib.hid ((HB1.out.trans (b2.mono HB1.out.size)).trans (bn3.mono (Nat.le_trans HB1.out.size b2.size)))
                  have HQ : Hid (RqS w (.slice ra rs.length rcap) (.slice la ls.length lcap) wr wr.heap.size _ top (.slice oa gs.length oc) (.slice (some ⟨w2.heap.size, 0, none⟩) 2 2) [tblS, digS i] (w2.alloc (.cells #[.string ⟨#[116, 97, 98, 108, 101]⟩, .string (digS i)] 9))) :=
                    Lib.hid ⟨(HS1.out.step b2).step bn3, (bn3.block _ (Nat.lt_of_lt_of_le (hlt HQ1.out) b2.size)).trans ((b2.block _ (hlt HQ1.out)).trans HQ1.out), strs2 w2 tblS (digS i), HBw.out⟩
                  clear b2 bn3 HS1 HQ1 HB1
                  obtain ⟨k0, k1, k2⟩ := hcells3 HQ.out.q
                  obtain ⟨t0, t1, -⟩ := hcell HQ.out.s.t
                  go_wp2_with fail
                  refine (HKd.out _ (HKs.out.step HQ.out.s.below)).mono ?_
                  rintro e w4 ⟨rfl, rfl⟩
                  obtain ⟨q0, q1⟩ := HQq.out _ HBw.out
                  go_wp2_with fail
                  go_quiet (fail)
                  go_wp2_with fail
                  go_ret3
                  rw [HE.out]
                  exact ⟨_, rfl, HQ.out.ws.keep (below_drewN _ _), HQ.out.s.below.trans ((below_drewN _ _).mono HQ.out.s.below.size)⟩
                · have o1' : decide ((ii : Int) < pin) = false := decide_eq_false o1
                  have o2 : ((ii : Int) == pin) = true := by rw [beq_iff_eq]; omega
                  have o3 : decide (top ≤ ptop) = true := decide_eq_true (by omega)
                  clear hli hin hkz hkd h0 hord hab o1
                  go_wp2_with fail
                  refine (HD.out i (by omega) _).mono ?_
                  rintro e w2 ⟨rfl, b2⟩
                  have bn3 := below_new w2 (.cells #[.string ⟨#[116, 97, 98, 108, 101]⟩, .string (digS i)] 9)
                  have HBw : Hid (Below wr.heap.size wr (w2.alloc (.cells #[.string ⟨#[116, 97, 98, 108, 101]⟩, .string (digS i)] 9))) := Lib.hid ((HB1.out.trans (b2.mono HB1.out.size)).trans (bn3.mono (Nat.le_trans HB1.out.size b2.size)))
                  have HQ : Hid (RqS w (.slice ra rs.length rcap) (.slice la ls.length lcap) wr wr.heap.size _ top (.slice oa gs.length oc) (.slice (some ⟨w2.heap.size, 0, none⟩) 2 2) [tblS, digS i] (w2.alloc (.cells #[.string ⟨#[116, 97, 98, 108, 101]⟩, .string (digS i)] 9))) :=
                    Lib.hid ⟨(HS1.out.step b2).step bn3, (bn3.block _ (Nat.lt_of_lt_of_le (hlt HQ1.out) b2.size)).trans ((b2.block _ (hlt HQ1.out)).trans HQ1.out), strs2 w2 tblS (digS i), HBw.out⟩
                  clear b2 bn3 HS1 HQ1 HB1
                  obtain ⟨k0, k1, k2⟩ := hcells3 HQ.out.q
                  obtain ⟨t0, t1, -⟩ := hcell HQ.out.s.t
                  go_wp2_with fail
                  refine (HKd.out _ (HKs.out.step HQ.out.s.below)).mono ?_
                  rintro e w4 ⟨rfl, rfl⟩
                  obtain ⟨q0, q1⟩ := HQq.out _ HBw.out
                  go_wp2_with fail
                  go_quiet (fail)
                  go_wp2_with fail
                  go_ret3
                  rw [HE.out]
                  exact ⟨_, rfl, HQ.out.ws.keep (below_drewN _ _), HQ.out.s.below.trans ((below_drewN _ _).mono HQ.out.s.below.size)⟩
        · have HE := Lib.hid (fst_tbl HT.out HFo.out HX.out (c := 11) (a := 0) (l := []) (if_pos hin) (by decide))
          by_cases f1 : inn < 0
          · go_wp2_with fail
            refine (HD.out i (by omega) _).mono ?_
            rintro e w2 ⟨rfl, b2⟩
            have bn3 := below_new w2 (.cells #[.string ⟨#[116, 97, 98, 108, 101]⟩, .string (digS i)] 9)
            have HBw : Hid (Below wr.heap.size wr (w2.alloc (.cells #[.string ⟨#[116, 97, 98, 108, 101]⟩, .string (digS i)] 9))) := Lib.hid ((HB1.out.trans (b2.mono HB1.out.size)).trans (bn3.mono (Nat.le_trans HB1.out.size b2.size)))
            have HQ : Hid (RqS w (.slice ra rs.length rcap) (.slice la ls.length lcap) wr wr.heap.size _ top (.slice oa gs.length oc) (.slice (some ⟨w2.heap.size, 0, none⟩) 2 2) [tblS, digS i] (w2.alloc (.cells #[.string ⟨#[116, 97, 98, 108, 101]⟩, .string (digS i)] 9))) :=
              Lib.hid ⟨(HS1.out.step b2).step bn3, (bn3.block _ (Nat.lt_of_lt_of_le (hlt HQ1.out) b2.size)).trans ((b2.block _ (hlt HQ1.out)).trans HQ1.out), strs2 w2 tblS (digS i), HBw.out⟩
            clear b2 bn3 HS1 HQ1 HB1
            obtain ⟨k0, k1, k2⟩ := hcells3 HQ.out.q
            obtain ⟨t0, t1, -⟩ := hcell HQ.out.s.t
            go_wp2_with fail
            go_ret3
            rw [HE.out]
            exact ⟨_, rfl, HQ.out.ws, HQ.out.s.below⟩
          · have f1' : decide (inn < 0) = false := decide_eq_false f1
            have f2 : (ls.length : Int) ≤ inn := by unfold InN at hin; omega
            go_wp2_with fail
            refine (HD.out i (by omega) _).mono ?_
            rintro e w2 ⟨rfl, b2⟩
            have bn3 := below_new w2 (.cells #[.string ⟨#[116, 97, 98, 108, 101]⟩, .string (digS i)] 9)
            have HBw : Hid (Below wr.heap.size wr (w2.alloc (.cells #[.string ⟨#[116, 97, 98, 108, 101]⟩, .string (digS i)] 9))) := Lib.hid ((HB1.out.trans (b2.mono HB1.out.size)).trans (bn3.mono (Nat.le_trans HB1.out.size b2.size)))
            have HQ : Hid (RqS w (.slice ra rs.length rcap) (.slice la ls.length lcap) wr wr.heap.size _ top (.slice oa gs.length oc) (.slice (some ⟨w2.heap.size, 0, none⟩) 2 2) [tblS, digS i] (w2.alloc (.cells #[.string ⟨#[116, 97, 98, 108, 101]⟩, .string (digS i)] 9))) :=
              Lib.hid ⟨(HS1.out.step b2).step bn3, (bn3.block _ (Nat.lt_of_lt_of_le (hlt HQ1.out) b2.size)).trans ((b2.block _ (hlt HQ1.out)).trans HQ1.out), strs2 w2 tblS (digS i), HBw.out⟩
            clear b2 bn3 HS1 HQ1 HB1
            obtain ⟨k0, k1, k2⟩ := hcells3 HQ.out.q
            obtain ⟨t0, t1, -⟩ := hcell HQ.out.s.t
            go_wp2_with fail
            go_ret3
            rw [HE.out]
            exact ⟨_, rfl, HQ.out.ws, HQ.out.s.below⟩
      · obtain rfl : i = rows.length := by omega
        rw [firstF_end] at hFo
        have HE : Hid (chkT ls ks rows = (0, 0, [])) := Lib.hid (by rw [HT.out, hFo, inF_ok rfl])
        clear hFo hst
        go_wp2_with fail
        go_ret3
        rw [HE.out]
        exact ⟨_, rfl, .inl ⟨none, 0, rfl, rfl⟩, HST.out.below⟩
end Go.Proofs.YtlcpbfklnjlgnaaGreatDoor
