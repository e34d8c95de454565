/-
  Package table by contracts, first part: rows in memory; the links of a group.
  Package table by contracts, second part: which group is active; what must have failed.
  Package table by contracts, third part: what must have failed for a group.
  Package table by contracts, fourth part: a copy of an entry's ops; the entries that are picked.
  Package table by contracts, fifth part: the entries by which it may go.
  Package table by contracts, sixth part: Next.
-/
import Derived.Test.YtlcpbfklnjlgnaaGreatDoorGl
import Derived.Test.YtlcpbfklnjlgnaaGreatDoorGi
import Derived.Deep.AppendLies
import Derived.Lib.SliceRun
import Derived.WalkSpells
namespace Go.Proofs.YtlcpbfklnjlgnaaGreatDoor
open Go.RowKit Go.Extern.Stop Go.Stop Go.Extern

/-- An entry: where it goes out, the slice of its ops. -/
structure En where
  out : Int
  oa : Option Addr
  on : Nat
  oc : Nat
/-- A row of entries. -/
def EntsAt (w : World) (v : Value) (es : List En) : Prop :=
  (∃ a cap, v = .slice a 0 cap ∧ es = []) ∨ ∃ b off cap, v = .slice (some ⟨b, off, none⟩) es.length cap ∧ b < w.heap.size ∧
    ∀ i e, es[i]? = some e → w.cell? ⟨b, off + i * 2, none⟩ = some (.int .i64 e.out) ∧ w.cell? ⟨b, off + i * 2 + 1, none⟩ = some (.slice e.oa e.on e.oc)
theorem EntsAt.form {w : World} {v : Value} {es : List En} (h : EntsAt w v es) : ∃ a cap, v = .slice a es.length cap := by
  rcases h with ⟨a, cap, rfl, rfl⟩ | ⟨b, off, cap, rfl, -⟩
  · exact ⟨a, cap, rfl⟩
  · exact ⟨_, cap, rfl⟩
theorem EntsAt.at {w w' : World} {a : Option Addr} {n cap : Nat} {es : List En} (h : EntsAt w (.slice a n cap) es) {i : Nat} {e : En} (hi : es[i]? = some e) (hb : Below w.heap.size w w') :
    ∃ b off, a = some ⟨b, off, none⟩ ∧ w'.cell? ⟨b, off + i * 2, none⟩ = some (.int .i64 e.out) ∧ w'.cell? ⟨b, off + i * 2 + 1, none⟩ = some (.slice e.oa e.on e.oc) := by
  rcases h with ⟨a, cap, -, rfl⟩ | ⟨b, off, cap, e', hlt, hc⟩
  · simp at hi
  · injection e' with e'
    obtain ⟨h0, h1⟩ := hc i e hi
    exact ⟨b, off, e', (hb.cell (p := ⟨b, off + i * 2, none⟩) hlt).trans h0, (hb.cell (p := ⟨b, off + i * 2 + 1, none⟩) hlt).trans h1⟩
theorem EntsAt.step {w w' : World} {v : Value} {es : List En} (h : EntsAt w v es) (hb : Below w.heap.size w w') : EntsAt w' v es := by
  rcases h with h | ⟨b, off, cap, e, hlt, hc⟩
  · exact .inl h
  · exact .inr ⟨b, off, cap, e, Nat.lt_of_lt_of_le hlt hb.size, fun i l hi => ⟨(hb.cell (p := ⟨b, off + i * 2, none⟩) hlt).trans (hc i l hi).1, (hb.cell (p := ⟨b, off + i * 2 + 1, none⟩) hlt).trans (hc i l hi).2⟩⟩
/-- Each entry's ops are there. -/
def OpsIn (w : World) (es : List En) : Prop := ∀ (i : Nat) (e : En), es[i]? = some e → ∃ c, OpsAt w (.slice e.oa e.on e.oc) c
theorem OpsIn.step {w w' : World} {es : List En} (h : OpsIn w es) (hb : Below w.heap.size w w') : OpsIn w' es := fun i e hi => by
  obtain ⟨c, hc⟩ := h i e hi
  exact ⟨c, hc.step hb⟩
/-- A group: its slice, its entries. -/
structure Gr where
  ga : Option Addr
  gc : Nat
  es : List En
/-- A row of groups. -/
def GrsAt (w : World) (v : Value) (gs : List Gr) : Prop :=
  (∃ a cap, v = .slice a 0 cap ∧ gs = []) ∨ ∃ b off cap, v = .slice (some ⟨b, off, none⟩) gs.length cap ∧ b < w.heap.size ∧
    ∀ i g, gs[i]? = some g → w.cell? ⟨b, off + i, none⟩ = some (.slice g.ga g.es.length g.gc) ∧ EntsAt w (.slice g.ga g.es.length g.gc) g.es
theorem GrsAt.form {w : World} {v : Value} {gs : List Gr} (h : GrsAt w v gs) : ∃ a cap, v = .slice a gs.length cap := by
  rcases h with ⟨a, cap, rfl, rfl⟩ | ⟨b, off, cap, rfl, -⟩
  · exact ⟨a, cap, rfl⟩
  · exact ⟨_, cap, rfl⟩
theorem GrsAt.at {w w' : World} {a : Option Addr} {n cap : Nat} {gs : List Gr} (h : GrsAt w (.slice a n cap) gs) {i : Nat} {g : Gr} (hi : gs[i]? = some g) (hb : Below w.heap.size w w') :
    ∃ b off, a = some ⟨b, off, none⟩ ∧ w'.cell? ⟨b, off + i, none⟩ = some (.slice g.ga g.es.length g.gc) ∧ EntsAt w' (.slice g.ga g.es.length g.gc) g.es := by
  rcases h with ⟨a, cap, -, rfl⟩ | ⟨b, off, cap, e, hlt, hc⟩
  · simp at hi
  · injection e with e
    exact ⟨b, off, e, (hb.cell (p := ⟨b, off + i, none⟩) hlt).trans (hc i g hi).1, (hc i g hi).2.step hb⟩
theorem GrsAt.step {w w' : World} {v : Value} {gs : List Gr} (h : GrsAt w v gs) (hb : Below w.heap.size w w') : GrsAt w' v gs := by
  rcases h with h | ⟨b, off, cap, e, hlt, hc⟩
  · exact .inl h
  · exact .inr ⟨b, off, cap, e, Nat.lt_of_lt_of_le hlt hb.size, fun i g hi => ⟨(hb.cell (p := ⟨b, off + i, none⟩) hlt).trans (hc i g hi).1, (hc i g hi).2.step hb⟩⟩
abbrev rowV (inn top : Int) (gv : Value) : Value := .agg #[.int .i64 inn, .int .i64 top, gv]
/-- A row in a block of its own, and its groups. -/
structure RwB (w0 : World) (B : Nat) (inn top : Int) (gv : Value) (gs : List Gr) (W : World) : Prop where
  lt : B < W.heap.size
  c0 : W.cell? ⟨B, 0, none⟩ = some (.int .i64 inn)
  c1 : W.cell? ⟨B, 1, none⟩ = some (.int .i64 top)
  c2 : W.cell? ⟨B, 2, none⟩ = some gv
  gr : GrsAt W gv gs
  below : Below w0.heap.size w0 W
theorem RwB.step {w0 : World} {B : Nat} {inn top : Int} {gv : Value} {gs : List Gr} {W W' : World} (h : RwB w0 B inn top gv gs W) (hb : Below W.heap.size W W') : RwB w0 B inn top gv gs W' :=
  ⟨Nat.lt_of_lt_of_le h.lt hb.size, (hb.cell (p := ⟨B, 0, none⟩) h.lt).trans h.c0, (hb.cell (p := ⟨B, 1, none⟩) h.lt).trans h.c1, (hb.cell (p := ⟨B, 2, none⟩) h.lt).trans h.c2, h.gr.step hb, h.below.trans (hb.mono h.below.size)⟩
theorem boxed_row (w : World) (x y z : Value) : (w.alloc (.cells #[x, y, z] 52)).cell? ⟨w.heap.size, 0, none⟩ = some x ∧ (w.alloc (.cells #[x, y, z] 52)).cell? ⟨w.heap.size, 1, none⟩ = some y ∧ (w.alloc (.cells #[x, y, z] 52)).cell? ⟨w.heap.size, 2, none⟩ = some z :=
  ⟨by rw [Lib.cell_of_heap (heap_alloc_new w _)]; rfl, by rw [Lib.cell_of_heap (heap_alloc_new w _)]; rfl, by rw [Lib.cell_of_heap (heap_alloc_new w _)]; rfl⟩
theorem RwB.start {w : World} {inn top : Int} {gv : Value} {gs : List Gr} (h : GrsAt w gv gs) : RwB w w.heap.size inn top gv gs (w.alloc (.cells #[.int .i64 inn, .int .i64 top, gv] 52)) :=
  ⟨by simp, (boxed_row w _ _ _).1, (boxed_row w _ _ _).2.1, (boxed_row w _ _ _).2.2, h.step (below_new w _), below_new w _⟩

/-- The entries of a group, by its number; none, if there is no such group. -/
def grp (gs : List Gr) (g : Int) : List En := if g < 0 then [] else (gs[g.toNat]?.map (·.es)).getD []
theorem grp_out {gs : List Gr} {g : Int} (h : g < 0 ∨ gs.length ≤ g) : grp gs g = [] := by
  unfold grp
  split
  · rfl
  · rw [List.getElem?_eq_none (by omega)]; rfl
theorem grp_at {gs : List Gr} {g : Nat} {x : Gr} (h : gs[g]? = some x) : grp gs (g : Int) = x.es := by
  unfold grp
  rw [if_neg (by omega), Int.toNat_natCast, h]; rfl
/-- The words of the set of a list's links. -/
def lnk (es : List En) : Nat × Nat := ofS (es.map (·.out))
theorem lnk_u64 (es : List En) : U64 (lnk es).1 ∧ U64 (lnk es).2 := ofS_u64 _
/-- What is gone through. -/
structure LightR (gs : List Gr) : Prop where
  n : gs.length ≤ 12
  m : ∀ (i : Nat) (g : Gr), gs[i]? = some g → g.es.length ≤ 12
  on : ∀ (i : Nat) (g : Gr), gs[i]? = some g → ∀ (j : Nat) (e : En), g.es[j]? = some e → e.on ≤ 12
def TbLn (w : World) (es : List En) (g : Nat) (v : Value) (wr : World) : Prop :=
  ∃ i : Nat, i ≤ es.length ∧ g = es.length - i ∧ v = .int .i64 i ∧ SetAt wr (w.heap.size + 1 + 1) (lnk (es.take i)).1 (lnk (es.take i)).2 ∧ SetAt wr (w.heap.size + 1) 0 0 ∧ Below w.heap.size w wr
theorem lnk_take {es : List En} {i : Nat} {e : En} (h : es[i]? = some e) : lnk (es.take (i + 1)) = ((lnk (es.take i)).1 ||| (oneW e.out).1, (lnk (es.take i)).2 ||| (oneW e.out).2) := by
  unfold lnk
  rw [List.take_add_one, h, Option.toList_some, List.map_append]
  exact ofS_snoc _ _
set_option maxRecDepth 100000 in
set_option maxHeartbeats 4000000 in
theorem links_any (g inn top : Int) (gv : Value) (gs : List Gr) (w : World) (hg : GrsAt w gv gs) (hl : LightR gs) :
    Calls Tryz.prog 37 #[rowV inn top gv, .int .i64 g] w fun e w' => e = .returned (setV (lnk (grp gs g)).1 (lnk (grp gs g)).2) ∧ Below w.heap.size w w' := by
  have HR := Lib.hid (RwB.start (inn := inn) (top := top) hg)
  have HS := SW.start (w.alloc (.cells #[.int .i64 inn, .int .i64 top, gv] 52)) 0 0
  rw [World.size_alloc] at HS
  obtain ⟨ga, gcap, rfl⟩ := hg.form
  have HR2 : Hid (RwB w w.heap.size inn top (.slice ga gs.length gcap) gs (((w.alloc (.cells #[.int .i64 inn, .int .i64 top, .slice ga gs.length gcap] 52)).alloc (.cells #[.int .u64 0, .int .u64 0] 56)).alloc (.cells #[.int .u64 0, .int .u64 0] 56))) := Lib.hid (HR.out.step HS.below)
  have HSr : Hid (SetAt (((w.alloc (.cells #[.int .i64 inn, .int .i64 top, .slice ga gs.length gcap] 52)).alloc (.cells #[.int .u64 0, .int .u64 0] 56)).alloc (.cells #[.int .u64 0, .int .u64 0] 56)) (w.heap.size + 1 + 1) 0 0) := Lib.hid HS.res
  have HSs : Hid (SetAt (((w.alloc (.cells #[.int .i64 inn, .int .i64 top, .slice ga gs.length gcap] 52)).alloc (.cells #[.int .u64 0, .int .u64 0] 56)).alloc (.cells #[.int .u64 0, .int .u64 0] 56)) (w.heap.size + 1) 0 0) := Lib.hid HS.set
  have HGw := Lib.hid hg
  clear HS hg
  by_cases hin : 0 ≤ g ∧ g < gs.length
  · obtain ⟨G, rfl⟩ : ∃ G : Nat, g = G := ⟨g.toNat, by omega⟩
    have hG : G < gs.length := by omega
    clear hin
    obtain ⟨x, hx⟩ : ∃ x, gs[G]? = some x := ⟨_, List.getElem?_eq_getElem hG⟩
    rw [grp_at hx]
    have hxl := hl.m G x hx
    obtain ⟨b, off, rfl, c0, -⟩ := HR2.out.gr.at hx (Below.refl _ _)
    obtain ⟨-, -, -, -, hes⟩ := HGw.out.at hx (Below.refl _ _)
    have HES := Lib.hid hes
    have q0 : ¬ (G : Int) < 0 := by omega
    have q1 : ¬ (gs.length : Int) ≤ G := by omega
    have H0 : Hid (TbLn w x.es x.es.length (.int .i64 0) (((w.alloc (.cells #[.int .i64 inn, .int .i64 top, .slice (some ⟨b, off, none⟩) gs.length gcap] 52)).alloc (.cells #[.int .u64 0, .int .u64 0] 56)).alloc (.cells #[.int .u64 0, .int .u64 0] 56))) :=
      Lib.hid ⟨0, Nat.zero_le _, by omega, rfl, HSr.out, HSs.out, HR2.out.below⟩
    obtain ⟨xa, xc, es⟩ := x
    have HES0 : Hid (EntsAt w (.slice xa es.length xc) es) := Lib.hid HES.out
    replace c0 : _ = some (Value.slice xa es.length xc) := c0
    have k2 := HR2.out.c2
    have hxl' : es.length ≤ 12 := hxl
    clear hx hes HES HR HSr HSs hxl
    dsimp only at H0
    go_enter Tryz.func37, Tryz.ntmps37
    go_wp2_with fail
    generalize ((w.alloc (.cells #[.int .i64 inn, .int .i64 top, .slice (some ⟨b, off, none⟩) gs.length gcap] 52)).alloc (.cells #[.int .u64 0, .int .u64 0] 56)).alloc (.cells #[.int .u64 0, .int .u64 0] 56) = w1 at *
    clear c0 k2
    go_loopg [24] es.length (fun g u wr => TbLn w es g u wr)
    case atStart => exact H0.out
    case round =>
      obtain ⟨i, hi, hgi, rfl, hs, hr, hb⟩ := hrel
      by_cases hlt : i < es.length
      · obtain ⟨e, hx⟩ : ∃ e, es[i]? = some e := ⟨_, List.getElem?_eq_getElem hlt⟩
        obtain ⟨b2, off2, rfl, c0, c1⟩ := HES0.out.at hx hb
        obtain ⟨u1, u2⟩ := lnk_u64 (es.take i)
        have hbn := below_new wr (.cells #[.int .i64 e.out, .slice e.oa e.on e.oc] 48)
        have hE := lnk_take hx
        have HW := Lib.hid (fun W => with_any _ _ e.out u1 u2 W)
        have e1 : (lnk (es.take i)).1 ||| (oneW e.out).1 = (lnk (es.take (i + 1))).1 := by rw [hE]
        have e2 : (lnk (es.take i)).2 ||| (oneW e.out).2 = (lnk (es.take (i + 1))).2 := by rw [hE]
        rw [e1, e2] at HW
        have hs1 := hs.step hbn
        have HR1 := Lib.hid (hr.step hbn)
        have HB1 := Lib.hid (hb.trans (hbn.mono hb.size))
        clear e1 e2 u1 u2 hx hE hs hr hb hbn
        generalize (lnk (es.take i)).1 = p at *
        generalize (lnk (es.take i)).2 = q at *
        generalize hp' : (lnk (es.take (i + 1))).1 = p' at *
        generalize hq' : (lnk (es.take (i + 1))).2 = q' at *
        have HP := Lib.hid hp'
        have HQ := Lib.hid hq'
        clear hp' hq'
        have k0 := hs1.cells.1
        have k1 := hs1.cells.2.1
        have HS1 := Lib.hid hs1
        clear hs1
        go_wp2_with fail
        refine (HW.out _).mono ?_
        rintro e' w3 ⟨rfl, b3⟩
        have hs3 := HS1.out.step b3
        obtain ⟨k0, k1, kf⟩ := hs3.cells
        have k2 := kf 0
        have k3 := kf 1
        have HB3 := HB1.out.trans (b3.mono HB1.out.size)
        have H3 : Hid (TbLn w es (es.length - (i + 1)) (.int .i64 ((i : Int) + 1)) ((w3.setCell ⟨w.heap.size + 1 + 1, 0, none⟩ (.int .u64 (p' : Int))).setCell ⟨w.heap.size + 1 + 1, 1, none⟩ (.int .u64 (q' : Int)))) := Lib.hid
          ⟨i + 1, by omega, rfl, by go_num, by rw [HP.out, HQ.out]; exact hs3.put _ _, ((HR1.out.step b3).far (by omega) _ _).far (by omega) _ _,
            (HB3.setCell (p := ⟨w.heap.size + 1 + 1, 0, none⟩) (by simp; omega) _).setCell (p := ⟨w.heap.size + 1 + 1, 1, none⟩) (by simp; omega) _⟩
        clear b3 hs3 kf HW HB3
        go_wp2_with fail
        go_roundg (es.length - (i + 1))
        case measure => omega
        case rel => exact H3.out
      · obtain rfl : i = es.length := by omega
        rw [List.take_length] at hs
        obtain ⟨k0, k1, -⟩ := hs.cells
        obtain ⟨r0, r1, rf⟩ := hr.cells
        have r2 := rf 0
        have r3 := rf 1
        have HB := Lib.hid hb
        clear hs hr rf hb hlt hi
        generalize hp : (lnk es).1 = p at *
        generalize hq : (lnk es).2 = q at *
        have HP := Lib.hid hp
        have HQ := Lib.hid hq
        clear hp hq
        go_wp2_with fail
        refine bodyPost_ret (v := setV p q) (by simp [results, Tryz.f37, go_sem, r0, r1]) rfl ⟨by rw [HP.out, HQ.out], ?_⟩
        exact (HB.out.setCell (p := ⟨w.heap.size + 1, 0, none⟩) (Nat.le_succ _) _).setCell (p := ⟨w.heap.size + 1, 1, none⟩) (Nat.le_succ _) _
  · have hgo : g < 0 ∨ (gs.length : Int) ≤ g := by omega
    rw [grp_out hgo]
    obtain ⟨k0, k1, -⟩ := HSr.out.cells
    obtain ⟨r0, r1, rf⟩ := HSs.out.cells
    have r2 := rf 0
    have r3 := rf 1
    have k2 := HR2.out.c2
    clear hin rf HGw HSs HSr HR hl
    by_cases h0 : g < 0
    · go_enter Tryz.func37, Tryz.ntmps37
      go_wp2_with fail
      refine bodyPost_ret (v := setV 0 0) (by simp [results, Tryz.f37, go_sem, r0, r1]) rfl ⟨rfl, ?_⟩
      exact HR2.out.below
    · have h1 : (gs.length : Int) ≤ g := by omega
      clear hgo
      go_enter Tryz.func37, Tryz.ntmps37
      go_wp2_with fail
      refine bodyPost_ret (v := setV 0 0) (by simp [results, Tryz.f37, go_sem, r0, r1]) rfl ⟨rfl, ?_⟩
      exact HR2.out.below
end Go.Proofs.YtlcpbfklnjlgnaaGreatDoor

namespace Go.Proofs.YtlcpbfklnjlgnaaGreatDoor
open Go.RowKit Go.Extern.Stop Go.Stop Go.Extern

/-- Have all of a group's links failed? -/
def subG (gs : List Gr) (fa fb : Nat) (g : Int) : Bool := sameB ((lnk (grp gs g)).1 &&& fa) ((lnk (grp gs g)).2 &&& fb) (lnk (grp gs g)).1 (lnk (grp gs g)).2
/-- The first group that has a link left; -1. -/
def ActR (gs : List Gr) (fa fb : Nat) (a : Int) : Prop :=
  (a = -1 ∧ ∀ g : Nat, g < gs.length → subG gs fa fb g = true) ∨ ∃ k : Nat, a = k ∧ k < gs.length ∧ subG gs fa fb k = false ∧ ∀ g : Nat, g < k → subG gs fa fb g = true
/-- The row's box, the set's, and old memory. -/
structure RfB (w0 : World) (inn top : Int) (gv : Value) (gs : List Gr) (fa fb : Nat) (W : World) : Prop where
  rw : RwB w0 w0.heap.size inn top gv gs W
  fl : SetAt W (w0.heap.size + 1) fa fb
theorem RfB.step {w0 : World} {inn top : Int} {gv : Value} {gs : List Gr} {fa fb : Nat} {W W' : World} (h : RfB w0 inn top gv gs fa fb W) (hb : Below W.heap.size W W') : RfB w0 inn top gv gs fa fb W' := ⟨h.rw.step hb, h.fl.step hb⟩
theorem RfB.start {w : World} {inn top : Int} {gv : Value} {gs : List Gr} (h : GrsAt w gv gs) (fa fb : Nat) :
    RfB w inn top gv gs fa fb ((w.alloc (.cells #[.int .i64 inn, .int .i64 top, gv] 52)).alloc (.cells #[.int .u64 (fa : Int), .int .u64 (fb : Int)] 56)) := by
  have hT := RwB.start (inn := inn) (top := top) h
  refine ⟨hT.step (below_new _ _), ?_⟩
  have := heap_alloc_new (w.alloc (.cells #[.int .i64 inn, .int .i64 top, gv] 52)) (.cells #[.int .u64 (fa : Int), .int .u64 (fb : Int)] 56)
  rwa [World.size_alloc] at this
theorem RfB.cells {w0 : World} {inn top : Int} {gv : Value} {gs : List Gr} {fa fb : Nat} {W : World} (h : RfB w0 inn top gv gs fa fb W) : W.cell? ⟨w0.heap.size, 0, none⟩ = some (.int .i64 inn) ∧ W.cell? ⟨w0.heap.size, 1, none⟩ = some (.int .i64 top) ∧ W.cell? ⟨w0.heap.size, 2, none⟩ = some gv ∧
    W.cell? ⟨w0.heap.size + 1, 0, none⟩ = some (.int .u64 (fa : Int)) ∧ W.cell? ⟨w0.heap.size + 1, 1, none⟩ = some (.int .u64 (fb : Int)) :=
  ⟨h.rw.c0, h.rw.c1, h.rw.c2, h.fl.cells.1, h.fl.cells.2.1⟩
def AcL (w : World) (inn top : Int) (gv : Value) (gs : List Gr) (fa fb : Nat) (g : Nat) (v : Value) (wr : World) : Prop :=
  ∃ i : Nat, i ≤ gs.length ∧ g = gs.length - i ∧ v = .int .i64 i ∧ (∀ k : Nat, k < i → subG gs fa fb k = true) ∧ RfB w inn top gv gs fa fb wr
def AcP (w : World) (gs : List Gr) (fa fb : Nat) (e : Ending) (w' : World) : Prop := ∃ a, e = .returned (.int .i64 a) ∧ ActR gs fa fb a ∧ Below w.heap.size w w'
set_option maxRecDepth 100000 in
set_option maxHeartbeats 4000000 in
theorem active_any (inn top : Int) (gv : Value) (gs : List Gr) (fa fb : Nat) (ua : U64 fa) (ub : U64 fb) (w : World) (hg : GrsAt w gv gs) (hl : LightR gs) :
    Calls Tryz.prog 16 #[rowV inn top gv, setV fa fb] w (AcP w gs fa fb) := by
  have HR := Lib.hid (RfB.start (inn := inn) (top := top) hg fa fb)
  obtain ⟨ga, gcap, rfl⟩ := hg.form
  have HLk := Lib.hid (fun (g : Int) W (h : GrsAt W (.slice ga gs.length gcap) gs) => links_any g inn top _ gs W h hl)
  have HUn := Lib.hid (fun (g : Int) W => under_any _ _ fa fb (lnk_u64 (grp gs g)).1 (lnk_u64 (grp gs g)).2 ua ub W)
  have hn := hl.n
  have k2 := HR.out.cells.2.2.1
  clear hg hl
  go_enter Tryz.func16, Tryz.ntmps16
  go_wp2_with fail
  clear k2
  generalize (w.alloc (.cells #[.int .i64 inn, .int .i64 top, .slice ga gs.length gcap] 52)).alloc (.cells #[.int .u64 (fa : Int), .int .u64 (fb : Int)] 56) = w1 at *
  go_loopg [9] gs.length (fun g u wr => AcL w inn top (.slice ga gs.length gcap) gs fa fb g u wr)
  case atStart => exact ⟨0, Nat.zero_le _, by omega, rfl, fun k hk => absurd hk (Nat.not_lt_zero _), HR.out⟩
  case round =>
    obtain ⟨i, hi, hgi, rfl, hp, hrb⟩ := hrel
    have HP := Lib.hid hp
    clear hp HR
    by_cases hlt : i < gs.length
    · obtain ⟨b, hb⟩ : ∃ b, subG gs fa fb (i : Int) = b := ⟨_, rfl⟩
      have HU : Hid (∀ W, Calls Tryz.prog 38 #[setV (lnk (grp gs (i : Int))).1 (lnk (grp gs (i : Int))).2, setV fa fb] W fun e w' => e = .returned (.bool b) ∧ Below W.heap.size W w') := Lib.hid (by rw [← hb]; exact HUn.out (i : Int))
      have HL := Lib.hid (HLk.out (i : Int))
      have HBq := Lib.hid hb
      clear hb HUn HLk
      generalize (lnk (grp gs (i : Int))).1 = p at *
      generalize (lnk (grp gs (i : Int))).2 = q at *
      have k := hrb.cells
      have HRB := Lib.hid hrb
      clear hrb
      go_wp2_with fail
      have hI := HRB.out.step (Below.refl _ _).drew
      have kk := hI.cells
      clear HRB
      go_region_held3 (fun w' => w'.cell? ⟨w.heap.size, 0, none⟩ = some (.int .i64 inn) ∧ w'.cell? ⟨w.heap.size, 1, none⟩ = some (.int .i64 top) ∧ w'.cell? ⟨w.heap.size, 2, none⟩ = some (.slice ga gs.length gcap) ∧ w'.cell? ⟨w.heap.size + 1, 0, none⟩ = some (.int .u64 (fa : Int)) ∧ w'.cell? ⟨w.heap.size + 1, 1, none⟩ = some (.int .u64 (fb : Int)))
        (first | exact kk | exact hI.cells)
        (first
        | (go_at_call 37; refine (HL.out _ hI.rw.gr).mono ?_; rintro e w2 ⟨rfl, b2⟩; replace hI := hI.step b2)
        | (go_at_call 38; refine (HU.out _).mono ?_; rintro e w3 ⟨rfl, b3⟩; replace hI := hI.step b3))
      all_goals
        have HI := Lib.hid hI
        clear hI kk
        cases b with
        | false =>
          go_wp2_with fail
          go_ret
          exact ⟨_, rfl, .inr ⟨i, rfl, hlt, HBq.out, HP.out⟩, HI.out.rw.below⟩
        | true =>
          have H3 : Hid (AcL w inn top (.slice ga gs.length gcap) gs fa fb (gs.length - (i + 1)) (.int .i64 ((i : Int) + 1)) _) := Lib.hid ⟨i + 1, by omega, rfl, by go_num, fun k hk => by
            rcases Nat.lt_succ_iff_lt_or_eq.1 hk with hk | rfl
            · exact HP.out k hk
            · exact HBq.out, HI.out⟩
          go_wp2_with fail
          go_roundg (gs.length - (i + 1))
          case measure => omega
          case rel => exact H3.out
    · obtain rfl : i = gs.length := by omega
      have HB := Lib.hid hrb.rw.below
      clear hrb
      go_wp2_with fail
      go_ret
      exact ⟨_, rfl, .inl ⟨rfl, HP.out⟩, HB.out⟩
end Go.Proofs.YtlcpbfklnjlgnaaGreatDoor

namespace Go.Proofs.YtlcpbfklnjlgnaaGreatDoor
open Go.RowKit Go.Extern.Stop Go.Stop Go.Extern

/-- What is asked of a set: it has only links of groups ahead. -/
def NeS (gs : List Gr) (k : Nat) (p q : Nat) : Prop := ∀ j, hasB p q j = true → ∃ i : Nat, i < k ∧ hasB (lnk (grp gs i)).1 (lnk (grp gs i)).2 j = true
structure NeB (w0 : World) (inn top : Int) (gv : Value) (gs : List Gr) (p q : Nat) (W : World) : Prop where
  rw : RwB w0 w0.heap.size inn top gv gs W
  rs : SetAt W (w0.heap.size + 1) 0 0
  st : SetAt W (w0.heap.size + 1 + 1) p q
theorem NeB.step {w0 : World} {inn top : Int} {gv : Value} {gs : List Gr} {p q : Nat} {W W' : World} (h : NeB w0 inn top gv gs p q W) (hb : Below W.heap.size W W') : NeB w0 inn top gv gs p q W' := ⟨h.rw.step hb, h.rs.step hb, h.st.step hb⟩
theorem NeB.start {w : World} {inn top : Int} {gv : Value} {gs : List Gr} (h : GrsAt w gv gs) :
    NeB w inn top gv gs 0 0 (((w.alloc (.cells #[.int .i64 inn, .int .i64 top, gv] 52)).alloc (.cells #[.int .u64 0, .int .u64 0] 56)).alloc (.cells #[.int .u64 0, .int .u64 0] 56)) := by
  have hT := RwB.start (inn := inn) (top := top) h
  have HS := SW.start (w.alloc (.cells #[.int .i64 inn, .int .i64 top, gv] 52)) 0 0
  rw [World.size_alloc] at HS
  exact ⟨hT.step HS.below, HS.set, HS.res⟩
theorem NeB.put {w0 : World} {inn top : Int} {gv : Value} {gs : List Gr} {p q : Nat} {W : World} (h : NeB w0 inn top gv gs p q W) (hg : GrsAt w0 gv gs) (p' q' : Nat) :
    NeB w0 inn top gv gs p' q' ((W.setCell ⟨w0.heap.size + 1 + 1, 0, none⟩ (.int .u64 (p' : Int))).setCell ⟨w0.heap.size + 1 + 1, 1, none⟩ (.int .u64 (q' : Int))) := by
  have hlt := h.st.lt
  have hb : Below (w0.heap.size + 1 + 1) W ((W.setCell ⟨w0.heap.size + 1 + 1, 0, none⟩ (.int .u64 (p' : Int))).setCell ⟨w0.heap.size + 1 + 1, 1, none⟩ (.int .u64 (q' : Int))) :=
    ((Below.refl _ W).setCell (p := ⟨w0.heap.size + 1 + 1, 0, none⟩) (Nat.le_refl _) _).setCell (p := ⟨w0.heap.size + 1 + 1, 1, none⟩) (Nat.le_refl _) _
  have hbw := h.rw.below.trans (hb.mono (by omega))
  refine ⟨⟨by have := h.rw.lt; have := hb.size; omega, (hb.cell (p := ⟨w0.heap.size, 0, none⟩) (by show w0.heap.size < _; omega)).trans h.rw.c0, (hb.cell (p := ⟨w0.heap.size, 1, none⟩) (by show w0.heap.size < _; omega)).trans h.rw.c1, (hb.cell (p := ⟨w0.heap.size, 2, none⟩) (by show w0.heap.size < _; omega)).trans h.rw.c2, hg.step hbw, hbw⟩,
    (h.rs.far (by omega) _ _).far (by omega) _ _, h.st.put _ _⟩
def NeL (w : World) (inn top : Int) (gv : Value) (gs : List Gr) (N : Nat) (g : Nat) (v : Value) (wr : World) : Prop :=
  ∃ i p q : Nat, i ≤ N ∧ g = N - i ∧ v = .int .i64 i ∧ U64 p ∧ U64 q ∧ NeS gs i p q ∧ NeB w inn top gv gs p q wr
def NeP (w : World) (gs : List Gr) (k : Nat) (e : Ending) (w' : World) : Prop := ∃ p q, e = .returned (setV p q) ∧ U64 p ∧ U64 q ∧ NeS gs k p q ∧ Below w.heap.size w w'
theorem NeS.more {gs : List Gr} {k p q : Nat} (h : NeS gs k p q) : NeS gs (k + 1) (p ||| (lnk (grp gs (k : Int))).1) (q ||| (lnk (grp gs (k : Int))).2) := by
  intro j hj
  rw [hasB_or, Bool.or_eq_true] at hj
  rcases hj with hj | hj
  · obtain ⟨i, hi, h'⟩ := h j hj
    exact ⟨i, by omega, h'⟩
  · exact ⟨k, Nat.lt_succ_self k, hj⟩
end Go.Proofs.YtlcpbfklnjlgnaaGreatDoor

namespace Go.Proofs.YtlcpbfklnjlgnaaGreatDoor
open Go.RowKit Go.Extern.Stop Go.Stop Go.Extern

theorem infoOpTc : (Tryz.prog.info? 114).map (fun i => (i.zero, i.size, i.bytes)) = some (some (.agg #[.int .i64 0, .int .i64 0]), 2, 16) := by kernel_rfl
theorem infoEnt : (Tryz.prog.info? 48).map (fun i => (i.zero, i.size, i.bytes)) = some (some (.agg #[.int .i64 0, .slice none 0 0]), 2, 32) := by kernel_rfl
theorem rowT_form {w : World} {B : Nat} {e : TypeId} {sz n : Nat} {v : Value} {xs : List Value} (h : w.ownsRow B e sz v n xs) : ∃ a cap, v = .slice a n cap := by
  rcases h.2 with ⟨rfl, h0⟩ | ⟨g, cap, cur, rfl, -⟩
  · exact ⟨none, 0, by rw [h0]⟩
  · exact ⟨_, cap, rfl⟩
def ClP (w : World) (e : Ending) (w' : World) : Prop := ∃ a n cap, e = .returned (.slice a n cap) ∧ Below w.heap.size w w'
theorem own_empty (w : World) (T : TypeId) : (w.alloc (.cells #[] T)).ownsRow w.heap.size T 2 (.slice (some ⟨w.heap.size, 0, none⟩) 0 0) 0 [] :=
  World.ownsRow_made w #[] 0 (Nat.le_refl _) (by unfold maxLen; omega) rfl
set_option maxRecDepth 100000 in
set_option maxHeartbeats 2000000 in
theorem cloneO_any (v : Value) (c : List (Int × Int)) (w : World) (h : OpsAt w v c) (hl : c.length ≤ 100000) : Calls Tryz.prog 52 #[v] w (ClP w) := by
  obtain ⟨i0, hi, hz0, hz1, hz2⟩ := info_parts infoOpTc
  have HB := Lib.hid (below_new w (.cells #[] 114))
  have HO := Lib.hid (own_empty w 114)
  have heq := fun (a : Option Addr) (n k : Nat) (w : World) => Lib.run_eql_slice_nil (P := Tryz.prog) w 46 114 a n k 0 0 Tryz.underlying46
  have main : ∀ (ad : Addr) (n cap : Nat), n ≤ 100000 → (∀ j u, (opCells c)[j]? = some u → w.cell? (ad.add j) = some u) → c.length = n → Calls Tryz.prog 52 #[.slice (some ad) n cap] w (ClP w) := by
    intro ad n cap hn hc hcn
    have HC := Lib.hid hc
    clear hc h
    go_enter Tryz.func52, Tryz.ntmps52
    go_wp2_with (at_builtin; refine wpList_append_own _ rfl _ _ 46 rfl w.heap.size 114 i0 (.agg #[.int .i64 0, .int .i64 0]) 2 16 Tryz.underlying46 hi hz0 hz1 hz2 rfl (by decide) _ _ _ rfl HO.out ad n cap (opCells c) rfl (by rw [opCells_length, hcn]) ?_ (opCells_one _) ?_ ?_ ?_ ?_)
    · intro j u hu
      have h1 := HC.out j u hu
      have hlt := World.block_lt_of_cell? w _ h1
      exact (HB.out.cell hlt).trans h1
    · unfold maxLen; omega
    · omega
    · exact HB.out.size
    intro v4 w4 hown4 hgrow4 _
    obtain ⟨a4, c4, rfl⟩ := rowT_form hown4
    have HF := Lib.hid (HB.out.grown hgrow4 HB.out.size (fun k e => (HO.out.lt k e).1))
    clear hown4 hgrow4
    go_wp2_with fail
    go_ret
    exact ⟨_, _, _, rfl, HF.out⟩
  rcases h with ⟨a, cap, rfl, rfl⟩ | ⟨b, off, cap, rfl, hb, hc⟩
  · rcases a with _ | ⟨b, off, sp⟩
    · clear main
      go_enter Tryz.func52, Tryz.ntmps52
      go_wp2_with fail
      go_ret
      exact ⟨_, _, _, rfl, Below.refl _ _⟩
    · exact main _ 0 cap (by omega) (fun j u hu => by simp [opCells] at hu) rfl
  · refine main ⟨b, off, none⟩ c.length cap hl (fun j u hu => ?_) rfl
    have e0 : (⟨b, off, none⟩ : Addr).add j = ⟨b, off + j, none⟩ := by unfold Addr.add; split <;> simp_all
    rw [e0]
    have hj := (List.getElem?_eq_some_iff.1 hu).1
    rw [opCells_length] at hj
    obtain ⟨o, ho⟩ : ∃ o, c[j / 2]? = some o := ⟨_, List.getElem?_eq_getElem (by omega)⟩
    obtain ⟨k0, k1⟩ := opCells_at ho
    obtain ⟨m0, m1⟩ := hc _ o ho
    rcases Nat.mod_two_eq_zero_or_one j with hm | hm
    · have e : j / 2 * 2 = j := by omega
      rw [e] at k0 m0
      rw [k0] at hu
      injection hu with hu
      rw [← hu]; exact m0
    · have e : j / 2 * 2 + 1 = j := by omega
      rw [e] at k1
      rw [Nat.add_assoc, e] at m1
      rw [k1] at hu
      injection hu with hu
      rw [← hu]; exact m1
end Go.Proofs.YtlcpbfklnjlgnaaGreatDoor

namespace Go.Proofs.YtlcpbfklnjlgnaaGreatDoor
open Go.RowKit Go.Extern.Stop Go.Stop Go.Extern

abbrev enV (e : En) : Value := .agg #[.int .i64 e.out, .slice e.oa e.on e.oc]
def enCells (l : List En) : List Value := l.flatMap fun e => [.int .i64 e.out, .slice e.oa e.on e.oc]
theorem enCells_append (a b : List En) : enCells (a ++ b) = enCells a ++ enCells b := by unfold enCells; rw [List.flatMap_append]
theorem enCells_length (c : List En) : (enCells c).length = c.length * 2 := by unfold enCells; rw [List.length_flatMap]; simp; induction c with | nil => rfl | cons a c ih => simp [ih]; omega
theorem enCells_at : ∀ {c : List En} {i : Nat} {e : En}, c[i]? = some e → (enCells c)[i * 2]? = some (.int .i64 e.out) ∧ (enCells c)[i * 2 + 1]? = some (.slice e.oa e.on e.oc)
  | [], _, _, h => by simp at h
  | a :: c, 0, e, h => by
    obtain rfl : a = e := by simpa using h
    exact ⟨rfl, rfl⟩
  | a :: c, i + 1, e, h => by
    have := enCells_at (c := c) (i := i) (e := e) (by simpa using h)
    rw [show (i + 1) * 2 = i * 2 + 2 by omega, show i * 2 + 2 + 1 = i * 2 + 1 + 2 by omega]
    unfold enCells at *
    exact this
theorem EntsAt.own {w : World} {base : Nat} {T : TypeId} {v : Value} {n : Nat} {c : List En} (h : w.ownsRow base T 2 v n (enCells c)) (hn : n = c.length) : EntsAt w v c := by
  subst hn
  rcases h.2 with ⟨rfl, h0⟩ | ⟨g, cap, cur, rfl, -, hg, hle, -, hsz, hx⟩
  · exact .inl ⟨none, 0, rfl, List.eq_nil_of_length_eq_zero h0⟩
  · refine .inr ⟨g, 0, cap, rfl, (Array.getElem?_eq_some_iff.1 hg).1, fun i e hi => ?_⟩
    obtain ⟨k0, k1⟩ := enCells_at hi
    rw [← hx] at k0 k1
    rw [List.getElem?_take] at k0 k1
    have hlt := (List.getElem?_eq_some_iff.1 hi).1
    rw [if_pos (by omega)] at k0 k1
    rw [Lib.cell_of_heap hg, Lib.cell_of_heap hg]
    exact ⟨by simpa using k0, by simpa using k1⟩
set_option maxRecDepth 100000 in
set_option maxHeartbeats 1000000 in
theorem next1_any (e : En) (fa fb : Nat) (ua : U64 fa) (ub : U64 fb) (C : Nat) (w : World) (hc : SetAt w C fa fb) :
    Calls Tryz.prog 33 #[enV e, .pointer (some ⟨C, 0, none⟩)] w fun e' w' => e' = .returned (.bool (!hasI fa fb e.out)) ∧ Below w.heap.size w w' := by
  have hb := below_new w (.cells #[.int .i64 e.out, .slice e.oa e.on e.oc] 48)
  have hc' := hc.step hb
  have HB := Lib.hid hb
  have HH := Lib.hid (fun W => has_any fa fb e.out ua ub W)
  obtain ⟨k0, k1, -⟩ := hc'.cells
  clear hb hc hc'
  generalize hasI fa fb e.out = x at *
  go_enter Tryz.func33, Tryz.ntmps33
  go_wp2_with fail
  refine (HH.out _).mono ?_
  rintro e' w2 ⟨rfl, b2⟩
  go_wp2_with fail
  go_ret
  exact ⟨rfl, HB.out.trans (b2.mono HB.out.size)⟩
/-- In a round of picking. -/
structure PkS (w : World) (l : List En) (v : Value) (C : Nat) (e : En) (W : World) : Prop where
  own : W.ownsRow w.heap.size 48 2 v l.length (enCells l)
  bx : W.heap[C]? = some (.cells #[.int .i64 e.out, .slice e.oa e.on e.oc] 48 (0, 0))
  co : v.ownBlock ≠ some C
  below : Below w.heap.size w W
theorem PkS.step {w : World} {l : List En} {v : Value} {C : Nat} {e : En} {W W' : World} (h : PkS w l v C e W) (hb : Below W.heap.size W W') : PkS w l v C e W' :=
  ⟨h.own.kept (grown_of_below hb) (by cases Value.ownBlock v <;> simp), (hb.block _ (Array.getElem?_eq_some_iff.1 h.bx).1).trans h.bx, h.co, h.below.trans (hb.mono h.below.size)⟩
theorem PkS.cells {w : World} {l : List En} {v : Value} {C : Nat} {e : En} {W : World} (h : PkS w l v C e W) : W.cell? ⟨C, 0, none⟩ = some (.int .i64 e.out) ∧ W.cell? ⟨C, 1, none⟩ = some (.slice e.oa e.on e.oc) :=
  ⟨by rw [Lib.cell_of_heap h.bx]; rfl, by rw [Lib.cell_of_heap h.bx]; rfl⟩
theorem PkS.start {w W : World} {l : List En} {v : Value} (h : W.ownsRow w.heap.size 48 2 v l.length (enCells l)) (hb : Below w.heap.size w W) (e : En) : PkS w l v W.heap.size e (W.alloc (.cells #[.int .i64 e.out, .slice e.oa e.on e.oc] 48)) :=
  ⟨h.alloc _, heap_alloc_new W _, fun e => absurd (h.lt _ e).2 (Nat.lt_irrefl _), hb.trans ((below_new W _).mono hb.size)⟩
theorem PkS.grown {w : World} {l : List En} {v : Value} {C : Nat} {e : En} {W W' : World} (h : PkS w l v C e W) (hg : W.grownBy W' v.ownBlock) : (W'.cell? ⟨C, 0, none⟩ = some (.int .i64 e.out) ∧ W'.cell? ⟨C, 1, none⟩ = some (.slice e.oa e.on e.oc)) ∧ Below w.heap.size w W' :=
  ⟨⟨hg.cell h.cells.1 (Ne.symm h.co), hg.cell h.cells.2 (Ne.symm h.co)⟩, h.below.grown hg h.below.size (fun k e => (h.own.lt k e).1)⟩
def PkR (w : World) (P : En → Bool) (es : List En) (g : Nat) (u v : Value) (wr : World) : Prop :=
  ∃ (i : Nat) (l : List En), i ≤ es.length ∧ g = es.length - i ∧ u = .int .i64 i ∧ wr.ownsRow w.heap.size 48 2 v l.length (enCells l) ∧ l.map (·.out) = ((es.take i).filter P).map (·.out) ∧ Below w.heap.size w wr
def PkP (w : World) (P : En → Bool) (es : List En) (e : Ending) (w' : World) : Prop :=
  ∃ v l, e = .returned v ∧ EntsAt w' v l ∧ l.map (·.out) = (es.filter P).map (·.out) ∧ Below w.heap.size w w'
theorem filt_take {P : En → Bool} {es : List En} {i : Nat} {e : En} (h : es[i]? = some e) : ((es.take (i + 1)).filter P).map (·.out) = ((es.take i).filter P).map (·.out) ++ if P e then [e.out] else [] := by
  rw [List.take_add_one, h, Option.toList_some, List.filter_append, List.map_append]
  cases hp : P e <;> simp [hp]
set_option maxRecDepth 100000 in
set_option maxHeartbeats 8000000 in
theorem picked_any (fa fb : Nat) (ua : U64 fa) (ub : U64 fb) (C : Nat) (v : Value) (es : List En) (w : World) (hv : EntsAt w v es) (ho : OpsIn w es) (hon : ∀ (i : Nat) (e : En), es[i]? = some e → e.on ≤ 1000) (hl : es.length ≤ 1000) (hc : SetAt w C fa fb) :
    Calls Tryz.prog 32 #[v, .func (.func 33) #[] #[.pointer (some ⟨C, 0, none⟩)]] w (PkP w (fun e => !hasI fa fb e.out) es) := by
  obtain ⟨i0, hi, hz0, hz1, hz2⟩ := info_parts infoEnt
  obtain ⟨va, vcap, rfl⟩ := hv.form
  have HV := Lib.hid hv
  have HN := Lib.hid (fun e W (h : SetAt W C fa fb) => next1_any e fa fb ua ub C W h)
  have HCS := Lib.hid hc
  have HOp := Lib.hid ho
  have HON := Lib.hid hon
  clear hv hc ho hon
  go_enter Tryz.func32, Tryz.ntmps32
  go_wp2_with fail
  go_loopg [10, 5] es.length (fun g u v wr => PkR w (fun e => !hasI fa fb e.out) es g u v wr)
  case atStart => exact ⟨0, [], Nat.zero_le _, by omega, rfl, World.ownsRow_nil _ _ _ _, rfl, Below.refl _ _⟩
  case round =>
    obtain ⟨i, l, hil, hgi, rfl, hown, hle, hb⟩ := hrel
    by_cases hlt : i < es.length
    · obtain ⟨e, hx⟩ : ∃ e, es[i]? = some e := ⟨_, List.getElem?_eq_getElem hlt⟩
      obtain ⟨b2, off2, rfl, c0, c1⟩ := HV.out.at hx hb
      have hE := filt_take (P := fun e => !hasI fa fb e.out) hx
      obtain ⟨oc, hoc⟩ := HOp.out i e hx
      have hlen : l.length ≤ 1000 := by
        have e1 := congrArg List.length hle
        rw [List.length_map, List.length_map] at e1
        have := List.length_filter_le (fun e => !hasI fa fb e.out) (es.take i)
        rw [List.length_take] at this
        omega
      have honl := HON.out i e hx
      have hocl : oc.length = e.on := by
        obtain ⟨_, _, h⟩ := hoc.form
        injection h with _ h _
        exact h.symm
      have HOC := Lib.hid (fun W (h : Below w.heap.size w W) => cloneO_any _ oc W (hoc.step h) (by omega))
      have hS := PkS.start hown hb e
      have HN2 := Lib.hid (HN.out e _ (HCS.out.step hS.below))
      have HS := Lib.hid hS
      have HLE := Lib.hid (And.intro hle hE)
      clear hown hle hb hx hE hoc hS hocl honl
      cases hp : hasI fa fb e.out with
      | true =>
        rw [hp] at HN2
        have HP := Lib.hid hp
        clear hp
        go_wp2_with fail
        refine HN2.out.mono ?_
        rintro e' w3 ⟨rfl, b3⟩
        have HS3 := Lib.hid (HS.out.step b3)
        go_wp2_with fail
        go_roundg (es.length - (i + 1))
        case measure => omega
        case rel => exact ⟨i + 1, l, by omega, rfl, by go_num, HS3.out.own, by rw [HLE.out.2, ← HLE.out.1, HP.out]; simp, HS3.out.below⟩
      | false =>
        rw [hp] at HN2
        have HP := Lib.hid hp
        clear hp
        go_wp2_with fail
        refine HN2.out.mono ?_
        rintro e' w3 ⟨rfl, b3⟩
        have hI := (HS.out.step b3).step (Below.refl _ _).drew
        clear HS b3 HN2 c0 c1
        go_wp2_with fail
        have kk := hI.cells
        go_region_held3 (fun w' => w'.cell? ⟨wr.heap.size, 0, none⟩ = some (.int .i64 e.out) ∧ w'.cell? ⟨wr.heap.size, 1, none⟩ = some (.slice e.oa e.on e.oc))
          (first | exact kk | exact hI.cells | exact (hI.step (below_new _ _)).cells | exact hX.1)
          (first
          | (go_at_call 52; refine (HOC.out _ hI.below).mono ?_; rintro e' w4 ⟨ca, cn, cc, rfl, b4⟩; replace hI := hI.step b4)
          | (refine step_append_lies _ (by rfl) _ _ _ (by rfl) w.heap.size 48 i0 _ 2 32 Tryz.underlying49 hi hz0 hz1 hz2 rfl (by omega) _ l.length (enCells l) (by rfl) (hI.step (below_new _ (.cells #[.int .i64 e.out, .slice ca cn cc] 48))).own ⟨w4.heap.size, 0, none⟩ 1 1 [.int .i64 e.out, .slice ca cn cc] (by rfl) (by rfl) (World.news_of_block (cs := #[.int .i64 e.out, .slice ca cn cc]) (t := 48) (fr := (0, 0)) (heap_alloc_new w4 _)) (by simp [Value.oneCell']) (by omega) (by unfold maxLen; omega) (by omega) (hI.step (below_new _ _)).below.size _ rfl ?_; intro gg cap w5 hown1 hgrow hat hlt5; have hX := (hI.step (below_new _ (.cells #[.int .i64 e.out, .slice ca cn cc] 48))).grown hgrow))
        have HF : Hid (PkR w (fun e => !hasI fa fb e.out) es (es.length - (i + 1)) (.int .i64 ((i : Int) + 1)) (.slice (some ⟨gg, 0, none⟩) (l.length + 1) cap) w5) := Lib.hid ⟨i + 1, l ++ [⟨e.out, ca, cn, cc⟩], by omega, rfl, by go_num, by rw [enCells_append, List.length_append]; exact hown1, by rw [HLE.out.2, ← HLE.out.1, HP.out, List.map_append]; simp, hX.2⟩
        clear hI kk hX hown1 hgrow hat hlt5
        go_wp2_with fail
        go_roundg (es.length - (i + 1))
        case measure => omega
        case rel => exact HF.out
    · obtain rfl : i = es.length := by omega
      rw [List.take_length] at hle
      have HF := Lib.hid (And.intro (EntsAt.own hown rfl) (And.intro hle hb))
      obtain ⟨ra, rc, rfl⟩ := rowT_form hown
      clear hown hle hb
      go_wp2_with fail
      go_ret
      exact ⟨_, l, rfl, HF.out.1, HF.out.2.1, HF.out.2.2⟩
end Go.Proofs.YtlcpbfklnjlgnaaGreatDoor

namespace Go.Proofs.YtlcpbfklnjlgnaaGreatDoor
open Go.RowKit Go.Extern.Stop Go.Stop Go.Extern

def OpsG (w : World) (gs : List Gr) : Prop := ∀ (i : Nat) (g : Gr), gs[i]? = some g → OpsIn w g.es
theorem OpsG.step {w w' : World} {gs : List Gr} (h : OpsG w gs) (hb : Below w.heap.size w w') : OpsG w' gs := fun i g hi => (h i g hi).step hb
def NxP (w : World) (gs : List Gr) (fa fb : Nat) (e : Ending) (w' : World) : Prop :=
  ∃ a v l, e = .returned v ∧ ActR gs fa fb a ∧ EntsAt w' v l ∧ l.map (·.out) = ((grp gs a).filter fun e => !hasI fa fb e.out).map (·.out) ∧ Below w.heap.size w w'
theorem ActR.lt {gs : List Gr} {fa fb : Nat} {a : Int} (h : ActR gs fa fb a) : a = -1 ∨ ∃ k : Nat, a = k ∧ k < gs.length := by
  rcases h with ⟨h, -⟩ | ⟨k, h, h', -⟩
  · exact .inl h
  · exact .inr ⟨k, h, h'⟩
set_option maxRecDepth 100000 in
set_option maxHeartbeats 4000000 in
theorem next_any (inn top : Int) (gv : Value) (gs : List Gr) (fa fb : Nat) (ua : U64 fa) (ub : U64 fb) (w : World) (hg : GrsAt w gv gs) (hl : LightR gs) (ho : OpsG w gs) :
    Calls Tryz.prog 13 #[rowV inn top gv, setV fa fb] w (NxP w gs fa fb) := by
  have HR := Lib.hid (RfB.start (inn := inn) (top := top) hg fa fb)
  obtain ⟨ga, gcap, rfl⟩ := hg.form
  have HAc := Lib.hid (fun W (h : GrsAt W (.slice ga gs.length gcap) gs) => active_any inn top _ gs fa fb ua ub W h hl)
  have HPk := Lib.hid (fun v (es : List En) W (hv : EntsAt W v es) (ho : OpsIn W es) hon hl (hc : SetAt W (w.heap.size + 1) fa fb) => picked_any fa fb ua ub (w.heap.size + 1) v es W hv ho hon hl hc)
  have HG := Lib.hid hg
  have HO := Lib.hid ho
  have HL := Lib.hid hl
  obtain ⟨k0, k1, k2, k3, k4⟩ := HR.out.cells
  clear hg hl ho
  go_enter Tryz.func13, Tryz.ntmps13
  go_wp2_with fail
  refine (HAc.out _ HR.out.rw.gr).mono ?_
  rintro e w2 ⟨a, rfl, hA, b2⟩
  have HR2 := Lib.hid (HR.out.step b2)
  have HA := Lib.hid hA
  clear b2 HR k0 k1 k2 k3 k4 HAc
  rcases hA.lt with rfl | ⟨k, rfl, hk⟩
  · clear hA
    go_wp2_with fail
    go_ret
    exact ⟨-1, _, [], rfl, HA.out, .inl ⟨_, _, rfl, rfl⟩, rfl, HR2.out.rw.below⟩
  · clear hA
    obtain ⟨x, hx⟩ : ∃ x, gs[k]? = some x := ⟨_, List.getElem?_eq_getElem hk⟩
    obtain ⟨b, off, rfl, c0, hes⟩ := HG.out.at hx HR2.out.rw.below
    have HP := Lib.hid (HPk.out _ x.es _ hes ((HO.out k x hx).step HR2.out.rw.below) (fun i e hi => Nat.le_trans (HL.out.on k x hx i e hi) (by omega)) (Nat.le_trans (HL.out.m k x hx) (by omega)) HR2.out.fl)
    have HE := Lib.hid (grp_at hx)
    have k2 := HR2.out.rw.c2
    clear hes hx HPk
    go_wp2_with fail
    refine HP.out.mono ?_
    rintro e w3 ⟨v, l, rfl, hv, hl, b3⟩
    have HV := Lib.hid (And.intro hv hl)
    obtain ⟨va, vc, rfl⟩ := hv.form
    clear hv hl
    go_wp2_with fail
    go_ret
    exact ⟨k, _, l, rfl, HA.out, HV.out.1, by rw [HE.out]; exact HV.out.2, HR2.out.rw.below.trans (b3.mono HR2.out.rw.below.size)⟩
end Go.Proofs.YtlcpbfklnjlgnaaGreatDoor
