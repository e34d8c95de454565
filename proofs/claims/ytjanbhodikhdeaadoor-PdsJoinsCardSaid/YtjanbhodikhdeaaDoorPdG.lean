/-
  Chapter 21's law: whether a system is gone through; a configuration as the document's; whether two are the same, by the program and by the document.
-/
import Derived.Test.YtjanbhodikhdeaaDoorPdF
import Derived.Test.YtjanbhodikhdeaaDoorIntS
namespace Go.Proofs.YtjanbhodikhdeaaDoor
open Go.RowKit Go.Extern.Stop Go.Stop Go.Extern

/-! ### Light -/
def LiP (P : Prop) (w : World) (e : Ending) (w' : World) : Prop := ∃ b : Bool, e = .returned (.bool b) ∧ (b = true → P) ∧ Below w.heap.size w w'
set_option maxRecDepth 100000 in
set_option maxHeartbeats 8000000 in
theorem light21_any (S L : Int) (v : Value) (rs : List Ru) (most : Nat) (hmost : most ≤ 1000000) (w : World) (hv : RusAt w v rs) :
    Calls Tryd.prog 18 #[sysV S L v, .int .i64 (most : Int)] w (LiP (rs.length ≤ most ∧ Short rs 10) w) := by
  obtain ⟨va, vc, rfl⟩ := hv.form
  have HV := Lib.hid hv
  have hS := SyS.start w 24 S L (.slice va rs.length vc)
  have HS := Lib.hid hS
  obtain ⟨s0, s1, s2⟩ := cells3 hS.bx
  clear hv hS
  by_cases hm : rs.length ≤ most
  · have hm' : ¬ (most : Int) < (rs.length : Int) := by omega
    have HM := Lib.hid hm
    go_enter Tryd.func18, Tryd.ntmps18
    go_wp2_with fail
    generalize w.alloc (.cells #[.int .i64 S, .int .i64 L, .slice va rs.length vc] 24) = w1 at *
    go_loopg [15] rs.length (fun g u wr => ∃ i : Nat, i ≤ rs.length ∧ g = rs.length - i ∧ u = .int .i64 i ∧ (∀ (j : Nat) (r : Ru), j < i → rs[j]? = some r → r.push.length ≤ 10) ∧ Below w.heap.size w wr)
    case atStart => exact ⟨0, Nat.zero_le _, by omega, rfl, fun j r hj => absurd hj (Nat.not_lt_zero _), HS.out.below⟩
    case round =>
      obtain ⟨i, hi, hgi, rfl, hok, hb⟩ := hrel
      by_cases hlt : i < rs.length
      · obtain ⟨r, hr⟩ : ∃ r, rs[i]? = some r := ⟨_, List.getElem?_eq_getElem hlt⟩
        obtain ⟨b, off, pa, pc, rfl, k0, k1, k2, k3, k4, hp⟩ := HV.out.at hr hb
        obtain ⟨fr, top, to, push, cost⟩ := r
        replace k0 : wr.cell? ⟨b, off + i * 5, none⟩ = some (.int .i64 fr) := k0
        replace k1 : wr.cell? ⟨b, off + i * 5 + 1, none⟩ = some (.int .i64 top) := k1
        replace k2 : wr.cell? ⟨b, off + i * 5 + 2, none⟩ = some (.int .i64 to) := k2
        replace k3 : wr.cell? ⟨b, off + i * 5 + 3, none⟩ = some (.slice pa push.length pc) := k3
        replace k4 : wr.cell? ⟨b, off + i * 5 + 4, none⟩ = some (.int .u64 cost) := k4
        have hn := heap_alloc_new wr (.cells #[.int .i64 fr, .int .i64 top, .int .i64 to, .slice pa push.length pc, .int .u64 cost] 46)
        have HB := Lib.hid (hb.trans ((sbelow_new wr (.cells #[.int .i64 fr, .int .i64 top, .int .i64 to, .slice pa push.length pc, .int .u64 cost] 46)).mono hb.size))
        obtain ⟨n0, n1, n2, n3, n4⟩ := cells5 hn
        have HOK := Lib.hid hok
        have HR := Lib.hid hr
        clear hok hb hr hn hp
        by_cases hl : push.length ≤ 10
        · have hl' : ¬ (10 : Int) < (push.length : Int) := by omega
          have HL := Lib.hid hl
          go_wp2_with fail
          go_roundg (rs.length - (i + 1))
          case measure => omega
          case rel => exact ⟨i + 1, by omega, rfl, by go_num, fun j r hj hjr => by
            rcases Nat.lt_or_ge j i with h | h
            · exact HOK.out j r h hjr
            · obtain rfl : j = i := by omega
              rw [HR.out] at hjr
              obtain rfl := Option.some.inj hjr
              exact HL.out, HB.out⟩
        · have hl' : (10 : Int) < (push.length : Int) := by omega
          go_wp2_with fail
          go_ret
          exact ⟨_, rfl, fun h => (by cases h), HB.out⟩
      · obtain rfl : i = rs.length := by omega
        have HE := Lib.hid (And.intro hok hb)
        clear hok hb
        go_wp2_with fail
        go_ret
        exact ⟨_, rfl, fun _ => ⟨HM.out, fun j r hjr => HE.out.1 j r (List.getElem?_eq_some_iff.1 hjr).1 hjr⟩, HE.out.2⟩
  · have hm' : (most : Int) < (rs.length : Int) := by omega
    go_enter Tryd.func18, Tryd.ntmps18
    go_wp2_with fail
    go_ret
    exact ⟨_, rfl, fun h => (by cases h), HS.out.below⟩

/-! ### Conf -/
/-- A configuration as a value. -/
abbrev cfV (s : Int) (v : Value) : Value := .agg #[.int .i64 s, v]
def CoP (s : Int) (l : List Int) (w : World) (e : Ending) (w' : World) : Prop := ∃ a c, e = .returned (cfV s (.slice a l.length c)) ∧ w'.ownsRow w.heap.size 3 1 (.slice a l.length c) l.length (encI l) ∧ Below w.heap.size w w'
theorem two_new (w : World) (T T' : TypeId) (u0 u1 z0 z1 : Value) :
    ((w.alloc (.cells #[u0, u1] T)).alloc (.cells #[z0, z1] T')).heap[w.heap.size]? = some (.cells #[u0, u1] T (0, 0)) ∧ ((w.alloc (.cells #[u0, u1] T)).alloc (.cells #[z0, z1] T')).heap[w.heap.size + 1]? = some (.cells #[z0, z1] T' (0, 0)) ∧
    Below w.heap.size w ((w.alloc (.cells #[u0, u1] T)).alloc (.cells #[z0, z1] T')) := by
  have b1 := sbelow_new w (.cells #[u0, u1] T)
  have h1 := heap_alloc_new w (.cells #[u0, u1] T)
  have z1' : (w.alloc (.cells #[u0, u1] T)).heap.size = w.heap.size + 1 := World.size_alloc _ _
  generalize w.alloc (.cells #[u0, u1] T) = w1 at *
  have b2 := sbelow_new w1 (.cells #[z0, z1] T')
  have h2 := heap_alloc_new w1 (.cells #[z0, z1] T')
  rw [z1'] at h2
  exact ⟨blk h1 b2, h2, b1.trans (b2.mono (by omega))⟩
end Go.Proofs.YtjanbhodikhdeaaDoor
