/-
  Systems with a stack in memory: rows of rules, each with its row of labels.
-/
import Derived.Test.YtjanbhodikhdeaaDoorPdA
import Derived.Test.YtjanbhodikhdeaaDoorIntA
import Derived.Test.YtjanbhodikhdeaaDoorScanA
namespace Go.Proofs.YtjanbhodikhdeaaDoor
open Go.RowKit Go.Extern.Stop Go.Stop Go.Extern

/-- A row of rules. -/
def RusAt (w : World) (v : Value) (rs : List Ru) : Prop :=
  (∃ a cap, v = .slice a 0 cap ∧ rs = []) ∨ ∃ b off cap, v = .slice (some ⟨b, off, none⟩) rs.length cap ∧ b < w.heap.size ∧
    ∀ i r, rs[i]? = some r → ∃ pa pc, w.cell? ⟨b, off + i * 5, none⟩ = some (.int .i64 r.fr) ∧ w.cell? ⟨b, off + i * 5 + 1, none⟩ = some (.int .i64 r.top) ∧ w.cell? ⟨b, off + i * 5 + 2, none⟩ = some (.int .i64 r.to) ∧
      w.cell? ⟨b, off + i * 5 + 3, none⟩ = some (.slice pa r.push.length pc) ∧ w.cell? ⟨b, off + i * 5 + 4, none⟩ = some (.int .u64 r.cost) ∧ IntsAt w (.slice pa r.push.length pc) r.push
theorem RusAt.form {w : World} {v : Value} {l : List Ru} (h : RusAt w v l) : ∃ a cap, v = .slice a l.length cap := by
  rcases h with ⟨a, cap, rfl, rfl⟩ | ⟨b, off, cap, rfl, -⟩
  · exact ⟨a, cap, rfl⟩
  · exact ⟨_, cap, rfl⟩
theorem RusAt.step {w w' : World} {v : Value} {l : List Ru} (h : RusAt w v l) (hb : Below w.heap.size w w') : RusAt w' v l := by
  rcases h with h | ⟨b, off, cap, e, hlt, hc⟩
  · exact .inl h
  · refine .inr ⟨b, off, cap, e, Nat.lt_of_lt_of_le hlt hb.size, fun i p hp => ?_⟩
    obtain ⟨pa, pc, h0, h1, h2, h3, h4, h5⟩ := hc i p hp
    exact ⟨pa, pc, (hb.cell (p := ⟨b, off + i * 5, none⟩) hlt).trans h0, (hb.cell (p := ⟨b, off + i * 5 + 1, none⟩) hlt).trans h1, (hb.cell (p := ⟨b, off + i * 5 + 2, none⟩) hlt).trans h2, (hb.cell (p := ⟨b, off + i * 5 + 3, none⟩) hlt).trans h3,
      (hb.cell (p := ⟨b, off + i * 5 + 4, none⟩) hlt).trans h4, h5.step hb⟩
/-- One rule of a row, in whatever memory comes later. -/
theorem RusAt.at {w w' : World} {a : Option Addr} {n cap : Nat} {l : List Ru} (h : RusAt w (.slice a n cap) l) {i : Nat} {r : Ru} (hi : l[i]? = some r) (hb : Below w.heap.size w w') :
    ∃ b off pa pc, a = some ⟨b, off, none⟩ ∧ w'.cell? ⟨b, off + i * 5, none⟩ = some (.int .i64 r.fr) ∧ w'.cell? ⟨b, off + i * 5 + 1, none⟩ = some (.int .i64 r.top) ∧ w'.cell? ⟨b, off + i * 5 + 2, none⟩ = some (.int .i64 r.to) ∧
      w'.cell? ⟨b, off + i * 5 + 3, none⟩ = some (.slice pa r.push.length pc) ∧ w'.cell? ⟨b, off + i * 5 + 4, none⟩ = some (.int .u64 r.cost) ∧ IntsAt w' (.slice pa r.push.length pc) r.push := by
  rcases h.step hb with ⟨a, cap, -, rfl⟩ | ⟨b, off, cap, e, hlt, hc⟩
  · simp at hi
  · injection e with e
    obtain ⟨pa, pc, h⟩ := hc i r hi
    exact ⟨b, off, pa, pc, e, h⟩
/-- .. its push as it lay at first. -/
theorem RusAt.at0 {w w' : World} {a : Option Addr} {n cap : Nat} {l : List Ru} (h : RusAt w (.slice a n cap) l) {i : Nat} {r : Ru} (hi : l[i]? = some r) (hb : Below w.heap.size w w') :
    ∃ b off pa pc, a = some ⟨b, off, none⟩ ∧ w'.cell? ⟨b, off + i * 5, none⟩ = some (.int .i64 r.fr) ∧ w'.cell? ⟨b, off + i * 5 + 1, none⟩ = some (.int .i64 r.top) ∧ w'.cell? ⟨b, off + i * 5 + 2, none⟩ = some (.int .i64 r.to) ∧
      w'.cell? ⟨b, off + i * 5 + 3, none⟩ = some (.slice pa r.push.length pc) ∧ w'.cell? ⟨b, off + i * 5 + 4, none⟩ = some (.int .u64 r.cost) ∧ IntsAt w (.slice pa r.push.length pc) r.push ∧ b < w.heap.size := by
  rcases h with ⟨a, cap, -, rfl⟩ | ⟨b, off, cap, e, hlt, hc⟩
  · simp at hi
  · injection e with e
    obtain ⟨pa, pc, h0, h1, h2, h3, h4, h5⟩ := hc i r hi
    exact ⟨b, off, pa, pc, e, (hb.cell (p := ⟨b, off + i * 5, none⟩) hlt).trans h0, (hb.cell (p := ⟨b, off + i * 5 + 1, none⟩) hlt).trans h1, (hb.cell (p := ⟨b, off + i * 5 + 2, none⟩) hlt).trans h2, (hb.cell (p := ⟨b, off + i * 5 + 3, none⟩) hlt).trans h3,
      (hb.cell (p := ⟨b, off + i * 5 + 4, none⟩) hlt).trans h4, h5, hlt⟩
theorem IntsAt.blk {w : World} {a : Option Addr} {n c : Nat} {l : List Int} (h : IntsAt w (.slice a n c) l) : ∀ ad, a = some ad → 0 < l.length → ad.block < w.heap.size := by
  intro ad ha h0
  rcases h with ⟨_, _, _, rfl⟩ | ⟨b, off, cap, e, hlt, _⟩
  · cases h0
  · injection e with e
    rw [ha] at e
    obtain rfl := Option.some.inj e
    exact hlt
/-- A rule as a value. -/
abbrev ruV (r : Ru) (pa : Option Addr) (pc : Nat) : Value := .agg #[.int .i64 r.fr, .int .i64 r.top, .int .i64 r.to, .slice pa r.push.length pc, .int .u64 r.cost]
/-- The cells of a rule. -/
abbrev ruCs (r : Ru) (pa : Option Addr) (pc : Nat) : List Value := [.int .i64 r.fr, .int .i64 r.top, .int .i64 r.to, .slice pa r.push.length pc, .int .u64 r.cost]
end Go.Proofs.YtjanbhodikhdeaaDoor
