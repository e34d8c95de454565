/-
  From a law's walk to its row and its card, for the laws of the seat whose row lists the library's table of lowest bits: a call that answers true and leaves old memory as it was gives what the row asks; what the condition gives a walk; sets, numbers and rows of numbers among the arguments.
  A slice of numbers among a law's arguments, as the walk of BitsOf speaks of it.
  From a law's walk to its row, for the laws whose row lists the library's table of lowest bits and the handle of 'error': what the condition gives a walk.
-/
import Derived.Test.YtlcpbfklnjlgnaaGreatDoorRows
import Derived.Test.YtlcpbfklnjlgnaaGreatDoorCards
import Derived.Test.YtlcpbfklnjlgnaaGreatDoorTie
import Derived.Test.YtlcpbfklnjlgnaaGreatDoorGe
import Derived.ProofKit
import Derived.ChangeSame
import Derived.ChangeVars
import Derived.JoinedOf
import Derived.LaidLaws
import Derived.LaidMore
import Derived.Lib.LaidTab
import Derived.Stop.Joined
import Derived.Test.YtlcpbfklnjlgnaaGreatDoorGb
import Derived.LaidHandle
namespace Go.Proofs.YtlcpbfklnjlgnaaGreatDoor
open Go.ChangeShapes Go.WideShapes Go.ChangeAt Go.RowKit

theorem Tryz.own : ownKnob Tryz.prog.godebug = none := by kernel_rfl
theorem Tryz.laidOut : laidOutB Tryz.prog = true := by kernel_rfl
/-- The listed variable. -/
def loneT : List (String × DataW Unit) := [("math/bits.deBruijn64tab", Rows.laid_math_bits_deBruijn64tab)]
theorem tab_data : (Rows.laid_math_bits_deBruijn64tab : DataW Unit) = Lib.tabData .u8 (Lib.deBruijn64tab.map Int.ofNat) := by kernel_rfl
theorem tabGlobal : Tryz.prog.globalNamed "math/bits.deBruijn64tab" = some 1 := by kernel_rfl
theorem tabType : (Tryz.prog.globals[1]?).map (·.type) = some 212 := by kernel_rfl
theorem tabCells : Tryz.prog.cellsOf 212 = 64 := by kernel_rfl
theorem tabCell : Tryz.prog.cellsOf 5 = 1 := by kernel_rfl
theorem tab_of_laid {W : World} (h : laidMet Tryz.prog loneT W) : TabB W := by
  have h' : laidMet Tryz.prog (("math/bits.deBruijn64tab", Lib.tabData .u8 (Lib.deBruijn64tab.map Int.ofNat)) :: []) W := by rw [← tab_data]; exact h
  have ht := Lib.tabIs_of_head tabGlobal tabType Tryz.underlying212 Tryz.underlying5 tabCell tabCells h'
  unfold Lib.TabIs at ht
  have hc := fun i => World.var?_cell tabGlobal ht i
  refine ⟨?_, fun j hj => ?_⟩
  · have := hc 0
    exact World.block_lt_of_cell? W ⟨1, 0, none⟩ (this.trans rfl)
  · have := hc j
    rw [this]
    simp [hj]

noncomputable def laidWorldT (os : Os) : World := World.doorLaid Tryz.prog 400 os
/-- The door's own heap meets the condition. -/
theorem laidWorldT_met (os : Os) (args : Array Value) : laidMetH Tryz.prog loneT ((laidWorldT os).forCall (fun _ _ => 0) ⟨#[], args, []⟩).memory :=
  laidMetH_of_parts3 (fuel := 8) (laidMet_of_run' 8 (by kernel_rfl) (by kernel_rfl)) (by kernel_rfl) (by kernel_rfl)
theorem u64_bd {n : Int} (h : (Lit.int .u64 n).wf = true) : 0 ≤ n ∧ n ≤ 18446744073709551615 := by
  simp [Lit.wf] at h
  have e : IntKind.u64.min = 0 := rfl
  have e' : IntKind.u64.max = 18446744073709551615 := rfl
  omega
theorem i64_bd {n : Int} (h : (Lit.int .i64 n).wf = true) : -9223372036854775808 ≤ n ∧ n ≤ 9223372036854775807 := by
  simp [Lit.wf] at h
  have e : IntKind.i64.min = -9223372036854775808 := rfl
  have e' : IntKind.i64.max = 9223372036854775807 := rfl
  omega
theorem u8_bd {n : Int} (h : (Lit.int .u8 n).wf = true) : 0 ≤ n ∧ n ≤ 255 := by
  simp [Lit.wf] at h
  have e : IntKind.u8.min = 0 := rfl
  have e' : IntKind.u8.max = 255 := rfl
  omega
theorem cellsSet : Tryz.prog.cellsOf 56 = 2 := by kernel_rfl
theorem cells64 : Tryz.prog.cellsOf 54 = 1 := by kernel_rfl
theorem cellsInt : Tryz.prog.cellsOf 3 = 1 := by kernel_rfl
section
variable {H : Type} {enc : TypeId × Value → H}

/-- Each argument reads behind the call as it read before it. -/
theorem trodAll_below {W W' : World} (hb : Below W.heap.size W W') : ∀ {ts : List TypeId} {vs : List Value} {ds : List (DataW H)} {ps : List MemPlace},
    (∀ t ∈ ts, Tryz.prog.readableRec t = true ∧ t < Tryz.prog.types.size) → DataW.TrodAll enc Tryz.prog W 0 (fun _ => true) true ts vs ds ps → (∀ x ∈ ps, x.block < W.heap.size) →
    DataW.TrodAll enc Tryz.prog W' 0 (fun b => decide (b < W.heap.size)) true ts vs ds ps
  | [], [], [], _, _, h, _ => h
  | [], _ :: _, _, _, _, h, _ => h.elim
  | [], [], _ :: _, _, _, h, _ => h.elim
  | _ :: _, [], _, _, _, h, _ => h.elim
  | _ :: _, _ :: _, [], _, _, h, _ => h.elim
  | t :: ts, v :: vs, d :: ds, _, hr, ⟨p, q, h1, h2, e⟩, hlt => by
    subst e
    exact ⟨p, q, Below.trod Tryz.laidOut (hr t (by simp)).1 (hr t (by simp)).2 h1 hb (fun x hx => hlt x (by simp [hx])), trodAll_below hb (fun t' ht => hr t' (by simp [ht])) h2 (fun x hx => hlt x (by simp [hx])), rfl⟩

/-- A call that answers true, and turns nothing old, gives what a law's row asks. -/
theorem law_post {f : Func} {s : ChangeSpec} {W W' : World} {args : Array Value} {ds gs : List (DataW H)} {ps : List MemPlace} (hres : f.resultTypes = #[4]) (hvars : s.vars = [])
    (hts : ∀ t ∈ f.params.toList, Tryz.prog.readableRec t = true ∧ t < Tryz.prog.types.size)
    (hW : DataW.Whole enc Tryz.prog f.params.toList s.vars false W args.toList ds gs ps) (hb : Below W.heap.size W W')
    (er : (s.fn H ds).results = [.lit (.bool true)]) (ea : (s.fn H ds).args = ds) (ev : (s.fn H ds).vars = []) :
    s.post enc Tryz.prog f false true false false W args (.bool true) W' := by
  have hW' := hW
  obtain ⟨p, q, hA, hV, rfl, hfz, hnd⟩ := hW
  have hlt : ∀ x ∈ p, x.block < W.heap.size := fun x hx => hW'.lt x (by simp [hx])
  have hg : gs = [] := by rw [hvars] at hV; exact (trodVars_none hV).1
  subst hg
  have e0 : ds ++ [] = ds := List.append_nil ds
  refine ⟨ds, [], _, [] ++ [], p, [], hW', ?_, ?_, ?_, hb.frame _, fun h => by cases h⟩
  · rw [e0, er, hres]; exact trodAll_mk1 (shut_bool Tryz.underlying4 true)
  · rw [e0, ea]; exact trodAll_below hb hts hA hlt
  · rw [e0, ev, hvars]; rfl


/-- A set among the arguments. -/
theorem set_of_trod {W : World} {v : Value} {d : DataW H} {ps : List MemPlace} (h : DataW.Trod enc Tryz.prog W 0 (fun _ => true) true 56 v d ps) : ∃ a b : Nat, v = setV a b ∧ U64 a ∧ U64 b := by
  obtain ⟨fuel, hf⟩ := h
  cases fuel with
  | zero => simp [DataW.trod] at hf
  | succ fuel =>
    simp only [DataW.trod, Tryz.underlying56, cells64, cellsSet, Nat.mul_one] at hf
    split at hf
    · rename_i hl
      obtain ⟨xs, hm, hx⟩ := Option.map_eq_some_iff.1 hf
      obtain ⟨x0, -, h0⟩ := Lib.mapM_at hm 0 0 (by simp)
      obtain ⟨x1, -, h1⟩ := Lib.mapM_at hm 1 1 (by simp)
      obtain ⟨z0, e0, -, w0⟩ := DataW.trod_int Tryz.underlying54 h0
      obtain ⟨z1, e1, -, w1⟩ := DataW.trod_int Tryz.underlying54 h1
      have b0 := u64_bd w0
      have b1 := u64_bd w1
      obtain ⟨a, rfl⟩ := Int.eq_ofNat_of_zero_le b0.1
      obtain ⟨b, rfl⟩ := Int.eq_ofNat_of_zero_le b1.1
      refine ⟨a, b, ?_, by unfold U64; omega, by unfold U64; omega⟩
      cases v with
      | agg cs =>
        obtain ⟨l⟩ := cs
        simp only [Value.cells] at hl e0 e1
        match l, hl with
        | [u0, u1], _ =>
          simp at e0 e1
          subst e0 e1
          rfl
      | _ => simp [Value.cells] at hl
    · cases hf
end
end Go.Proofs.YtlcpbfklnjlgnaaGreatDoor

namespace Go.Proofs.YtlcpbfklnjlgnaaGreatDoor
open Go.ChangeShapes Go.WideShapes Go.ChangeAt Go.RowKit

section
variable {H : Type} {enc : TypeId × Value → H}
theorem ints_of_trod {W : World} {v : Value} {d : DataW H} {ps : List MemPlace} (hval : ∃ a len cap, v = .slice a len cap) (h : DataW.Trod enc Tryz.prog W 0 (fun _ => true) true 26 v d ps) (hlt : ∀ x ∈ ps, x.block < W.heap.size) :
    ∃ zs, IntsAt W v zs := by
  obtain ⟨a0, len, cap, rfl⟩ := hval
  obtain ⟨fuel, hf⟩ := h
  rcases open_ints Tryz.underlying26 Tryz.underlying3 cellsInt hf with ⟨hcs, hx⟩ | ⟨a, len', cap', zs, hcs, _, hl, hm, hz, hx, hcell, -⟩
  · simp [Value.cells] at hcs
    obtain ⟨rfl, rfl, rfl⟩ := hcs
    exact ⟨[], .inl ⟨none, 0, rfl, rfl⟩⟩
  · simp [Value.cells] at hcs
    obtain ⟨rfl, rfl, rfl⟩ := hcs
    simp only [Prod.mk.injEq] at hx
    obtain ⟨rfl, rfl⟩ := hx
    simp only [if_true] at hz
    by_cases h0 : len = 0
    · subst h0; exact ⟨[], .inl ⟨some a, cap, rfl, rfl⟩⟩
    · obtain ⟨b, off, spot⟩ := a
      have hspot : spot = none := by simpa [Addr.add] using World.cell?_spot (hcell 0 (by omega))
      subst hspot
      have hl2 : (zs.take len).length = len := by simp; omega
      refine ⟨zs.take len, .inr ⟨b, off, cap, by rw [hl2], hlt (.cell b off) (MemPlace.mem_row.2 ⟨0, by omega, by simp⟩), fun i c hi => ?_⟩⟩
      have hi' : i < len := by
        have := (List.getElem?_eq_some_iff.1 hi).1
        omega
      have hc := hcell i (by omega)
      rw [add_plain] at hc
      rw [hc]
      rw [List.getElem?_take_of_lt hi'] at hi
      rw [List.getD_eq_getElem?_getD, hi]
      rfl
/-- The same, with its capacity. -/
theorem intsC_of_trod {W : World} {v : Value} {d : DataW H} {ps : List MemPlace} (hval : ∃ a len cap, v = .slice a len cap) (h : DataW.Trod enc Tryz.prog W 0 (fun _ => true) true 26 v d ps) (hlt : ∀ x ∈ ps, x.block < W.heap.size) :
    (∃ zs, IntsAt W v zs) ∧ ∀ a n c, v = .slice a n c → n ≤ c := by
  refine ⟨ints_of_trod hval h hlt, ?_⟩
  obtain ⟨a0, len, cap, rfl⟩ := hval
  obtain ⟨fuel, hf⟩ := h
  intro a n c e
  injection e with e1 e2 e3
  subst e1 e2 e3
  rcases open_ints Tryz.underlying26 Tryz.underlying3 cellsInt hf with ⟨hcs, -⟩ | ⟨a, len', cap', zs, hcs, _, hl, -⟩
  · simp [Value.cells] at hcs
    omega
  · simp [Value.cells] at hcs
    omega
end
end Go.Proofs.YtlcpbfklnjlgnaaGreatDoor

namespace Go.Proofs.YtlcpbfklnjlgnaaGreatDoor
open Go.ChangeShapes Go.WideShapes Go.ChangeAt Go.RowKit

theorem Tryz.et : Tryz.prog.globalNamed "errors.errorType" = some 0 := by kernel_rfl
theorem Tryz.rt : (Tryz.prog.cutTypes.find? (·.1 == "internal/reflectlite.rtype")).map (·.2) = some 168 := by kernel_rfl
theorem Tryz.oneRow : ((List.range 264).filter fun t => Tryz.prog.rowNamed t [101, 114, 114, 111, 114]) = [43] := by kernel_rfl
theorem Tryz.size : Tryz.prog.types.size = 264 := by kernel_rfl
/-- The two listed variables. -/
def loneH : List (String × DataW Unit) := [("math/bits.deBruijn64tab", Rows.laid_math_bits_deBruijn64tab), ("errors.errorType", Rows.laid_errors_errorType)]
theorem handle_of_met {W : World} {l : List (String × DataW Unit)} (hm : ("errors.errorType", (Rows.laid_errors_errorType : DataW Unit)) ∈ l) (h : handlesMet Tryz.prog l W) : Handle W := by
  obtain ⟨name, u, ty, e1, e2, e3, e4, e5⟩ := h _ hm
  have en : name = [101, 114, 114, 111, 114] := (Option.some.inj e1).symm
  subst en
  obtain rfl := Option.some.inj (Tryz.rt.symm.trans e2)
  have hmem : ty ∈ (List.range 264).filter fun t => Tryz.prog.rowNamed t [101, 114, 114, 111, 114] := List.mem_filter.2 ⟨List.mem_range.2 (by rw [← Tryz.size]; exact e3), e4⟩
  rw [Tryz.oneRow] at hmem
  obtain rfl := List.mem_singleton.1 hmem
  have hh : typeHandle Tryz.prog 43 = .pointer (some ⟨4, 43, none⟩) := by kernel_rfl
  rw [hh] at e5
  have := World.var?_cell Tryz.et e5 0
  simpa [Handle] using this
theorem handle_of_laidH {W : World} (h : laidMetH Tryz.prog loneH W) : Handle W := by
  have h' : laidMet Tryz.prog (loneH.take 1) W ∧ handlesMet Tryz.prog [("errors.errorType", Rows.laid_errors_errorType)] W := h
  exact handle_of_met (List.mem_singleton.2 rfl) h'.2
theorem tab_of_laidH {W : World} (h : laidMetH Tryz.prog loneH W) : TabB W := by
  have h' : laidMet Tryz.prog (loneH.take 1) W ∧ handlesMet Tryz.prog [("errors.errorType", Rows.laid_errors_errorType)] W := h
  exact tab_of_laid h'.1
theorem laidWorldT_metH (os : Os) (args : Array Value) : laidMetH Tryz.prog loneH ((laidWorldT os).forCall (fun _ _ => 0) ⟨#[], args, []⟩).memory :=
  laidMetH_of_parts3 (fuel := 8) (laidMet_of_run' 8 (by kernel_rfl) (by kernel_rfl)) (by kernel_rfl) (by kernel_rfl)
end Go.Proofs.YtlcpbfklnjlgnaaGreatDoor
