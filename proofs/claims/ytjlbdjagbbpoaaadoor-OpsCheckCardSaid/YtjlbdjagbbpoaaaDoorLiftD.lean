/-
  From a law's walk to its row and its card, for the laws of the seat whose row lists the library's table of lowest bits: a call that answers true and leaves old memory as it was gives what the row asks; what the condition gives a walk; sets, numbers and rows of numbers among the arguments.
-/
import Derived.Test.YtjlbdjagbbpoaaaDoorRows
import Derived.Test.YtjlbdjagbbpoaaaDoorCards
import Derived.Test.YtjlbdjagbbpoaaaDoorTie
import Derived.Test.YtjlbdjagbbpoaaaDoorBitH
import Derived.ProofKit
import Derived.ChangeSame
import Derived.ChangeVars
import Derived.JoinedOf
import Derived.LaidLaws
import Derived.LaidMore
import Derived.Lib.LaidTab
import Derived.Stop.Joined
namespace Go.Proofs.YtjlbdjagbbpoaaaDoor
open Go.ChangeShapes Go.WideShapes Go.ChangeAt Go.RowKit

theorem Tryd.own : ownKnob Tryd.prog.godebug = none := by kernel_rfl
theorem Tryd.laidOut : laidOutB Tryd.prog = true := by kernel_rfl
/-- The listed variable. -/
def loneT : List (String × DataW Unit) := [("math/bits.deBruijn64tab", Rows.laid_math_bits_deBruijn64tab)]
theorem tab_data : (Rows.laid_math_bits_deBruijn64tab : DataW Unit) = Lib.tabData .u8 (Lib.deBruijn64tab.map Int.ofNat) := by kernel_rfl
theorem tabGlobal : Tryd.prog.globalNamed "math/bits.deBruijn64tab" = some 1 := by kernel_rfl
theorem tabType : (Tryd.prog.globals[1]?).map (·.type) = some 124 := by kernel_rfl
theorem tabCells : Tryd.prog.cellsOf 124 = 64 := by kernel_rfl
theorem tabCell : Tryd.prog.cellsOf 5 = 1 := by kernel_rfl
theorem tab_of_laid {W : World} (h : laidMet Tryd.prog loneT W) : TabB W := by
  have h' : laidMet Tryd.prog (("math/bits.deBruijn64tab", Lib.tabData .u8 (Lib.deBruijn64tab.map Int.ofNat)) :: []) W := by rw [← tab_data]; exact h
  have ht := Lib.tabIs_of_head tabGlobal tabType Tryd.underlying124 Tryd.underlying5 tabCell tabCells h'
  unfold Lib.TabIs at ht
  have hc := fun i => World.var?_cell tabGlobal ht i
  refine ⟨?_, fun j hj => ?_⟩
  · have := hc 0
    exact World.block_lt_of_cell? W ⟨1, 0, none⟩ (this.trans rfl)
  · have := hc j
    rw [this]
    simp [hj]

noncomputable def laidWorldT (os : Os) : World := World.doorLaid Tryd.prog 400 os
/-- The door's own heap meets the condition. -/
theorem laidWorldT_met (os : Os) (args : Array Value) : laidMetH Tryd.prog loneT ((laidWorldT os).forCall (fun _ _ => 0) ⟨#[], args, []⟩).memory :=
  laidMetH_of_parts3 (fuel := 8) (laidMet_of_run' 8 (by kernel_rfl) (by kernel_rfl)) (by kernel_rfl) (by kernel_rfl)
theorem u64_bd {n : Int} (h : (Lit.int .u64 n).wf = true) : 0 ≤ n ∧ n ≤ 18446744073709551615 := by
  simp [Lit.wf] at h
  have e : IntKind.u64.min = 0 := rfl
  have e' : IntKind.u64.max = 18446744073709551615 := rfl
  omega
theorem i64_bd {n : Int} (h : (Lit.int .i64 n).wf = true) : -9223372036854775808 ≤ n ∧ n ≤ 9223372036854775807 := by
  simp [Lit.wf] at h
  have e : IntKind.i64.min = -9223372036854775808 := rfl
  have e' : IntKind.i64.max = 9223372036854775807 := rfl
  omega
theorem u8_bd {n : Int} (h : (Lit.int .u8 n).wf = true) : 0 ≤ n ∧ n ≤ 255 := by
  simp [Lit.wf] at h
  have e : IntKind.u8.min = 0 := rfl
  have e' : IntKind.u8.max = 255 := rfl
  omega
theorem cellsSet : Tryd.prog.cellsOf 34 = 2 := by kernel_rfl
theorem cells64 : Tryd.prog.cellsOf 32 = 1 := by kernel_rfl
theorem cellsInt : Tryd.prog.cellsOf 3 = 1 := by kernel_rfl
section
variable {H : Type} {enc : TypeId × Value → H}

/-- Each argument reads behind the call as it read before it. -/
theorem trodAll_below {W W' : World} (hb : Below W.heap.size W W') : ∀ {ts : List TypeId} {vs : List Value} {ds : List (DataW H)} {ps : List MemPlace},
    (∀ t ∈ ts, Tryd.prog.readableRec t = true ∧ t < Tryd.prog.types.size) → DataW.TrodAll enc Tryd.prog W 0 (fun _ => true) true ts vs ds ps → (∀ x ∈ ps, x.block < W.heap.size) →
    DataW.TrodAll enc Tryd.prog W' 0 (fun b => decide (b < W.heap.size)) true ts vs ds ps
  | [], [], [], _, _, h, _ => h
  | [], _ :: _, _, _, _, h, _ => h.elim
  | [], [], _ :: _, _, _, h, _ => h.elim
  | _ :: _, [], _, _, _, h, _ => h.elim
  | _ :: _, _ :: _, [], _, _, h, _ => h.elim
  | t :: ts, v :: vs, d :: ds, _, hr, ⟨p, q, h1, h2, e⟩, hlt => by
    subst e
    exact ⟨p, q, Below.trod Tryd.laidOut (hr t (by simp)).1 (hr t (by simp)).2 h1 hb (fun x hx => hlt x (by simp [hx])), trodAll_below hb (fun t' ht => hr t' (by simp [ht])) h2 (fun x hx => hlt x (by simp [hx])), rfl⟩

/-- A call that answers true, and turns nothing old, gives what a law's row asks. -/
theorem law_post {f : Func} {s : ChangeSpec} {W W' : World} {args : Array Value} {ds gs : List (DataW H)} {ps : List MemPlace} (hres : f.resultTypes = #[4]) (hvars : s.vars = [])
    (hts : ∀ t ∈ f.params.toList, Tryd.prog.readableRec t = true ∧ t < Tryd.prog.types.size)
    (hW : DataW.Whole enc Tryd.prog f.params.toList s.vars false W args.toList ds gs ps) (hb : Below W.heap.size W W')
    (er : (s.fn H ds).results = [.lit (.bool true)]) (ea : (s.fn H ds).args = ds) (ev : (s.fn H ds).vars = []) :
    s.post enc Tryd.prog f false true false false W args (.bool true) W' := by
  have hW' := hW
  obtain ⟨p, q, hA, hV, rfl, hfz, hnd⟩ := hW
  have hlt : ∀ x ∈ p, x.block < W.heap.size := fun x hx => hW'.lt x (by simp [hx])
  have hg : gs = [] := by rw [hvars] at hV; exact (trodVars_none hV).1
  subst hg
  have e0 : ds ++ [] = ds := List.append_nil ds
  refine ⟨ds, [], _, [] ++ [], p, [], hW', ?_, ?_, ?_, hb.frame _, fun h => by cases h⟩
  · rw [e0, er, hres]; exact trodAll_mk1 (shut_bool Tryd.underlying4 true)
  · rw [e0, ea]; exact trodAll_below hb hts hA hlt
  · rw [e0, ev, hvars]; rfl


/-- A set among the arguments. -/
theorem set_of_trod {W : World} {v : Value} {d : DataW H} {ps : List MemPlace} (h : DataW.Trod enc Tryd.prog W 0 (fun _ => true) true 34 v d ps) : ∃ a b : Nat, v = setV a b ∧ U64 a ∧ U64 b := by
  obtain ⟨fuel, hf⟩ := h
  cases fuel with
  | zero => simp [DataW.trod] at hf
  | succ fuel =>
    simp only [DataW.trod, Tryd.underlying34, cells64, cellsSet, Nat.mul_one] at hf
    split at hf
    · rename_i hl
      obtain ⟨xs, hm, hx⟩ := Option.map_eq_some_iff.1 hf
      obtain ⟨x0, -, h0⟩ := Lib.mapM_at hm 0 0 (by simp)
      obtain ⟨x1, -, h1⟩ := Lib.mapM_at hm 1 1 (by simp)
      obtain ⟨z0, e0, -, w0⟩ := DataW.trod_int Tryd.underlying32 h0
      obtain ⟨z1, e1, -, w1⟩ := DataW.trod_int Tryd.underlying32 h1
      have b0 := u64_bd w0
      have b1 := u64_bd w1
      obtain ⟨a, rfl⟩ := Int.eq_ofNat_of_zero_le b0.1
      obtain ⟨b, rfl⟩ := Int.eq_ofNat_of_zero_le b1.1
      refine ⟨a, b, ?_, by unfold U64; omega, by unfold U64; omega⟩
      cases v with
      | agg cs =>
        obtain ⟨l⟩ := cs
        simp only [Value.cells] at hl e0 e1
        match l, hl with
        | [u0, u1], _ =>
          simp at e0 e1
          subst e0 e1
          rfl
      | _ => simp [Value.cells] at hl
    · cases hf
end
end Go.Proofs.YtjlbdjagbbpoaaaDoor
