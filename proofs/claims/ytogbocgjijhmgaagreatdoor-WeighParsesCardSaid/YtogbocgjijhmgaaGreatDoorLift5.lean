/-
  From a law's walk to its row, for the laws whose row lists the library's three tables and the words of weights beside the handle of 'error'; a weight among the arguments.
-/
import Derived.Test.YtogbocgjijhmgaaGreatDoorLift
import Derived.Test.YtogbocgjijhmgaaGreatDoorFmtB
import Derived.Test.YtogbocgjijhmgaaGreatDoorWgM
import Derived.LaidMore
import Derived.Lib.LaidTab
namespace Go.Proofs.YtogbocgjijhmgaaGreatDoor
open Go.ChangeShapes Go.WideShapes Go.ChangeAt Go.RowKit

/-- The five listed variables. -/
def lone5 : List (String × DataW Unit) := [("math/bits.deBruijn32tab", Rows.laid_math_bits_deBruijn32tab), ("math/bits.deBruijn64tab", Rows.laid_math_bits_deBruijn64tab), ("internal/strconv.uint64pow10", Rows.laid_internal_strconv_uint64pow10), ("errors.errorType", Rows.laid_errors_errorType), ("fairlead/weigh.words", Rows.laid_fairlead_weigh_words)]
/-- Those that are plain data. -/
def data5 : List (String × DataW Unit) := [("math/bits.deBruijn32tab", Rows.laid_math_bits_deBruijn32tab), ("math/bits.deBruijn64tab", Rows.laid_math_bits_deBruijn64tab), ("internal/strconv.uint64pow10", Rows.laid_internal_strconv_uint64pow10), ("fairlead/weigh.words", Rows.laid_fairlead_weigh_words)]

theorem pow10_data5 : (Rows.laid_internal_strconv_uint64pow10 : DataW Unit) = Lib.tabData .u64 Lib.pow10Tab := by kernel_rfl
theorem powType5 : (Tryz.prog.globals[3]?).map (·.type) = some 208 := by kernel_rfl
theorem powCells5 : Tryz.prog.cellsOf 208 = 20 := by kernel_rfl
theorem powCell5 : Tryz.prog.cellsOf 53 = 1 := by kernel_rfl
theorem wordsGlobal : Tryz.prog.globalNamed "fairlead/weigh.words" = some 0 := by kernel_rfl
theorem wordsType : (Tryz.prog.globals[0]?).map (·.type) = some 96 := by kernel_rfl
theorem wordsCells : Tryz.prog.cellsOf 96 = 3 := by kernel_rfl
theorem wordsCell : Tryz.prog.cellsOf 9 = 1 := by kernel_rfl

theorem laid5_parts {W : World} (h : laidMetH Tryz.prog lone5 W) : laidMet Tryz.prog data5 W ∧ handlesMet Tryz.prog [("errors.errorType", Rows.laid_errors_errorType)] W := h
theorem handle_of_laid5 {W : World} (h : laidMetH Tryz.prog lone5 W) : Handle W := handle_of_met (List.mem_singleton.2 rfl) (laid5_parts h).2
theorem tab_of_laid5 {W : World} (h : laidMetH Tryz.prog lone5 W) : Tab W := by
  obtain ⟨ps, ⟨_, _, _, _, _, _, _, _, _, _, ⟨_, _, _, _, _, _, _, _, _, _, ⟨g, t, cs, fuel, p, q, hg, ht, hvar, hd, _, _⟩, _⟩, _⟩, _⟩ := (laid5_parts h).1
  obtain rfl := Option.some.inj (powGlobal.symm.trans hg)
  obtain rfl := Option.some.inj (powType5.symm.trans ht)
  rw [pow10_data5] at hd
  unfold Tab Lib.TabIs
  rw [hvar, ← Lib.cells_of_tab Tryz.underlying208 Tryz.underlying53 powCell5 powCells5 hd]

/-- An array of texts that reads as these holds them, cell for cell. -/
theorem cells_of_strs {H : Type} {enc : TypeId × Value → H} {P : Program} {w : World} {base : Nat} {sp : Nat → Bool} {held : Bool} {fuel : Nat} {t e : TypeId} {n : Nat} {cs : List Value} {zs : List (List UInt8)} {p : List MemPlace}
    (ht : P.underlying t = some (.array n e)) (he : P.underlying e = some .string) (hce : P.cellsOf e = 1) (hct : P.cellsOf t = n)
    (h : DataW.trod enc P w base sp held fuel t cs = some (.agg (zs.map fun z => .lit (.string z)), p)) : cs = zs.map fun z => Value.string ⟨z.toArray⟩ := by
  cases fuel with
  | zero => simp [DataW.trod] at h
  | succ fuel =>
    simp only [DataW.trod, ht, hce, hct, Nat.mul_one] at h
    split at h
    · rename_i hl
      obtain ⟨xs, hm, hx⟩ := Option.map_eq_some_iff.1 h
      have hxs : xs.map (·.1) = zs.map fun z => (DataW.lit (.string z) : DataW H) := by
        have := congrArg Prod.fst hx
        simpa using this
      have hxl : xs.length = n := by simpa using Lib.mapM_length hm
      have hzl : zs.length = n := by
        have := congrArg List.length hxs
        simp at this
        omega
      apply List.ext_getElem?
      intro i
      by_cases hi : i < n
      · obtain ⟨b, hb, hf⟩ := Lib.mapM_at hm i i (by simp [hi])
        obtain ⟨z, hc, rfl, _⟩ := DataW.trod_string he hf
        have h1 : cs[i]? = some (.string z) := by
          have := congrArg (·[0]?) hc
          simpa [List.getElem?_take, List.getElem?_drop] using this
        have h2 : (xs.map (·.1))[i]? = some (DataW.lit (.string z.data.toList) : DataW H) := by simp [hb]
        rw [hxs] at h2
        simp only [List.getElem?_map, Option.map_eq_some_iff, DataW.lit.injEq, Lit.string.injEq] at h2
        obtain ⟨z', hz', e⟩ := h2
        rw [h1, List.getElem?_map, hz', e]
        simp
      · rw [List.getElem?_eq_none (by omega), List.getElem?_eq_none (by simp; omega)]
    · cases h
theorem words_data : (Rows.laid_fairlead_weigh_words : DataW Unit) = .agg ([(wordB 0).data.toList, (wordB 1).data.toList, (wordB 2).data.toList].map fun z => .lit (.string z)) := by kernel_rfl
theorem wds_of_laid5 {W : World} (h : laidMetH Tryz.prog lone5 W) : Wds W := by
  obtain ⟨ps, ⟨_, _, _, _, _, _, _, _, _, _, ⟨_, _, _, _, _, _, _, _, _, _, ⟨_, _, _, _, _, _, _, _, _, _, ⟨g, t, cs, fuel, p, q, hg, ht, hvar, hd, _, _⟩, _⟩, _⟩, _⟩, _⟩ := (laid5_parts h).1
  obtain rfl := Option.some.inj (wordsGlobal.symm.trans hg)
  obtain rfl := Option.some.inj (wordsType.symm.trans ht)
  rw [words_data] at hd
  have hcs := cells_of_strs Tryz.underlying96 Tryz.underlying9 wordsCell wordsCells hd
  obtain ⟨l⟩ := cs
  have hcs2 : l = _ := hcs
  subst hcs2
  have hc := fun i => World.var?_cell wordsGlobal hvar i
  have h3 : ∀ i, i < 3 → W.cell? ⟨0, i, none⟩ = some (.string (wordB i)) := fun i hi => by
    match i, hi with
    | 0, _ => exact (hc 0).trans rfl
    | 1, _ => exact (hc 1).trans rfl
    | 2, _ => exact (hc 2).trans rfl
  exact ⟨World.block_lt_of_cell? W _ (h3 0 (by decide)), h3⟩
theorem lk_of_laid5 {W : World} (h : laidMetH Tryz.prog lone5 W) : Lk W := ⟨handle_of_laid5 h, tab_of_laid5 h, wds_of_laid5 h⟩

noncomputable def laidWorld5 (os : Os) : World := World.doorLaid Tryz.prog 400 os
/-- The door's own heap meets the condition. -/
theorem laidWorld5_met (os : Os) (args : Array Value) : laidMetH Tryz.prog lone5 ((laidWorld5 os).forCall (fun _ _ => 0) ⟨#[], args, []⟩).memory :=
  laidMetH_of_parts3 (fuel := 8) (laidMet_of_run' 8 (by kernel_rfl) (by kernel_rfl)) (by kernel_rfl) (by kernel_rfl)

/-! ### A weight among the arguments -/
theorem u64_nat {n : Int} (h : (Lit.int .u64 n).wf = true) : ∃ k : Nat, n = k := by
  simp [Lit.wf] at h
  have e : IntKind.u64.min = 0 := rfl
  exact ⟨n.toNat, by omega⟩
section
variable {H : Type} {enc : TypeId × Value → H}
theorem trod_struct3w {P : Program} {W : World} {base : Nat} {spare : Nat → Bool} {held : Bool} {t : TypeId} {f0 f1 f2 : Field} {fuel : Nat} {cs : List Value} {x : DataW H × List MemPlace} (ht : P.underlying t = some (.struct #[f0, f1, f2])) (h : DataW.trod enc P W base spare held fuel t cs = some x) :
    ∃ y0 y1 y2 n, cs.length = P.cellsOf t ∧ DataW.trod enc P W base spare held n f0.type ((cs.drop f0.offset).take (P.cellsOf f0.type)) = some y0 ∧
      DataW.trod enc P W base spare held n f1.type ((cs.drop f1.offset).take (P.cellsOf f1.type)) = some y1 ∧ DataW.trod enc P W base spare held n f2.type ((cs.drop f2.offset).take (P.cellsOf f2.type)) = some y2 := by
  obtain ⟨xs, n, _, -, hl, hlen, hf⟩ := DataW.trod_struct ht h
  match xs, hlen with
  | [y0, y1, y2], _ => exact ⟨y0, y1, y2, n, hl, by simpa using hf 0 f0 rfl, by simpa using hf 1 f1 rfl, by simpa using hf 2 f2 rfl⟩
theorem weightCells : Tryz.prog.cellsOf 55 = 3 := by kernel_rfl
theorem three_of_cells {W : World} {fuel : Nat} {cs : List Value} {x : DataW H × List MemPlace} (hf : DataW.trod enc Tryz.prog W 0 (fun _ => true) true fuel 55 cs = some x) : ∃ a b c : Nat, cs = [.int .u64 a, .int .u64 b, .int .u64 c] := by
  obtain ⟨y0, y1, y2, n, hl, h0, h1, h2⟩ := trod_struct3w Tryz.underlying55 hf
  rw [weightCells] at hl
  rw [powCell5] at h0 h1 h2
  match cs, hl with
  | [u0, u1, u2], _ =>
    obtain ⟨a, e0, -, w0⟩ := DataW.trod_int Tryz.underlying53 h0
    obtain ⟨b, e1, -, w1⟩ := DataW.trod_int Tryz.underlying53 h1
    obtain ⟨c, e2, -, w2⟩ := DataW.trod_int Tryz.underlying53 h2
    simp at e0 e1 e2
    subst e0 e1 e2
    obtain ⟨a', rfl⟩ := u64_nat w0
    obtain ⟨b', rfl⟩ := u64_nat w1
    obtain ⟨c', rfl⟩ := u64_nat w2
    exact ⟨a', b', c', rfl⟩
theorem weight_of_trod {W : World} {v : Value} {d : DataW H} {ps : List MemPlace} (h : DataW.Trod enc Tryz.prog W 0 (fun _ => true) true 55 v d ps) :
    ∃ a b c : Nat, v = .agg #[.int .u64 a, .int .u64 b, .int .u64 c] := by
  obtain ⟨fuel, hf⟩ := h
  obtain ⟨a, b, c, hc⟩ := three_of_cells hf
  cases v with
  | agg cs =>
    obtain ⟨l⟩ := cs
    simp only [Value.cells] at hc
    exact ⟨a, b, c, by rw [hc]⟩
  | _ => simp [Value.cells] at hc
end
end Go.Proofs.YtogbocgjijhmgaaGreatDoor
