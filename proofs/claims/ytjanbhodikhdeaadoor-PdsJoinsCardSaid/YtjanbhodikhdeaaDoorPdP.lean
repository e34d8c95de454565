/-
  Package pds by contracts: which rules can be done.
-/
import Derived.Test.YtjanbhodikhdeaaDoorPdO
namespace Go.Proofs.YtjanbhodikhdeaaDoor
open Go.RowKit Go.Extern.Stop Go.Stop Go.Extern

/-- The places of the first so many rules that can be done. -/
def stp (rs : List Ru) (c : Cf) (i : Nat) : List Int := ((List.range i).filter fun i => (rs[i]?.map fun r => fitsB r c).getD false).map Int.ofNat
theorem stp_succ {rs : List Ru} {i : Nat} {r : Ru} (c : Cf) (h : rs[i]? = some r) : stp rs c (i + 1) = stp rs c i ++ if fitsB r c then [(i : Int)] else [] := stepsC_take c h
theorem stp_len (rs : List Ru) (c : Cf) (i : Nat) : (stp rs c i).length ≤ i := by unfold stp; rw [List.length_map]; exact Nat.le_trans (List.length_filter_le _ _) (by rw [List.length_range]; exact Nat.le_refl _)
end Go.Proofs.YtjanbhodikhdeaaDoor
