/-
  Package bits by contracts, sixth part: List.
-/
import Derived.Test.YtjlbdjagbbpoaaaDoorBitF
namespace Go.Proofs.YtjlbdjagbbpoaaaDoor
open Go.RowKit Go.Extern.Stop Go.Stop Go.Extern Go.Shelf
attribute [local go_sem] Oper.semAt_some

theorem infoInt : (Tryd.prog.info? 3).map (fun i => (i.zero, i.size, i.bytes)) = some (some (.int .i64 0), 1, 8) := by kernel_rfl
def encN (l : List N128) : List Value := l.map fun x => Value.int .i64 ((x.1 : Nat) : Int)
theorem encN_snoc (l : List N128) (x : N128) : encN (l ++ [x]) = encN l ++ [Value.int .i64 ((x.1 : Nat) : Int)] := by unfold encN; simp
end Go.Proofs.YtjlbdjagbbpoaaaDoor
