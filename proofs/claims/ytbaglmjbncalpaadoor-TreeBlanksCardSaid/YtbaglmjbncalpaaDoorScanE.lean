/-
  The reference's numbers and names, whole; and chapter 3's example.
-/
import Derived.Test.YtbaglmjbncalpaaDoorScanD
namespace Go.Proofs.YtbaglmjbncalpaaDoor
open Go.RowKit Go.Extern.Stop Go.Stop Go.Extern

end Go.Proofs.YtbaglmjbncalpaaDoor
