/-
  The reference's numbers and names, whole; and chapter 3's example.
-/
import Derived.Test.YtabcbeolhhdkpaaGreatDoorScanD
namespace Go.Proofs.YtabcbeolhhdkpaaGreatDoor
open Go.RowKit Go.Extern.Stop Go.Stop Go.Extern

end Go.Proofs.YtabcbeolhhdkpaaGreatDoor
