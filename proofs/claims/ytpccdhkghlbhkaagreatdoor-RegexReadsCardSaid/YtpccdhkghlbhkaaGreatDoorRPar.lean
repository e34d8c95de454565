/-
  The reference's Parse by a contract: the document's answer for any text; no memory turns.
-/
import Derived.Test.YtpccdhkghlbhkaaGreatDoorAmtP
namespace Go.Proofs.YtpccdhkghlbhkaaGreatDoor
open Go.RowKit Go.Extern.Stop Go.Stop Go.Extern

end Go.Proofs.YtpccdhkghlbhkaaGreatDoor
