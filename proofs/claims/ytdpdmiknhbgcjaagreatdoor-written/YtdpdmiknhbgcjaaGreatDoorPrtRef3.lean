/-
  prologueref.Print by its contract. Own work of the verifier.
-/
import Derived.Test.YtdpdmiknhbgcjaaGreatDoorPrtRef2
namespace Go.Proofs.YtdpdmiknhbgcjaaGreatDoor
open Go.RowKit

end Go.Proofs.YtdpdmiknhbgcjaaGreatDoor
