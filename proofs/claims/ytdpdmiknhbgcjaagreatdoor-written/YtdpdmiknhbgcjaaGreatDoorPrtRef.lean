/-
  prologueref.words by its contract. Own work of the verifier.
-/
import Derived.Test.YtdpdmiknhbgcjaaGreatDoorPrtPrint
namespace Go.Proofs.YtdpdmiknhbgcjaaGreatDoor
open Go.RowKit

end Go.Proofs.YtdpdmiknhbgcjaaGreatDoor
