/-
  prologueref.words by its contract. Own work of the verifier.
-/
import Derived.Test.YtobempobmokkcaaGreatDoorPrtPrint
namespace Go.Proofs.YtobempobmokkcaaGreatDoor
open Go.RowKit

end Go.Proofs.YtobempobmokkcaaGreatDoor
