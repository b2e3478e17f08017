/-
  prologueref.Print by its contract. Own work of the verifier.
-/
import Derived.Test.YtobempobmokkcaaGreatDoorPrtRef2
namespace Go.Proofs.YtobempobmokkcaaGreatDoor
open Go.RowKit

end Go.Proofs.YtobempobmokkcaaGreatDoor
