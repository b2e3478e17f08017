/-
  prologueref.Print by its contract. Own work of the verifier.
-/
import Derived.Test.YtglefglmihkehaaGreatDoorPrtRef2
namespace Go.Proofs.YtglefglmihkehaaGreatDoor
open Go.RowKit

end Go.Proofs.YtglefglmihkehaaGreatDoor
