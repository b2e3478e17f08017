/-
  prologueref.words by its contract. Own work of the verifier.
-/
import Derived.Test.YtglefglmihkehaaGreatDoorPrtPrint
namespace Go.Proofs.YtglefglmihkehaaGreatDoor
open Go.RowKit

end Go.Proofs.YtglefglmihkehaaGreatDoor
