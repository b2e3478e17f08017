/-
  prologueref.Print by its contract. Own work of the verifier.
-/
import Derived.Test.YtgfliildindkgaaGreatDoorPrtRef2
namespace Go.Proofs.YtgfliildindkgaaGreatDoor
open Go.RowKit

end Go.Proofs.YtgfliildindkgaaGreatDoor
