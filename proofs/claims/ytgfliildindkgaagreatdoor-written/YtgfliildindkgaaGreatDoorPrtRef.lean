/-
  prologueref.words by its contract. Own work of the verifier.
-/
import Derived.Test.YtgfliildindkgaaGreatDoorPrtPrint
namespace Go.Proofs.YtgfliildindkgaaGreatDoor
open Go.RowKit

end Go.Proofs.YtgfliildindkgaaGreatDoor
