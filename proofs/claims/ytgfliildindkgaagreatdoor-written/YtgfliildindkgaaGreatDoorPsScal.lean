/-
  Parses: prologueref.scalar by its contract. Own work of the verifier (made by gen_scalar.py).
-/
import Derived.Test.YtgfliildindkgaaGreatDoorPsLeaf
namespace Go.Proofs.YtgfliildindkgaaGreatDoor
open Go.RowKit
end Go.Proofs.YtgfliildindkgaaGreatDoor
