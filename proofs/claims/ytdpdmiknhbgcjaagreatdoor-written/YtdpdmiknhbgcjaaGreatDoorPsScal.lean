/-
  Parses: prologueref.scalar by its contract. Own work of the verifier (made by gen_scalar.py).
-/
import Derived.Test.YtdpdmiknhbgcjaaGreatDoorPsLeaf
namespace Go.Proofs.YtdpdmiknhbgcjaaGreatDoor
open Go.RowKit
end Go.Proofs.YtdpdmiknhbgcjaaGreatDoor
