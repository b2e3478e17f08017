/-
  Parses: prologueref.scalar by its contract. Own work of the verifier (made by gen_scalar.py).
-/
import Derived.Test.YtobempobmokkcaaGreatDoorPsLeaf
namespace Go.Proofs.YtobempobmokkcaaGreatDoor
open Go.RowKit
end Go.Proofs.YtobempobmokkcaaGreatDoor
