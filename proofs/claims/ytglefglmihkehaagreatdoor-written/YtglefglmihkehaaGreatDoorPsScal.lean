/-
  Parses: prologueref.scalar by its contract. Own work of the verifier (made by gen_scalar.py).
-/
import Derived.Test.YtglefglmihkehaaGreatDoorPsLeaf
namespace Go.Proofs.YtglefglmihkehaaGreatDoor
open Go.RowKit
end Go.Proofs.YtglefglmihkehaaGreatDoor
