/-
  prologuekeep.Written: a closed fact of its card that wants a memory of its own. Own work of the verifier.
-/
import Derived.Test.YtobempobmokkcaaGreatDoorRows
import Derived.Test.YtobempobmokkcaaGreatDoorCards
import Derived.ProofKit
import Derived.OpenShut
import Derived.ChangeSame
import Derived.ChangeSlices
import Derived.ChangeVars
import Derived.JoinedOf
import Derived.RowKit
import Derived.RowKitTokens
import Derived.LaidLaws
import Derived.LaidHandle
import Derived.LaidSub
import Derived.Stop.Joined
import Derived.SevenTiedAt
import Derived.SizedLaws
import Derived.WideShapes
import Derived.MakeChecks
import Derived.Lib.LaidU8
import Derived.Lay
namespace Go.Proofs.YtobempobmokkcaaGreatDoor
open Go.ChangeShapes Go.WideShapes Go.ChangeAt Go.RowKit

theorem written_c5 : false = Rows.writtenRow.goesBy Tryz.pinned.checked.prog := by kernel_rfl
end Go.Proofs.YtobempobmokkcaaGreatDoor
