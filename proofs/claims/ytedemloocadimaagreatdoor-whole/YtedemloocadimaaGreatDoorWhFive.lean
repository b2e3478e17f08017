import Derived.Test.YtedemloocadimaaGreatDoorRows
import Derived.Test.YtedemloocadimaaGreatDoorCards
import Derived.ProofKit
import Derived.OpenShut
import Derived.ChangeSame
import Derived.ChangeSlices
import Derived.ChangeVars
import Derived.JoinedOf
import Derived.RowKit
import Derived.RowKitTokens
import Derived.LaidLaws
import Derived.LaidHandle
import Derived.LaidSub
import Derived.Stop.Joined
import Derived.SevenTiedAt
import Derived.SizedLaws
import Derived.WideShapes
import Derived.MakeChecks
import Derived.Lib.LaidU8
import Derived.Lay
namespace Go.Proofs.YtedemloocadimaaGreatDoor
open Go.ChangeShapes Go.WideShapes Go.ChangeAt Go.RowKit
theorem Zxj:false=Rows.wholeRow.goesBy Tryz.pinned.checked.prog:=by kernel_rfl
end Go.Proofs.YtedemloocadimaaGreatDoor
