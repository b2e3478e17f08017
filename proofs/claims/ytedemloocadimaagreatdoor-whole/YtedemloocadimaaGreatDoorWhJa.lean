import Derived.Test.YtedemloocadimaaGreatDoorRows
import Derived.Test.YtedemloocadimaaGreatDoorCards
import Derived.ProofKit
import Derived.OpenShut
import Derived.ChangeSame
import Derived.ChangeSlices
import Derived.ChangeVars
import Derived.JoinedOf
import Derived.RowKit
import Derived.RowKitTokens
import Derived.LaidLaws
import Derived.LaidHandle
import Derived.LaidSub
import Derived.Stop.Joined
import Derived.SevenTiedAt
import Derived.SizedLaws
import Derived.WideShapes
import Derived.MakeChecks
import Derived.Lib.LaidU8
import Derived.Lib.LaidTab
import Derived.Lay
import Derived.Test.YtedemloocadimaaGreatDoorJ23
namespace Go.Proofs.YtedemloocadimaaGreatDoor
open Go.ChangeShapes Go.WideShapes Go.ChangeAt Go.RowKit
theorem Zxk:Rows.wholeRow.wf (OpenSpec.ofChange Rows.wholeSpec)=true:=by kernel_rfl
theorem Zxl:laidOutB Tryz.pinned.checked.prog=true:=by kernel_rfl
theorem Zxm:mapsRowed Tryz.pinned.checked.prog=true:=by kernel_rfl
theorem Zxn:Tryz.f3.params.all (Tryz.pinned.checked.prog.readableRec ·)=true:=by kernel_rfl
theorem Zxo:namedTie Tryz.pinned.checked.prog Rows.wholeRow.named Rows.wholeSpec.vars=true:=by kernel_rfl
theorem Zxp:(Rows.wholeRow.stops==[])=true:=by kernel_rfl
theorem Zxq:(Tryz.pinned.checked.prog.stops==[])=true:=by kernel_rfl
theorem Zxr:(Rows.wholeRow.knobs==[])=true:=by kernel_rfl
theorem Zxs:(Tryz.pinned.checked.prog.stopKnobs==[])=true:=by kernel_rfl
end Go.Proofs.YtedemloocadimaaGreatDoor
