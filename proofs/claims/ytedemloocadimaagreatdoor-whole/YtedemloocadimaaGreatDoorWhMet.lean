import Derived.Test.YtedemloocadimaaGreatDoorRows
import Derived.Test.YtedemloocadimaaGreatDoorCards
import Derived.ProofKit
import Derived.OpenShut
import Derived.ChangeSame
import Derived.ChangeSlices
import Derived.ChangeVars
import Derived.JoinedOf
import Derived.RowKit
import Derived.RowKitTokens
import Derived.LaidLaws
import Derived.LaidHandle
import Derived.LaidSub
import Derived.Stop.Joined
import Derived.SevenTiedAt
import Derived.SizedLaws
import Derived.WideShapes
import Derived.MakeChecks
import Derived.Lib.LaidU8
import Derived.Lib.LaidTab
import Derived.Lay
import Derived.Test.YtedemloocadimaaGreatDoorJ23
namespace Go.Proofs.YtedemloocadimaaGreatDoor
open Go.ChangeShapes Go.WideShapes Go.ChangeAt Go.RowKit
abbrev Zyb:List (String×DataW Unit):=Rows.wholeRow.laid.filter fun x=>x.2.handleName?.isNone
theorem Zth (os:Os)(args:Array Value):laidMetH Tryz.prog Rows.wholeRow.laid ((Zoq (World.laidAll Tryz.prog os Zyb)).forCall (fun _ _=>0) ⟨#[],args,[]⟩).memory :=
 laidMetH_of_parts (laidMet_of_run' 16 (by kernel_rfl) (by kernel_rfl)) (by kernel_rfl)
end Go.Proofs.YtedemloocadimaaGreatDoor
