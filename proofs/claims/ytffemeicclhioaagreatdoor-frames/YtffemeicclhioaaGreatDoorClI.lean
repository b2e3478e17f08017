/-
 Layouts of calls: prologueref.Classify. Own work of the verifier.
-/
import Derived.Test.YtffemeicclhioaaGreatDoorClFc
import Derived.Test.YtffemeicclhioaaGreatDoorClH
namespace Go.Proofs.YtffemeicclhioaaGreatDoor
open Go.RowKit

theorem only_l (n : Int) (w : World) : Calls Tryz.prog 13 #[.int .i64 n] w fun e w' => e = .returned (flt n (-1) (-1) (-1)) ∧ Below w.heap.size w w' := by
 go_enter Tryz.func13, Tryz.ntmps13
 go_wp2
 go_returns
 exact ⟨rfl, by go_grown⟩
end Go.Proofs.YtffemeicclhioaaGreatDoor

