/-
  Tables: the reading's function by its contract. Own work of the verifier.
-/
import Derived.Test.YtffemeicclhioaaDoorProg
import Derived.Tactics
import Derived.Tactics2
import Derived.Defers
import Derived.Laws.Pointers
import Derived.Laws.LoneSync
import Derived.RegionTactic
import Derived.RegionCalls
import Derived.ChangeAlike
import Derived.Test.YtffemeicclhioaaDoorM2
import Derived.Deep.MidRow
namespace Go.Proofs.YtffemeicclhioaaDoor
open Go.RowKit

theorem gb_refl (w : World) (r : Option Nat) : w.grownBy w r := ⟨rfl, rfl, rfl, Nat.le_refl _, fun _ _ _ => rfl⟩
end Go.Proofs.YtffemeicclhioaaDoor

