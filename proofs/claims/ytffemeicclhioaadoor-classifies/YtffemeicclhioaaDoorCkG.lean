/-
  Checks: slots, arguments and calls, by package program. Own work of the verifier.
-/
import Derived.Test.YtffemeicclhioaaDoorCkD
namespace Go.Proofs.YtffemeicclhioaaDoor
open Go.RowKit

theorem IntKind.wrap_of_boundsK {n : Int} (h0 : -9223372036854775808 ≤ n) (h1 : n < 9223372036854775808) : IntKind.i64.wrap n = n := by
  rw [IntKind.wrap_i64]
  omega
end Go.Proofs.YtffemeicclhioaaDoor

