/-
  Checks: arguments and calls, by package program. Own work of the verifier.
-/
import Derived.Test.YtffemeicclhioaaDoorCkG
import Derived.Deep.RegionHeld3
namespace Go.Proofs.YtffemeicclhioaaDoor
open Go.RowKit

theorem Li.one (w : World) (n : Int) : Li (w.alloc (.cells #[.int .i64 n] 3 (0, 0))) (.slice (some ⟨w.heap.size, 0, none⟩) 1 1) [n] := Li.new (ns := [n]) (heap_alloc_new w _) (by show 1 < short; decide)
end Go.Proofs.YtffemeicclhioaaDoor

