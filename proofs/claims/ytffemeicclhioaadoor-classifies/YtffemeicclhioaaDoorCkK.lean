/-
  Checks: the fields of an instruction, by package program: those that draw no order. Own work of the verifier.
-/
import Derived.Test.YtffemeicclhioaaDoorCkH
namespace Go.Proofs.YtffemeicclhioaaDoor
open Go.RowKit

theorem Li.list {w : World} (ns : List Int) (hs : ns.length < short) : Li (w.alloc (.cells (ns.map fun n => Value.int .i64 n).toArray 3 (0, 0))) (.slice (some ⟨w.heap.size, 0, none⟩) ns.length ns.length) ns := Li.new (heap_alloc_new w _) hs
end Go.Proofs.YtffemeicclhioaaDoor

