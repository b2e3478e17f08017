/-
  Encodes: the reference's instruction by its contract. Own work of the verifier.
-/
import Derived.Test.YtffemeicclhioaaDoorEncT
import Derived.Test.YtffemeicclhioaaDoorM1
import Derived.Deep.RegionWith
import Derived.Deep.Onto
import Derived.Deep.RegionLaw
import Derived.WalkSmall
namespace Go.Proofs.YtffemeicclhioaaDoor
open Go.RowKit

theorem LsB.gb {α : Type} {size : Nat} {w w' : World} {b : Nat} {v : Value} {ps : List (Array Value × α)} (h : LsB size w b v ps) (hw : w.grownBy w' (some b)) (hb : b < w.heap.size) : LsB size w' b v ps := by
  rcases h with h | ⟨sb, so, cap, h1, h2, h3⟩
  · exact Or.inl h
  · exact Or.inr ⟨sb, so, cap, h1, h2, fun i hi j x hx => (World.cell?_of_block (a := ⟨sb, so + i * size + j, none⟩) (hw.block sb (by omega) (by intro e; injection e with e; omega))).trans (h3 i hi j x hx)⟩
theorem row_lt {w : World} {T : Nat} {o : Obj} (h : w.heap[T]? = some o) : T < w.heap.size := (Array.getElem?_eq_some_iff.1 h).1
theorem gb_setAt {w u : World} {b k j : Nat} {v : Value} (h : w.grownBy u (some b)) (hk : w.heap.size ≤ k ∨ k = b) : w.grownBy (u.setCell ⟨k, j, none⟩ v) (some b) :=
  ⟨h.os, h.tape, h.output, by simp; exact h.size, fun q hq hr => (heap_setCell_other u ⟨k, j, none⟩ q v (by show q ≠ k; rintro rfl; exact hk.elim (fun x => by omega) (fun x => hr (by rw [x])))).trans (h.block q hq hr)⟩
section
variable {w u : World} {b T1 T2 : Nat} {A1 A2 : Array Value} {s : ByteArray} {q : Nat} {l : List UInt8} {bad : Bool}
end
end Go.Proofs.YtffemeicclhioaaDoor

