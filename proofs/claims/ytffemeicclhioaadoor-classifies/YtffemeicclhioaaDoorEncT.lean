/-
  Encodes: the reference's signatures by their contract. Own work of the verifier.
-/
import Derived.Test.YtffemeicclhioaaDoorEncQ
namespace Go.Proofs.YtffemeicclhioaaDoor
open Go.RowKit

theorem RsB.gb {w w' : World} {b : Nat} {v : Value} {ns : List Int} (h : RsB w b v ns) (hw : w.grownBy w' (some b)) (hb : b < w.heap.size) : RsB w' b v ns := by
  rcases h with h | ⟨sb, so, cap, h1, h2, h3⟩
  · exact Or.inl h
  · exact Or.inr ⟨sb, so, cap, h1, h2, fun i hi => (World.cell?_of_block (hw.block sb (by omega) (by intro e; injection e with e; omega))).trans (h3 i hi)⟩
theorem gb_tr {a c d : World} {row : Option Nat} (h : a.grownBy c row) (k : c.grownBy d row) : a.grownBy d row :=
  ⟨k.os.trans h.os, k.tape.trans h.tape, k.output.trans h.output, Nat.le_trans h.size k.size, fun q hq hr => (k.block q (Nat.lt_of_lt_of_le hq h.size) hr).trans (h.block q hq hr)⟩
theorem gb_alloc (w : World) (o : Obj) (row : Option Nat) : w.grownBy (w.alloc o) row :=
  have q := (Below.refl w.heap.size w).alloc (Nat.le_refl _) o
  ⟨q.os, q.tape, q.output, q.size, fun k hk _ => q.block k hk⟩
end Go.Proofs.YtffemeicclhioaaDoor

