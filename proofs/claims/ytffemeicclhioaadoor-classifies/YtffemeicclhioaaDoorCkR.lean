/-
  Checks: plain.CheckProgram. Own work of the verifier.
-/
import Derived.Test.YtffemeicclhioaaDoorCkQ
namespace Go.Proofs.YtffemeicclhioaaDoor
open Go.RowKit

theorem fault_of {w : World} {v : Value} {x : FltE} (hE : ErrTy w) (h : ErrOf w v x) : Calls Tryd.prog 15 #[v] w fun e w' => e = .returned (flt x.e x.f x.b x.a) ∧ Below w.heap.size w w' := by
  rcases h with ⟨rfl, rfl⟩ | ⟨n, -, rfl, rfl⟩ | ⟨q, -, rfl, hb⟩
  · exact fault_nil w
  · exact fault_errno n w hE
  · exact fault_bad _ _ _ _ q w hE hb
theorem ErrTy.keep {w w' : World} (h : ErrTy w) (hb : Below w.heap.size w w') : ErrTy w' := (hb.cell (World.block_lt_of_cell? w _ h)).trans h
theorem ErrOf.shape {w : World} {v : Value} {x : FltE} (h : ErrOf w v x) : v = .nilIface ∨ ∃ t u, v = .iface t u := by
  rcases h with ⟨rfl, rfl⟩ | ⟨n, -, rfl, rfl⟩ | ⟨q, -, rfl, hb⟩
  · exact Or.inl rfl
  · exact Or.inr ⟨_, _, rfl⟩
  · exact Or.inr ⟨_, _, rfl⟩
end Go.Proofs.YtffemeicclhioaaDoor

