/-
  Checks: program.Check. Own work of the verifier.
-/
import Derived.Test.YtffemeicclhioaaDoorCkK
import Derived.Test.YtffemeicclhioaaDoorTblReg
namespace Go.Proofs.YtffemeicclhioaaDoor
open Go.RowKit

/-- An error, and what it tells. -/
def ErrOf (w : World) (v : Value) (x : FltE) : Prop := (v = .nilIface ∧ x = ⟨0, -1, -1, -1⟩) ∨ (∃ n, n ≠ 0 ∧ v = .iface 63 (.int .i64 n) ∧ x = ⟨n, -1, -1, -1⟩) ∨ ∃ q, x.e ≠ 0 ∧ v = .iface 66 (.pointer (some ⟨q, 0, none⟩)) ∧ BadAt w q x.e x.f x.b x.a
/-- All that is asked of a table in a world. -/
structure TabC (w : World) (va vr vs : Value) (ag rs ss : List Int) : Prop where
  a : Rs w va ag
  r : Rs w vr rs
  s : Rs w vs ss
  ca : ∀ a n cap, va = .slice a n cap → n ≤ cap
  cr : ∀ a n cap, vr = .slice a n cap → n ≤ cap
  cs : ∀ a n cap, vs = .slice a n cap → n ≤ cap
theorem TabC.below {w w' : World} {va vr vs : Value} {ag rs ss : List Int} (h : TabC w va vr vs ag rs ss) (hb : Below w.heap.size w w') : TabC w' va vr vs ag rs ss := ⟨h.a.below hb, h.r.below hb, h.s.below hb, h.ca, h.cr, h.cs⟩
theorem tabB_regs {r sp lk t0 t1 : Int} {ag rs ss : List Int} {al sh by_ : Int} (h : tabB r sp lk t0 t1 ag rs ss al sh by_ = true) : 4 ≤ r ∧ r ≤ 16 := by
  unfold tabB numsB at h
  simp at h
  omega
end Go.Proofs.YtffemeicclhioaaDoor

