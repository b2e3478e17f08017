/-
  Checks: prologueref.right. Own work of the verifier.
-/
import Derived.Test.YtffemeicclhioaaDoorCkS
import Derived.Test.YtffemeicclhioaaDoorEncX
import Derived.Test.YtffemeicclhioaaDoorCards
import Derived.Test.YtffemeicclhioaaDoorTie
import Derived.Test.YtffemeicclhioaaDoorM7
import Derived.Test.YtffemeicclhioaaDoorEncO
import Derived.WalkKit
import Derived.ProofKit
import Derived.OpenShut
import Derived.Carry
import Derived.Deep.DeepHandedRow
import Derived.Lib.LaidTab
import Derived.Lay
import Derived.SevenTiedAt
import Derived.Deep.CutRange
namespace Go.Proofs.YtffemeicclhioaaDoor
open Go.RowKit

theorem Li.setRow {w : World} {T : Nat} {cs : Array Value} {v : Value} {ns : List Int} (h : Li w v ns) (hne : ∀ sb so n c, v = .slice (some ⟨sb, so, none⟩) n c → 0 < ns.length → sb ≠ T) : Li (w.setRow T cs) v ns := by
  obtain ⟨p, cap, h1, h2, h3, h4⟩ := h
  refine ⟨p, cap, h1, h2, h3, fun h0 => ?_⟩
  obtain ⟨sb, so, e, hc⟩ := h4 h0
  subst e
  have hn := hne sb so _ _ h1 h0
  refine ⟨sb, so, rfl, fun i hi => ?_⟩
  rw [← hc i hi]
  unfold World.cell?
  simp only [setRow_other w T sb cs hn]
theorem rows5 (w : World) (X0 X1 X2 X3 X4 : Obj) : (((((w.alloc X0).alloc X1).alloc X2).alloc X3).alloc X4).heap[w.heap.size]? = some X0 ∧ (((((w.alloc X0).alloc X1).alloc X2).alloc X3).alloc X4).heap[w.heap.size + 1]? = some X1 ∧ (((((w.alloc X0).alloc X1).alloc X2).alloc X3).alloc X4).heap[w.heap.size + 1 + 1]? = some X2 ∧ (((((w.alloc X0).alloc X1).alloc X2).alloc X3).alloc X4).heap[w.heap.size + 1 + 1 + 1]? = some X3 ∧ (((((w.alloc X0).alloc X1).alloc X2).alloc X3).alloc X4).heap.size = w.heap.size + 1 + 1 + 1 + 1 + 1 := by
  obtain ⟨r0, b0, s0⟩ := al0 w X0
  obtain ⟨r1, b1, s1⟩ := al0 (w.alloc X0) X1
  obtain ⟨r2, b2, s2⟩ := al0 ((w.alloc X0).alloc X1) X2
  obtain ⟨r3, b3, s3⟩ := al0 (((w.alloc X0).alloc X1).alloc X2) X3
  obtain ⟨r4, b4, s4⟩ := al0 ((((w.alloc X0).alloc X1).alloc X2).alloc X3) X4
  rw [s0] at r1
  rw [s1, s0] at r2
  rw [s2, s1, s0] at r3
  exact ⟨(b4.block _ (by omega)).trans ((b3.block _ (by omega)).trans ((b2.block _ (by omega)).trans ((b1.block _ (by omega)).trans r0))), (b4.block _ (by omega)).trans ((b3.block _ (by omega)).trans ((b2.block _ (by omega)).trans r1)), (b4.block _ (by omega)).trans ((b3.block _ (by omega)).trans r2), (b4.block _ (by omega)).trans r3, by omega⟩
end Go.Proofs.YtffemeicclhioaaDoor

