/-
  Parses: agrees, ints, tables at equal ones; spoilInts, spoilTable. Own work of the verifier.
-/
import Derived.Test.YtobempobmokkcaaGreatDoorPsNums
import Derived.Test.YtobempobmokkcaaGreatDoorPrtPrint
import Derived.Test.YtobempobmokkcaaGreatDoorPsTab2
namespace Go.Proofs.YtobempobmokkcaaGreatDoor
open Go.RowKit

/-- A value that reads as a list of numbers: by the cells. -/
def RdI (w : World) (v : Value) (ns : List Int) : Prop := (ns = [] ∧ v = .slice none 0 0) ∨ ∃ g cap, v = .slice (some ⟨g, 0, none⟩) ns.length cap ∧ ∀ i, i < ns.length → w.cell? ⟨g, i, none⟩ = some (.int .i64 (ns.getD i 0))
theorem RdI.below {w w' : World} {v : Value} {ns : List Int} (h : RdI w v ns) (hb : Below w.heap.size w w') : RdI w' v ns := by
  rcases h with h | ⟨g, cap, e, hc⟩
  · exact Or.inl h
  · exact Or.inr ⟨g, cap, e, fun i hi => (hb.cell (p := ⟨g, i, none⟩) (World.block_lt_of_cell? w _ (hc i hi))).trans (hc i hi)⟩
theorem RdI.shape {w : World} {v : Value} {ns : List Int} (h : RdI w v ns) : ∃ a cap, v = .slice a ns.length cap := by
  rcases h with ⟨rfl, rfl⟩ | ⟨g, cap, rfl, _⟩
  · exact ⟨_, _, rfl⟩
  · exact ⟨_, _, rfl⟩
theorem rd_of_own {w : World} {base : Nat} {v : Value} {ns : List Int} (h : w.ownsRow base 3 1 v ns.length (iCells ns)) : RdI w v ns := by
  rcases h.2 with ⟨e, e0⟩ | ⟨g, cap, cur, e, -⟩
  · exact Or.inl ⟨List.eq_nil_of_length_eq_zero e0, e⟩
  · refine Or.inr ⟨g, cap, e, fun i hi => ?_⟩
    subst e
    rw [h.cellAt i (by omega)]
    simp [iCells, hi]
theorem own_set {w : World} {base n cap g : Nat} {e : TypeId} {xs : List Value} (h : w.ownsRow base e 1 (.slice (some ⟨g, 0, none⟩) n cap) n xs) (i : Nat) (u : Value) : ∃ xs', (w.setCell ⟨g, i, none⟩ u).ownsRow base e 1 (.slice (some ⟨g, 0, none⟩) n cap) n xs' := by
  rcases h.2 with ⟨e1, _⟩ | ⟨g', cap', cur, e1, h2, h3, h4, h5, h6, h7⟩
  · cases e1
  · injection e1 with e1 _ e2
    injection e1 with e1
    injection e1 with e1
    subst e1; subst e2
    refine ⟨(cur.setIfInBounds i u).toList.take (n * 1), ?_, Or.inr ⟨g, cap, cur.setIfInBounds i u, rfl, h2, heap_setCell_same w g i cur e u h3, h4, h5, by simpa using h6, rfl⟩⟩
    simp
    omega
theorem low_of_gb {w w' : World} {B : Nat} {v : Value} (hg : w.grownBy w' v.ownBlock) (hv : ∀ g, v.ownBlock = some g → B ≤ g) (hB : B ≤ w.heap.size) : Below B w w' := ⟨hg.os, hg.tape, hg.output, hg.size, fun q hq => hg.block q (by omega) (fun e => by have := hv q e.symm; omega)⟩
theorem ne_own {v u : Value} (h : ∀ g, u.ownBlock = some g → v.ownBlock ≠ some g) : v.ownBlock = none ∨ v.ownBlock ≠ u.ownBlock := by
  cases hv : v.ownBlock with
  | none => exact Or.inl rfl
  | some g => exact Or.inr (fun e => h g e.symm hv)
/-- What spoiling a table leaves: all but its lists. -/
structure Spoilt (w w' : World) (v4 v5 v6 : Value) : Prop where
  size : w.heap.size ≤ w'.heap.size
  same : ∀ q, q < w.heap.size → v4.ownBlock ≠ some q → v5.ownBlock ≠ some q → v6.ownBlock ≠ some q → w'.heap[q]? = w.heap[q]?
  os : w'.os = w.os
  tape : w'.tape = w.tape
  output : w'.output = w.output
theorem eq_int (n : Int) (d : Nat) (W : World) : (Op.equalIn (d + 1) 3 (.int .i64 n) (.int .i64 n)).run Tryz.prog W = .ok true W := by
  rw [run_equalIn_int W d 3 .i64 .i64 n n Tryz.underlying3]; simp
theorem eq_two (t0 t1 : Int) (d : Nat) (W : World) : (Op.equalIn (d + 1 + 1) 22 (.agg #[.int .i64 t0, .int .i64 t1]) (.agg #[.int .i64 t0, .int .i64 t1])).run Tryz.prog W = .ok true W := by
  rw [Op.equalIn.eq_def]
  simp only [Sem.run_bind, run_underlying Tryz.underlying22, Result.andThen_ok]
  simp [Std.Legacy.Range.forIn_eq_forIn_range', List.range', part, Tryz.isAgg3, Tryz.sizeOf3, eq_int]
end Go.Proofs.YtobempobmokkcaaGreatDoor
