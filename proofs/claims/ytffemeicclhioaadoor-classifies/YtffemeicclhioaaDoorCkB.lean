/-
  Checks: the heads of functions, by package program. Own work of the verifier.
-/
import Derived.Test.YtffemeicclhioaaDoorCkA
import Derived.Test.YtffemeicclhioaaDoorM4
namespace Go.Proofs.YtffemeicclhioaaDoor
open Go.RowKit

theorem LS.ones {w : World} {v : Value} {n : Nat} {B : Nat → Value} (h : LS 1 w v n (fun k => #[B k])) : ∃ p cap, v = .slice p n cap ∧ n ≤ cap ∧ n < 9223372036854775808 ∧ (0 < n → ∃ sb so, p = some ⟨sb, so, none⟩ ∧ ∀ k, k < n → w.cell? ⟨sb, so + k, none⟩ = some (B k)) := by
  obtain ⟨p, cap, h1, h2, h3, h4⟩ := h
  refine ⟨p, cap, h1, h2, h3, fun h0 => ?_⟩
  obtain ⟨sb, so, e, -, hc⟩ := h4 h0
  refine ⟨sb, so, e, fun k hk => ?_⟩
  have := hc k hk 0 _ rfl
  rwa [Nat.mul_one, Nat.add_zero] at this
theorem row_al {w : World} {T : Nat} {cs : Array Value} {t : TypeId} {fr : Nat × Nat} (h : w.heap[T]? = some (.cells cs t fr)) (j : Nat) (X : Obj) : (w.alloc X).cell? ⟨T, j, none⟩ = cs[j]? := by
  have hlt : T < w.heap.size := by
    rcases Nat.lt_or_ge T w.heap.size with y | y
    · exact y
    · simp [Array.getElem?_eq_none y] at h
  exact (World.cell?_of_block (a := ⟨T, j, none⟩) ((al0 w X).2.1.block T hlt)).trans (cells_of_row h j)
theorem Li.rs {w : World} {v : Value} {ns : List Int} (h : Li w v ns) : Rs w v ns := by
  obtain ⟨p, cap, h1, h2, h3, h4⟩ := h
  rcases Nat.eq_zero_or_pos ns.length with h0 | h0
  · exact Or.inl ⟨List.eq_nil_of_length_eq_zero h0, p, cap, by rw [h1, h0]⟩
  · obtain ⟨sb, so, e, hc⟩ := h4 h0
    exact Or.inr ⟨sb, so, cap, by rw [h1, e], hc⟩
end Go.Proofs.YtffemeicclhioaaDoor

