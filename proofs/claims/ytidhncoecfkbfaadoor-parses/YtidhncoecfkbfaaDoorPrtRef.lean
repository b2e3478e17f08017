/-
  prologueref.words by its contract. Own work of the verifier.
-/
import Derived.Test.YtidhncoecfkbfaaDoorPrtPrint
namespace Go.Proofs.YtidhncoecfkbfaaDoor
open Go.RowKit

set_option maxHeartbeats 1000000 in
theorem words_any (w : World) : Calls Tryd.prog 32 #[] w fun e w' => ∃ b v, e = .returned (.tuple #[.slice (some ⟨b, 0, none⟩) 11 11, v]) ∧ (∀ k, k < 11 → w'.cell? ⟨b, k, none⟩ = some (.string ⟨(nm k).toArray⟩)) ∧ w.heap.size ≤ b ∧ b < w'.heap.size ∧ Below w.heap.size w w' := by
  go_enter Tryd.func32, Tryd.ntmps32
  go_wp2
  go_ret2
  refine ⟨_, _, rfl, fun k hk => ?_, Nat.le_refl _, by simp; omega, by go_grown⟩
  rw [World.cell?_alloc_lt _ _ ⟨w.heap.size, k, none⟩ (by simp), World.cell?_alloc_at _ _ _ _ rfl]
  match k, hk with
  | 0, _ | 1, _ | 2, _ | 3, _ | 4, _ | 5, _ | 6, _ | 7, _ | 8, _ | 9, _ | 10, _ => rfl
end Go.Proofs.YtidhncoecfkbfaaDoor
