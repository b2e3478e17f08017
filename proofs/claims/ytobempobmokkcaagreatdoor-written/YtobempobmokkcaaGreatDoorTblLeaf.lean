/-
  Tables: prologueref.in, prologueref.has, table.meet. Own work of the verifier.
-/
import Derived.Test.YtobempobmokkcaaGreatDoorPrtRef2
import Derived.Test.YtobempobmokkcaaGreatDoorPsAdd
namespace Go.Proofs.YtobempobmokkcaaGreatDoor
open Go.RowKit

theorem Rs.get {w : World} {v : Value} {ns : List Int} (h : Rs w v ns) (hn : ns ≠ []) : ∃ sb so cap, v = .slice (some ⟨sb, so, none⟩) ns.length cap ∧ ∀ i, i < ns.length → w.cell? ⟨sb, so + i, none⟩ = some (.int .i64 (ns.getD i 0)) := by
  rcases h with ⟨e, _⟩ | h
  · exact absurd e hn
  · exact h
theorem not_mem_take {ns : List Int} {x : Int} {k : Nat} (hk : k < ns.length) (h : ¬ x ∈ ns.take k) (hx : ns.getD k 0 ≠ x) : ¬ x ∈ ns.take (k + 1) := by
  rw [List.take_succ_eq_append_getElem hk]
  intro hm
  rcases List.mem_append.1 hm with h' | h'
  · exact h h'
  · simp at h'
    exact hx (by simp [List.getD, hk, h'])
theorem mem_of_getD {ns : List Int} {x : Int} {k : Nat} (hk : k < ns.length) (hx : ns.getD k 0 = x) : x ∈ ns := by
  have : ns[k] = x := by simpa [List.getD, hk] using hx
  exact this ▸ List.getElem_mem hk
end Go.Proofs.YtobempobmokkcaaGreatDoor
