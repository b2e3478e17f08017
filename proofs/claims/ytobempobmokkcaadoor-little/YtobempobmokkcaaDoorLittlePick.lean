/-
  prologuekeep.pick by its contract. Own work of the verifier.
-/
import Derived.Test.YtobempobmokkcaaDoorStkInt
namespace Go.Proofs.YtobempobmokkcaaDoor
open Go.RowKit

theorem ret_int {k : IntKind} {a b : Int} (h : a = b) : Ending.returned (.int k a) = .returned (.int k b) := by rw [h]
def pk (c n : Int) : Int := (if c < 0 then -(c + 1) else c) % n
theorem pk_bd (c n : Int) (hn : 0 < n) : 0 ≤ pk c n ∧ pk c n < n := ⟨Int.emod_nonneg _ (by omega), Int.emod_lt_of_pos _ hn⟩
set_option maxHeartbeats 400000 in
theorem pick_any (c n : Int) (w : World) (hc : (Lit.int .i64 c).wf = true) (hn : 1 ≤ n) (hn2 : n ≤ 65536) : Calls Tryd.prog 4 #[.int .i64 c, .int .i64 n] w fun e w' => e = .returned (.int .i64 (pk c n)) ∧ w' = w := by
  have hb := bounds_i64 hc
  obtain ⟨hb0, hb1⟩ := hb
  clear hc
  by_cases h : c < 0
  · have e : pk c n = (-(c + 1)) % n := by simp [pk, h]
    have HE := hide e
    clear e
    go_enter Tryd.func4, Tryd.ntmps4
    go_wp2
    go_ret
    rw [unhide HE]
    exact ⟨ret_int (by rw [← Int.neg_tmod, Int.tmod_eq_emod_of_nonneg (by omega)]), rfl⟩
  · have e : pk c n = c % n := by simp [pk, h]
    have HE := hide e
    clear e
    go_enter Tryd.func4, Tryd.ntmps4
    go_wp2
    go_ret
    rw [unhide HE]
    exact ⟨rfl, rfl⟩
end Go.Proofs.YtobempobmokkcaaDoor
