/-
  The statement's own stack (prologueref.bytes): a map of bytes. Contracts. Own work of the verifier.
-/
import Derived.Test.YtidhncoecfkbfaaDoorStkInt
import Derived.Maps.OwnOps
import Derived.Maps.Views
namespace Go.Proofs.YtidhncoecfkbfaaDoor
open Go.RowKit Go.Maps

set_option maxHeartbeats 400000 in
theorem fine_any (w : World) : Calls Tryd.prog 34 #[] w fun e w' => e = .returned (flt 0 (-1) (-1) (-1)) ∧ Below w.heap.size w w' := by
  go_enter Tryd.func34, Tryd.ntmps34
  go_wp2
  go_returns
  exact ⟨rfl, by go_grown⟩
set_option maxHeartbeats 400000 in
theorem only_any (n : Int) (w : World) : Calls Tryd.prog 46 #[.int .i64 n] w fun e w' => e = .returned (flt n (-1) (-1) (-1)) ∧ Below w.heap.size w w' := by
  go_enter Tryd.func46, Tryd.ntmps46
  go_wp2
  go_returns
  exact ⟨rfl, by go_grown⟩
set_option maxHeartbeats 400000 in
theorem agrees_same (e f b a : Int) (w : World) : Calls Tryd.prog 8 #[flt e f b a, flt e f b a] w fun v w' => v = .returned (.bool true) ∧ Below w.heap.size w w' := by
  go_enter Tryd.func8, Tryd.ntmps8
  go_wp2
  go_returns
  exact ⟨rfl, by go_grown⟩
set_option maxHeartbeats 400000 in
theorem has_width (B : Nat) (k : Int) (w : World) (h0 : w.cell? ⟨B, 0, none⟩ = some (.int .i64 1)) (h1 : w.cell? ⟨B, 1, none⟩ = some (.int .i64 2)) (h2 : w.cell? ⟨B, 2, none⟩ = some (.int .i64 4)) (h3 : w.cell? ⟨B, 3, none⟩ = some (.int .i64 8)) :
    Calls Tryd.prog 41 #[.slice (some ⟨B, 0, none⟩) 4 4, .int .i64 k] w fun v w' => v = .returned (.bool (isW k)) ∧ w' = w := by
  rcases (show k = 1 ∨ k = 2 ∨ k = 4 ∨ k = 8 ∨ isW k = false by unfold isW; simp; omega) with rfl | rfl | rfl | rfl | hk
  · go_enter Tryd.func41, Tryd.ntmps41
    go_wp2
    go_rounds 5
    go_ret
    exact ⟨rfl, rfl⟩
  · go_enter Tryd.func41, Tryd.ntmps41
    go_wp2
    go_rounds 5
    go_ret
    exact ⟨rfl, rfl⟩
  · go_enter Tryd.func41, Tryd.ntmps41
    go_wp2
    go_rounds 5
    go_ret
    exact ⟨rfl, rfl⟩
  · go_enter Tryd.func41, Tryd.ntmps41
    go_wp2
    go_rounds 5
    go_ret
    exact ⟨rfl, rfl⟩
  · have n1 : (1 == k) = false := by unfold isW at hk; simp at hk ⊢; omega
    have n2 : (2 == k) = false := by unfold isW at hk; simp at hk ⊢; omega
    have n3 : (4 == k) = false := by unfold isW at hk; simp at hk ⊢; omega
    have n4 : (8 == k) = false := by unfold isW at hk; simp at hk ⊢; omega
    rw [hk]; clear hk
    go_enter Tryd.func41, Tryd.ntmps41
    go_wp2
    go_rounds 5
    go_ret
    exact ⟨rfl, rfl⟩
end Go.Proofs.YtidhncoecfkbfaaDoor
