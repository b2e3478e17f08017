/-
  memory.Bytes by contracts: look, Load, Store, New. Own work of the verifier.
-/
import Derived.Test.YtobempobmokkcaaDoorStkPlain
namespace Go.Proofs.YtobempobmokkcaaDoor
open Go.RowKit

def isW (n : Int) : Bool := n == 1 || n == 2 || n == 4 || n == 8
theorem isW_iff (n : Int) : isW n = true ↔ n = 1 ∨ n = 2 ∨ n = 4 ∨ n = 8 := by unfold isW; simp; omega

set_option maxHeartbeats 400000 in
theorem width_any (n : Int) (w : World) : Calls Tryd.prog 24 #[.int .i64 n] w fun e w' => e = .returned (.bool (isW n)) ∧ w' = w := by
  by_cases h1 : n = 1
  · subst h1; go_enter Tryd.func24, Tryd.ntmps24; go_wp2; go_ret; exact ⟨rfl, rfl⟩
  by_cases h2 : n = 2
  · subst h2; go_enter Tryd.func24, Tryd.ntmps24; go_wp2; go_ret; exact ⟨rfl, rfl⟩
  by_cases h4 : n = 4
  · subst h4; go_enter Tryd.func24, Tryd.ntmps24; go_wp2; go_ret; exact ⟨rfl, rfl⟩
  by_cases h8 : n = 8
  · subst h8; go_enter Tryd.func24, Tryd.ntmps24; go_wp2; go_ret; exact ⟨rfl, rfl⟩
  have e1 : (n == 1) = false := by simp [h1]
  have e2 : (n == 2) = false := by simp [h2]
  have e4 : (n == 4) = false := by simp [h4]
  have e8 : (n == 8) = false := by simp [h8]
  have e : isW n = false := by simp [isW, h1, h2, h4, h8]
  rw [e]; clear e
  go_enter Tryd.func24, Tryd.ntmps24; go_wp2; go_ret; exact ⟨rfl, rfl⟩

/-- What look says: 0, or the error's number. -/
def lookE (n : Nat) (a k : Int) : Int := if isW k = false then 6 else if a < 0 ∨ (n : Int) - k < a then 9 else 0
def errV (e : Int) : Value := if e = 0 then .nilIface else .iface 50 (.int .i64 e)
set_option maxHeartbeats 400000 in
theorem look_any (p : Option Addr) (n : Nat) (a k : Int) (w : World) (hn : n ≤ 65536) : Calls Tryd.prog 20 #[.slice p n n, .int .i64 a, .int .i64 k] w fun e w' => e = .returned (errV (lookE n a k)) ∧ w' = w := by
  cases hw : isW k with
  | false =>
    have e : errV (lookE n a k) = .iface 50 (.int .i64 6) := by simp [lookE, errV, hw]
    rw [e]; clear e
    go_enter Tryd.func20, Tryd.ntmps20
    go_wp2_with (go_at_call 24; refine (width_any _ _).mono ?_; rintro e w' ⟨rfl, rfl⟩)
    go_ret
    exact ⟨rfl, rfl⟩
  | true =>
    have hk := (isW_iff k).1 hw
    have hk1 : 1 ≤ k := by omega
    have hk8 : k ≤ 8 := by omega
    clear hk
    by_cases ha : a < 0
    · have e : errV (lookE n a k) = .iface 50 (.int .i64 9) := by simp [lookE, errV, hw, ha]
      rw [e]; clear e
      go_enter Tryd.func20, Tryd.ntmps20
      go_wp2_with (go_at_call 24; refine (width_any _ _).mono ?_; rintro e w' ⟨rfl, rfl⟩)
      go_ret
      exact ⟨rfl, rfl⟩
    by_cases hs : (n : Int) - k < a
    · have e : errV (lookE n a k) = .iface 50 (.int .i64 9) := by simp [lookE, errV, hw, hs]
      rw [e]; clear e
      go_enter Tryd.func20, Tryd.ntmps20
      go_wp2_with (go_at_call 24; refine (width_any _ _).mono ?_; rintro e w' ⟨rfl, rfl⟩)
      go_ret
      exact ⟨rfl, rfl⟩
    · have e : errV (lookE n a k) = .nilIface := by simp [lookE, errV, hw, ha, hs]
      rw [e]; clear e
      go_enter Tryd.func20, Tryd.ntmps20
      go_wp2_with (go_at_call 24; refine (width_any _ _).mono ?_; rintro e w' ⟨rfl, rfl⟩)
      go_ret
      exact ⟨rfl, rfl⟩
end Go.Proofs.YtobempobmokkcaaDoor
