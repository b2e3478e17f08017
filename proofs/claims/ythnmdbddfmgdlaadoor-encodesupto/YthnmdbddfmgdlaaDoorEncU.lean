/-
  Encodes: the reference's shapes. Own work of the verifier.
-/
import Derived.Test.YthnmdbddfmgdlaaDoorEncT
namespace Go.Proofs.YthnmdbddfmgdlaaDoor
open Go.RowKit

def shapeL : List (Array UInt8) := [#[63], #[68, 78], #[68, 65], #[68, 65, 66], #[68, 65, 66], #[68, 65, 66], #[68, 65, 66], #[68, 65, 66], #[68, 65, 66], #[68, 65, 66], #[68, 65, 66, 110], #[68, 65, 66, 110], #[70, 82, 79], #[70, 82, 79], #[65], #[68, 65, 66], #[79], #[70, 82], #[78]]
def shapeB (op : Int) : ByteArray := if 0 ≤ op then ⟨shapeL.getD op.toNat #[63]⟩ else ⟨#[63]⟩
set_option maxHeartbeats 4000000 in
set_option maxRecDepth 100000 in
theorem shape_c (op : Int) (w : World) : Calls Tryd.prog 30 #[.int .i64 op] w fun e w' => e = .returned (.string (shapeB op)) ∧ w' = w := by
  by_cases hop : 1 ≤ op ∧ op ≤ 18
  · have hs : op = 1 ∨ op = 2 ∨ op = 3 ∨ op = 4 ∨ op = 5 ∨ op = 6 ∨ op = 7 ∨ op = 8 ∨ op = 9 ∨ op = 10 ∨ op = 11 ∨ op = 12 ∨ op = 13 ∨ op = 14 ∨ op = 15 ∨ op = 16 ∨ op = 17 ∨ op = 18 := by omega
    rcases hs with rfl | rfl | rfl | rfl | rfl | rfl | rfl | rfl | rfl | rfl | rfl | rfl | rfl | rfl | rfl | rfl | rfl | rfl
    all_goals
      go_enter Tryd.func30, Tryd.ntmps30
      go_wp2
      go_ret
      exact ⟨rfl, rfl⟩
  · have HR := hideE (show shapeB op = ⟨#[63]⟩ by
      unfold shapeB
      split
      · rename_i h0
        by_cases h1 : op = 0
        · subst h1; rfl
        · have h2 : 19 ≤ op.toNat := by omega
          have h3 : shapeL.length ≤ op.toNat := h2
          simp [List.getD, List.getElem?_eq_none h3]
      · rfl)
    have e1 : (op == 1) = false := by simp; omega
    have e2 : (op == 2) = false := by simp; omega
    have e10 : (op == 10) = false := by simp; omega
    have e11 : (op == 11) = false := by simp; omega
    have e12 : (op == 12) = false := by simp; omega
    have e13 : (op == 13) = false := by simp; omega
    have e14 : (op == 14) = false := by simp; omega
    have e15 : (op == 15) = false := by simp; omega
    have e16 : (op == 16) = false := by simp; omega
    have e17 : (op == 17) = false := by simp; omega
    have e18 : (op == 18) = false := by simp; omega
    have hb : (decide (3 ≤ op) && decide (op ≤ 9)) = false := by simp; omega
    go_enter Tryd.func30, Tryd.ntmps30
    go_wp2
    all_goals
      go_ret
      exact ⟨by rw [unhideE HR]; rfl, rfl⟩
def nothingB (d a bb n f : Int) (na no : Nat) : Bool := d == 0 && a == 0 && bb == 0 && n == 0 && f == 0 && (na : Int) == 0 && (no : Int) == 0
set_option maxHeartbeats 4000000 in
set_option maxRecDepth 100000 in
theorem nothing_c (op d a bb n f : Int) (pa po : Option Addr) (na no ca co : Nat) (w : World) : Calls Tryd.prog 31 #[.agg #[.int .i64 op, .int .i64 d, .int .i64 a, .int .i64 bb, .int .u64 n, .int .i64 f, .slice pa na ca, .slice po no co]] w fun e w' => e = .returned (.bool (nothingB d a bb n f na no)) ∧ Below w.heap.size w w' := by
  unfold nothingB
  go_enter Tryd.func31, Tryd.ntmps31
  go_wp2
  all_goals
    go_ret
    refine ⟨?_, by go_grown⟩
    simp_all
end Go.Proofs.YthnmdbddfmgdlaaDoor
