/-
  Tables: table.numbersFit, table.listsFit, table.Reserved. Own work of the verifier.
-/
import Derived.Test.YtobempobmokkcaaGreatDoorTblLeaf3
import Derived.Test.YtobempobmokkcaaGreatDoorPrtPrint
namespace Go.Proofs.YtobempobmokkcaaGreatDoor
open Go.RowKit

def numsB (r al sh by_ : Int) : Bool := decide (4 ≤ r ∧ r ≤ 16 ∧ (al = 8 ∨ al = 16 ∨ al = 32) ∧ 0 ≤ sh ∧ sh ≤ 32 ∧ sh % 8 = 0 ∧ 0 ≤ by_ ∧ by_ ≤ 4)
set_option maxHeartbeats 2000000 in
theorem numbersFit_c (r sp lk t0 t1 : Int) (va vr vs : Value) (al sh by_ : Int) (pr : Bool) (w : World) : Calls Tryz.prog 52 #[.agg (boxOf r sp lk t0 t1 va vr vs al sh by_ pr)] w fun e w' => e = .returned (.bool (numsB r al sh by_)) ∧ Below w.heap.size w w' := by
  unfold boxOf
  have no : ∀ p : Prop, ¬ (4 ≤ r ∧ r ≤ 16 ∧ (al = 8 ∨ al = 16 ∨ al = 32) ∧ 0 ≤ sh ∧ sh ≤ 32 ∧ sh % 8 = 0 ∧ 0 ≤ by_ ∧ by_ ≤ 4) → numsB r al sh by_ = false := fun _ h => decide_eq_false h
  have NO := hideQ no
  clear no
  by_cases h1 : 4 ≤ r
  · by_cases h2 : r ≤ 16
    · by_cases h3 : al = 8 ∨ al = 16 ∨ al = 32
      · by_cases h4 : 0 ≤ sh
        · by_cases h5 : sh ≤ 32
          · by_cases h6 : sh % 8 = 0
            · have z6 : (sh % 8 == 0) = true := by simp [h6]
              by_cases h7 : 0 ≤ by_
              · by_cases h8 : by_ ≤ 4
                · have hy : numsB r al sh by_ = true := decide_eq_true ⟨h1, h2, h3, h4, h5, h6, h7, h8⟩
                  rw [hy]
                  clear hy h6
                  rcases h3 with rfl | rfl | rfl
                  all_goals
                    go_enter Tryz.func52, Tryz.ntmps52
                    go_wp2
                    go_ret
                    exact ⟨rfl, by go_grown⟩
                · rw [unhideQ NO True (by omega)]
                  clear h6
                  rcases h3 with rfl | rfl | rfl
                  all_goals
                    go_enter Tryz.func52, Tryz.ntmps52
                    go_wp2
                    go_ret
                    exact ⟨rfl, by go_grown⟩
              · rw [unhideQ NO True (by omega)]
                clear h6
                rcases h3 with rfl | rfl | rfl
                all_goals
                  go_enter Tryz.func52, Tryz.ntmps52
                  go_wp2
                  go_ret
                  exact ⟨rfl, by go_grown⟩
            · have z6 : (sh % 8 == 0) = false := by simp [h6]
              rw [unhideQ NO True (by omega)]
              clear h6
              rcases h3 with rfl | rfl | rfl
              all_goals
                go_enter Tryz.func52, Tryz.ntmps52
                go_wp2
                go_ret
                exact ⟨rfl, by go_grown⟩
          · rw [unhideQ NO True (by omega)]
            rcases h3 with rfl | rfl | rfl
            all_goals
              go_enter Tryz.func52, Tryz.ntmps52
              go_wp2
              go_ret
              exact ⟨rfl, by go_grown⟩
        · rw [unhideQ NO True (by omega)]
          rcases h3 with rfl | rfl | rfl
          all_goals
            go_enter Tryz.func52, Tryz.ntmps52
            go_wp2
            go_ret
            exact ⟨rfl, by go_grown⟩
      · rw [unhideQ NO True (by omega)]
        have z1 : (al == 8) = false := by simp; omega
        have z2 : (al == 16) = false := by simp; omega
        have z3 : (al == 32) = false := by simp; omega
        clear h3
        go_enter Tryz.func52, Tryz.ntmps52
        go_wp2
        go_ret
        exact ⟨rfl, by go_grown⟩
    · rw [unhideQ NO True (by omega)]
      go_enter Tryz.func52, Tryz.ntmps52
      go_wp2
      go_ret
      exact ⟨rfl, by go_grown⟩
  · rw [unhideQ NO True (by omega)]
    go_enter Tryz.func52, Tryz.ntmps52
    go_wp2
    go_ret
    exact ⟨rfl, by go_grown⟩
theorem Rs.shape {w : World} {v : Value} {ns : List Int} (h : Rs w v ns) : ∃ p cap, v = .slice p ns.length cap := by
  rcases h with ⟨rfl, p, cap, e⟩ | ⟨sb, so, cap, e, _⟩
  · exact ⟨p, cap, e⟩
  · exact ⟨_, _, e⟩
def lensB (ag rs ss : List Int) : Bool := decide (ag.length ≤ 8 ∧ rs.length ≤ 4 ∧ ss.length ≤ 12)
set_option maxHeartbeats 2000000 in
theorem listsFit_c (r sp lk t0 t1 : Int) (va vr vs : Value) (al sh by_ : Int) (pr : Bool) (ag rs ss : List Int) (w : World) (ha : ∃ p cap, va = .slice p ag.length cap) (hr : ∃ p cap, vr = .slice p rs.length cap) (hs : ∃ p cap, vs = .slice p ss.length cap) : Calls Tryz.prog 53 #[.agg (boxOf r sp lk t0 t1 va vr vs al sh by_ pr)] w fun e w' => e = .returned (.bool (lensB ag rs ss)) ∧ Below w.heap.size w w' := by
  unfold boxOf
  obtain ⟨pa, ca, rfl⟩ := ha
  obtain ⟨pr', cr, rfl⟩ := hr
  obtain ⟨ps, cs, rfl⟩ := hs
  unfold lensB
  generalize ag.length = na
  generalize rs.length = nr
  generalize ss.length = ns
  by_cases h1 : na ≤ 8
  · by_cases h2 : nr ≤ 4
    · by_cases h3 : ns ≤ 12
      · rw [decide_eq_true ⟨h1, h2, h3⟩]
        go_enter Tryz.func53, Tryz.ntmps53
        go_wp2
        go_ret
        exact ⟨by show Ending.returned (.bool (decide ((ns : Int) ≤ 12))) = _; rw [decide_eq_true (by omega)], by go_grown⟩
      · rw [decide_eq_false (fun h => h3 h.2.2)]
        go_enter Tryz.func53, Tryz.ntmps53
        go_wp2
        go_ret
        exact ⟨by show Ending.returned (.bool (decide ((ns : Int) ≤ 12))) = _; rw [decide_eq_false (by omega)], by go_grown⟩
    · rw [decide_eq_false (fun h => h2 h.2.1)]
      go_enter Tryz.func53, Tryz.ntmps53
      go_wp2
      go_ret
      exact ⟨rfl, by go_grown⟩
  · rw [decide_eq_false (fun h => h1 h.1)]
    go_enter Tryz.func53, Tryz.ntmps53
    go_wp2
    go_ret
    exact ⟨rfl, by go_grown⟩
end Go.Proofs.YtobempobmokkcaaGreatDoor
