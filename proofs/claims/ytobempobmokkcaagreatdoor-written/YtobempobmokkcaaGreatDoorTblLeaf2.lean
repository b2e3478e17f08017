/-
  Tables: slices.Contains, table.meet, table.areRegisters. Own work of the verifier.
-/
import Derived.Test.YtobempobmokkcaaGreatDoorTblLeaf
import Derived.Test.YtobempobmokkcaaGreatDoorShelf
namespace Go.Proofs.YtobempobmokkcaaGreatDoor
open Go.RowKit

theorem contains_c (ns : List Int) (x : Int) (v : Value) (w : World) (h : Rs w v ns) (hn : ns.length ≤ 1000000) : Calls Tryz.prog 136 #[v, .int .i64 x] w fun e w' => e = .returned (.bool (decide (x ∈ ns))) ∧ w' = w := by
  by_cases hne : ns = []
  · obtain ⟨p, cap, rfl⟩ : ∃ p cap, v = .slice p 0 cap := by
      rcases h with ⟨_, p, cap, e⟩ | ⟨sb, so, cap, e, _⟩
      · exact ⟨p, cap, e⟩
      · rw [hne] at e; exact ⟨_, _, e⟩
    refine (Tryz.slices_Contains_int_empty p cap x w).mono ?_
    rintro e w' ⟨rfl, rfl⟩
    exact ⟨by rw [hne]; simp, rfl⟩
  · obtain ⟨sb, so, cap, rfl, hc⟩ := h.get hne
    refine (Tryz.slices_Contains_int sb so ns.length cap ns x w (Nat.le_refl _) (by omega) hc).mono ?_
    rintro e w' ⟨rfl, rfl⟩
    exact ⟨by rw [List.take_length]; simp, rfl⟩
def meetB (al bs : List Int) : Bool := al.any fun r => decide (r ∈ bs)
set_option maxHeartbeats 1000000 in
set_option maxRecDepth 100000 in
theorem meet_c (al bs : List Int) (va vb : Value) (w : World) (ha : Rs w va al) (hb : Rs w vb bs) (hna : al.length ≤ 1000000) (hnb : bs.length ≤ 1000000) : Calls Tryz.prog 93 #[va, vb] w fun e w' => e = .returned (.bool (meetB al bs)) ∧ w' = w := by
  have HB := hideQ hb
  clear hb
  by_cases hne : al = []
  · obtain ⟨p, cap, rfl⟩ : ∃ p cap, va = .slice p 0 cap := by
      rcases ha with ⟨_, p, cap, e⟩ | ⟨sb, so, cap, e, _⟩
      · exact ⟨p, cap, e⟩
      · rw [hne] at e; exact ⟨_, _, e⟩
    subst hne
    clear ha
    go_enter Tryz.func93, Tryz.ntmps93
    go_wp2_with fail
    refine wp_loop_rounds 1 ?_
    rw [rounds_succ]
    go_wp2
    go_ret
    exact ⟨rfl, rfl⟩
  · obtain ⟨sb, so, cap, rfl, hc⟩ := ha.get hne
    have HC := hideQ hc
    clear ha hc
    go_enter Tryz.func93, Tryz.ntmps93
    go_wp2_with fail
    go_loopw [9] (fun j w' => ∃ k : Nat, j = .int .i64 k ∧ k ≤ al.length ∧ w' = w ∧ meetB (al.take k) bs = false) (fun j _ => al.length - (intOf j).toNat)
    case atStart => exact ⟨0, rfl, by omega, rfl, by simp [meetB]⟩
    case round =>
      obtain ⟨k, rfl, hk, rfl, hno⟩ := hrel
      have HN := hideQ hno
      clear hno
      by_cases hlt : k < al.length
      · have c := unhideQ HC k hlt
        have HD := hideQ (contains_c bs (al.getD k 0) vb wr (unhideQ HB) hnb)
        have hg : al.getD k 0 = al[k] := by simp [List.getD, hlt]
        have hst : meetB (al.take (k + 1)) bs = decide (al.getD k 0 ∈ bs) := by
          rw [List.take_succ_eq_append_getElem hlt]
          unfold meetB
          rw [List.any_append]
          have := unhideQ HN
          unfold meetB at this
          rw [this, hg]
          simp
        have hall : decide (al.getD k 0 ∈ bs) = true → meetB al bs = true := fun h => by
          unfold meetB
          rw [List.any_eq_true]
          exact ⟨al[k], List.getElem_mem hlt, by rw [← hg]; exact h⟩
        have HS := hideQ hst
        have HA := hideQ hall
        clear hst hall hg
        generalize decide (al.getD k 0 ∈ bs) = yes at *
        generalize al.getD k 0 = y at *
        go_wp2_with fail
        refine (unhideQ HD).mono ?_
        rintro e w2 ⟨rfl, h2⟩
        subst w2
        cases yes with
        | true =>
          go_wp2
          go_ret
          exact ⟨by simp [unhideQ HA trivial], rfl⟩
        | false =>
          go_wp2
          go_roundw
          case rel => exact ⟨k + 1, by go_num, by omega, trivial, unhideQ HS⟩
          case measure => simp [intOf]; omega
      · obtain rfl : k = al.length := by omega
        have HT := hideQ (show meetB al bs = false by have := unhideQ HN; rwa [List.take_length] at this)
        go_wp2
        go_ret
        exact ⟨by simp [unhideQ HT], rfl⟩
end Go.Proofs.YtobempobmokkcaaGreatDoor
