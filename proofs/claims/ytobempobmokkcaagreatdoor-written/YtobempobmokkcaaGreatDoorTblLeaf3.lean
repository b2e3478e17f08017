/-
  Tables: table.areRegisters. Own work of the verifier.
-/
import Derived.Test.YtobempobmokkcaaGreatDoorTblLeaf2
namespace Go.Proofs.YtobempobmokkcaaGreatDoor
open Go.RowKit

def regB (l : List Int) (c : Int) (i : Nat) : Bool := decide (0 ≤ l.getD i 0 ∧ l.getD i 0 < c ∧ ¬ l.getD i 0 ∈ l.take i)
def regsB (l : List Int) (c : Int) : Bool := (List.range l.length).all (regB l c)
theorem Rs.take {w : World} {sb so : Nat} {ns : List Int} (hc : ∀ i, i < ns.length → w.cell? ⟨sb, so + i, none⟩ = some (.int .i64 (ns.getD i 0))) (k cap' : Nat) (hk : k ≤ ns.length) : Rs w (.slice (some ⟨sb, so, none⟩) k cap') (ns.take k) := by
  have hl : (ns.take k).length = k := by simp; omega
  refine Or.inr ⟨sb, so, cap', by rw [hl], fun i hi => ?_⟩
  rw [hl] at hi
  rw [hc i (by omega)]
  simp [List.getD, hi]
set_option maxHeartbeats 2000000 in
set_option maxRecDepth 100000 in
theorem areRegisters_c (ns : List Int) (c : Int) (v : Value) (w : World) (h : Rs w v ns) (hn : ns.length ≤ 1000000) (hcap : ∀ a n cap, v = .slice a n cap → n ≤ cap) : Calls Tryz.prog 92 #[v, .int .i64 c] w fun e w' => e = .returned (.bool (regsB ns c)) ∧ w' = w := by
  by_cases hne : ns = []
  · obtain ⟨p, cap, rfl⟩ : ∃ p cap, v = .slice p 0 cap := by
      rcases h with ⟨_, p, cap, e⟩ | ⟨sb, so, cap, e, _⟩
      · exact ⟨p, cap, e⟩
      · rw [hne] at e; exact ⟨_, _, e⟩
    subst hne
    clear h hcap
    go_enter Tryz.func92, Tryz.ntmps92
    go_wp2_with fail
    refine wp_loop_rounds 1 ?_
    rw [rounds_succ]
    go_wp2
    go_ret
    exact ⟨rfl, rfl⟩
  · obtain ⟨sb, so, cap, rfl, hc⟩ := h.get hne
    have hcp := hcap _ _ _ rfl
    have HC := hideQ hc
    clear h hc hcap
    go_enter Tryz.func92, Tryz.ntmps92
    go_wp2_with fail
    go_loopw [9] (fun j w' => ∃ k : Nat, j = .int .i64 k ∧ k ≤ ns.length ∧ w' = w ∧ ∀ q, q < k → regB ns c q = true) (fun j _ => ns.length - (intOf j).toNat)
    case atStart => exact ⟨0, rfl, by omega, rfl, fun q hq => by omega⟩
    case round =>
      obtain ⟨k, rfl, hk, rfl, hno⟩ := hrel
      have HN := hideQ hno
      clear hno
      by_cases hlt : k < ns.length
      · have cc := unhideQ HC k hlt
        have bad : regB ns c k = false → regsB ns c = false := fun hb => by
          unfold regsB
          rw [List.all_eq_false]
          exact ⟨k, List.mem_range.2 hlt, by simp [hb]⟩
        have HBAD := hideQ bad
        have hrd : regB ns c k = decide (0 ≤ ns.getD k 0 ∧ ns.getD k 0 < c ∧ ¬ ns.getD k 0 ∈ ns.take k) := rfl
        have HRD := hideQ hrd
        have HCT := hideQ (fun cap' => contains_c (ns.take k) (ns.getD k 0) _ wr (Rs.take (unhideQ HC) k cap' (by omega)) (by simp; omega))
        have next : regB ns c k = true → ∀ q, q < k + 1 → regB ns c q = true := fun hb q hq => by
          rcases Nat.lt_succ_iff_lt_or_eq.1 hq with h' | h'
          · exact unhideQ HN q h'
          · subst h'; exact hb
        have HNX := hideQ next
        clear bad hrd next
        generalize hy : ns.getD k 0 = y at cc HRD HCT
        clear hy
        by_cases h0 : 0 ≤ y
        · by_cases h1 : y < c
          · generalize hm : decide (y ∈ ns.take k) = yes at HCT
            have hrr : regB ns c k = !yes := by rw [unhideQ HRD, ← hm]; simp [h0, h1]
            have HRR := hideQ hrr
            clear hrr hm
            go_wp2_with fail
            refine (unhideQ HCT _).mono ?_
            rintro e w2 ⟨rfl, h2⟩
            subst w2
            cases yes with
            | true =>
              have hrr := hideQ (unhideQ HBAD (unhideQ HRR))
              go_wp2
              go_ret
              exact ⟨by simp [unhideQ hrr], rfl⟩
            | false =>
              have hrr := hideQ (unhideQ HNX (unhideQ HRR))
              go_wp2
              go_roundw
              case rel => exact ⟨k + 1, by go_num, by omega, trivial, unhideQ hrr⟩
              case measure => simp [intOf]; omega
          · have hrr := hideQ (unhideQ HBAD (by rw [unhideQ HRD]; simp; omega))
            go_wp2
            go_ret
            exact ⟨by simp [unhideQ hrr], rfl⟩
        · have hrr := hideQ (unhideQ HBAD (by rw [unhideQ HRD]; simp; omega))
          go_wp2
          go_ret
          exact ⟨by simp [unhideQ hrr], rfl⟩
      · obtain rfl : k = ns.length := by omega
        have HT := hideQ (show regsB ns c = true by unfold regsB; rw [List.all_eq_true]; exact fun q hq => unhideQ HN q (List.mem_range.1 hq))
        go_wp2
        go_ret
        exact ⟨by simp [unhideQ HT], rfl⟩
end Go.Proofs.YtobempobmokkcaaGreatDoor
