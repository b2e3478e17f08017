/-
  Tables: prologueref.in, prologueref.has, table.meet. Own work of the verifier.
-/
import Derived.Test.YtidhncoecfkbfaaDoorPrtRef2
import Derived.Test.YtidhncoecfkbfaaDoorPsAdd
namespace Go.Proofs.YtidhncoecfkbfaaDoor
open Go.RowKit

set_option maxHeartbeats 1000000 in
theorem in_c (n lo hi : Int) (w : World) : Calls Tryd.prog 40 #[.int .i64 n, .int .i64 lo, .int .i64 hi] w fun e w' => e = .returned (.bool (decide (lo ≤ n ∧ n ≤ hi))) ∧ w' = w := by
  by_cases h1 : lo ≤ n
  · by_cases h2 : n ≤ hi
    · have hd : decide (lo ≤ n ∧ n ≤ hi) = true := by simp; omega
      rw [hd]
      clear hd
      go_enter Tryd.func40, Tryd.ntmps40
      go_wp2
      go_ret
      exact ⟨rfl, rfl⟩
    · have hd : decide (lo ≤ n ∧ n ≤ hi) = false := by simp; omega
      rw [hd]
      clear hd
      go_enter Tryd.func40, Tryd.ntmps40
      go_wp2
      go_ret
      exact ⟨rfl, rfl⟩
  · have hd : decide (lo ≤ n ∧ n ≤ hi) = false := by simp; omega
    rw [hd]
    clear hd
    go_enter Tryd.func40, Tryd.ntmps40
    go_wp2
    go_ret
    exact ⟨rfl, rfl⟩
theorem Rs.get {w : World} {v : Value} {ns : List Int} (h : Rs w v ns) (hn : ns ≠ []) : ∃ sb so cap, v = .slice (some ⟨sb, so, none⟩) ns.length cap ∧ ∀ i, i < ns.length → w.cell? ⟨sb, so + i, none⟩ = some (.int .i64 (ns.getD i 0)) := by
  rcases h with ⟨e, _⟩ | h
  · exact absurd e hn
  · exact h
theorem not_mem_take {ns : List Int} {x : Int} {k : Nat} (hk : k < ns.length) (h : ¬ x ∈ ns.take k) (hx : ns.getD k 0 ≠ x) : ¬ x ∈ ns.take (k + 1) := by
  rw [List.take_succ_eq_append_getElem hk]
  intro hm
  rcases List.mem_append.1 hm with h' | h'
  · exact h h'
  · simp at h'
    exact hx (by simp [List.getD, hk, h'])
theorem mem_of_getD {ns : List Int} {x : Int} {k : Nat} (hk : k < ns.length) (hx : ns.getD k 0 = x) : x ∈ ns := by
  have : ns[k] = x := by simpa [List.getD, hk] using hx
  exact this ▸ List.getElem_mem hk
set_option maxHeartbeats 1000000 in
set_option maxRecDepth 100000 in
theorem has_c (ns : List Int) (x : Int) (v : Value) (w : World) (h : Rs w v ns) (hn : ns.length ≤ 1000000) : Calls Tryd.prog 41 #[v, .int .i64 x] w fun e w' => e = .returned (.bool (decide (x ∈ ns))) ∧ w' = w := by
  by_cases hne : ns = []
  · obtain ⟨p, cap, rfl⟩ : ∃ p cap, v = .slice p 0 cap := by
      rcases h with ⟨_, p, cap, e⟩ | ⟨sb, so, cap, e, _⟩
      · exact ⟨p, cap, e⟩
      · rw [hne] at e; exact ⟨_, _, e⟩
    subst hne
    clear h
    go_enter Tryd.func41, Tryd.ntmps41
    go_wp2_with fail
    refine wp_loop_rounds 1 ?_
    rw [rounds_succ]
    go_wp2
    go_ret
    exact ⟨by simp, rfl⟩
  · obtain ⟨sb, so, cap, rfl, hc⟩ := h.get hne
    have HC := hideQ hc
    clear h hc
    go_enter Tryd.func41, Tryd.ntmps41
    go_wp2_with fail
    go_loopw [9] (fun j w' => ∃ k : Nat, j = .int .i64 k ∧ k ≤ ns.length ∧ w' = w ∧ ¬ x ∈ ns.take k) (fun j _ => ns.length - (intOf j).toNat)
    case atStart => exact ⟨0, rfl, by omega, rfl, by simp⟩
    case round =>
      obtain ⟨k, rfl, hk, rfl, hno⟩ := hrel
      have HN := hideQ hno
      clear hno
      by_cases hlt : k < ns.length
      · have c := unhideQ HC k hlt
        by_cases hx : ns.getD k 0 = x
        · rw [hx] at c
          have hm := hideQ (mem_of_getD hlt hx)
          clear hx
          go_wp2
          go_ret
          exact ⟨by simp [unhideQ hm], rfl⟩
        · have HT := hideQ (not_mem_take hlt (unhideQ HN) hx)
          generalize hy : ns.getD k 0 = y at c hx
          have z : (y == x) = false := by simpa using hx
          clear hy
          go_wp2
          go_roundw
          case rel => exact ⟨k + 1, by go_num, by omega, trivial, unhideQ HT⟩
          case measure => simp [intOf]; omega
      · obtain rfl : k = ns.length := by omega
        have HT := hideQ (show ¬ x ∈ ns by have := unhideQ HN; rwa [List.take_length] at this)
        go_wp2
        go_ret
        exact ⟨by simp [unhideQ HT], rfl⟩
end Go.Proofs.YtidhncoecfkbfaaDoor
