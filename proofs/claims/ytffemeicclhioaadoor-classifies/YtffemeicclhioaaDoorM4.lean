/-
  Own work of the verifier: TblLeaf, TblLeaf2, TblLeaf3, TblFit, TblChk, as one text.
-/
import Derived.Test.YtffemeicclhioaaDoorM2
import Derived.Test.YtffemeicclhioaaDoorShelf
namespace Go.Proofs.YtffemeicclhioaaDoor
open Go.RowKit

set_option maxHeartbeats 1000000 in
theorem inT_c (n lo hi : Int) (w : World) : Calls Tryd.prog 24 #[.int .i64 n, .int .i64 lo, .int .i64 hi] w fun e w' => e = .returned (.bool (decide (lo ≤ n ∧ n ≤ hi))) ∧ w' = w := by
  by_cases h1 : lo ≤ n
  · by_cases h2 : n ≤ hi
    · have hd : decide (lo ≤ n ∧ n ≤ hi) = true := by simp; omega
      rw [hd]
      clear hd
      go_enter Tryd.func24, Tryd.ntmps24
      go_wp2
      go_ret
      exact ⟨rfl, rfl⟩
    · have hd : decide (lo ≤ n ∧ n ≤ hi) = false := by simp; omega
      rw [hd]
      clear hd
      go_enter Tryd.func24, Tryd.ntmps24
      go_wp2
      go_ret
      exact ⟨rfl, rfl⟩
  · have hd : decide (lo ≤ n ∧ n ≤ hi) = false := by simp; omega
    rw [hd]
    clear hd
    go_enter Tryd.func24, Tryd.ntmps24
    go_wp2
    go_ret
    exact ⟨rfl, rfl⟩
theorem Rs.get {w : World} {v : Value} {ns : List Int} (h : Rs w v ns) (hn : ns ≠ []) : ∃ sb so cap, v = .slice (some ⟨sb, so, none⟩) ns.length cap ∧ ∀ i, i < ns.length → w.cell? ⟨sb, so + i, none⟩ = some (.int .i64 (ns.getD i 0)) := by
  rcases h with ⟨e, _⟩ | h
  · exact absurd e hn
  · exact h
theorem not_mem_take {ns : List Int} {x : Int} {k : Nat} (hk : k < ns.length) (h : ¬ x ∈ ns.take k) (hx : ns.getD k 0 ≠ x) : ¬ x ∈ ns.take (k + 1) := by
  rw [List.take_succ_eq_append_getElem hk]
  intro hm
  rcases List.mem_append.1 hm with h' | h'
  · exact h h'
  · simp at h'
    exact hx (by simp [List.getD, hk, h'])
theorem mem_of_getD {ns : List Int} {x : Int} {k : Nat} (hk : k < ns.length) (hx : ns.getD k 0 = x) : x ∈ ns := by
  have : ns[k] = x := by simpa [List.getD, hk] using hx
  exact this ▸ List.getElem_mem hk
set_option maxHeartbeats 1000000 in
set_option maxRecDepth 100000 in
theorem hasT_c (ns : List Int) (x : Int) (v : Value) (w : World) (h : Rs w v ns) (hn : ns.length ≤ 1000000) : Calls Tryd.prog 25 #[v, .int .i64 x] w fun e w' => e = .returned (.bool (decide (x ∈ ns))) ∧ w' = w := by
  by_cases hne : ns = []
  · obtain ⟨p, cap, rfl⟩ : ∃ p cap, v = .slice p 0 cap := by
      rcases h with ⟨_, p, cap, e⟩ | ⟨sb, so, cap, e, _⟩
      · exact ⟨p, cap, e⟩
      · rw [hne] at e; exact ⟨_, _, e⟩
    subst hne
    clear h
    go_enter Tryd.func25, Tryd.ntmps25
    go_wp2_with fail
    refine wp_loop_rounds 1 ?_
    rw [rounds_succ]
    go_wp2
    go_ret
    exact ⟨by simp, rfl⟩
  · obtain ⟨sb, so, cap, rfl, hc⟩ := h.get hne
    have HC := hideQ hc
    clear h hc
    go_enter Tryd.func25, Tryd.ntmps25
    go_wp2_with fail
    go_loopw [9] (fun j w' => ∃ k : Nat, j = .int .i64 k ∧ k ≤ ns.length ∧ w' = w ∧ ¬ x ∈ ns.take k) (fun j _ => ns.length - (intOf j).toNat)
    case atStart => exact ⟨0, rfl, by omega, rfl, by simp⟩
    case round =>
      obtain ⟨k, rfl, hk, rfl, hno⟩ := hrel
      have HN := hideQ hno
      clear hno
      by_cases hlt : k < ns.length
      · have c := unhideQ HC k hlt
        by_cases hx : ns.getD k 0 = x
        · rw [hx] at c
          have hm := hideQ (mem_of_getD hlt hx)
          clear hx
          go_wp2
          go_ret
          exact ⟨by simp [unhideQ hm], rfl⟩
        · have HT := hideQ (not_mem_take hlt (unhideQ HN) hx)
          generalize hy : ns.getD k 0 = y at c hx
          have z : (y == x) = false := by simpa using hx
          clear hy
          go_wp2
          go_roundw
          case rel => exact ⟨k + 1, by go_num, by omega, trivial, unhideQ HT⟩
          case measure => simp [intOf]; omega
      · obtain rfl : k = ns.length := by omega
        have HT := hideQ (show ¬ x ∈ ns by have := unhideQ HN; rwa [List.take_length] at this)
        go_wp2
        go_ret
        exact ⟨by simp [unhideQ HT], rfl⟩
end Go.Proofs.YtffemeicclhioaaDoor
namespace Go.Proofs.YtffemeicclhioaaDoor
open Go.RowKit

theorem contains_c (ns : List Int) (x : Int) (v : Value) (w : World) (h : Rs w v ns) (hn : ns.length ≤ 1000000) : Calls Tryd.prog 49 #[v, .int .i64 x] w fun e w' => e = .returned (.bool (decide (x ∈ ns))) ∧ w' = w := by
  by_cases hne : ns = []
  · obtain ⟨p, cap, rfl⟩ : ∃ p cap, v = .slice p 0 cap := by
      rcases h with ⟨_, p, cap, e⟩ | ⟨sb, so, cap, e, _⟩
      · exact ⟨p, cap, e⟩
      · rw [hne] at e; exact ⟨_, _, e⟩
    refine (Tryd.slices_Contains_int_empty p cap x w).mono ?_
    rintro e w' ⟨rfl, rfl⟩
    exact ⟨by rw [hne]; simp, rfl⟩
  · obtain ⟨sb, so, cap, rfl, hc⟩ := h.get hne
    refine (Tryd.slices_Contains_int sb so ns.length cap ns x w (Nat.le_refl _) (by omega) hc).mono ?_
    rintro e w' ⟨rfl, rfl⟩
    exact ⟨by rw [List.take_length]; simp, rfl⟩
def meetB (al bs : List Int) : Bool := al.any fun r => decide (r ∈ bs)
set_option maxHeartbeats 1000000 in
set_option maxRecDepth 100000 in
theorem meet_c (al bs : List Int) (va vb : Value) (w : World) (ha : Rs w va al) (hb : Rs w vb bs) (hna : al.length ≤ 1000000) (hnb : bs.length ≤ 1000000) : Calls Tryd.prog 44 #[va, vb] w fun e w' => e = .returned (.bool (meetB al bs)) ∧ w' = w := by
  have HB := hideQ hb
  clear hb
  by_cases hne : al = []
  · obtain ⟨p, cap, rfl⟩ : ∃ p cap, va = .slice p 0 cap := by
      rcases ha with ⟨_, p, cap, e⟩ | ⟨sb, so, cap, e, _⟩
      · exact ⟨p, cap, e⟩
      · rw [hne] at e; exact ⟨_, _, e⟩
    subst hne
    clear ha
    go_enter Tryd.func44, Tryd.ntmps44
    go_wp2_with fail
    refine wp_loop_rounds 1 ?_
    rw [rounds_succ]
    go_wp2
    go_ret
    exact ⟨rfl, rfl⟩
  · obtain ⟨sb, so, cap, rfl, hc⟩ := ha.get hne
    have HC := hideQ hc
    clear ha hc
    go_enter Tryd.func44, Tryd.ntmps44
    go_wp2_with fail
    go_loopw [9] (fun j w' => ∃ k : Nat, j = .int .i64 k ∧ k ≤ al.length ∧ w' = w ∧ meetB (al.take k) bs = false) (fun j _ => al.length - (intOf j).toNat)
    case atStart => exact ⟨0, rfl, by omega, rfl, by simp [meetB]⟩
    case round =>
      obtain ⟨k, rfl, hk, rfl, hno⟩ := hrel
      have HN := hideQ hno
      clear hno
      by_cases hlt : k < al.length
      · have c := unhideQ HC k hlt
        have HD := hideQ (contains_c bs (al.getD k 0) vb wr (unhideQ HB) hnb)
        have hg : al.getD k 0 = al[k] := by simp [List.getD, hlt]
        have hst : meetB (al.take (k + 1)) bs = decide (al.getD k 0 ∈ bs) := by
          rw [List.take_succ_eq_append_getElem hlt]
          unfold meetB
          rw [List.any_append]
          have := unhideQ HN
          unfold meetB at this
          rw [this, hg]
          simp
        have hall : decide (al.getD k 0 ∈ bs) = true → meetB al bs = true := fun h => by
          unfold meetB
          rw [List.any_eq_true]
          exact ⟨al[k], List.getElem_mem hlt, by rw [← hg]; exact h⟩
        have HS := hideQ hst
        have HA := hideQ hall
        clear hst hall hg
        generalize decide (al.getD k 0 ∈ bs) = yes at *
        generalize al.getD k 0 = y at *
        go_wp2_with fail
        refine (unhideQ HD).mono ?_
        rintro e w2 ⟨rfl, h2⟩
        subst w2
        cases yes with
        | true =>
          go_wp2
          go_ret
          exact ⟨by simp [unhideQ HA trivial], rfl⟩
        | false =>
          go_wp2
          go_roundw
          case rel => exact ⟨k + 1, by go_num, by omega, trivial, unhideQ HS⟩
          case measure => simp [intOf]; omega
      · obtain rfl : k = al.length := by omega
        have HT := hideQ (show meetB al bs = false by have := unhideQ HN; rwa [List.take_length] at this)
        go_wp2
        go_ret
        exact ⟨by simp [unhideQ HT], rfl⟩
end Go.Proofs.YtffemeicclhioaaDoor
namespace Go.Proofs.YtffemeicclhioaaDoor
open Go.RowKit

def regB (l : List Int) (c : Int) (i : Nat) : Bool := decide (0 ≤ l.getD i 0 ∧ l.getD i 0 < c ∧ ¬ l.getD i 0 ∈ l.take i)
def regsB (l : List Int) (c : Int) : Bool := (List.range l.length).all (regB l c)
theorem Rs.take {w : World} {sb so : Nat} {ns : List Int} (hc : ∀ i, i < ns.length → w.cell? ⟨sb, so + i, none⟩ = some (.int .i64 (ns.getD i 0))) (k cap' : Nat) (hk : k ≤ ns.length) : Rs w (.slice (some ⟨sb, so, none⟩) k cap') (ns.take k) := by
  have hl : (ns.take k).length = k := by simp; omega
  refine Or.inr ⟨sb, so, cap', by rw [hl], fun i hi => ?_⟩
  rw [hl] at hi
  rw [hc i (by omega)]
  simp [List.getD, hi]
set_option maxHeartbeats 2000000 in
set_option maxRecDepth 100000 in
theorem areRegisters_c (ns : List Int) (c : Int) (v : Value) (w : World) (h : Rs w v ns) (hn : ns.length ≤ 1000000) (hcap : ∀ a n cap, v = .slice a n cap → n ≤ cap) : Calls Tryd.prog 43 #[v, .int .i64 c] w fun e w' => e = .returned (.bool (regsB ns c)) ∧ w' = w := by
  by_cases hne : ns = []
  · obtain ⟨p, cap, rfl⟩ : ∃ p cap, v = .slice p 0 cap := by
      rcases h with ⟨_, p, cap, e⟩ | ⟨sb, so, cap, e, _⟩
      · exact ⟨p, cap, e⟩
      · rw [hne] at e; exact ⟨_, _, e⟩
    subst hne
    clear h hcap
    go_enter Tryd.func43, Tryd.ntmps43
    go_wp2_with fail
    refine wp_loop_rounds 1 ?_
    rw [rounds_succ]
    go_wp2
    go_ret
    exact ⟨rfl, rfl⟩
  · obtain ⟨sb, so, cap, rfl, hc⟩ := h.get hne
    have hcp := hcap _ _ _ rfl
    have HC := hideQ hc
    clear h hc hcap
    go_enter Tryd.func43, Tryd.ntmps43
    go_wp2_with fail
    go_loopw [9] (fun j w' => ∃ k : Nat, j = .int .i64 k ∧ k ≤ ns.length ∧ w' = w ∧ ∀ q, q < k → regB ns c q = true) (fun j _ => ns.length - (intOf j).toNat)
    case atStart => exact ⟨0, rfl, by omega, rfl, fun q hq => by omega⟩
    case round =>
      obtain ⟨k, rfl, hk, rfl, hno⟩ := hrel
      have HN := hideQ hno
      clear hno
      by_cases hlt : k < ns.length
      · have cc := unhideQ HC k hlt
        have bad : regB ns c k = false → regsB ns c = false := fun hb => by
          unfold regsB
          rw [List.all_eq_false]
          exact ⟨k, List.mem_range.2 hlt, by simp [hb]⟩
        have HBAD := hideQ bad
        have hrd : regB ns c k = decide (0 ≤ ns.getD k 0 ∧ ns.getD k 0 < c ∧ ¬ ns.getD k 0 ∈ ns.take k) := rfl
        have HRD := hideQ hrd
        have HCT := hideQ (fun cap' => contains_c (ns.take k) (ns.getD k 0) _ wr (Rs.take (unhideQ HC) k cap' (by omega)) (by simp; omega))
        have next : regB ns c k = true → ∀ q, q < k + 1 → regB ns c q = true := fun hb q hq => by
          rcases Nat.lt_succ_iff_lt_or_eq.1 hq with h' | h'
          · exact unhideQ HN q h'
          · subst h'; exact hb
        have HNX := hideQ next
        clear bad hrd next
        generalize hy : ns.getD k 0 = y at cc HRD HCT
        clear hy
        by_cases h0 : 0 ≤ y
        · by_cases h1 : y < c
          · generalize hm : decide (y ∈ ns.take k) = yes at HCT
            have hrr : regB ns c k = !yes := by rw [unhideQ HRD, ← hm]; simp [h0, h1]
            have HRR := hideQ hrr
            clear hrr hm
            go_wp2_with fail
            refine (unhideQ HCT _).mono ?_
            rintro e w2 ⟨rfl, h2⟩
            subst w2
            cases yes with
            | true =>
              have hrr := hideQ (unhideQ HBAD (unhideQ HRR))
              go_wp2
              go_ret
              exact ⟨by simp [unhideQ hrr], rfl⟩
            | false =>
              have hrr := hideQ (unhideQ HNX (unhideQ HRR))
              go_wp2
              go_roundw
              case rel => exact ⟨k + 1, by go_num, by omega, trivial, unhideQ hrr⟩
              case measure => simp [intOf]; omega
          · have hrr := hideQ (unhideQ HBAD (by rw [unhideQ HRD]; simp; omega))
            go_wp2
            go_ret
            exact ⟨by simp [unhideQ hrr], rfl⟩
        · have hrr := hideQ (unhideQ HBAD (by rw [unhideQ HRD]; simp; omega))
          go_wp2
          go_ret
          exact ⟨by simp [unhideQ hrr], rfl⟩
      · obtain rfl : k = ns.length := by omega
        have HT := hideQ (show regsB ns c = true by unfold regsB; rw [List.all_eq_true]; exact fun q hq => unhideQ HN q (List.mem_range.1 hq))
        go_wp2
        go_ret
        exact ⟨by simp [unhideQ HT], rfl⟩
end Go.Proofs.YtffemeicclhioaaDoor
namespace Go.Proofs.YtffemeicclhioaaDoor
open Go.RowKit

def numsB (r al sh by_ : Int) : Bool := decide (4 ≤ r ∧ r ≤ 16 ∧ (al = 8 ∨ al = 16 ∨ al = 32) ∧ 0 ≤ sh ∧ sh ≤ 32 ∧ sh % 8 = 0 ∧ 0 ≤ by_ ∧ by_ ≤ 4)
set_option maxHeartbeats 2000000 in
theorem numbersFit_c (r sp lk t0 t1 : Int) (va vr vs : Value) (al sh by_ : Int) (pr : Bool) (w : World) : Calls Tryd.prog 33 #[.agg (boxOf r sp lk t0 t1 va vr vs al sh by_ pr)] w fun e w' => e = .returned (.bool (numsB r al sh by_)) ∧ Below w.heap.size w w' := by
  unfold boxOf
  have no : ∀ p : Prop, ¬ (4 ≤ r ∧ r ≤ 16 ∧ (al = 8 ∨ al = 16 ∨ al = 32) ∧ 0 ≤ sh ∧ sh ≤ 32 ∧ sh % 8 = 0 ∧ 0 ≤ by_ ∧ by_ ≤ 4) → numsB r al sh by_ = false := fun _ h => decide_eq_false h
  have NO := hideQ no
  clear no
  by_cases h1 : 4 ≤ r
  · by_cases h2 : r ≤ 16
    · by_cases h3 : al = 8 ∨ al = 16 ∨ al = 32
      · by_cases h4 : 0 ≤ sh
        · by_cases h5 : sh ≤ 32
          · by_cases h6 : sh % 8 = 0
            · have z6 : (sh % 8 == 0) = true := by simp [h6]
              by_cases h7 : 0 ≤ by_
              · by_cases h8 : by_ ≤ 4
                · have hy : numsB r al sh by_ = true := decide_eq_true ⟨h1, h2, h3, h4, h5, h6, h7, h8⟩
                  rw [hy]
                  clear hy h6
                  rcases h3 with rfl | rfl | rfl
                  all_goals
                    go_enter Tryd.func33, Tryd.ntmps33
                    go_wp2
                    go_ret
                    exact ⟨rfl, by go_grown⟩
                · rw [unhideQ NO True (by omega)]
                  clear h6
                  rcases h3 with rfl | rfl | rfl
                  all_goals
                    go_enter Tryd.func33, Tryd.ntmps33
                    go_wp2
                    go_ret
                    exact ⟨rfl, by go_grown⟩
              · rw [unhideQ NO True (by omega)]
                clear h6
                rcases h3 with rfl | rfl | rfl
                all_goals
                  go_enter Tryd.func33, Tryd.ntmps33
                  go_wp2
                  go_ret
                  exact ⟨rfl, by go_grown⟩
            · have z6 : (sh % 8 == 0) = false := by simp [h6]
              rw [unhideQ NO True (by omega)]
              clear h6
              rcases h3 with rfl | rfl | rfl
              all_goals
                go_enter Tryd.func33, Tryd.ntmps33
                go_wp2
                go_ret
                exact ⟨rfl, by go_grown⟩
          · rw [unhideQ NO True (by omega)]
            rcases h3 with rfl | rfl | rfl
            all_goals
              go_enter Tryd.func33, Tryd.ntmps33
              go_wp2
              go_ret
              exact ⟨rfl, by go_grown⟩
        · rw [unhideQ NO True (by omega)]
          rcases h3 with rfl | rfl | rfl
          all_goals
            go_enter Tryd.func33, Tryd.ntmps33
            go_wp2
            go_ret
            exact ⟨rfl, by go_grown⟩
      · rw [unhideQ NO True (by omega)]
        have z1 : (al == 8) = false := by simp; omega
        have z2 : (al == 16) = false := by simp; omega
        have z3 : (al == 32) = false := by simp; omega
        clear h3
        go_enter Tryd.func33, Tryd.ntmps33
        go_wp2
        go_ret
        exact ⟨rfl, by go_grown⟩
    · rw [unhideQ NO True (by omega)]
      go_enter Tryd.func33, Tryd.ntmps33
      go_wp2
      go_ret
      exact ⟨rfl, by go_grown⟩
  · rw [unhideQ NO True (by omega)]
    go_enter Tryd.func33, Tryd.ntmps33
    go_wp2
    go_ret
    exact ⟨rfl, by go_grown⟩
theorem Rs.shape {w : World} {v : Value} {ns : List Int} (h : Rs w v ns) : ∃ p cap, v = .slice p ns.length cap := by
  rcases h with ⟨rfl, p, cap, e⟩ | ⟨sb, so, cap, e, _⟩
  · exact ⟨p, cap, e⟩
  · exact ⟨_, _, e⟩
def lensB (ag rs ss : List Int) : Bool := decide (ag.length ≤ 8 ∧ rs.length ≤ 4 ∧ ss.length ≤ 12)
set_option maxHeartbeats 2000000 in
theorem listsFit_c (r sp lk t0 t1 : Int) (va vr vs : Value) (al sh by_ : Int) (pr : Bool) (ag rs ss : List Int) (w : World) (ha : ∃ p cap, va = .slice p ag.length cap) (hr : ∃ p cap, vr = .slice p rs.length cap) (hs : ∃ p cap, vs = .slice p ss.length cap) : Calls Tryd.prog 34 #[.agg (boxOf r sp lk t0 t1 va vr vs al sh by_ pr)] w fun e w' => e = .returned (.bool (lensB ag rs ss)) ∧ Below w.heap.size w w' := by
  unfold boxOf
  obtain ⟨pa, ca, rfl⟩ := ha
  obtain ⟨pr', cr, rfl⟩ := hr
  obtain ⟨ps, cs, rfl⟩ := hs
  unfold lensB
  generalize ag.length = na
  generalize rs.length = nr
  generalize ss.length = ns
  by_cases h1 : na ≤ 8
  · by_cases h2 : nr ≤ 4
    · by_cases h3 : ns ≤ 12
      · rw [decide_eq_true ⟨h1, h2, h3⟩]
        go_enter Tryd.func34, Tryd.ntmps34
        go_wp2
        go_ret
        exact ⟨by show Ending.returned (.bool (decide ((ns : Int) ≤ 12))) = _; rw [decide_eq_true (by omega)], by go_grown⟩
      · rw [decide_eq_false (fun h => h3 h.2.2)]
        go_enter Tryd.func34, Tryd.ntmps34
        go_wp2
        go_ret
        exact ⟨by show Ending.returned (.bool (decide ((ns : Int) ≤ 12))) = _; rw [decide_eq_false (by omega)], by go_grown⟩
    · rw [decide_eq_false (fun h => h2 h.2.1)]
      go_enter Tryd.func34, Tryd.ntmps34
      go_wp2
      go_ret
      exact ⟨rfl, by go_grown⟩
  · rw [decide_eq_false (fun h => h1 h.1)]
    go_enter Tryd.func34, Tryd.ntmps34
    go_wp2
    go_ret
    exact ⟨rfl, by go_grown⟩
end Go.Proofs.YtffemeicclhioaaDoor
namespace Go.Proofs.YtffemeicclhioaaDoor
open Go.RowKit

def ownL (sp lk t0 t1 : Int) : List Int := if lk = -1 then [sp, t0, t1] else [sp, t0, t1, lk]
theorem ownL_len (sp lk t0 t1 : Int) : (ownL sp lk t0 t1).length ≤ 4 := by unfold ownL; split <;> simp
theorem rs_of_own {w : World} {base : Nat} {v : Value} {ns : List Int} (h : w.ownsRow base 3 1 v ns.length (iCells ns)) : Rs w v ns := by
  rcases h.2 with ⟨e, e0⟩ | ⟨g, cap, cur, e, -⟩
  · exact Or.inl ⟨List.eq_nil_of_length_eq_zero e0, none, 0, by rw [e]⟩
  · refine Or.inr ⟨g, 0, cap, e, fun i hi => ?_⟩
    subst e
    have := h.cellAt i (by omega)
    simp only [Nat.zero_add] at this ⊢
    rw [this]
    simp [iCells, hi]
theorem cap_of_own {w : World} {base n : Nat} {v : Value} {xs : List Value} (h : w.ownsRow base 3 1 v n xs) : ∀ a n cap, v = .slice a n cap → n ≤ cap := by
  intro a m cap e
  rcases h.2 with ⟨e1, e0⟩ | ⟨g, cap', cur, e1, _, _, hc, _⟩
  · rw [e1] at e; injection e with _ h2 h3; omega
  · rw [e1] at e; injection e with _ h2 h3; omega
set_option maxHeartbeats 2000000 in
set_option maxRecDepth 100000 in
theorem reserved_c (r sp lk t0 t1 : Int) (va vr vs : Value) (al sh by_ : Int) (pr : Bool) (w : World) : Calls Tryd.prog 42 #[.agg (boxOf r sp lk t0 t1 va vr vs al sh by_ pr)] w fun e w' => ∃ v, e = .returned v ∧ Rs w' v (ownL sp lk t0 t1) ∧ (∀ a n cap, v = .slice a n cap → n ≤ cap) ∧ Below w.heap.size w w' := by
  obtain ⟨ti, hti, hz0, hz1, hz2⟩ := info_partsP Tryd.infoI
  unfold boxOf
  have HOW := hideQ (fun X : Obj => show ((w.alloc X).alloc (.cells #[.int .i64 sp, .int .i64 t0, .int .i64 t1] 3)).ownsRow w.heap.size 3 1 (.slice (some ⟨w.heap.size + 1, 0, none⟩) 3 3) ([sp, t0, t1] : List Int).length (iCells [sp, t0, t1]) from
    ⟨rfl, Or.inr ⟨w.heap.size + 1, 3, #[.int .i64 sp, .int .i64 t0, .int .i64 t1], rfl, by omega, by have := heap_alloc_new (w.alloc X) (.cells #[.int .i64 sp, .int .i64 t0, .int .i64 t1] 3); simpa using this, by simp, by unfold maxLen; omega, rfl, rfl⟩⟩)
  by_cases hk : lk = -1
  · have hO : ownL sp lk t0 t1 = [sp, t0, t1] := by unfold ownL; rw [if_pos hk]
    rw [hO]
    clear hO
    subst hk
    go_enter Tryd.func42, Tryd.ntmps42
    go_wp2
    go_ret
    exact ⟨_, rfl, rs_of_own (unhideQ HOW _), cap_of_own (unhideQ HOW (.cells #[] 3)), by go_grown⟩
  · have hO : ownL sp lk t0 t1 = [sp, t0, t1] ++ [lk] := by unfold ownL; rw [if_neg hk]; rfl
    rw [hO]
    clear hO
    have zk : (lk == -1) = false := by simpa using hk
    go_enter Tryd.func42, Tryd.ntmps42
    go_wp2_with (at_builtin; refine wpList_append_own _ rfl _ _ 23 rfl w.heap.size 3 ti _ 1 8 Tryd.underlying23 hti hz0 hz1 hz2 rfl (by decide) _ _ _ rfl ((unhideQ HOW _).alloc _) ⟨w.heap.size + 2, 0, none⟩ 1 1 [.int .i64 lk] rfl rfl (by intro j u hj; match j, hj with | 0, hj => (simp at hj; subst hj; exact (World.cell?_alloc_at _ _ _ _ (by simp)).trans rfl)) (by intro u hu; simp at hu; subst hu; rfl) ?c3 ?c4 ?c5 ?_)
    case c3 => unfold maxLen; simp
    case c4 => simp
    case c5 => simp; omega
    intro v' w7 hown hgr _
    have HOWN := hideQ hown
    have HB := hideQ (show Below w.heap.size w w7 from ((((Below.refl w.heap.size w).alloc (Nat.le_refl _) _).alloc (by simp) _).alloc (by simp; omega) _).trans ⟨hgr.os, hgr.tape, hgr.output, hgr.size, fun q hq => hgr.block q (by simp; omega) (fun e => by simp [Value.ownBlock] at e; omega)⟩)
    clear hown hgr
    go_wp2
    go_ret
    have h1 : w7.ownsRow w.heap.size 3 1 v' ([sp, t0, t1] ++ [lk] : List Int).length (iCells ([sp, t0, t1] ++ [lk])) := unhideQ HOWN
    exact ⟨_, rfl, rs_of_own h1, cap_of_own h1, unhideQ HB⟩
end Go.Proofs.YtffemeicclhioaaDoor
