/-
  Checks: the small ones of package program. Own work of the verifier.
-/
import Derived.Test.YtffemeicclhioaaDoorM8
import Derived.Test.YtffemeicclhioaaDoorShelf
import Derived.Laws.AppendOwn
import Derived.Deep.QuietTactic
import Derived.BigQuiet
namespace Go.Proofs.YtffemeicclhioaaDoor
open Go.RowKit

set_option maxHeartbeats 1000000 in
theorem isWithin_c (n lo hi : Int) (w : World) : Calls Tryd.prog 36 #[.int .i64 n, .int .i64 lo, .int .i64 hi] w fun e w' => e = .returned (.bool (inB n lo hi)) ∧ w' = w := by
  unfold inB
  by_cases h1 : lo ≤ n
  · by_cases h2 : n ≤ hi
    · have hd : decide (lo ≤ n ∧ n ≤ hi) = true := by simp; omega
      rw [hd]
      clear hd
      go_enter Tryd.func36, Tryd.ntmps36
      go_wp2
      go_ret
      exact ⟨rfl, rfl⟩
    · have hd : decide (lo ≤ n ∧ n ≤ hi) = false := by simp; omega
      rw [hd]
      clear hd
      go_enter Tryd.func36, Tryd.ntmps36
      go_wp2
      go_ret
      exact ⟨rfl, rfl⟩
  · have hd : decide (lo ≤ n ∧ n ≤ hi) = false := by simp; omega
    rw [hd]
    clear hd
    go_enter Tryd.func36, Tryd.ntmps36
    go_wp2
    go_ret
    exact ⟨rfl, rfl⟩
theorem al0 (w : World) (X : Obj) : (w.alloc X).heap[w.heap.size]? = some X ∧ Below w.heap.size w (w.alloc X) ∧ (w.alloc X).heap.size = w.heap.size + 1 :=
  ⟨heap_alloc_new w _, (Below.refl w.heap.size w).alloc (Nat.le_refl _) _, by simp⟩
theorem below_drewN {a w : World} {n : Nat} (h : Below n a w) (m : Nat) : Below n a (w.drewN m) := ⟨h.os, h.tape, h.output, h.size, h.block⟩
theorem below_cut {a c d : World} {n : Nat} (h : Below n a c) (k : Below c.heap.size c d) (hn : n ≤ c.heap.size) : Below n a d := h.trans (k.mono hn)
theorem LS.pairs {w : World} {v : Value} {xs : List (Int × Int)} (h : LS 2 w v xs.length (fun k => pairA (xs.getD k (0, 0)))) : ∃ p cap, v = .slice p xs.length cap ∧ xs.length ≤ cap ∧ xs.length < 9223372036854775808 ∧ (0 < xs.length → ∃ sb so, p = some ⟨sb, so, none⟩ ∧ ∀ k, k < xs.length → w.cell? ⟨sb, so + k * 2, none⟩ = some (.int .i64 (xs.getD k (0, 0)).1) ∧ w.cell? ⟨sb, so + k * 2 + 1, none⟩ = some (.int .i64 (xs.getD k (0, 0)).2)) := by
  obtain ⟨p, cap, h1, h2, h3, h4⟩ := h
  refine ⟨p, cap, h1, h2, h3, fun h0 => ?_⟩
  obtain ⟨sb, so, e, -, hc⟩ := h4 h0
  exact ⟨sb, so, e, fun k hk => ⟨hc k hk 0 _ rfl, hc k hk 1 _ rfl⟩⟩
set_option maxHeartbeats 1000000 in
set_option maxRecDepth 100000 in
theorem sigFits_c (v : Value) (ns : List Int) (r : Int) (w : World) (h : Li w v ns) : Calls Tryd.prog 27 #[.agg #[v, .int .i64 r]] w fun e w' => e = .returned (.bool (sigB (ns, r))) ∧ Below w.heap.size w w' := by
  have hx := al0 w (.cells #[v, .int .i64 r] 27 (0, 0))
  have h' := h.below hx.2.1
  obtain ⟨p, cap, rfl, hcap, hlt, hc⟩ := h'
  have hlt : ns.length < 9223372036854775808 := hlt
  have HC := hideI hc
  have HX := hideI hx
  clear hc hx h
  by_cases h8 : ns.length ≤ 8
  · have HS := hideI (show sigB (ns, r) = (inB r 0 4 && numsIn ns 0 8) by unfold sigB; simp [h8])
    go_enter Tryd.func27, Tryd.ntmps27
    go_wp2_with fail
    refine (isWithin_c r 0 4 _).mono ?_
    rintro e w2 ⟨rfl, h2⟩
    subst w2
    cases hr : inB r 0 4 with
    | false =>
      have HR := hideI hr
      clear hr
      go_wp2
      go_ret
      exact ⟨by rw [unhideI HS, unhideI HR]; rfl, (unhideI HX).2.1⟩
    | true =>
      have HR := hideI hr
      clear hr
      go_wp2_with fail
      generalize World.alloc w _ = W at HC HX ⊢
      go_loopw [18] (fun j w' => ∃ k : Nat, j = .int .i64 k ∧ k ≤ ns.length ∧ w' = W ∧ ∀ q, q < k → inB (ns.getD q 0) 0 8 = true) (fun j _ => ns.length - (intOf j).toNat)
      case atStart => exact ⟨0, rfl, by omega, rfl, fun q hq => by omega⟩
      case round =>
        obtain ⟨k, rfl, hk, rfl, hno⟩ := hrel
        have HN := hideI hno
        clear hno
        by_cases hk2 : k < ns.length
        · obtain ⟨sb, so, rfl, hcc⟩ := unhideI HC (by omega)
          have c := hcc k hk2
          have HW := hideI (isWithin_c (ns.getD k 0) 0 8 wr)
          have HBAD := hideI (fun hb : inB (ns.getD k 0) 0 8 = false => show numsIn ns 0 8 = false from upB_false hk2 hb)
          have HNX := hideI (fun hb : inB (ns.getD k 0) 0 8 = true => upTo_next (q := fun q => inB (ns.getD q 0) 0 8) (unhideI HN) hb)
          clear hcc HC
          generalize inB (ns.getD k 0) 0 8 = yes at HW HBAD HNX
          generalize ns.getD k 0 = y at c HW
          go_wp2_with fail
          refine (unhideI HW).mono ?_
          rintro e w2 ⟨rfl, h2⟩
          subst w2
          cases yes with
          | false =>
            have hx := hideI (unhideI HBAD rfl)
            go_wp2
            go_ret
            exact ⟨by rw [unhideI HS, unhideI HR, unhideI hx]; rfl, (unhideI HX).2.1⟩
          | true =>
            have hx := hideI (unhideI HNX rfl)
            go_wp2
            go_roundw
            case rel => exact ⟨k + 1, by go_num, by omega, trivial, unhideI hx⟩
            case measure => simp [intOf]; omega
        · have HT := hideI (show numsIn ns 0 8 = true from upB_true (fun q hq => unhideI HN q (by omega)))
          obtain rfl : k = ns.length := by omega
          go_wp2
          go_ret
          exact ⟨by rw [unhideI HS, unhideI HR, unhideI HT]; rfl, (unhideI HX).2.1⟩
  · have HS := hideI (show sigB (ns, r) = false by unfold sigB; simp [h8])
    go_enter Tryd.func27, Tryd.ntmps27
    go_wp2
    go_ret
    exact ⟨by rw [unhideI HS]; rfl, (unhideI HX).2.1⟩
end Go.Proofs.YtffemeicclhioaaDoor

