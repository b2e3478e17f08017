/-
  Checks: the small ones of prologueref. Own work of the verifier.
-/
import Derived.Test.YtffemeicclhioaaDoorCkK
import Derived.Test.YtffemeicclhioaaDoorTblReg
import Derived.Test.YtffemeicclhioaaDoorEncQ
namespace Go.Proofs.YtffemeicclhioaaDoor
open Go.RowKit

theorem rin_c (n lo hi : Int) (w : World) : Calls Tryd.prog 24 #[.int .i64 n, .int .i64 lo, .int .i64 hi] w fun e w' => e = .returned (.bool (inB n lo hi)) ∧ w' = w := in_c n lo hi w
set_option maxHeartbeats 1000000 in
set_option maxRecDepth 100000 in
theorem rsig_c (v : Value) (ns : List Int) (r : Int) (w : World) (h : Li w v ns) : Calls Tryd.prog 18 #[.agg #[v, .int .i64 r]] w fun e w' => e = .returned (.bool (sigB (ns, r))) ∧ Below w.heap.size w w' := by
  have hx := al0 w (.cells #[v, .int .i64 r] 27 (0, 0))
  obtain ⟨p, cap, rfl, hcap, hlt, hc⟩ := h.below hx.2.1
  have hlt : ns.length < 9223372036854775808 := hlt
  have HC := hideI hc
  have HX := hideI hx
  clear hc hx h
  go_enter Tryd.func18, Tryd.ntmps18
  go_wp2_with fail
  generalize World.alloc w _ = W at HC HX ⊢
  go_loopw [8] (fun j w' => ∃ k : Nat, j = .int .i64 k ∧ k ≤ ns.length ∧ w' = W ∧ ∀ q, q < k → inB (ns.getD q 0) 0 8 = true) (fun j _ => ns.length - (intOf j).toNat)
  case atStart => exact ⟨0, rfl, by omega, rfl, fun q hq => by omega⟩
  case round =>
    obtain ⟨k, rfl, hk, rfl, hno⟩ := hrel
    have HN := hideI hno
    clear hno
    have r0 := (cells_of_row (unhideI HX).1 0).trans rfl
    have r1 := (cells_of_row (unhideI HX).1 1).trans rfl
    by_cases hk2 : k < ns.length
    · obtain ⟨sb, so, rfl, hcc⟩ := unhideI HC (by omega)
      have c := hcc k hk2
      have HW := hideI (rin_c (ns.getD k 0) 0 8 wr)
      have HBAD := hideI (fun hb : inB (ns.getD k 0) 0 8 = false => show sigB (ns, r) = false by have : numsIn ns 0 8 = false := upB_false hk2 hb; unfold sigB; rw [this]; simp)
      have HNX := hideI (fun hb : inB (ns.getD k 0) 0 8 = true => upTo_next (q := fun q => inB (ns.getD q 0) 0 8) (unhideI HN) hb)
      clear hcc HC
      generalize inB (ns.getD k 0) 0 8 = yes at HW HBAD HNX
      generalize ns.getD k 0 = y at c HW
      go_wp2_with fail
      refine (unhideI HW).mono ?_
      rintro e w2 ⟨rfl, h2⟩
      subst w2
      cases yes with
      | false =>
        have hx := hideI (unhideI HBAD rfl)
        go_wp2
        go_ret
        exact ⟨by rw [unhideI hx]; rfl, (unhideI HX).2.1⟩
      | true =>
        have hx := hideI (unhideI HNX rfl)
        go_wp2
        go_roundw
        case rel => exact ⟨k + 1, by go_num, by omega, trivial, unhideI hx⟩
        case measure => simp [intOf]; omega
    · have HT := hideI (show numsIn ns 0 8 = true from upB_true (fun q hq => unhideI HN q (by omega)))
      obtain rfl : k = ns.length := by omega
      by_cases h8 : ns.length ≤ 8
      · have HS := hideI (show sigB (ns, r) = inB r 0 4 by unfold sigB; rw [unhideI HT]; simp [h8])
        go_wp2_with fail
        refine (rin_c r 0 4 _).mono ?_
        rintro e w2 ⟨rfl, h2⟩
        subst w2
        go_wp2
        go_ret
        exact ⟨by rw [unhideI HS]; rfl, (unhideI HX).2.1⟩
      · have HS := hideI (show sigB (ns, r) = false by unfold sigB; simp [h8])
        go_wp2
        go_ret
        exact ⟨by rw [unhideI HS]; rfl, (unhideI HX).2.1⟩
end Go.Proofs.YtffemeicclhioaaDoor

