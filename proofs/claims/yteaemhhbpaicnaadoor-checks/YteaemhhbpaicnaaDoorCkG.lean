/-
  Checks: slots, arguments and calls, by package program. Own work of the verifier.
-/
import Derived.Test.YteaemhhbpaicnaaDoorCkF
namespace Go.Proofs.YteaemhhbpaicnaaDoor
open Go.RowKit

theorem slotB_false1 {f : FuncE} {i : InsE} (h : inB i.a 0 (f.slots.length - 1) = false) : slotB f i = false := by unfold slotB; simp [h]
theorem slotB_false2 {f : FuncE} {i : InsE} (h : widthB i.n = false) : slotB f i = false := by unfold slotB; simp [h]
theorem IntKind.wrap_of_boundsK {n : Int} (h0 : -9223372036854775808 ≤ n) (h1 : n < 9223372036854775808) : IntKind.i64.wrap n = n := by
  rw [IntKind.wrap_i64]
  omega
set_option maxHeartbeats 2000000 in
set_option maxRecDepth 100000 in
theorem slotHas_c (f : FuncE) (i : InsE) (fv ev pv hv sv bv av ov : Value) (r : Int) (w : World) (hs : Li w sv f.slots) (h18 : numsIn f.slots 1 8 = true) (hnn : 0 ≤ i.n ∧ i.n < 18446744073709551616) : Calls Tryd.prog 62 #[.agg #[fv, ev, pv, .int .i64 r, hv, sv, bv], .agg #[.int .i64 i.op, .int .i64 i.d, .int .i64 i.a, .int .i64 i.bb, .int .u64 i.n, .int .i64 i.f, av, ov]] w fun e w' => e = .returned (.bool (slotB f i)) ∧ Below w.heap.size w w' := by
  obtain ⟨op, d, a, bb, n, fx, gs, os⟩ := i
  simp only at hnn ⊢
  have hx := al0 w (.cells #[fv, ev, pv, .int .i64 r, hv, sv, bv] 122 (0, 0))
  have hx2 := al0 (w.alloc (.cells #[fv, ev, pv, .int .i64 r, hv, sv, bv] 122 (0, 0))) (.cells #[.int .i64 op, .int .i64 d, .int .i64 a, .int .i64 bb, .int .u64 n, .int .i64 fx, av, ov] 54 (0, 0))
  have HL := hideI ((hs.below hx.2.1).below hx2.2.1)
  have hs1 := hx.2.2
  have hs2 := hx2.2.2
  have HW1 := hideI (below_cut hx.2.1 hx2.2.1 (by omega))
  have hrs := (hx2.2.1.block w.heap.size (by omega)).trans hx.1
  have hri := hx2.1
  rw [hs1] at hri hs2
  have hsl : f.slots.length < 9223372036854775808 := hs.lt
  obtain ⟨ps, cs, rfl⟩ := hs.shape
  have HRS := hideI hrs
  have HRI := hideI hri
  have HS2 := hideI hs2
  have HNU := hideI h18
  have hn0 := hnn.1
  have hn1 := hnn.2
  clear hx hx2 hs hs1 hs2 hrs hri h18 hnn
  go_enter Tryd.func62, Tryd.ntmps62
  go_wp2_with fail
  generalize World.alloc (World.alloc w _) _ = W at HL HW1 HRS HRI HS2 ⊢
  refine (hasSlot_c f _ _ _ _ _ _ _ _ _ W hsl).mono ?_
  rintro e w2 ⟨rfl, hb⟩
  have HB2 := hideI hb
  have hsz := unhideI HS2
  have hrow := (hb.block (w.heap.size + 1) (by omega)).trans (unhideI HRI)
  have r2 := (cells_of_row hrow 2).trans rfl
  have r3 := (cells_of_row hrow 3).trans rfl
  have r4 := (cells_of_row hrow 4).trans rfl
  have hrow2 := (hb.block w.heap.size (by omega)).trans (unhideI HRS)
  have q5 := (cells_of_row hrow2 5).trans rfl
  have HEND := hideI (below_cut (unhideI HW1) hb (by omega))
  clear hb hrow hrow2 hsz
  cases h1 : inB a 0 (f.slots.length - 1) with
  | false =>
    have hz := hideI (slotB_false1 (f := f) (i := ⟨op, d, a, bb, n, fx, gs, os⟩) h1)
    go_wp2
    go_ret
    exact ⟨by rw [unhideI hz]; rfl, unhideI HEND⟩
  | true =>
    by_cases h8 : n ≤ 8
    · have hcv : IntKind.i64.wrap n = n := IntKind.wrap_of_boundsK (by omega) (by omega)
      go_wp2_with fail
      refine (isWidth_c n w2).mono ?_
      rintro e w3 ⟨rfl, h3⟩
      subst w3
      cases h2 : widthB n with
      | false =>
        have hz := hideI (slotB_false2 (f := f) (i := ⟨op, d, a, bb, n, fx, gs, os⟩) h2)
        go_wp2
        go_ret
        exact ⟨by rw [unhideI hz]; rfl, unhideI HEND⟩
      | true =>
        have hw := h2
        unfold widthB at hw
        have hw := of_decide_eq_true hw
        go_wp2_with fail
        have ha := h1
        unfold inB at ha
        obtain ⟨g0, g1⟩ := of_decide_eq_true ha
        obtain ⟨m, rfl⟩ : ∃ m : Nat, a = m := ⟨a.toNat, by omega⟩
        have hm : m < f.slots.length := by omega
        have hsb : inB (f.slots.getD m 0) 1 8 = true := upB_get (unhideI HNU) hm
        unfold inB at hsb
        obtain ⟨s0, s1⟩ := of_decide_eq_true hsb
        obtain ⟨p', cap', he, -, -, hcc⟩ := (unhideI HL).below (unhideI HB2)
        injection he with e1 e2 e3
        subst e1 e3
        obtain ⟨sb, so, rfl, hc⟩ := hcc (by omega)
        have c := hc m hm
        have HSL := hideI (show slotB f ⟨op, d, m, bb, n, fx, gs, os⟩ = (inB bb 0 (8 * f.slots.getD m 0 - n) && decide (bb % n = 0)) by unfold slotB; simp only [Int.toNat_natCast]; rw [h1, h2]; rfl)
        clear hc hcc hsb ha e2 g0 g1 h1 h2
        generalize f.slots.getD m 0 = s at c HSL s0 s1
        have HWI := hideI (fun V => isWithin_c bb 0 (8 * s - n) V)
        rcases hw with rfl | rfl | rfl | rfl
        all_goals (
          cases h3 : inB bb 0 (8 * s - _) with
          | false =>
            rw [h3] at HWI HSL
            go_quiet ((go_at_call 42; exact Calls.quiet_of_same (unhideI HWI _)))
            go_wp2
            go_ret
            exact ⟨by rw [unhideI HSL]; rfl, below_drewN (unhideI HEND) _⟩
          | true =>
            rw [h3] at HWI HSL
            unfold inB at h3
            obtain ⟨g0, g1⟩ := of_decide_eq_true h3
            obtain ⟨t, rfl⟩ : ∃ t : Nat, bb = t := ⟨bb.toNat, by omega⟩
            clear h3 g0 g1
            go_quiet ((go_at_call 42; exact Calls.quiet_of_same (unhideI HWI _)))
            go_wp2
            go_ret
            exact ⟨by rw [unhideI HSL]; first | rfl | simp [Int.emod_one], below_drewN (unhideI HEND) _⟩)
    · have hz := hideI (slotB_false2 (f := f) (i := ⟨op, d, a, bb, n, fx, gs, os⟩) (by unfold widthB; simp; omega))
      go_wp2
      go_ret
      exact ⟨by rw [unhideI hz]; rfl, unhideI HEND⟩
end Go.Proofs.YteaemhhbpaicnaaDoor
