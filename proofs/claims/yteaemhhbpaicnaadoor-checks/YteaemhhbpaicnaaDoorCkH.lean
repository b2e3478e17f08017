/-
  Checks: arguments and calls, by package program. Own work of the verifier.
-/
import Derived.Test.YteaemhhbpaicnaaDoorCkG
import Derived.Deep.RegionHeld3
namespace Go.Proofs.YteaemhhbpaicnaaDoor
open Go.RowKit

theorem Li.one (w : World) (n : Int) : Li (w.alloc (.cells #[.int .i64 n] 3 (0, 0))) (.slice (some ⟨w.heap.size, 0, none⟩) 1 1) [n] := Li.new (ns := [n]) (heap_alloc_new w _) (by show 1 < short; decide)
set_option maxHeartbeats 2000000 in
set_option maxRecDepth 100000 in
theorem hasArg_c (f : FuncE) (fv ev pv hv sv bv : Value) (r : Int) (x : Int × Int) (w : World) (hh : Li w hv f.homes) (hs : Li w sv f.slots) : Calls Tryd.prog 71 #[.agg #[fv, ev, pv, .int .i64 r, hv, sv, bv], .agg #[.int .i64 x.1, .int .i64 x.2]] w fun e w' => e = .returned (.bool (spotB f x)) ∧ Below w.heap.size w w' := by
  obtain ⟨x, y⟩ := x
  have hhl : f.homes.length < 9223372036854775808 := hh.lt
  have hsl : f.slots.length < 9223372036854775808 := hs.lt
  obtain ⟨ph, ch, rfl⟩ := hh.shape
  obtain ⟨ps, cs, rfl⟩ := hs.shape
  have hx := al0 w (.cells #[fv, ev, pv, .int .i64 r, .slice ph f.homes.length ch, .slice ps f.slots.length cs, bv] 122 (0, 0))
  have hx2 := al0 (w.alloc (.cells #[fv, ev, pv, .int .i64 r, .slice ph f.homes.length ch, .slice ps f.slots.length cs, bv] 122 (0, 0))) (.cells #[.int .i64 x, .int .i64 y] 82 (0, 0))
  have HL := hideI ((hs.below hx.2.1).below hx2.2.1)
  have hs1 := hx.2.2
  have hs2 := hx2.2.2
  have HW1 := hideI (below_cut hx.2.1 hx2.2.1 (by omega))
  have hrs := (hx2.2.1.block w.heap.size (by omega)).trans hx.1
  have hri := hx2.1
  rw [hs1] at hri hs2
  have HRS := hideI hrs
  have HRI := hideI hri
  have HS2 := hideI hs2
  clear hx hx2 hs hs1 hs2 hrs hri hh
  by_cases h0 : x = 0
  · have HS := hideI (show spotB f (x, y) = localsB f [y] by unfold spotB localsB; simp [h0, upB, localB])
    subst h0
    go_enter Tryd.func71, Tryd.ntmps71
    go_wp2_with fail
    generalize World.alloc (World.alloc w _) _ = W at HL HW1 HRS HRI HS2 ⊢
    have hT := unhideI HS2
    rw [← hT]
    refine (haveLocals_c f _ _ _ _ _ _ _ _ [y] _ ⟨ph, ch, rfl⟩ hhl (Li.one W y)).mono ?_
    rintro e w2 ⟨rfl, hb⟩
    have HB2 := hideI (below_cut (below_cut (unhideI HW1) (al0 W (.cells #[.int .i64 y] 3 (0, 0))).2.1 (by omega)) hb (by simp; omega))
    clear hb hT
    go_wp2
    go_ret
    exact ⟨by rw [unhideI HS]; rfl, unhideI HB2⟩
  · have hz : (x == 0) = false := by simpa using h0
    have HS := hideI (show spotB f (x, y) = (inB y 0 (f.slots.length - 1) && decide (f.slots.getD y.toNat 0 = x)) by unfold spotB; simp [h0])
    have HW := hideI (fun V fv ev pv r hv bv => hasSlot_c f fv ev pv hv bv ps cs r y V hsl)
    go_enter Tryd.func71, Tryd.ntmps71
    go_wp2_with fail
    generalize World.alloc (World.alloc w _) _ = W at HL HW1 HRS HRI HS2 ⊢
    have hT := unhideI HS2
    cases hr : inB y 0 (f.slots.length - 1) with
    | false =>
      rw [hr] at HW HS
      have HK := hideI (fun (V : World) (h : Below W.heap.size W V) => show Below W.heap.size W V ∧ V.cell? ⟨w.heap.size, 0, none⟩ = some (fv) ∧ V.cell? ⟨w.heap.size, 1, none⟩ = some (ev) ∧ V.cell? ⟨w.heap.size, 2, none⟩ = some (pv) ∧ V.cell? ⟨w.heap.size, 3, none⟩ = some (.int .i64 r) ∧ V.cell? ⟨w.heap.size, 4, none⟩ = some (.slice ph f.homes.length ch) ∧ V.cell? ⟨w.heap.size, 5, none⟩ = some (.slice ps f.slots.length cs) ∧ V.cell? ⟨w.heap.size, 6, none⟩ = some (bv) ∧ V.cell? ⟨w.heap.size + 1, 0, none⟩ = some (.int .i64 x) ∧ V.cell? ⟨w.heap.size + 1, 1, none⟩ = some (.int .i64 y) from ⟨h, (cells_of_row ((h.block w.heap.size (by omega)).trans (unhideI HRS)) 0).trans rfl, (cells_of_row ((h.block w.heap.size (by omega)).trans (unhideI HRS)) 1).trans rfl, (cells_of_row ((h.block w.heap.size (by omega)).trans (unhideI HRS)) 2).trans rfl, (cells_of_row ((h.block w.heap.size (by omega)).trans (unhideI HRS)) 3).trans rfl, (cells_of_row ((h.block w.heap.size (by omega)).trans (unhideI HRS)) 4).trans rfl, (cells_of_row ((h.block w.heap.size (by omega)).trans (unhideI HRS)) 5).trans rfl, (cells_of_row ((h.block w.heap.size (by omega)).trans (unhideI HRS)) 6).trans rfl, (cells_of_row ((h.block (w.heap.size + 1) (by omega)).trans (unhideI HRI)) 0).trans rfl, (cells_of_row ((h.block (w.heap.size + 1) (by omega)).trans (unhideI HRI)) 1).trans rfl⟩)
      clear hr hT
      refine wp_region_held_drew (S := fun V => Below W.heap.size W V ∧ V.cell? ⟨w.heap.size, 0, none⟩ = some (fv) ∧ V.cell? ⟨w.heap.size, 1, none⟩ = some (ev) ∧ V.cell? ⟨w.heap.size, 2, none⟩ = some (pv) ∧ V.cell? ⟨w.heap.size, 3, none⟩ = some (.int .i64 r) ∧ V.cell? ⟨w.heap.size, 4, none⟩ = some (.slice ph f.homes.length ch) ∧ V.cell? ⟨w.heap.size, 5, none⟩ = some (.slice ps f.slots.length cs) ∧ V.cell? ⟨w.heap.size, 6, none⟩ = some (bv) ∧ V.cell? ⟨w.heap.size + 1, 0, none⟩ = some (.int .i64 x) ∧ V.cell? ⟨w.heap.size + 1, 1, none⟩ = some (.int .i64 y)) (by kernel_rfl) (unhideI HK _ (Below.refl _ _).drew) (fun hHeld => ?_)
      refine wpAnyH_take (i := 0) (v := ?v0) rfl (by kernel_rfl) (by kernel_rfl) (by kernel_rfl) (fun _ _ _ h => h) (Or.inl ⟨by rfl, ?hy0⟩) (by assumption) ?_
      case hy0 =>
        intro V hV
        try dsimp only at hV
        go_simp
        all_goals (with_reducible rfl)
      simp only [Act.put, List.setIfInBounds_toArray, List.set_cons_zero, List.set_cons_succ, List.getElem_toArray, List.getElem_cons_zero]
      refine wpAnyH_take (i := 1) (v := ?v1) rfl (by kernel_rfl) (by kernel_rfl) (by kernel_rfl) (fun _ _ _ h => h) (Or.inl ⟨by rfl, ?hy1⟩) (by assumption) ?_
      case hy1 =>
        intro V hV
        try dsimp only at hV
        go_simp
        all_goals (with_reducible rfl)
      simp only [Act.put, List.setIfInBounds_toArray, List.set_cons_zero, List.set_cons_succ, List.getElem_toArray, List.getElem_cons_zero, List.getElem_cons_succ]
      refine wpAnyH_take (i := 2) (v := ?v2) rfl (by kernel_rfl) (by kernel_rfl) (by kernel_rfl) (fun _ _ _ h => h) (Or.inl ⟨by rfl, ?hy2⟩) (by assumption) ?_
      case hy2 =>
        intro V hV
        try dsimp only at hV
        go_simp
        all_goals (with_reducible rfl)
      simp only [Act.put, List.setIfInBounds_toArray, List.set_cons_zero, List.set_cons_succ, List.getElem_toArray, List.getElem_cons_zero, List.getElem_cons_succ]
      refine wpAnyH_ready (rs := [3]) (by kernel_rfl) (by simp) ?_
      refine AllReadyH.cons rfl (fun K hK => ?_) AllReadyH.nil
      go_simp
      refine (unhideI HW _ _ _ _ _ _ _).mono ?_
      rintro e w5 ⟨rfl, hb5⟩
      have HB5 := hideI (below_cut (Below.refl W.heap.size W).drew hb5 (Nat.le_refl _))
      clear hb5
      go_wp2_with fail
      refine hK.out _ _ (unhideI HK _ (unhideI HB5)) (fun hHeld2 => ?_)
      clear hK K
      try simp only [Act.put, List.setIfInBounds_toArray, List.set_cons_zero, List.set_cons_succ, List.getElem_toArray, List.getElem_cons_zero, List.getElem_cons_succ]
      refine wpAnyH_take (i := 4) (v := ?v4) rfl (by kernel_rfl) (by kernel_rfl) (by kernel_rfl) (fun _ _ _ h => h) (Or.inl ⟨by rfl, ?hy4⟩) (by assumption) ?_
      case hy4 =>
        intro V hV
        try dsimp only at hV
        go_simp
        all_goals (with_reducible rfl)
      simp only [Act.put, List.setIfInBounds_toArray, List.set_cons_zero, List.set_cons_succ, List.getElem_toArray, List.getElem_cons_zero, List.getElem_cons_succ]
      refine wpAnyH_take (i := 5) (v := undef) rfl (by kernel_rfl) (by kernel_rfl) (by kernel_rfl) (fun _ _ _ h => h) (Or.inr ⟨by rfl, rfl⟩) (by assumption) ?_
      simp only [Act.put, List.setIfInBounds_toArray, List.set_cons_zero, List.set_cons_succ, List.getElem_toArray, List.getElem_cons_zero, List.getElem_cons_succ]
      refine wpAnyH_take (i := 6) (v := undef) rfl (by kernel_rfl) (by kernel_rfl) (by kernel_rfl) (fun _ _ _ h => h) (Or.inr ⟨by rfl, rfl⟩) (by assumption) ?_
      simp only [Act.put, List.setIfInBounds_toArray, List.set_cons_zero, List.set_cons_succ, List.getElem_toArray, List.getElem_cons_zero, List.getElem_cons_succ]
      refine wpAnyH_take (i := 7) (v := undef) rfl (by kernel_rfl) (by kernel_rfl) (by kernel_rfl) (fun _ _ _ h => h) (Or.inr ⟨by rfl, rfl⟩) (by assumption) ?_
      simp only [Act.put, List.setIfInBounds_toArray, List.set_cons_zero, List.set_cons_succ, List.getElem_toArray, List.getElem_cons_zero, List.getElem_cons_succ]
      refine wpAnyH_take (i := 8) (v := undef) rfl (by kernel_rfl) (by kernel_rfl) (by kernel_rfl) (fun _ _ _ h => h) (Or.inr ⟨by rfl, rfl⟩) (by assumption) ?_
      simp only [Act.put, List.setIfInBounds_toArray, List.set_cons_zero, List.set_cons_succ, List.getElem_toArray, List.getElem_cons_zero, List.getElem_cons_succ]
      refine wpAnyH_take (i := 9) (v := undef) rfl (by kernel_rfl) (by kernel_rfl) (by kernel_rfl) (fun _ _ _ h => h) (Or.inr ⟨by rfl, rfl⟩) (by assumption) ?_
      simp only [Act.put, List.setIfInBounds_toArray, List.set_cons_zero, List.set_cons_succ, List.getElem_toArray, List.getElem_cons_zero, List.getElem_cons_succ]
      refine wpAnyH_take (i := 10) (v := undef) rfl (by kernel_rfl) (by kernel_rfl) (by kernel_rfl) (fun _ _ _ h => h) (Or.inr ⟨by rfl, rfl⟩) (by assumption) ?_
      simp only [Act.put, List.setIfInBounds_toArray, List.set_cons_zero, List.set_cons_succ, List.getElem_toArray, List.getElem_cons_zero, List.getElem_cons_succ]
      refine wpAnyH_take (i := 11) (v := undef) rfl (by kernel_rfl) (by kernel_rfl) (by kernel_rfl) (fun _ _ _ h => h) (Or.inr ⟨by rfl, rfl⟩) (by assumption) ?_
      simp only [Act.put, List.setIfInBounds_toArray, List.set_cons_zero, List.set_cons_succ, List.getElem_toArray, List.getElem_cons_zero, List.getElem_cons_succ]
      refine wpAnyH_take (i := 12) (v := undef) rfl (by kernel_rfl) (by kernel_rfl) (by kernel_rfl) (fun _ _ _ h => h) (Or.inr ⟨by rfl, rfl⟩) (by assumption) ?_
      simp only [Act.put, List.setIfInBounds_toArray, List.set_cons_zero, List.set_cons_succ, List.getElem_toArray, List.getElem_cons_zero, List.getElem_cons_succ]
      refine wpAnyH_take (i := 13) (v := undef) rfl (by kernel_rfl) (by kernel_rfl) (by kernel_rfl) (fun _ _ _ h => h) (Or.inr ⟨by rfl, rfl⟩) (by assumption) ?_
      simp only [Act.put, List.setIfInBounds_toArray, List.set_cons_zero, List.set_cons_succ, List.getElem_toArray, List.getElem_cons_zero, List.getElem_cons_succ]
      refine wpAnyH_take (i := 14) (v := undef) rfl (by kernel_rfl) (by kernel_rfl) (by kernel_rfl) (fun _ _ _ h => h) (Or.inr ⟨by rfl, rfl⟩) (by assumption) ?_
      simp only [Act.put, List.setIfInBounds_toArray, List.set_cons_zero, List.set_cons_succ, List.getElem_toArray, List.getElem_cons_zero, List.getElem_cons_succ]
      refine wpAnyH_take (i := 15) (v := ?v15) rfl (by kernel_rfl) (by kernel_rfl) (by kernel_rfl) (fun _ _ _ h => h) (Or.inl ⟨by rfl, ?hy15⟩) (by assumption) ?_
      case hy15 =>
        intro V hV
        try dsimp only at hV
        go_simp
        all_goals (with_reducible rfl)
      simp only [Act.put, List.setIfInBounds_toArray, List.set_cons_zero, List.set_cons_succ, List.getElem_toArray, List.getElem_cons_zero, List.getElem_cons_succ]
      refine wpAnyH_take (i := 16) (v := ?v16) rfl (by kernel_rfl) (by kernel_rfl) (by kernel_rfl) (fun _ _ _ h => h) (Or.inl ⟨by rfl, ?hy16⟩) (by assumption) ?_
      case hy16 =>
        intro V hV
        try dsimp only at hV
        go_simp
        all_goals (with_reducible rfl)
      simp only [Act.put, List.setIfInBounds_toArray, List.set_cons_zero, List.set_cons_succ, List.getElem_toArray, List.getElem_cons_zero, List.getElem_cons_succ]
      refine wpAnyH_done (by kernel_rfl) ?_ _
      all_goals (
        go_wp2
        go_ret
        exact ⟨by rw [unhideI HS]; rfl, below_cut (unhideI HW1) (unhideI HB5) (by have := unhideI HS2; omega)⟩)
    | true =>
      rw [hr] at HW HS
      unfold inB at hr
      obtain ⟨g0, g1⟩ := of_decide_eq_true hr
      obtain ⟨n, rfl⟩ : ∃ n : Nat, y = n := ⟨y.toNat, by omega⟩
      have hn : n < f.slots.length := by omega
      obtain ⟨p', cap', he, -, -, hcc⟩ := unhideI HL
      injection he with e1 e2 e3
      subst e1 e3
      obtain ⟨sb, so, rfl, hc⟩ := hcc (by omega)
      have cc := hc n hn
      rw [Int.toNat_natCast] at HS
      generalize f.slots.getD n 0 = z at cc HS
      have HK := hideI (fun (V : World) (h : Below W.heap.size W V) => show Below W.heap.size W V ∧ V.cell? ⟨w.heap.size, 0, none⟩ = some (fv) ∧ V.cell? ⟨w.heap.size, 1, none⟩ = some (ev) ∧ V.cell? ⟨w.heap.size, 2, none⟩ = some (pv) ∧ V.cell? ⟨w.heap.size, 3, none⟩ = some (.int .i64 r) ∧ V.cell? ⟨w.heap.size, 4, none⟩ = some (.slice ph f.homes.length ch) ∧ V.cell? ⟨w.heap.size, 5, none⟩ = some (.slice (some ⟨sb, so, none⟩) f.slots.length cs) ∧ V.cell? ⟨w.heap.size, 6, none⟩ = some (bv) ∧ V.cell? ⟨w.heap.size + 1, 0, none⟩ = some (.int .i64 x) ∧ V.cell? ⟨w.heap.size + 1, 1, none⟩ = some (.int .i64 n) ∧ V.cell? ⟨sb, so + n, none⟩ = some (.int .i64 z) from ⟨h, (cells_of_row ((h.block w.heap.size (by omega)).trans (unhideI HRS)) 0).trans rfl, (cells_of_row ((h.block w.heap.size (by omega)).trans (unhideI HRS)) 1).trans rfl, (cells_of_row ((h.block w.heap.size (by omega)).trans (unhideI HRS)) 2).trans rfl, (cells_of_row ((h.block w.heap.size (by omega)).trans (unhideI HRS)) 3).trans rfl, (cells_of_row ((h.block w.heap.size (by omega)).trans (unhideI HRS)) 4).trans rfl, (cells_of_row ((h.block w.heap.size (by omega)).trans (unhideI HRS)) 5).trans rfl, (cells_of_row ((h.block w.heap.size (by omega)).trans (unhideI HRS)) 6).trans rfl, (cells_of_row ((h.block (w.heap.size + 1) (by omega)).trans (unhideI HRI)) 0).trans rfl, (cells_of_row ((h.block (w.heap.size + 1) (by omega)).trans (unhideI HRI)) 1).trans rfl, (h.cell (World.block_lt_of_cell? W _ cc)).trans cc⟩)
      clear hr hT hc hcc g0 g1 e2 cc
      go_region_held3 (fun V => Below W.heap.size W V ∧ V.cell? ⟨w.heap.size, 0, none⟩ = some (fv) ∧ V.cell? ⟨w.heap.size, 1, none⟩ = some (ev) ∧ V.cell? ⟨w.heap.size, 2, none⟩ = some (pv) ∧ V.cell? ⟨w.heap.size, 3, none⟩ = some (.int .i64 r) ∧ V.cell? ⟨w.heap.size, 4, none⟩ = some (.slice ph f.homes.length ch) ∧ V.cell? ⟨w.heap.size, 5, none⟩ = some (.slice (some ⟨sb, so, none⟩) f.slots.length cs) ∧ V.cell? ⟨w.heap.size, 6, none⟩ = some (bv) ∧ V.cell? ⟨w.heap.size + 1, 0, none⟩ = some (.int .i64 x) ∧ V.cell? ⟨w.heap.size + 1, 1, none⟩ = some (.int .i64 n) ∧ V.cell? ⟨sb, so + n, none⟩ = some (.int .i64 z)) ((first | exact unhideI HK _ (Below.refl _ _).drew | exact unhideI HK _ (unhideI HB5))) ((go_at_call 67; refine (unhideI HW _ _ _ _ _ _ _).mono ?_; rintro e w5 ⟨rfl, hb5⟩; have HB5 := hideI (below_cut (Below.refl W.heap.size W).drew hb5 (Nat.le_refl _)); clear hb5))
      all_goals (
        go_wp2
        go_ret
        exact ⟨by rw [unhideI HS]; rfl, below_cut (unhideI HW1) (unhideI HB5) (by have := unhideI HS2; omega)⟩)
end Go.Proofs.YteaemhhbpaicnaaDoor
