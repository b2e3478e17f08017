/-
  Checks: the fields of a call from outside, by package program. Own work of the verifier.
-/
import Derived.Test.YteaemhhbpaicnaaDoorCkL
namespace Go.Proofs.YteaemhhbpaicnaaDoor
open Go.RowKit

set_option maxHeartbeats 4000000 in
set_option maxRecDepth 100000 in
theorem ff13_c : FfS 13 := by
  intro p f d a bb n fx gs os fv ev pv hv sv bv av ov A E B w hSC ha ho hF hn
  obtain ⟨pf, cf, pe, ce, pp, cp, ph, ch, ps, cs, pb, cb, pa, ca, po, co, rfl, rfl, rfl, rfl, rfl, rfl, rfl, rfl, ⟨hl1, hl2, hl3, hl4, hl5, hl6⟩, HSC, HA, HO, HW, HR1, HR2, HZ⟩ := ckPre 13 d a bb n fx hSC ha ho _ rfl
  have HF := hideI hF
  have HNN := hideI hn
  clear hSC ha ho hF hn
  go_enter Tryd.func58, Tryd.ntmps58
  go_wp2_with fail
  generalize World.alloc (World.alloc w _) _ = W at HSC HA HO HW HR1 HR2 HZ ⊢
  have hT := unhideI HZ
  cases hr : inB fx 0 (p.externs.length - 1) with
  | false =>
    have HX := hideI (show fieldsB p f ⟨13, d, a, bb, n, fx, gs, os⟩ = false by unfold fieldsB; simp [hr])
    have HWI := hideI (fun V => isWithin_c fx 0 (p.externs.length - 1) V)
    rw [hr] at HWI
    have s1 := (cells_of_row (unhideI HR1) 1).trans rfl
    have i5 := (cells_of_row (unhideI HR2) 5).trans rfl
    clear hT hr
    go_quiet ((go_at_call 42; exact Calls.quiet_of_same (unhideI HWI _)))
    go_wp2
    go_ret
    exact ⟨by rw [unhideI HX]; rfl, below_drewN (unhideI HW) _⟩
  | true =>
    unfold inB at hr
    obtain ⟨g0, g1⟩ := of_decide_eq_true hr
    obtain ⟨m, rfl⟩ : ∃ m : Nat, fx = m := ⟨fx.toNat, by omega⟩
    have hm : m < p.externs.length := by omega
    obtain ⟨p', cap', he, -, -, hcc⟩ := (unhideI HSC).prog.es
    injection he with e1 e2 e3
    subst e1 e3
    obtain ⟨sb, so, rfl, hsbl, hc⟩ := hcc (by omega)
    have hel := hc m hm
    have hfc := (unhideI HSC).prog.eeach m hm
    have hgd : p.externs[m] = p.externs.getD m ([], 0) := by simp [List.getD, hm]
    rw [hgd] at hfc
    have hg8 := (unhideI HF).externs m hm
    have HX := hideI (show fieldsB p f ⟨13, d, a, bb, n, m, gs, os⟩ = (callB f ⟨13, d, a, bb, n, m, gs, os⟩ (p.externs.getD m ([], 0))) by unfold fieldsB inB; simp only [Int.toNat_natCast]; simp; omega)
    generalize p.externs.getD m ([], 0) = s at hfc hg8 HX
    obtain ⟨gv, hA, hli⟩ := hfc
    have HLI := hideI hli
    obtain ⟨gp, gc, rfl⟩ := hli.shape
    rw [hA] at hel
    have e0 := hel 0 _ rfl
    have e1 := hel 1 _ rfl
    rw [Nat.add_zero] at e0
    have HK := hideI (fun (V : World) (h : Below W.heap.size W V) => show Below W.heap.size W V ∧ V.cell? ⟨w.heap.size, 0, none⟩ = some (.slice pf p.funcs.length cf) ∧ V.cell? ⟨w.heap.size, 1, none⟩ = some (.slice (some ⟨sb, so, none⟩) p.externs.length ce) ∧ V.cell? ⟨w.heap.size, 2, none⟩ = some (.slice pp f.params.length cp) ∧ V.cell? ⟨w.heap.size, 3, none⟩ = some (.int .i64 f.results) ∧ V.cell? ⟨w.heap.size, 4, none⟩ = some (.slice ph f.homes.length ch) ∧ V.cell? ⟨w.heap.size, 5, none⟩ = some (.slice ps f.slots.length cs) ∧ V.cell? ⟨w.heap.size, 6, none⟩ = some (.slice pb f.blocks.length cb) ∧ V.cell? ⟨w.heap.size + 1, 0, none⟩ = some (.int .i64 13) ∧ V.cell? ⟨w.heap.size + 1, 1, none⟩ = some (.int .i64 d) ∧ V.cell? ⟨w.heap.size + 1, 2, none⟩ = some (.int .i64 a) ∧ V.cell? ⟨w.heap.size + 1, 3, none⟩ = some (.int .i64 bb) ∧ V.cell? ⟨w.heap.size + 1, 4, none⟩ = some (.int .u64 n) ∧ V.cell? ⟨w.heap.size + 1, 5, none⟩ = some (.int .i64 ↑m) ∧ V.cell? ⟨w.heap.size + 1, 6, none⟩ = some (.slice pa gs.length ca) ∧ V.cell? ⟨w.heap.size + 1, 7, none⟩ = some (.slice po os.length co) ∧ V.cell? ⟨sb, so + m * 2, none⟩ = some (.slice gp s.1.length gc) ∧ V.cell? ⟨sb, so + m * 2 + 1, none⟩ = some (.int .i64 s.2) from ⟨h, (cells_of_row ((h.block w.heap.size (by omega)).trans (unhideI HR1)) 0).trans rfl, (cells_of_row ((h.block w.heap.size (by omega)).trans (unhideI HR1)) 1).trans rfl, (cells_of_row ((h.block w.heap.size (by omega)).trans (unhideI HR1)) 2).trans rfl, (cells_of_row ((h.block w.heap.size (by omega)).trans (unhideI HR1)) 3).trans rfl, (cells_of_row ((h.block w.heap.size (by omega)).trans (unhideI HR1)) 4).trans rfl, (cells_of_row ((h.block w.heap.size (by omega)).trans (unhideI HR1)) 5).trans rfl, (cells_of_row ((h.block w.heap.size (by omega)).trans (unhideI HR1)) 6).trans rfl, (cells_of_row ((h.block (w.heap.size + 1) (by omega)).trans (unhideI HR2)) 0).trans rfl, (cells_of_row ((h.block (w.heap.size + 1) (by omega)).trans (unhideI HR2)) 1).trans rfl, (cells_of_row ((h.block (w.heap.size + 1) (by omega)).trans (unhideI HR2)) 2).trans rfl, (cells_of_row ((h.block (w.heap.size + 1) (by omega)).trans (unhideI HR2)) 3).trans rfl, (cells_of_row ((h.block (w.heap.size + 1) (by omega)).trans (unhideI HR2)) 4).trans rfl, (cells_of_row ((h.block (w.heap.size + 1) (by omega)).trans (unhideI HR2)) 5).trans rfl, (cells_of_row ((h.block (w.heap.size + 1) (by omega)).trans (unhideI HR2)) 6).trans rfl, (cells_of_row ((h.block (w.heap.size + 1) (by omega)).trans (unhideI HR2)) 7).trans rfl, (h.cell hsbl).trans e0, (h.cell hsbl).trans e1⟩)
    have HWI := hideI (fun V => isWithin_c (m : Int) 0 (IntKind.i64.wrap (p.externs.length - 1)) V)
    have hin : inB (m : Int) 0 (IntKind.i64.wrap (p.externs.length - 1)) = true := by rw [IntKind.wrap_of_boundsK (by omega) (by omega)]; unfold inB; simp; omega
    rw [hin] at HWI
    have HCF := hideI (callFits_c f ⟨13, d, a, bb, n, m, gs, os⟩ s (.slice pf p.funcs.length cf) (.slice (some ⟨sb, so, none⟩) p.externs.length ce) (.slice pp f.params.length cp) (.slice ph f.homes.length ch) (.slice ps f.slots.length cs) (.slice pb f.blocks.length cb) (.slice pa gs.length ca) (.slice po os.length co) (.slice gp s.1.length gc) W.drew ((unhideI HSC).below (Below.refl W.heap.size W).drew).func.hs ((unhideI HSC).below (Below.refl W.heap.size W).drew).func.ss ((unhideI HA).below (Below.refl W.heap.size W).drew) ((unhideI HO).below (Below.refl W.heap.size W).drew) ((unhideI HLI).below (Below.refl W.heap.size W).drew) (by omega))
    have HWJ := hideI (unhideI HWI W.drew)
    have HK0 := hideI (unhideI HK W.drew (Below.refl W.heap.size W).drew)
    clear hT hr hin hli hel e0 e1 hcc hc hgd g0 g1 hA
    refine wp_region_held_drew (S := fun V => Below W.heap.size W V ∧ V.cell? ⟨w.heap.size, 0, none⟩ = some (.slice pf p.funcs.length cf) ∧ V.cell? ⟨w.heap.size, 1, none⟩ = some (.slice (some ⟨sb, so, none⟩) p.externs.length ce) ∧ V.cell? ⟨w.heap.size, 2, none⟩ = some (.slice pp f.params.length cp) ∧ V.cell? ⟨w.heap.size, 3, none⟩ = some (.int .i64 f.results) ∧ V.cell? ⟨w.heap.size, 4, none⟩ = some (.slice ph f.homes.length ch) ∧ V.cell? ⟨w.heap.size, 5, none⟩ = some (.slice ps f.slots.length cs) ∧ V.cell? ⟨w.heap.size, 6, none⟩ = some (.slice pb f.blocks.length cb) ∧ V.cell? ⟨w.heap.size + 1, 0, none⟩ = some (.int .i64 13) ∧ V.cell? ⟨w.heap.size + 1, 1, none⟩ = some (.int .i64 d) ∧ V.cell? ⟨w.heap.size + 1, 2, none⟩ = some (.int .i64 a) ∧ V.cell? ⟨w.heap.size + 1, 3, none⟩ = some (.int .i64 bb) ∧ V.cell? ⟨w.heap.size + 1, 4, none⟩ = some (.int .u64 n) ∧ V.cell? ⟨w.heap.size + 1, 5, none⟩ = some (.int .i64 ↑m) ∧ V.cell? ⟨w.heap.size + 1, 6, none⟩ = some (.slice pa gs.length ca) ∧ V.cell? ⟨w.heap.size + 1, 7, none⟩ = some (.slice po os.length co) ∧ V.cell? ⟨sb, so + m * 2, none⟩ = some (.slice gp s.1.length gc) ∧ V.cell? ⟨sb, so + m * 2 + 1, none⟩ = some (.int .i64 s.2)) (by kernel_rfl) (unhideI HK0) (fun hHeld => ?_)
    refine wpAnyH_take (i := 0) (v := ?v0) rfl (by kernel_rfl) (by kernel_rfl) (by kernel_rfl) (fun _ _ _ h => h) (Or.inl ⟨by rfl, ?hy0⟩) (by assumption) ?_
    case hy0 =>
      intro V hV
      try dsimp only at hV
      go_simp
      all_goals (with_reducible rfl)
    simp only [Act.put, List.setIfInBounds_toArray, List.set_cons_zero, List.set_cons_succ, List.getElem_toArray, List.getElem_cons_zero]
    refine wpAnyH_take (i := 1) (v := ?v1) rfl (by kernel_rfl) (by kernel_rfl) (by kernel_rfl) (fun _ _ _ h => h) (Or.inl ⟨by rfl, ?hy1⟩) (by assumption) ?_
    case hy1 =>
      intro V hV
      try dsimp only at hV
      go_simp
      all_goals (with_reducible rfl)
    simp only [Act.put, List.setIfInBounds_toArray, List.set_cons_zero, List.set_cons_succ, List.getElem_toArray, List.getElem_cons_zero, List.getElem_cons_succ]
    refine wpAnyH_take (i := 2) (v := ?v2) rfl (by kernel_rfl) (by kernel_rfl) (by kernel_rfl) (fun _ _ _ h => h) (Or.inl ⟨by rfl, ?hy2⟩) (by assumption) ?_
    case hy2 =>
      intro V hV
      try dsimp only at hV
      go_simp
      all_goals (with_reducible rfl)
    simp only [Act.put, List.setIfInBounds_toArray, List.set_cons_zero, List.set_cons_succ, List.getElem_toArray, List.getElem_cons_zero, List.getElem_cons_succ]
    refine wpAnyH_take (i := 3) (v := ?v3) rfl (by kernel_rfl) (by kernel_rfl) (by kernel_rfl) (fun _ _ _ h => h) (Or.inl ⟨by rfl, ?hy3⟩) (by assumption) ?_
    case hy3 =>
      intro V hV
      try dsimp only at hV
      go_simp
      all_goals (with_reducible rfl)
    simp only [Act.put, List.setIfInBounds_toArray, List.set_cons_zero, List.set_cons_succ, List.getElem_toArray, List.getElem_cons_zero, List.getElem_cons_succ]
    refine wpAnyH_take (i := 4) (v := ?v4) rfl (by kernel_rfl) (by kernel_rfl) (by kernel_rfl) (fun _ _ _ h => h) (Or.inl ⟨by rfl, ?hy4⟩) (by assumption) ?_
    case hy4 =>
      intro V hV
      try dsimp only at hV
      go_simp
      all_goals (with_reducible rfl)
    simp only [Act.put, List.setIfInBounds_toArray, List.set_cons_zero, List.set_cons_succ, List.getElem_toArray, List.getElem_cons_zero, List.getElem_cons_succ]
    refine wpAnyH_take (i := 5) (v := ?v5) rfl (by kernel_rfl) (by kernel_rfl) (by kernel_rfl) (fun _ _ _ h => h) (Or.inl ⟨by rfl, ?hy5⟩) (by assumption) ?_
    case hy5 =>
      intro V hV
      try dsimp only at hV
      go_simp
      all_goals (with_reducible rfl)
    simp only [Act.put, List.setIfInBounds_toArray, List.set_cons_zero, List.set_cons_succ, List.getElem_toArray, List.getElem_cons_zero, List.getElem_cons_succ]
    refine wpAnyH_take (i := 6) (v := ?v6) rfl (by kernel_rfl) (by kernel_rfl) (by kernel_rfl) (fun _ _ _ h => h) (Or.inl ⟨by rfl, ?hy6⟩) (by assumption) ?_
    case hy6 =>
      intro V hV
      try dsimp only at hV
      go_simp
      all_goals (with_reducible rfl)
    simp only [Act.put, List.setIfInBounds_toArray, List.set_cons_zero, List.set_cons_succ, List.getElem_toArray, List.getElem_cons_zero, List.getElem_cons_succ]
    refine wpAnyH_ready (rs := [7]) (by kernel_rfl) (by simp) ?_
    refine AllReadyH.cons rfl (fun K hK => ?_) AllReadyH.nil
    go_simp
    refine (unhideI HWJ).mono ?_
    rintro e w5 ⟨rfl, hb5⟩
    subst w5
    go_wp2_with fail
    refine hK.out _ _ (unhideI HK0) (fun hHeld2 => ?_)
    clear hK K
    try simp only [Act.put, List.setIfInBounds_toArray, List.set_cons_zero, List.set_cons_succ, List.getElem_toArray, List.getElem_cons_zero, List.getElem_cons_succ]
    refine wpAnyH_take (i := 8) (v := ?v8) rfl (by kernel_rfl) (by kernel_rfl) (by kernel_rfl) (fun _ _ _ h => h) (Or.inl ⟨by rfl, ?hy8⟩) (by assumption) ?_
    case hy8 =>
      intro V hV
      try dsimp only at hV
      go_simp
      all_goals (with_reducible rfl)
    simp only [Act.put, List.setIfInBounds_toArray, List.set_cons_zero, List.set_cons_succ, List.getElem_toArray, List.getElem_cons_zero, List.getElem_cons_succ]
    refine wpAnyH_take (i := 9) (v := ?v9) rfl (by kernel_rfl) (by kernel_rfl) (by kernel_rfl) (fun _ _ _ h => h) (Or.inl ⟨by rfl, ?hy9⟩) (by assumption) ?_
    case hy9 =>
      intro V hV
      try dsimp only at hV
      go_simp
      all_goals (with_reducible rfl)
    simp only [Act.put, List.setIfInBounds_toArray, List.set_cons_zero, List.set_cons_succ, List.getElem_toArray, List.getElem_cons_zero, List.getElem_cons_succ]
    refine wpAnyH_take (i := 10) (v := ?v10) rfl (by kernel_rfl) (by kernel_rfl) (by kernel_rfl) (fun _ _ _ h => h) (Or.inl ⟨by rfl, ?hy10⟩) (by assumption) ?_
    case hy10 =>
      intro V hV
      try dsimp only at hV
      go_simp
      all_goals (with_reducible rfl)
    simp only [Act.put, List.setIfInBounds_toArray, List.set_cons_zero, List.set_cons_succ, List.getElem_toArray, List.getElem_cons_zero, List.getElem_cons_succ]
    refine wpAnyH_take (i := 11) (v := ?v11) rfl (by kernel_rfl) (by kernel_rfl) (by kernel_rfl) (fun _ _ _ h => h) (Or.inl ⟨by rfl, ?hy11⟩) (by assumption) ?_
    case hy11 =>
      intro V hV
      try dsimp only at hV
      go_simp
      all_goals (with_reducible rfl)
    simp only [Act.put, List.setIfInBounds_toArray, List.set_cons_zero, List.set_cons_succ, List.getElem_toArray, List.getElem_cons_zero, List.getElem_cons_succ]
    refine wpAnyH_take (i := 12) (v := ?v12) rfl (by kernel_rfl) (by kernel_rfl) (by kernel_rfl) (fun _ _ _ h => h) (Or.inl ⟨by rfl, ?hy12⟩) (by assumption) ?_
    case hy12 =>
      intro V hV
      try dsimp only at hV
      go_simp
      all_goals (with_reducible rfl)
    simp only [Act.put, List.setIfInBounds_toArray, List.set_cons_zero, List.set_cons_succ, List.getElem_toArray, List.getElem_cons_zero, List.getElem_cons_succ]
    refine wpAnyH_take (i := 13) (v := ?v13) rfl (by kernel_rfl) (by kernel_rfl) (by kernel_rfl) (fun _ _ _ h => h) (Or.inl ⟨by rfl, ?hy13⟩) (by assumption) ?_
    case hy13 =>
      intro V hV
      try dsimp only at hV
      go_simp
      all_goals (with_reducible rfl)
    simp only [Act.put, List.setIfInBounds_toArray, List.set_cons_zero, List.set_cons_succ, List.getElem_toArray, List.getElem_cons_zero, List.getElem_cons_succ]
    refine wpAnyH_take (i := 14) (v := ?v14) rfl (by kernel_rfl) (by kernel_rfl) (by kernel_rfl) (fun _ _ _ h => h) (Or.inl ⟨by rfl, ?hy14⟩) (by assumption) ?_
    case hy14 =>
      intro V hV
      try dsimp only at hV
      go_simp
      all_goals (with_reducible rfl)
    simp only [Act.put, List.setIfInBounds_toArray, List.set_cons_zero, List.set_cons_succ, List.getElem_toArray, List.getElem_cons_zero, List.getElem_cons_succ]
    refine wpAnyH_take (i := 15) (v := ?v15) rfl (by kernel_rfl) (by kernel_rfl) (by kernel_rfl) (fun _ _ _ h => h) (Or.inl ⟨by rfl, ?hy15⟩) (by assumption) ?_
    case hy15 =>
      intro V hV
      try dsimp only at hV
      go_simp
      all_goals (with_reducible rfl)
    simp only [Act.put, List.setIfInBounds_toArray, List.set_cons_zero, List.set_cons_succ, List.getElem_toArray, List.getElem_cons_zero, List.getElem_cons_succ]
    refine wpAnyH_take (i := 16) (v := ?v16) rfl (by kernel_rfl) (by kernel_rfl) (by kernel_rfl) (fun _ _ _ h => h) (Or.inl ⟨by rfl, ?hy16⟩) (by assumption) ?_
    case hy16 =>
      intro V hV
      try dsimp only at hV
      go_simp
      all_goals (with_reducible rfl)
    simp only [Act.put, List.setIfInBounds_toArray, List.set_cons_zero, List.set_cons_succ, List.getElem_toArray, List.getElem_cons_zero, List.getElem_cons_succ]
    refine wpAnyH_take (i := 17) (v := ?v17) rfl (by kernel_rfl) (by kernel_rfl) (by kernel_rfl) (fun _ _ _ h => h) (Or.inl ⟨by rfl, ?hy17⟩) (by assumption) ?_
    case hy17 =>
      intro V hV
      try dsimp only at hV
      go_simp
      all_goals (with_reducible rfl)
    simp only [Act.put, List.setIfInBounds_toArray, List.set_cons_zero, List.set_cons_succ, List.getElem_toArray, List.getElem_cons_zero, List.getElem_cons_succ]
    refine wpAnyH_ready (rs := [18]) (by kernel_rfl) (by simp) ?_
    refine AllReadyH.cons rfl (fun K hK => ?_) AllReadyH.nil
    go_simp
    refine (unhideI HCF).mono ?_
    rintro e w7 ⟨rfl, hb7⟩
    have HB7 := hideI (below_cut (Below.refl W.heap.size W).drew hb7 (Nat.le_refl _))
    clear hb7
    go_wp2_with fail
    refine hK.out _ _ (unhideI HK _ (unhideI HB7)) (fun hHeld2 => ?_)
    clear hK K
    try simp only [Act.put, List.setIfInBounds_toArray, List.set_cons_zero, List.set_cons_succ, List.getElem_toArray, List.getElem_cons_zero, List.getElem_cons_succ]
    refine wpAnyH_take (i := 19) (v := ?v19) rfl (by kernel_rfl) (by kernel_rfl) (by kernel_rfl) (fun _ _ _ h => h) (Or.inl ⟨by rfl, ?hy19⟩) (by assumption) ?_
    case hy19 =>
      intro V hV
      try dsimp only at hV
      go_simp
      all_goals (with_reducible rfl)
    simp only [Act.put, List.setIfInBounds_toArray, List.set_cons_zero, List.set_cons_succ, List.getElem_toArray, List.getElem_cons_zero, List.getElem_cons_succ]
    refine wpAnyH_take (i := 20) (v := ?v20) rfl (by kernel_rfl) (by kernel_rfl) (by kernel_rfl) (fun _ _ _ h => h) (Or.inl ⟨by rfl, ?hy20⟩) (by assumption) ?_
    case hy20 =>
      intro V hV
      try dsimp only at hV
      go_simp
      all_goals (with_reducible rfl)
    simp only [Act.put, List.setIfInBounds_toArray, List.set_cons_zero, List.set_cons_succ, List.getElem_toArray, List.getElem_cons_zero, List.getElem_cons_succ]
    refine wpAnyH_done (by kernel_rfl) ?_ _
    go_wp2
    go_ret
    exact ⟨by rw [unhideI HX]; rfl, below_cut (unhideI HW) (unhideI HB7) (by have := unhideI HZ; omega)⟩
end Go.Proofs.YteaemhhbpaicnaaDoor
