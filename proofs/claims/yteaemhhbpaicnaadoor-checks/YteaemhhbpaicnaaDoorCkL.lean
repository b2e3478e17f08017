/-
  Checks: the fields of calls, by package program. Own work of the verifier.
-/
import Derived.Test.YteaemhhbpaicnaaDoorCkK
namespace Go.Proofs.YteaemhhbpaicnaaDoor
open Go.RowKit

set_option maxHeartbeats 4000000 in
set_option maxRecDepth 100000 in
theorem ff12_c : FfS 12 := by
  intro p f d a bb n fx gs os fv ev pv hv sv bv av ov A E B w hSC ha ho hF hn
  obtain ⟨pf, cf, pe, ce, pp, cp, ph, ch, ps, cs, pb, cb, pa, ca, po, co, rfl, rfl, rfl, rfl, rfl, rfl, rfl, rfl, ⟨hl1, hl2, hl3, hl4, hl5, hl6⟩, HSC, HA, HO, HW, HR1, HR2, HZ⟩ := ckPre 12 d a bb n fx hSC ha ho _ rfl
  have HF := hideI hF
  have HNN := hideI hn
  clear hSC ha ho hF hn
  go_enter Tryd.func58, Tryd.ntmps58
  go_wp2_with fail
  generalize World.alloc (World.alloc w _) _ = W at HSC HA HO HW HR1 HR2 HZ ⊢
  have hT := unhideI HZ
  cases hr : inB fx 0 (p.funcs.length - 1) with
  | false =>
    have HK := hideI (fun (V : World) (h : Below W.heap.size W V) => show Below W.heap.size W V ∧ V.cell? ⟨w.heap.size, 0, none⟩ = some (.slice pf p.funcs.length cf) ∧ V.cell? ⟨w.heap.size, 1, none⟩ = some (.slice pe p.externs.length ce) ∧ V.cell? ⟨w.heap.size, 2, none⟩ = some (.slice pp f.params.length cp) ∧ V.cell? ⟨w.heap.size, 3, none⟩ = some (.int .i64 f.results) ∧ V.cell? ⟨w.heap.size, 4, none⟩ = some (.slice ph f.homes.length ch) ∧ V.cell? ⟨w.heap.size, 5, none⟩ = some (.slice ps f.slots.length cs) ∧ V.cell? ⟨w.heap.size, 6, none⟩ = some (.slice pb f.blocks.length cb) ∧ V.cell? ⟨w.heap.size + 1, 0, none⟩ = some (.int .i64 12) ∧ V.cell? ⟨w.heap.size + 1, 1, none⟩ = some (.int .i64 d) ∧ V.cell? ⟨w.heap.size + 1, 2, none⟩ = some (.int .i64 a) ∧ V.cell? ⟨w.heap.size + 1, 3, none⟩ = some (.int .i64 bb) ∧ V.cell? ⟨w.heap.size + 1, 4, none⟩ = some (.int .u64 n) ∧ V.cell? ⟨w.heap.size + 1, 5, none⟩ = some (.int .i64 fx) ∧ V.cell? ⟨w.heap.size + 1, 6, none⟩ = some (.slice pa gs.length ca) ∧ V.cell? ⟨w.heap.size + 1, 7, none⟩ = some (.slice po os.length co) from ⟨h, (cells_of_row ((h.block w.heap.size (by omega)).trans (unhideI HR1)) 0).trans rfl, (cells_of_row ((h.block w.heap.size (by omega)).trans (unhideI HR1)) 1).trans rfl, (cells_of_row ((h.block w.heap.size (by omega)).trans (unhideI HR1)) 2).trans rfl, (cells_of_row ((h.block w.heap.size (by omega)).trans (unhideI HR1)) 3).trans rfl, (cells_of_row ((h.block w.heap.size (by omega)).trans (unhideI HR1)) 4).trans rfl, (cells_of_row ((h.block w.heap.size (by omega)).trans (unhideI HR1)) 5).trans rfl, (cells_of_row ((h.block w.heap.size (by omega)).trans (unhideI HR1)) 6).trans rfl, (cells_of_row ((h.block (w.heap.size + 1) (by omega)).trans (unhideI HR2)) 0).trans rfl, (cells_of_row ((h.block (w.heap.size + 1) (by omega)).trans (unhideI HR2)) 1).trans rfl, (cells_of_row ((h.block (w.heap.size + 1) (by omega)).trans (unhideI HR2)) 2).trans rfl, (cells_of_row ((h.block (w.heap.size + 1) (by omega)).trans (unhideI HR2)) 3).trans rfl, (cells_of_row ((h.block (w.heap.size + 1) (by omega)).trans (unhideI HR2)) 4).trans rfl, (cells_of_row ((h.block (w.heap.size + 1) (by omega)).trans (unhideI HR2)) 5).trans rfl, (cells_of_row ((h.block (w.heap.size + 1) (by omega)).trans (unhideI HR2)) 6).trans rfl, (cells_of_row ((h.block (w.heap.size + 1) (by omega)).trans (unhideI HR2)) 7).trans rfl⟩)
    have HX := hideI (show fieldsB p f ⟨12, d, a, bb, n, fx, gs, os⟩ = false by unfold fieldsB; simp [hr])
    clear hT
    refine wp_region_held_drew (S := fun V => Below W.heap.size W V ∧ V.cell? ⟨w.heap.size, 0, none⟩ = some (.slice pf p.funcs.length cf) ∧ V.cell? ⟨w.heap.size, 1, none⟩ = some (.slice pe p.externs.length ce) ∧ V.cell? ⟨w.heap.size, 2, none⟩ = some (.slice pp f.params.length cp) ∧ V.cell? ⟨w.heap.size, 3, none⟩ = some (.int .i64 f.results) ∧ V.cell? ⟨w.heap.size, 4, none⟩ = some (.slice ph f.homes.length ch) ∧ V.cell? ⟨w.heap.size, 5, none⟩ = some (.slice ps f.slots.length cs) ∧ V.cell? ⟨w.heap.size, 6, none⟩ = some (.slice pb f.blocks.length cb) ∧ V.cell? ⟨w.heap.size + 1, 0, none⟩ = some (.int .i64 12) ∧ V.cell? ⟨w.heap.size + 1, 1, none⟩ = some (.int .i64 d) ∧ V.cell? ⟨w.heap.size + 1, 2, none⟩ = some (.int .i64 a) ∧ V.cell? ⟨w.heap.size + 1, 3, none⟩ = some (.int .i64 bb) ∧ V.cell? ⟨w.heap.size + 1, 4, none⟩ = some (.int .u64 n) ∧ V.cell? ⟨w.heap.size + 1, 5, none⟩ = some (.int .i64 fx) ∧ V.cell? ⟨w.heap.size + 1, 6, none⟩ = some (.slice pa gs.length ca) ∧ V.cell? ⟨w.heap.size + 1, 7, none⟩ = some (.slice po os.length co)) (by kernel_rfl) (unhideI HK _ (Below.refl _ _).drew) (fun hHeld => ?_)
    refine wpAnyH_take (i := 0) (v := ?v0) rfl (by kernel_rfl) (by kernel_rfl) (by kernel_rfl) (fun _ _ _ h => h) (Or.inl ⟨by rfl, ?hy0⟩) (by assumption) ?_
    case hy0 =>
      intro V hV
      try dsimp only at hV
      go_simp
      all_goals (with_reducible rfl)
    simp only [Act.put, List.setIfInBounds_toArray, List.set_cons_zero, List.set_cons_succ, List.getElem_toArray, List.getElem_cons_zero]
    refine wpAnyH_take (i := 1) (v := ?v1) rfl (by kernel_rfl) (by kernel_rfl) (by kernel_rfl) (fun _ _ _ h => h) (Or.inl ⟨by rfl, ?hy1⟩) (by assumption) ?_
    case hy1 =>
      intro V hV
      try dsimp only at hV
      go_simp
      all_goals (with_reducible rfl)
    simp only [Act.put, List.setIfInBounds_toArray, List.set_cons_zero, List.set_cons_succ, List.getElem_toArray, List.getElem_cons_zero, List.getElem_cons_succ]
    refine wpAnyH_take (i := 2) (v := ?v2) rfl (by kernel_rfl) (by kernel_rfl) (by kernel_rfl) (fun _ _ _ h => h) (Or.inl ⟨by rfl, ?hy2⟩) (by assumption) ?_
    case hy2 =>
      intro V hV
      try dsimp only at hV
      go_simp
      all_goals (with_reducible rfl)
    simp only [Act.put, List.setIfInBounds_toArray, List.set_cons_zero, List.set_cons_succ, List.getElem_toArray, List.getElem_cons_zero, List.getElem_cons_succ]
    refine wpAnyH_ready (rs := [3]) (by kernel_rfl) (by simp) ?_
    refine AllReadyH.cons rfl (fun K hK => ?_) AllReadyH.nil
    go_simp
    refine (hasFunc_c p _ _ _ _ _ _ _ _ fx _ hl4).mono ?_
    rintro e w5 ⟨rfl, hb5⟩
    rw [hr]
    have HB5 := hideI (below_cut (Below.refl W.heap.size W).drew hb5 (Nat.le_refl _))
    clear hb5
    go_wp2_with fail
    refine hK.out _ _ (unhideI HK _ (unhideI HB5)) (fun hHeld2 => ?_)
    clear hK K
    try simp only [Act.put, List.setIfInBounds_toArray, List.set_cons_zero, List.set_cons_succ, List.getElem_toArray, List.getElem_cons_zero, List.getElem_cons_succ]
    refine wpAnyH_take (i := 4) (v := ?v4) rfl (by kernel_rfl) (by kernel_rfl) (by kernel_rfl) (fun _ _ _ h => h) (Or.inl ⟨by rfl, ?hy4⟩) (by assumption) ?_
    case hy4 =>
      intro V hV
      try dsimp only at hV
      go_simp
      all_goals (with_reducible rfl)
    simp only [Act.put, List.setIfInBounds_toArray, List.set_cons_zero, List.set_cons_succ, List.getElem_toArray, List.getElem_cons_zero, List.getElem_cons_succ]
    refine wpAnyH_take (i := 5) (v := undef) rfl (by kernel_rfl) (by kernel_rfl) (by kernel_rfl) (fun _ _ _ h => h) (Or.inr ⟨by rfl, rfl⟩) (by assumption) ?_
    simp only [Act.put, List.setIfInBounds_toArray, List.set_cons_zero, List.set_cons_succ, List.getElem_toArray, List.getElem_cons_zero, List.getElem_cons_succ]
    refine wpAnyH_take (i := 6) (v := undef) rfl (by kernel_rfl) (by kernel_rfl) (by kernel_rfl) (fun _ _ _ h => h) (Or.inr ⟨by rfl, rfl⟩) (by assumption) ?_
    simp only [Act.put, List.setIfInBounds_toArray, List.set_cons_zero, List.set_cons_succ, List.getElem_toArray, List.getElem_cons_zero, List.getElem_cons_succ]
    refine wpAnyH_take (i := 7) (v := undef) rfl (by kernel_rfl) (by kernel_rfl) (by kernel_rfl) (fun _ _ _ h => h) (Or.inr ⟨by rfl, rfl⟩) (by assumption) ?_
    simp only [Act.put, List.setIfInBounds_toArray, List.set_cons_zero, List.set_cons_succ, List.getElem_toArray, List.getElem_cons_zero, List.getElem_cons_succ]
    refine wpAnyH_take (i := 8) (v := undef) rfl (by kernel_rfl) (by kernel_rfl) (by kernel_rfl) (fun _ _ _ h => h) (Or.inr ⟨by rfl, rfl⟩) (by assumption) ?_
    simp only [Act.put, List.setIfInBounds_toArray, List.set_cons_zero, List.set_cons_succ, List.getElem_toArray, List.getElem_cons_zero, List.getElem_cons_succ]
    refine wpAnyH_take (i := 9) (v := undef) rfl (by kernel_rfl) (by kernel_rfl) (by kernel_rfl) (fun _ _ _ h => h) (Or.inr ⟨by rfl, rfl⟩) (by assumption) ?_
    simp only [Act.put, List.setIfInBounds_toArray, List.set_cons_zero, List.set_cons_succ, List.getElem_toArray, List.getElem_cons_zero, List.getElem_cons_succ]
    refine wpAnyH_take (i := 10) (v := undef) rfl (by kernel_rfl) (by kernel_rfl) (by kernel_rfl) (fun _ _ _ h => h) (Or.inr ⟨by rfl, rfl⟩) (by assumption) ?_
    simp only [Act.put, List.setIfInBounds_toArray, List.set_cons_zero, List.set_cons_succ, List.getElem_toArray, List.getElem_cons_zero, List.getElem_cons_succ]
    refine wpAnyH_take (i := 11) (v := undef) rfl (by kernel_rfl) (by kernel_rfl) (by kernel_rfl) (fun _ _ _ h => h) (Or.inr ⟨by rfl, rfl⟩) (by assumption) ?_
    simp only [Act.put, List.setIfInBounds_toArray, List.set_cons_zero, List.set_cons_succ, List.getElem_toArray, List.getElem_cons_zero, List.getElem_cons_succ]
    refine wpAnyH_take (i := 12) (v := undef) rfl (by kernel_rfl) (by kernel_rfl) (by kernel_rfl) (fun _ _ _ h => h) (Or.inr ⟨by rfl, rfl⟩) (by assumption) ?_
    simp only [Act.put, List.setIfInBounds_toArray, List.set_cons_zero, List.set_cons_succ, List.getElem_toArray, List.getElem_cons_zero, List.getElem_cons_succ]
    refine wpAnyH_take (i := 13) (v := undef) rfl (by kernel_rfl) (by kernel_rfl) (by kernel_rfl) (fun _ _ _ h => h) (Or.inr ⟨by rfl, rfl⟩) (by assumption) ?_
    simp only [Act.put, List.setIfInBounds_toArray, List.set_cons_zero, List.set_cons_succ, List.getElem_toArray, List.getElem_cons_zero, List.getElem_cons_succ]
    refine wpAnyH_take (i := 14) (v := undef) rfl (by kernel_rfl) (by kernel_rfl) (by kernel_rfl) (fun _ _ _ h => h) (Or.inr ⟨by rfl, rfl⟩) (by assumption) ?_
    simp only [Act.put, List.setIfInBounds_toArray, List.set_cons_zero, List.set_cons_succ, List.getElem_toArray, List.getElem_cons_zero, List.getElem_cons_succ]
    refine wpAnyH_take (i := 15) (v := undef) rfl (by kernel_rfl) (by kernel_rfl) (by kernel_rfl) (fun _ _ _ h => h) (Or.inr ⟨by rfl, rfl⟩) (by assumption) ?_
    simp only [Act.put, List.setIfInBounds_toArray, List.set_cons_zero, List.set_cons_succ, List.getElem_toArray, List.getElem_cons_zero, List.getElem_cons_succ]
    refine wpAnyH_take (i := 16) (v := ?v16) rfl (by kernel_rfl) (by kernel_rfl) (by kernel_rfl) (fun _ _ _ h => h) (Or.inl ⟨by rfl, ?hy16⟩) (by assumption) ?_
    case hy16 =>
      intro V hV
      try dsimp only at hV
      go_simp
      all_goals (with_reducible rfl)
    simp only [Act.put, List.setIfInBounds_toArray, List.set_cons_zero, List.set_cons_succ, List.getElem_toArray, List.getElem_cons_zero, List.getElem_cons_succ]
    refine wpAnyH_take (i := 17) (v := ?v17) rfl (by kernel_rfl) (by kernel_rfl) (by kernel_rfl) (fun _ _ _ h => h) (Or.inl ⟨by rfl, ?hy17⟩) (by assumption) ?_
    case hy17 =>
      intro V hV
      try dsimp only at hV
      go_simp
      all_goals (with_reducible rfl)
    simp only [Act.put, List.setIfInBounds_toArray, List.set_cons_zero, List.set_cons_succ, List.getElem_toArray, List.getElem_cons_zero, List.getElem_cons_succ]
    refine wpAnyH_done (by kernel_rfl) ?_ _
    clear hr
    go_wp2
    go_ret
    exact ⟨by rw [unhideI HX]; rfl, below_cut (unhideI HW) (unhideI HB5) (by have := unhideI HZ; omega)⟩
  | true =>
    unfold inB at hr
    obtain ⟨g0, g1⟩ := of_decide_eq_true hr
    obtain ⟨m, rfl⟩ : ∃ m : Nat, fx = m := ⟨fx.toNat, by omega⟩
    have hm : m < p.funcs.length := by omega
    obtain ⟨p', cap', he, -, -, hcc⟩ := (unhideI HSC).prog.fs
    injection he with e1 e2 e3
    subst e1 e3
    obtain ⟨sb, so, rfl, hsbl, hc⟩ := hcc (by omega)
    have hel := hc m hm
    have hfc := (unhideI HSC).prog.feach m hm
    have hgd : p.funcs[m] = p.funcs.getD m noFunc := by simp [List.getD, hm]
    rw [hgd] at hfc
    have hg8 := (unhideI HF).funcs m hm
    have HX := hideI (show fieldsB p f ⟨12, d, a, bb, n, m, gs, os⟩ = (callB f ⟨12, d, a, bb, n, m, gs, os⟩ (sigE (p.funcs.getD m noFunc))) by unfold fieldsB inB; simp only [Int.toNat_natCast]; simp; omega)
    generalize p.funcs.getD m noFunc = g at hfc hg8 HX
    obtain ⟨gv, hg, sg, bg, Bg, hA, hfd⟩ := hfc
    have HFD := hideI hfd
    obtain ⟨gp, gc, rfl⟩ := hfd.ps.shape
    rw [hA] at hel
    have e0 := hel 0 _ rfl
    have e1 := hel 1 _ rfl
    have e2 := hel 2 _ rfl
    have e3 := hel 3 _ rfl
    have e4 := hel 4 _ rfl
    rw [Nat.add_zero] at e0
    have HK := hideI (fun (V : World) (h : Below W.heap.size W V) => show Below W.heap.size W V ∧ V.cell? ⟨w.heap.size, 0, none⟩ = some (.slice (some ⟨sb, so, none⟩) p.funcs.length cf) ∧ V.cell? ⟨w.heap.size, 1, none⟩ = some (.slice pe p.externs.length ce) ∧ V.cell? ⟨w.heap.size, 2, none⟩ = some (.slice pp f.params.length cp) ∧ V.cell? ⟨w.heap.size, 3, none⟩ = some (.int .i64 f.results) ∧ V.cell? ⟨w.heap.size, 4, none⟩ = some (.slice ph f.homes.length ch) ∧ V.cell? ⟨w.heap.size, 5, none⟩ = some (.slice ps f.slots.length cs) ∧ V.cell? ⟨w.heap.size, 6, none⟩ = some (.slice pb f.blocks.length cb) ∧ V.cell? ⟨w.heap.size + 1, 0, none⟩ = some (.int .i64 12) ∧ V.cell? ⟨w.heap.size + 1, 1, none⟩ = some (.int .i64 d) ∧ V.cell? ⟨w.heap.size + 1, 2, none⟩ = some (.int .i64 a) ∧ V.cell? ⟨w.heap.size + 1, 3, none⟩ = some (.int .i64 bb) ∧ V.cell? ⟨w.heap.size + 1, 4, none⟩ = some (.int .u64 n) ∧ V.cell? ⟨w.heap.size + 1, 5, none⟩ = some (.int .i64 ↑m) ∧ V.cell? ⟨w.heap.size + 1, 6, none⟩ = some (.slice pa gs.length ca) ∧ V.cell? ⟨w.heap.size + 1, 7, none⟩ = some (.slice po os.length co) ∧ V.cell? ⟨sb, so + m * 5, none⟩ = some (.slice gp g.params.length gc) ∧ V.cell? ⟨sb, so + m * 5 + 1, none⟩ = some (.int .i64 g.results) ∧ V.cell? ⟨sb, so + m * 5 + 2, none⟩ = some (hg) ∧ V.cell? ⟨sb, so + m * 5 + 3, none⟩ = some (sg) ∧ V.cell? ⟨sb, so + m * 5 + 4, none⟩ = some (bg) from ⟨h, (cells_of_row ((h.block w.heap.size (by omega)).trans (unhideI HR1)) 0).trans rfl, (cells_of_row ((h.block w.heap.size (by omega)).trans (unhideI HR1)) 1).trans rfl, (cells_of_row ((h.block w.heap.size (by omega)).trans (unhideI HR1)) 2).trans rfl, (cells_of_row ((h.block w.heap.size (by omega)).trans (unhideI HR1)) 3).trans rfl, (cells_of_row ((h.block w.heap.size (by omega)).trans (unhideI HR1)) 4).trans rfl, (cells_of_row ((h.block w.heap.size (by omega)).trans (unhideI HR1)) 5).trans rfl, (cells_of_row ((h.block w.heap.size (by omega)).trans (unhideI HR1)) 6).trans rfl, (cells_of_row ((h.block (w.heap.size + 1) (by omega)).trans (unhideI HR2)) 0).trans rfl, (cells_of_row ((h.block (w.heap.size + 1) (by omega)).trans (unhideI HR2)) 1).trans rfl, (cells_of_row ((h.block (w.heap.size + 1) (by omega)).trans (unhideI HR2)) 2).trans rfl, (cells_of_row ((h.block (w.heap.size + 1) (by omega)).trans (unhideI HR2)) 3).trans rfl, (cells_of_row ((h.block (w.heap.size + 1) (by omega)).trans (unhideI HR2)) 4).trans rfl, (cells_of_row ((h.block (w.heap.size + 1) (by omega)).trans (unhideI HR2)) 5).trans rfl, (cells_of_row ((h.block (w.heap.size + 1) (by omega)).trans (unhideI HR2)) 6).trans rfl, (cells_of_row ((h.block (w.heap.size + 1) (by omega)).trans (unhideI HR2)) 7).trans rfl, (h.cell hsbl).trans e0, (h.cell hsbl).trans e1, (h.cell hsbl).trans e2, (h.cell hsbl).trans e3, (h.cell hsbl).trans e4⟩)
    have HFU := hideI (fun V fv ev pv r hv sv bv => hasFunc_c p ev pv hv sv bv fv cf r (m : Int) V hl4)
    have hin : inB (m : Int) 0 (p.funcs.length - 1) = true := by unfold inB; simp; omega
    rw [hin] at HFU
    clear hT hr hin hfd hel e0 e1 e2 e3 e4 hcc hc hgd g0 g1 hA
    go_region_held3 (fun V => Below W.heap.size W V ∧ V.cell? ⟨w.heap.size, 0, none⟩ = some (.slice (some ⟨sb, so, none⟩) p.funcs.length cf) ∧ V.cell? ⟨w.heap.size, 1, none⟩ = some (.slice pe p.externs.length ce) ∧ V.cell? ⟨w.heap.size, 2, none⟩ = some (.slice pp f.params.length cp) ∧ V.cell? ⟨w.heap.size, 3, none⟩ = some (.int .i64 f.results) ∧ V.cell? ⟨w.heap.size, 4, none⟩ = some (.slice ph f.homes.length ch) ∧ V.cell? ⟨w.heap.size, 5, none⟩ = some (.slice ps f.slots.length cs) ∧ V.cell? ⟨w.heap.size, 6, none⟩ = some (.slice pb f.blocks.length cb) ∧ V.cell? ⟨w.heap.size + 1, 0, none⟩ = some (.int .i64 12) ∧ V.cell? ⟨w.heap.size + 1, 1, none⟩ = some (.int .i64 d) ∧ V.cell? ⟨w.heap.size + 1, 2, none⟩ = some (.int .i64 a) ∧ V.cell? ⟨w.heap.size + 1, 3, none⟩ = some (.int .i64 bb) ∧ V.cell? ⟨w.heap.size + 1, 4, none⟩ = some (.int .u64 n) ∧ V.cell? ⟨w.heap.size + 1, 5, none⟩ = some (.int .i64 ↑m) ∧ V.cell? ⟨w.heap.size + 1, 6, none⟩ = some (.slice pa gs.length ca) ∧ V.cell? ⟨w.heap.size + 1, 7, none⟩ = some (.slice po os.length co) ∧ V.cell? ⟨sb, so + m * 5, none⟩ = some (.slice gp g.params.length gc) ∧ V.cell? ⟨sb, so + m * 5 + 1, none⟩ = some (.int .i64 g.results) ∧ V.cell? ⟨sb, so + m * 5 + 2, none⟩ = some (hg) ∧ V.cell? ⟨sb, so + m * 5 + 3, none⟩ = some (sg) ∧ V.cell? ⟨sb, so + m * 5 + 4, none⟩ = some (bg)) ((first | exact unhideI HK _ (unhideI HB7) | exact unhideI HK _ (unhideI HB6) | exact unhideI HK _ (unhideI HB5) | exact unhideI HK _ (Below.refl _ _).drew)) ((first | (go_at_call 63; refine (unhideI HFU _ _ _ _ _ _ _ _).mono ?_; rintro e w5 ⟨rfl, hb5⟩; have HB5 := hideI (below_cut (Below.refl W.heap.size W).drew hb5 (Nat.le_refl _)); clear hb5) | (go_at_call 44; refine (sigP_c g _ _ _ _ _ ((unhideI HFD).below (unhideI HB5)).ps (by omega)).mono ?_; rintro e w6 ⟨v6, rfl, hv6, hb6⟩; have HB6 := hideI (below_cut (unhideI HB5) hb6 (unhideI HB5).size); have HV6 := hideI hv6; clear hb6 hv6) | (go_at_call 64; refine (callFits_c f ⟨12, d, a, bb, n, m, gs, os⟩ (sigE g) _ _ _ _ _ _ _ _ _ _ ((unhideI HSC).below (unhideI HB6)).func.hs ((unhideI HSC).below (unhideI HB6)).func.ss ((unhideI HA).below (unhideI HB6)) ((unhideI HO).below (unhideI HB6)) (unhideI HV6) (by have := hg8.2; show g.results ≤ _; omega)).mono ?_; rintro e w7 ⟨rfl, hb7⟩; have HB7 := hideI (below_cut (unhideI HB6) hb7 (unhideI HB6).size); clear hb7)))
    all_goals (
      go_wp2
      go_ret
      exact ⟨by rw [unhideI HX]; rfl, below_cut (unhideI HW) (unhideI HB7) (by have := unhideI HZ; omega)⟩)
set_option maxHeartbeats 4000000 in
set_option maxRecDepth 100000 in
theorem ff17_c : FfS 17 := by
  intro p f d a bb n fx gs os fv ev pv hv sv bv av ov A E B w hSC ha ho hF hn
  obtain ⟨pf, cf, pe, ce, pp, cp, ph, ch, ps, cs, pb, cb, pa, ca, po, co, rfl, rfl, rfl, rfl, rfl, rfl, rfl, rfl, ⟨hl1, hl2, hl3, hl4, hl5, hl6⟩, HSC, HA, HO, HW, HR1, HR2, HZ⟩ := ckPre 17 d a bb n fx hSC ha ho _ rfl
  have HF := hideI hF
  have HNN := hideI hn
  clear hSC ha ho hF hn
  go_enter Tryd.func58, Tryd.ntmps58
  go_wp2_with fail
  generalize World.alloc (World.alloc w _) _ = W at HSC HA HO HW HR1 HR2 HZ ⊢
  have hT := unhideI HZ
  cases hr : inB fx 0 (p.funcs.length - 1) with
  | false =>
    have HK := hideI (fun (V : World) (h : Below W.heap.size W V) => show Below W.heap.size W V ∧ V.cell? ⟨w.heap.size, 0, none⟩ = some (.slice pf p.funcs.length cf) ∧ V.cell? ⟨w.heap.size, 1, none⟩ = some (.slice pe p.externs.length ce) ∧ V.cell? ⟨w.heap.size, 2, none⟩ = some (.slice pp f.params.length cp) ∧ V.cell? ⟨w.heap.size, 3, none⟩ = some (.int .i64 f.results) ∧ V.cell? ⟨w.heap.size, 4, none⟩ = some (.slice ph f.homes.length ch) ∧ V.cell? ⟨w.heap.size, 5, none⟩ = some (.slice ps f.slots.length cs) ∧ V.cell? ⟨w.heap.size, 6, none⟩ = some (.slice pb f.blocks.length cb) ∧ V.cell? ⟨w.heap.size + 1, 0, none⟩ = some (.int .i64 17) ∧ V.cell? ⟨w.heap.size + 1, 1, none⟩ = some (.int .i64 d) ∧ V.cell? ⟨w.heap.size + 1, 2, none⟩ = some (.int .i64 a) ∧ V.cell? ⟨w.heap.size + 1, 3, none⟩ = some (.int .i64 bb) ∧ V.cell? ⟨w.heap.size + 1, 4, none⟩ = some (.int .u64 n) ∧ V.cell? ⟨w.heap.size + 1, 5, none⟩ = some (.int .i64 fx) ∧ V.cell? ⟨w.heap.size + 1, 6, none⟩ = some (.slice pa gs.length ca) ∧ V.cell? ⟨w.heap.size + 1, 7, none⟩ = some (.slice po os.length co) from ⟨h, (cells_of_row ((h.block w.heap.size (by omega)).trans (unhideI HR1)) 0).trans rfl, (cells_of_row ((h.block w.heap.size (by omega)).trans (unhideI HR1)) 1).trans rfl, (cells_of_row ((h.block w.heap.size (by omega)).trans (unhideI HR1)) 2).trans rfl, (cells_of_row ((h.block w.heap.size (by omega)).trans (unhideI HR1)) 3).trans rfl, (cells_of_row ((h.block w.heap.size (by omega)).trans (unhideI HR1)) 4).trans rfl, (cells_of_row ((h.block w.heap.size (by omega)).trans (unhideI HR1)) 5).trans rfl, (cells_of_row ((h.block w.heap.size (by omega)).trans (unhideI HR1)) 6).trans rfl, (cells_of_row ((h.block (w.heap.size + 1) (by omega)).trans (unhideI HR2)) 0).trans rfl, (cells_of_row ((h.block (w.heap.size + 1) (by omega)).trans (unhideI HR2)) 1).trans rfl, (cells_of_row ((h.block (w.heap.size + 1) (by omega)).trans (unhideI HR2)) 2).trans rfl, (cells_of_row ((h.block (w.heap.size + 1) (by omega)).trans (unhideI HR2)) 3).trans rfl, (cells_of_row ((h.block (w.heap.size + 1) (by omega)).trans (unhideI HR2)) 4).trans rfl, (cells_of_row ((h.block (w.heap.size + 1) (by omega)).trans (unhideI HR2)) 5).trans rfl, (cells_of_row ((h.block (w.heap.size + 1) (by omega)).trans (unhideI HR2)) 6).trans rfl, (cells_of_row ((h.block (w.heap.size + 1) (by omega)).trans (unhideI HR2)) 7).trans rfl⟩)
    have HX := hideI (show fieldsB p f ⟨17, d, a, bb, n, fx, gs, os⟩ = false by unfold fieldsB; simp [hr])
    clear hT
    refine wp_region_held_drew (S := fun V => Below W.heap.size W V ∧ V.cell? ⟨w.heap.size, 0, none⟩ = some (.slice pf p.funcs.length cf) ∧ V.cell? ⟨w.heap.size, 1, none⟩ = some (.slice pe p.externs.length ce) ∧ V.cell? ⟨w.heap.size, 2, none⟩ = some (.slice pp f.params.length cp) ∧ V.cell? ⟨w.heap.size, 3, none⟩ = some (.int .i64 f.results) ∧ V.cell? ⟨w.heap.size, 4, none⟩ = some (.slice ph f.homes.length ch) ∧ V.cell? ⟨w.heap.size, 5, none⟩ = some (.slice ps f.slots.length cs) ∧ V.cell? ⟨w.heap.size, 6, none⟩ = some (.slice pb f.blocks.length cb) ∧ V.cell? ⟨w.heap.size + 1, 0, none⟩ = some (.int .i64 17) ∧ V.cell? ⟨w.heap.size + 1, 1, none⟩ = some (.int .i64 d) ∧ V.cell? ⟨w.heap.size + 1, 2, none⟩ = some (.int .i64 a) ∧ V.cell? ⟨w.heap.size + 1, 3, none⟩ = some (.int .i64 bb) ∧ V.cell? ⟨w.heap.size + 1, 4, none⟩ = some (.int .u64 n) ∧ V.cell? ⟨w.heap.size + 1, 5, none⟩ = some (.int .i64 fx) ∧ V.cell? ⟨w.heap.size + 1, 6, none⟩ = some (.slice pa gs.length ca) ∧ V.cell? ⟨w.heap.size + 1, 7, none⟩ = some (.slice po os.length co)) (by kernel_rfl) (unhideI HK _ (Below.refl _ _).drew) (fun hHeld => ?_)
    refine wpAnyH_take (i := 0) (v := ?v0) rfl (by kernel_rfl) (by kernel_rfl) (by kernel_rfl) (fun _ _ _ h => h) (Or.inl ⟨by rfl, ?hy0⟩) (by assumption) ?_
    case hy0 =>
      intro V hV
      try dsimp only at hV
      go_simp
      all_goals (with_reducible rfl)
    simp only [Act.put, List.setIfInBounds_toArray, List.set_cons_zero, List.set_cons_succ, List.getElem_toArray, List.getElem_cons_zero]
    refine wpAnyH_take (i := 1) (v := ?v1) rfl (by kernel_rfl) (by kernel_rfl) (by kernel_rfl) (fun _ _ _ h => h) (Or.inl ⟨by rfl, ?hy1⟩) (by assumption) ?_
    case hy1 =>
      intro V hV
      try dsimp only at hV
      go_simp
      all_goals (with_reducible rfl)
    simp only [Act.put, List.setIfInBounds_toArray, List.set_cons_zero, List.set_cons_succ, List.getElem_toArray, List.getElem_cons_zero, List.getElem_cons_succ]
    refine wpAnyH_take (i := 2) (v := ?v2) rfl (by kernel_rfl) (by kernel_rfl) (by kernel_rfl) (fun _ _ _ h => h) (Or.inl ⟨by rfl, ?hy2⟩) (by assumption) ?_
    case hy2 =>
      intro V hV
      try dsimp only at hV
      go_simp
      all_goals (with_reducible rfl)
    simp only [Act.put, List.setIfInBounds_toArray, List.set_cons_zero, List.set_cons_succ, List.getElem_toArray, List.getElem_cons_zero, List.getElem_cons_succ]
    refine wpAnyH_ready (rs := [3]) (by kernel_rfl) (by simp) ?_
    refine AllReadyH.cons rfl (fun K hK => ?_) AllReadyH.nil
    go_simp
    refine (hasFunc_c p _ _ _ _ _ _ _ _ fx _ hl4).mono ?_
    rintro e w5 ⟨rfl, hb5⟩
    rw [hr]
    have HB5 := hideI (below_cut (Below.refl W.heap.size W).drew hb5 (Nat.le_refl _))
    clear hb5
    go_wp2_with fail
    refine hK.out _ _ (unhideI HK _ (unhideI HB5)) (fun hHeld2 => ?_)
    clear hK K
    try simp only [Act.put, List.setIfInBounds_toArray, List.set_cons_zero, List.set_cons_succ, List.getElem_toArray, List.getElem_cons_zero, List.getElem_cons_succ]
    refine wpAnyH_take (i := 4) (v := ?v4) rfl (by kernel_rfl) (by kernel_rfl) (by kernel_rfl) (fun _ _ _ h => h) (Or.inl ⟨by rfl, ?hy4⟩) (by assumption) ?_
    case hy4 =>
      intro V hV
      try dsimp only at hV
      go_simp
      all_goals (with_reducible rfl)
    simp only [Act.put, List.setIfInBounds_toArray, List.set_cons_zero, List.set_cons_succ, List.getElem_toArray, List.getElem_cons_zero, List.getElem_cons_succ]
    refine wpAnyH_take (i := 5) (v := undef) rfl (by kernel_rfl) (by kernel_rfl) (by kernel_rfl) (fun _ _ _ h => h) (Or.inr ⟨by rfl, rfl⟩) (by assumption) ?_
    simp only [Act.put, List.setIfInBounds_toArray, List.set_cons_zero, List.set_cons_succ, List.getElem_toArray, List.getElem_cons_zero, List.getElem_cons_succ]
    refine wpAnyH_take (i := 6) (v := undef) rfl (by kernel_rfl) (by kernel_rfl) (by kernel_rfl) (fun _ _ _ h => h) (Or.inr ⟨by rfl, rfl⟩) (by assumption) ?_
    simp only [Act.put, List.setIfInBounds_toArray, List.set_cons_zero, List.set_cons_succ, List.getElem_toArray, List.getElem_cons_zero, List.getElem_cons_succ]
    refine wpAnyH_take (i := 7) (v := undef) rfl (by kernel_rfl) (by kernel_rfl) (by kernel_rfl) (fun _ _ _ h => h) (Or.inr ⟨by rfl, rfl⟩) (by assumption) ?_
    simp only [Act.put, List.setIfInBounds_toArray, List.set_cons_zero, List.set_cons_succ, List.getElem_toArray, List.getElem_cons_zero, List.getElem_cons_succ]
    refine wpAnyH_take (i := 8) (v := undef) rfl (by kernel_rfl) (by kernel_rfl) (by kernel_rfl) (fun _ _ _ h => h) (Or.inr ⟨by rfl, rfl⟩) (by assumption) ?_
    simp only [Act.put, List.setIfInBounds_toArray, List.set_cons_zero, List.set_cons_succ, List.getElem_toArray, List.getElem_cons_zero, List.getElem_cons_succ]
    refine wpAnyH_take (i := 9) (v := undef) rfl (by kernel_rfl) (by kernel_rfl) (by kernel_rfl) (fun _ _ _ h => h) (Or.inr ⟨by rfl, rfl⟩) (by assumption) ?_
    simp only [Act.put, List.setIfInBounds_toArray, List.set_cons_zero, List.set_cons_succ, List.getElem_toArray, List.getElem_cons_zero, List.getElem_cons_succ]
    refine wpAnyH_take (i := 10) (v := undef) rfl (by kernel_rfl) (by kernel_rfl) (by kernel_rfl) (fun _ _ _ h => h) (Or.inr ⟨by rfl, rfl⟩) (by assumption) ?_
    simp only [Act.put, List.setIfInBounds_toArray, List.set_cons_zero, List.set_cons_succ, List.getElem_toArray, List.getElem_cons_zero, List.getElem_cons_succ]
    refine wpAnyH_take (i := 11) (v := undef) rfl (by kernel_rfl) (by kernel_rfl) (by kernel_rfl) (fun _ _ _ h => h) (Or.inr ⟨by rfl, rfl⟩) (by assumption) ?_
    simp only [Act.put, List.setIfInBounds_toArray, List.set_cons_zero, List.set_cons_succ, List.getElem_toArray, List.getElem_cons_zero, List.getElem_cons_succ]
    refine wpAnyH_take (i := 12) (v := undef) rfl (by kernel_rfl) (by kernel_rfl) (by kernel_rfl) (fun _ _ _ h => h) (Or.inr ⟨by rfl, rfl⟩) (by assumption) ?_
    simp only [Act.put, List.setIfInBounds_toArray, List.set_cons_zero, List.set_cons_succ, List.getElem_toArray, List.getElem_cons_zero, List.getElem_cons_succ]
    refine wpAnyH_take (i := 13) (v := undef) rfl (by kernel_rfl) (by kernel_rfl) (by kernel_rfl) (fun _ _ _ h => h) (Or.inr ⟨by rfl, rfl⟩) (by assumption) ?_
    simp only [Act.put, List.setIfInBounds_toArray, List.set_cons_zero, List.set_cons_succ, List.getElem_toArray, List.getElem_cons_zero, List.getElem_cons_succ]
    refine wpAnyH_take (i := 14) (v := undef) rfl (by kernel_rfl) (by kernel_rfl) (by kernel_rfl) (fun _ _ _ h => h) (Or.inr ⟨by rfl, rfl⟩) (by assumption) ?_
    simp only [Act.put, List.setIfInBounds_toArray, List.set_cons_zero, List.set_cons_succ, List.getElem_toArray, List.getElem_cons_zero, List.getElem_cons_succ]
    refine wpAnyH_take (i := 15) (v := undef) rfl (by kernel_rfl) (by kernel_rfl) (by kernel_rfl) (fun _ _ _ h => h) (Or.inr ⟨by rfl, rfl⟩) (by assumption) ?_
    simp only [Act.put, List.setIfInBounds_toArray, List.set_cons_zero, List.set_cons_succ, List.getElem_toArray, List.getElem_cons_zero, List.getElem_cons_succ]
    refine wpAnyH_take (i := 16) (v := ?v16) rfl (by kernel_rfl) (by kernel_rfl) (by kernel_rfl) (fun _ _ _ h => h) (Or.inl ⟨by rfl, ?hy16⟩) (by assumption) ?_
    case hy16 =>
      intro V hV
      try dsimp only at hV
      go_simp
      all_goals (with_reducible rfl)
    simp only [Act.put, List.setIfInBounds_toArray, List.set_cons_zero, List.set_cons_succ, List.getElem_toArray, List.getElem_cons_zero, List.getElem_cons_succ]
    refine wpAnyH_take (i := 17) (v := ?v17) rfl (by kernel_rfl) (by kernel_rfl) (by kernel_rfl) (fun _ _ _ h => h) (Or.inl ⟨by rfl, ?hy17⟩) (by assumption) ?_
    case hy17 =>
      intro V hV
      try dsimp only at hV
      go_simp
      all_goals (with_reducible rfl)
    simp only [Act.put, List.setIfInBounds_toArray, List.set_cons_zero, List.set_cons_succ, List.getElem_toArray, List.getElem_cons_zero, List.getElem_cons_succ]
    refine wpAnyH_done (by kernel_rfl) ?_ _
    clear hr
    go_wp2
    go_ret
    exact ⟨by rw [unhideI HX]; rfl, below_cut (unhideI HW) (unhideI HB5) (by have := unhideI HZ; omega)⟩
  | true =>
    unfold inB at hr
    obtain ⟨g0, g1⟩ := of_decide_eq_true hr
    obtain ⟨m, rfl⟩ : ∃ m : Nat, fx = m := ⟨fx.toNat, by omega⟩
    have hm : m < p.funcs.length := by omega
    obtain ⟨p', cap', he, -, -, hcc⟩ := (unhideI HSC).prog.fs
    injection he with e1 e2 e3
    subst e1 e3
    obtain ⟨sb, so, rfl, hsbl, hc⟩ := hcc (by omega)
    have hel := hc m hm
    have hfc := (unhideI HSC).prog.feach m hm
    have hgd : p.funcs[m] = p.funcs.getD m noFunc := by simp [List.getD, hm]
    rw [hgd] at hfc
    have hg8 := (unhideI HF).funcs m hm
    have HX := hideI (show fieldsB p f ⟨17, d, a, bb, n, m, gs, os⟩ = (tailB f ⟨17, d, a, bb, n, m, gs, os⟩ (sigE (p.funcs.getD m noFunc))) by unfold fieldsB inB; simp only [Int.toNat_natCast]; simp; omega)
    generalize p.funcs.getD m noFunc = g at hfc hg8 HX
    obtain ⟨gv, hg, sg, bg, Bg, hA, hfd⟩ := hfc
    have HFD := hideI hfd
    obtain ⟨gp, gc, rfl⟩ := hfd.ps.shape
    rw [hA] at hel
    have e0 := hel 0 _ rfl
    have e1 := hel 1 _ rfl
    have e2 := hel 2 _ rfl
    have e3 := hel 3 _ rfl
    have e4 := hel 4 _ rfl
    rw [Nat.add_zero] at e0
    have HK := hideI (fun (V : World) (h : Below W.heap.size W V) => show Below W.heap.size W V ∧ V.cell? ⟨w.heap.size, 0, none⟩ = some (.slice (some ⟨sb, so, none⟩) p.funcs.length cf) ∧ V.cell? ⟨w.heap.size, 1, none⟩ = some (.slice pe p.externs.length ce) ∧ V.cell? ⟨w.heap.size, 2, none⟩ = some (.slice pp f.params.length cp) ∧ V.cell? ⟨w.heap.size, 3, none⟩ = some (.int .i64 f.results) ∧ V.cell? ⟨w.heap.size, 4, none⟩ = some (.slice ph f.homes.length ch) ∧ V.cell? ⟨w.heap.size, 5, none⟩ = some (.slice ps f.slots.length cs) ∧ V.cell? ⟨w.heap.size, 6, none⟩ = some (.slice pb f.blocks.length cb) ∧ V.cell? ⟨w.heap.size + 1, 0, none⟩ = some (.int .i64 17) ∧ V.cell? ⟨w.heap.size + 1, 1, none⟩ = some (.int .i64 d) ∧ V.cell? ⟨w.heap.size + 1, 2, none⟩ = some (.int .i64 a) ∧ V.cell? ⟨w.heap.size + 1, 3, none⟩ = some (.int .i64 bb) ∧ V.cell? ⟨w.heap.size + 1, 4, none⟩ = some (.int .u64 n) ∧ V.cell? ⟨w.heap.size + 1, 5, none⟩ = some (.int .i64 ↑m) ∧ V.cell? ⟨w.heap.size + 1, 6, none⟩ = some (.slice pa gs.length ca) ∧ V.cell? ⟨w.heap.size + 1, 7, none⟩ = some (.slice po os.length co) ∧ V.cell? ⟨sb, so + m * 5, none⟩ = some (.slice gp g.params.length gc) ∧ V.cell? ⟨sb, so + m * 5 + 1, none⟩ = some (.int .i64 g.results) ∧ V.cell? ⟨sb, so + m * 5 + 2, none⟩ = some (hg) ∧ V.cell? ⟨sb, so + m * 5 + 3, none⟩ = some (sg) ∧ V.cell? ⟨sb, so + m * 5 + 4, none⟩ = some (bg) from ⟨h, (cells_of_row ((h.block w.heap.size (by omega)).trans (unhideI HR1)) 0).trans rfl, (cells_of_row ((h.block w.heap.size (by omega)).trans (unhideI HR1)) 1).trans rfl, (cells_of_row ((h.block w.heap.size (by omega)).trans (unhideI HR1)) 2).trans rfl, (cells_of_row ((h.block w.heap.size (by omega)).trans (unhideI HR1)) 3).trans rfl, (cells_of_row ((h.block w.heap.size (by omega)).trans (unhideI HR1)) 4).trans rfl, (cells_of_row ((h.block w.heap.size (by omega)).trans (unhideI HR1)) 5).trans rfl, (cells_of_row ((h.block w.heap.size (by omega)).trans (unhideI HR1)) 6).trans rfl, (cells_of_row ((h.block (w.heap.size + 1) (by omega)).trans (unhideI HR2)) 0).trans rfl, (cells_of_row ((h.block (w.heap.size + 1) (by omega)).trans (unhideI HR2)) 1).trans rfl, (cells_of_row ((h.block (w.heap.size + 1) (by omega)).trans (unhideI HR2)) 2).trans rfl, (cells_of_row ((h.block (w.heap.size + 1) (by omega)).trans (unhideI HR2)) 3).trans rfl, (cells_of_row ((h.block (w.heap.size + 1) (by omega)).trans (unhideI HR2)) 4).trans rfl, (cells_of_row ((h.block (w.heap.size + 1) (by omega)).trans (unhideI HR2)) 5).trans rfl, (cells_of_row ((h.block (w.heap.size + 1) (by omega)).trans (unhideI HR2)) 6).trans rfl, (cells_of_row ((h.block (w.heap.size + 1) (by omega)).trans (unhideI HR2)) 7).trans rfl, (h.cell hsbl).trans e0, (h.cell hsbl).trans e1, (h.cell hsbl).trans e2, (h.cell hsbl).trans e3, (h.cell hsbl).trans e4⟩)
    have HFU := hideI (fun V fv ev pv r hv sv bv => hasFunc_c p ev pv hv sv bv fv cf r (m : Int) V hl4)
    have hin : inB (m : Int) 0 (p.funcs.length - 1) = true := by unfold inB; simp; omega
    rw [hin] at HFU
    clear hT hr hin hfd hel e0 e1 e2 e3 e4 hcc hc hgd g0 g1 hA
    go_region_held3 (fun V => Below W.heap.size W V ∧ V.cell? ⟨w.heap.size, 0, none⟩ = some (.slice (some ⟨sb, so, none⟩) p.funcs.length cf) ∧ V.cell? ⟨w.heap.size, 1, none⟩ = some (.slice pe p.externs.length ce) ∧ V.cell? ⟨w.heap.size, 2, none⟩ = some (.slice pp f.params.length cp) ∧ V.cell? ⟨w.heap.size, 3, none⟩ = some (.int .i64 f.results) ∧ V.cell? ⟨w.heap.size, 4, none⟩ = some (.slice ph f.homes.length ch) ∧ V.cell? ⟨w.heap.size, 5, none⟩ = some (.slice ps f.slots.length cs) ∧ V.cell? ⟨w.heap.size, 6, none⟩ = some (.slice pb f.blocks.length cb) ∧ V.cell? ⟨w.heap.size + 1, 0, none⟩ = some (.int .i64 17) ∧ V.cell? ⟨w.heap.size + 1, 1, none⟩ = some (.int .i64 d) ∧ V.cell? ⟨w.heap.size + 1, 2, none⟩ = some (.int .i64 a) ∧ V.cell? ⟨w.heap.size + 1, 3, none⟩ = some (.int .i64 bb) ∧ V.cell? ⟨w.heap.size + 1, 4, none⟩ = some (.int .u64 n) ∧ V.cell? ⟨w.heap.size + 1, 5, none⟩ = some (.int .i64 ↑m) ∧ V.cell? ⟨w.heap.size + 1, 6, none⟩ = some (.slice pa gs.length ca) ∧ V.cell? ⟨w.heap.size + 1, 7, none⟩ = some (.slice po os.length co) ∧ V.cell? ⟨sb, so + m * 5, none⟩ = some (.slice gp g.params.length gc) ∧ V.cell? ⟨sb, so + m * 5 + 1, none⟩ = some (.int .i64 g.results) ∧ V.cell? ⟨sb, so + m * 5 + 2, none⟩ = some (hg) ∧ V.cell? ⟨sb, so + m * 5 + 3, none⟩ = some (sg) ∧ V.cell? ⟨sb, so + m * 5 + 4, none⟩ = some (bg)) ((first | exact unhideI HK _ (unhideI HB7) | exact unhideI HK _ (unhideI HB6) | exact unhideI HK _ (unhideI HB5) | exact unhideI HK _ (Below.refl _ _).drew)) ((first | (go_at_call 63; refine (unhideI HFU _ _ _ _ _ _ _ _).mono ?_; rintro e w5 ⟨rfl, hb5⟩; have HB5 := hideI (below_cut (Below.refl W.heap.size W).drew hb5 (Nat.le_refl _)); clear hb5) | (go_at_call 44; refine (sigP_c g _ _ _ _ _ ((unhideI HFD).below (unhideI HB5)).ps (by omega)).mono ?_; rintro e w6 ⟨v6, rfl, hv6, hb6⟩; have HB6 := hideI (below_cut (unhideI HB5) hb6 (unhideI HB5).size); have HV6 := hideI hv6; clear hb6 hv6) | (go_at_call 66; refine (tailFits_c f ⟨17, d, a, bb, n, m, gs, os⟩ (sigE g) _ _ _ _ _ _ _ _ _ _ ((unhideI HSC).below (unhideI HB6)).func.hs ((unhideI HSC).below (unhideI HB6)).func.ss ((unhideI HA).below (unhideI HB6)) ((unhideI HO).below (unhideI HB6)) (unhideI HV6)).mono ?_; rintro e w7 ⟨rfl, hb7⟩; have HB7 := hideI (below_cut (unhideI HB6) hb7 (unhideI HB6).size); clear hb7)))
    all_goals (
      go_wp2
      go_ret
      exact ⟨by rw [unhideI HX]; rfl, below_cut (unhideI HW) (unhideI HB7) (by have := unhideI HZ; omega)⟩)
end Go.Proofs.YteaemhhbpaicnaaDoor
