/-
  Checks: the walk of prologuelaw.Checks. Own work of the verifier.
-/
import Derived.Test.YteaemhhbpaicnaaDoorCkY
import Derived.Test.YteaemhhbpaicnaaDoorM7
namespace Go.Proofs.YteaemhhbpaicnaaDoor
open Go.RowKit

set_option maxHeartbeats 4000000 in
set_option maxRecDepth 100000 in
theorem checks_walk (r sp lk t0 t1 : Int) (va vr vs : Value) (al sh by_ : Int) (pr : Bool) (ag rs ss : List Int) (p : ProgE) (fv ev : Value) (A E : Nat → Array Value) (w : World) (hT : TabC w va vr vs ag rs ss) (hP : ProgC w fv ev p A E) (hnn : NumP p) (hpl : ∀ k, (p.funcs.getD k noFunc).params.length ≤ 8796093022208) (hN : NeedsAt w) (h1w : 1 < w.heap.size) (hE : ErrTy w) :
    Calls Tryd.prog 3 #[.agg (boxOf r sp lk t0 t1 va vr vs al sh by_ pr), .agg #[fv, ev]] w fun e w' => e = .returned (.bool true) ∧ Below w.heap.size w w' := by
  have hx := al0 w (.cells (boxOf r sp lk t0 t1 va vr vs al sh by_ pr) 25 (0, 0))
  generalize hW1 : World.alloc w (.cells (boxOf r sp lk t0 t1 va vr vs al sh by_ pr) 25 (0, 0)) = W1 at hx
  have hx2 := al0 W1 (.cells #[fv, ev] 29 (0, 0))
  have hs1 := hx.2.2
  have hs2 := hx2.2.2
  have hb12 := below_cut hx.2.1 hx2.2.1 (by omega)
  have HPL := hideI (fun V (hb : Below w.heap.size w V) => plchk_c r sp lk t0 t1 va vr vs al sh by_ pr ag rs ss p fv ev A E V (hT.below hb) (hP.below hb) hnn (hN.keep hb) (by have := hb.size; omega) (hE.keep hb))
  have HRF := hideI (fun V (hb : Below w.heap.size w V) => rcheck_c r sp lk t0 t1 va vr vs al sh by_ pr ag rs ss p fv ev A E V (hT.below hb) (hP.below hb) hnn hpl)
  have HW := hideI hb12
  have HR1 := hideI ((hx2.2.1.block w.heap.size (by omega)).trans hx.1)
  have hr2 := hx2.1
  rw [hs1] at hr2 hs2
  have HR2 := hideI hr2
  have HZ := hideI hs2
  obtain ⟨pf, cf, rfl⟩ := hP.fs.shape
  obtain ⟨pe, ce, rfl⟩ := hP.es.shape
  obtain ⟨pva, cva, rfl⟩ := hT.a.shape
  obtain ⟨pvr, cvr, rfl⟩ := hT.r.shape
  obtain ⟨pvs, cvs, rfl⟩ := hT.s.shape
  clear hx hx2 hs1 hs2 hb12 hr2 hT hP hnn hpl hN h1w hE
  subst hW1
  unfold boxOf at HPL HRF HR1 HR2 HW HZ ⊢
  generalize (chkB (tabB r sp lk t0 t1 ag rs ss al sh by_) r (ownL sp lk t0 t1) p) = x at HPL HRF
  obtain ⟨xe, xf, xb, xa⟩ := x
  simp only at HPL HRF
  go_enter Tryd.func3, Tryd.ntmps3
  go_wp2_with fail
  generalize World.alloc (World.alloc w _) _ = W at HR1 HR2 HW HZ ⊢
  refine (unhideI HPL W (unhideI HW)).mono ?_
  rintro e w2 ⟨rfl, hb⟩
  have hz := unhideI HZ
  have HB2 := hideI (below_cut (unhideI HW) hb (by omega))
  have hr1 := (hb.block w.heap.size (by omega)).trans (unhideI HR1)
  have hr2 := (hb.block (w.heap.size + 1) (by omega)).trans (unhideI HR2)
  have b0 := fun X : Obj => (row_al hr1 0 X).trans rfl
  have b1 := fun X : Obj => (row_al hr1 1 X).trans rfl
  have b2 := fun X : Obj => (row_al hr1 2 X).trans rfl
  have b3 := fun X : Obj => (row_al hr1 3 X).trans rfl
  have b4 := fun X : Obj => (row_al hr1 4 X).trans rfl
  have b5 := fun X : Obj => (row_al hr1 5 X).trans rfl
  have b6 := fun X : Obj => (row_al hr1 6 X).trans rfl
  have b7 := fun X : Obj => (row_al hr1 7 X).trans rfl
  have b8 := fun X : Obj => (row_al hr1 8 X).trans rfl
  have b9 := fun X : Obj => (row_al hr1 9 X).trans rfl
  have b10 := fun X : Obj => (row_al hr1 10 X).trans rfl
  have b11 := fun X : Obj => (row_al hr1 11 X).trans rfl
  have p0 := fun X : Obj => (row_al hr2 0 X).trans rfl
  have p1 := fun X : Obj => (row_al hr2 1 X).trans rfl
  have hz2 := hb.size
  have HRA := hideI hr1
  have HRB := hideI hr2
  clear hb hr1 hr2 HPL
  unfold flt
  -- region
  go_wp2_with fail
  clear b0 b1 b2 b3 b4 b5 b6 b7 b8 b9 b10 b11 p0 p1
  have hy := al0 w2 (.cells #[.int .i64 xe, .int .i64 xf, .int .i64 xb, .int .i64 xa] 31 (0, 0))
  have hu1 := (hy.2.1.block w.heap.size (by omega)).trans (unhideI HRA)
  have hu2 := (hy.2.1.block (w.heap.size + 1) (by omega)).trans (unhideI HRB)
  have hu3 := hy.1
  have HBU := hideI (below_cut (unhideI HB2) hy.2.1 (by omega))
  have hus := hy.2.2
  clear hy
  generalize hTf : w2.heap.size = Tf at hu3 hus hz2 ⊢
  clear hTf
  generalize World.alloc w2 _ = U at hu1 hu2 hu3 hus HBU ⊢
  have hTU : Tf < U.heap.size := by omega
  have hWU : w.heap.size + 1 < U.heap.size := by omega
  have HK := hideI (fun (V : World) (h : Below U.heap.size U V) => show Below U.heap.size U V ∧ V.cell? ⟨w.heap.size, 0, none⟩ = some (.int .i64 r) ∧ V.cell? ⟨w.heap.size, 1, none⟩ = some (.int .i64 sp) ∧ V.cell? ⟨w.heap.size, 2, none⟩ = some (.int .i64 lk) ∧ V.cell? ⟨w.heap.size, 3, none⟩ = some (.int .i64 t0) ∧ V.cell? ⟨w.heap.size, 4, none⟩ = some (.int .i64 t1) ∧ V.cell? ⟨w.heap.size, 5, none⟩ = some (.slice pva ag.length cva) ∧ V.cell? ⟨w.heap.size, 6, none⟩ = some (.slice pvr rs.length cvr) ∧ V.cell? ⟨w.heap.size, 7, none⟩ = some (.slice pvs ss.length cvs) ∧ V.cell? ⟨w.heap.size, 8, none⟩ = some (.int .i64 al) ∧ V.cell? ⟨w.heap.size, 9, none⟩ = some (.int .i64 sh) ∧ V.cell? ⟨w.heap.size, 10, none⟩ = some (.int .i64 by_) ∧ V.cell? ⟨w.heap.size, 11, none⟩ = some (.bool pr) ∧ V.cell? ⟨w.heap.size + 1, 0, none⟩ = some (.slice pf p.funcs.length cf) ∧ V.cell? ⟨w.heap.size + 1, 1, none⟩ = some (.slice pe p.externs.length ce) ∧ V.cell? ⟨Tf, 0, none⟩ = some (.int .i64 xe) ∧ V.cell? ⟨Tf, 1, none⟩ = some (.int .i64 xf) ∧ V.cell? ⟨Tf, 2, none⟩ = some (.int .i64 xb) ∧ V.cell? ⟨Tf, 3, none⟩ = some (.int .i64 xa) from ⟨h, (cells_of_row ((h.block w.heap.size (by omega)).trans hu1) 0).trans rfl, (cells_of_row ((h.block w.heap.size (by omega)).trans hu1) 1).trans rfl, (cells_of_row ((h.block w.heap.size (by omega)).trans hu1) 2).trans rfl, (cells_of_row ((h.block w.heap.size (by omega)).trans hu1) 3).trans rfl, (cells_of_row ((h.block w.heap.size (by omega)).trans hu1) 4).trans rfl, (cells_of_row ((h.block w.heap.size (by omega)).trans hu1) 5).trans rfl, (cells_of_row ((h.block w.heap.size (by omega)).trans hu1) 6).trans rfl, (cells_of_row ((h.block w.heap.size (by omega)).trans hu1) 7).trans rfl, (cells_of_row ((h.block w.heap.size (by omega)).trans hu1) 8).trans rfl, (cells_of_row ((h.block w.heap.size (by omega)).trans hu1) 9).trans rfl, (cells_of_row ((h.block w.heap.size (by omega)).trans hu1) 10).trans rfl, (cells_of_row ((h.block w.heap.size (by omega)).trans hu1) 11).trans rfl, (cells_of_row ((h.block (w.heap.size + 1) (by omega)).trans hu2) 0).trans rfl, (cells_of_row ((h.block (w.heap.size + 1) (by omega)).trans hu2) 1).trans rfl, (cells_of_row ((h.block Tf (by omega)).trans hu3) 0).trans rfl, (cells_of_row ((h.block Tf (by omega)).trans hu3) 1).trans rfl, (cells_of_row ((h.block Tf (by omega)).trans hu3) 2).trans rfl, (cells_of_row ((h.block Tf (by omega)).trans hu3) 3).trans rfl⟩)
  have HK0 := hideI (unhideI HK U.drew (Below.refl U.heap.size U).drew)
  have HWD := hideI (below_cut (unhideI HBU) (Below.refl U.heap.size U).drew (by omega))
  have HRX := hideI (unhideI HRF U.drew (unhideI HWD))
  clear hu1 hu2 hu3 hus HRF HRA HRB
  refine wp_region_held_drew (S := fun V => Below U.heap.size U V ∧ V.cell? ⟨w.heap.size, 0, none⟩ = some (.int .i64 r) ∧ V.cell? ⟨w.heap.size, 1, none⟩ = some (.int .i64 sp) ∧ V.cell? ⟨w.heap.size, 2, none⟩ = some (.int .i64 lk) ∧ V.cell? ⟨w.heap.size, 3, none⟩ = some (.int .i64 t0) ∧ V.cell? ⟨w.heap.size, 4, none⟩ = some (.int .i64 t1) ∧ V.cell? ⟨w.heap.size, 5, none⟩ = some (.slice pva ag.length cva) ∧ V.cell? ⟨w.heap.size, 6, none⟩ = some (.slice pvr rs.length cvr) ∧ V.cell? ⟨w.heap.size, 7, none⟩ = some (.slice pvs ss.length cvs) ∧ V.cell? ⟨w.heap.size, 8, none⟩ = some (.int .i64 al) ∧ V.cell? ⟨w.heap.size, 9, none⟩ = some (.int .i64 sh) ∧ V.cell? ⟨w.heap.size, 10, none⟩ = some (.int .i64 by_) ∧ V.cell? ⟨w.heap.size, 11, none⟩ = some (.bool pr) ∧ V.cell? ⟨w.heap.size + 1, 0, none⟩ = some (.slice pf p.funcs.length cf) ∧ V.cell? ⟨w.heap.size + 1, 1, none⟩ = some (.slice pe p.externs.length ce) ∧ V.cell? ⟨Tf, 0, none⟩ = some (.int .i64 xe) ∧ V.cell? ⟨Tf, 1, none⟩ = some (.int .i64 xf) ∧ V.cell? ⟨Tf, 2, none⟩ = some (.int .i64 xb) ∧ V.cell? ⟨Tf, 3, none⟩ = some (.int .i64 xa)) (by kernel_rfl) (unhideI HK0) (fun hHeld => ?_)
  refine wpAnyH_take (i := 0) (v := ?v0) rfl (by kernel_rfl) (by kernel_rfl) (by kernel_rfl) (fun _ _ _ h => h) (Or.inl ⟨by rfl, ?hy0⟩) (by assumption) ?_
  case hy0 =>
    intro V hV
    try dsimp only at hV
    go_simp
    all_goals (with_reducible rfl)
  simp only [Act.put, List.setIfInBounds_toArray, List.set_cons_zero, List.set_cons_succ, List.getElem_toArray, List.getElem_cons_zero]
  refine wpAnyH_take (i := 1) (v := ?v1) rfl (by kernel_rfl) (by kernel_rfl) (by kernel_rfl) (fun _ _ _ h => h) (Or.inl ⟨by rfl, ?hy1⟩) (by assumption) ?_
  case hy1 =>
    intro V hV
    try dsimp only at hV
    go_simp
    all_goals (with_reducible rfl)
  simp only [Act.put, List.setIfInBounds_toArray, List.set_cons_zero, List.set_cons_succ, List.getElem_toArray, List.getElem_cons_zero, List.getElem_cons_succ]
  refine wpAnyH_take (i := 2) (v := ?v2) rfl (by kernel_rfl) (by kernel_rfl) (by kernel_rfl) (fun _ _ _ h => h) (Or.inl ⟨by rfl, ?hy2⟩) (by assumption) ?_
  case hy2 =>
    intro V hV
    try dsimp only at hV
    go_simp
    all_goals (with_reducible rfl)
  simp only [Act.put, List.setIfInBounds_toArray, List.set_cons_zero, List.set_cons_succ, List.getElem_toArray, List.getElem_cons_zero, List.getElem_cons_succ]
  refine wpAnyH_ready (rs := [3]) (by kernel_rfl) (by simp) ?_
  refine AllReadyH.cons rfl (fun K hK => ?_) AllReadyH.nil
  go_simp
  refine (unhideI HRX).mono ?_
  rintro e w5 ⟨rfl, hb5⟩
  have HB5 := hideI (below_cut (Below.refl U.heap.size U).drew hb5 (Nat.le_refl _))
  have HB6 := hideI (below_cut (unhideI HWD) hb5 (unhideI HWD).size)
  clear hb5
  unfold flt
  go_wp2_with fail
  refine hK.out _ _ (unhideI HK _ (unhideI HB5)) (fun hHeld2 => ?_)
  clear hK K
  try simp only [Act.put, List.setIfInBounds_toArray, List.set_cons_zero, List.set_cons_succ, List.getElem_toArray, List.getElem_cons_zero, List.getElem_cons_succ]
  refine wpAnyH_ready (rs := [4]) (by kernel_rfl) (by simp) ?_
  refine AllReadyH.cons rfl (fun K hK => ?_) AllReadyH.nil
  go_simp
  refine (agrees_sameE xe xf xb xa w5).mono ?_
  rintro e w6 ⟨rfl, hb6⟩
  have HB7 := hideI (below_cut (unhideI HB5) hb6 (unhideI HB5).size)
  have HB8 := hideI (below_cut (unhideI HB6) hb6 (unhideI HB6).size)
  clear hb6
  go_wp2_with fail
  refine hK.out _ _ (unhideI HK _ (unhideI HB7)) (fun hHeld2 => ?_)
  clear hK K
  try simp only [Act.put, List.setIfInBounds_toArray, List.set_cons_zero, List.set_cons_succ, List.getElem_toArray, List.getElem_cons_zero, List.getElem_cons_succ]
  refine wpAnyH_take (i := 5) (v := ?v5) rfl (by kernel_rfl) (by kernel_rfl) (by kernel_rfl) (fun _ _ _ h => h) (Or.inl ⟨by rfl, ?hy5⟩) (by assumption) ?_
  case hy5 =>
    intro V hV
    try dsimp only at hV
    go_simp
    all_goals (with_reducible rfl)
  simp only [Act.put, List.setIfInBounds_toArray, List.set_cons_zero, List.set_cons_succ, List.getElem_toArray, List.getElem_cons_zero, List.getElem_cons_succ]
  refine wpAnyH_done (by kernel_rfl) ?_ _
  go_wp2
  go_ret
  exact ⟨rfl, unhideI HB8⟩
end Go.Proofs.YteaemhhbpaicnaaDoor
