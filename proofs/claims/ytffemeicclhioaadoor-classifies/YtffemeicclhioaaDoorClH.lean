/-
  Layouts of calls: plain.Classify. Own work of the verifier.
-/
import Derived.Test.YtffemeicclhioaaDoorClG
namespace Go.Proofs.YtffemeicclhioaaDoor
open Go.RowKit

theorem rows4h (w : World) (X0 X1 X2 X3 : Obj) : ((((w.alloc X0).alloc X1).alloc X2).alloc X3).heap[w.heap.size]? = some X0 ∧ ((((w.alloc X0).alloc X1).alloc X2).alloc X3).heap[w.heap.size + 1]? = some X1 ∧ ((((w.alloc X0).alloc X1).alloc X2).alloc X3).heap[w.heap.size + 1 + 1]? = some X2 ∧ ((((w.alloc X0).alloc X1).alloc X2).alloc X3).heap[w.heap.size + 1 + 1 + 1]? = some X3 ∧ ((((w.alloc X0).alloc X1).alloc X2).alloc X3).heap.size = w.heap.size + 1 + 1 + 1 + 1 := by
  obtain ⟨r0, b0, s0⟩ := al0 w X0
  obtain ⟨r1, b1, s1⟩ := al0 (w.alloc X0) X1
  obtain ⟨r2, b2, s2⟩ := al0 ((w.alloc X0).alloc X1) X2
  obtain ⟨r3, b3, s3⟩ := al0 (((w.alloc X0).alloc X1).alloc X2) X3
  rw [s0] at r1
  rw [s1, s0] at r2
  rw [s2, s1, s0] at r3
  exact ⟨(b3.block _ (by omega)).trans ((b2.block _ (by omega)).trans ((b1.block _ (by omega)).trans r0)), (b3.block _ (by omega)).trans ((b2.block _ (by omega)).trans r1), (b3.block _ (by omega)).trans r2, r3, by omega⟩
theorem set4_oth (w : World) (b q : Nat) (v0 v1 v2 v3 : Value) (h : q ≠ b) : ((((w.setCell ⟨b, 0, none⟩ v0).setCell ⟨b, 1, none⟩ v1).setCell ⟨b, 2, none⟩ v2).setCell ⟨b, 3, none⟩ v3).heap[q]? = w.heap[q]? :=
  (heap_setCell_other _ _ _ _ h).trans ((heap_setCell_other _ _ _ _ h).trans ((heap_setCell_other _ _ _ _ h).trans (heap_setCell_other _ _ _ _ h)))
theorem results_cc {P : Program} {fn : Func} {p q : Tmp} {px uy : TypeId} (h : fn.results = #[.cell p px, .cell q uy]) (tmps : Array Value) (w : World) (g : Nat) (t : TypeId) (cs : Array Value) (fr : Nat × Nat) (d : TypeDesc) (g' : Nat) (t' : TypeId) (cs' : Array Value) (fr' : Nat × Nat) (d' : TypeDesc)
    (hp : tmps.getD p undef = .pointer (some ⟨g, 0, none⟩)) (hg : w.heap[g]? = some (.cells cs t fr)) (hu : P.underlying px = some d) (hd : (match d with | .struct _ | .array _ _ => true | _ => false) = true) (hi : (P.info? px).map (·.size) = some cs.size)
    (hp' : tmps.getD q undef = .pointer (some ⟨g', 0, none⟩)) (hg' : w.heap[g']? = some (.cells cs' t' fr')) (hu' : P.underlying uy = some d') (hd' : (match d' with | .struct _ | .array _ _ => true | _ => false) = true) (hi' : (P.info? uy).map (·.size) = some cs'.size) :
    (results fn tmps).run P w = .ok (.tuple #[.agg cs, .agg cs']) w := by
  have e1 : tmps[p]?.getD undef = .pointer (some ⟨g, 0, none⟩) := by simpa using hp
  have e2 : tmps[q]?.getD undef = .pointer (some ⟨g', 0, none⟩) := by simpa using hp'
  simp [results, h, e1, e2, asAddr, run_loadVar_row w g t px cs fr d hg hu hd hi, run_loadVar_row w g' t' uy cs' fr' d' hg' hu' hd' hi']
theorem Tryd.infPfK : (Tryd.prog.info? 35).map (·.size) = some 4 := by kernel_rfl
theorem set4_row (w : World) (b : Nat) (t : TypeId) (c0 c1 c2 c3 v0 v1 v2 v3 : Value) (h : w.heap[b]? = some (.cells #[c0, c1, c2, c3] t (0, 0))) : ((((w.setCell ⟨b, 0, none⟩ v0).setCell ⟨b, 1, none⟩ v1).setCell ⟨b, 2, none⟩ v2).setCell ⟨b, 3, none⟩ v3).heap[b]? = some (.cells #[v0, v1, v2, v3] t (0, 0)) :=
  heap_setCell_same _ _ 3 _ _ _ (heap_setCell_same _ _ 2 _ _ _ (heap_setCell_same _ _ 1 _ _ _ (heap_setCell_same _ _ 0 _ _ _ h)))
theorem st_os (w : World) (a : Addr) (v : Value) : (w.setCell a v).os = w.os := rfl
theorem st_tape (w : World) (a : Addr) (v : Value) : (w.setCell a v).tape = w.tape := rfl
theorem st_out (w : World) (a : Addr) (v : Value) : (w.setCell a v).output = w.output := rfl
theorem two_rows (w5 : World) (b : Nat) (t u : TypeId) (l0 l1 l2 l3 f0 f1 f2 f3 c0 c1 c2 c3 d0 d1 d2 d3 : Value) (h2 : w5.heap[b]? = some (.cells #[c0, c1, c2, c3] t (0, 0))) (h3 : w5.heap[b + 1]? = some (.cells #[d0, d1, d2, d3] u (0, 0))) :
    ((((((((w5.setCell ⟨b, 0, none⟩ l0).setCell ⟨b, 1, none⟩ l1).setCell ⟨b, 2, none⟩ l2).setCell ⟨b, 3, none⟩ l3).setCell ⟨b + 1, 0, none⟩ f0).setCell ⟨b + 1, 1, none⟩ f1).setCell ⟨b + 1, 2, none⟩ f2).setCell ⟨b + 1, 3, none⟩ f3).heap[b]? = some (.cells #[l0, l1, l2, l3] t (0, 0)) ∧
    ((((((((w5.setCell ⟨b, 0, none⟩ l0).setCell ⟨b, 1, none⟩ l1).setCell ⟨b, 2, none⟩ l2).setCell ⟨b, 3, none⟩ l3).setCell ⟨b + 1, 0, none⟩ f0).setCell ⟨b + 1, 1, none⟩ f1).setCell ⟨b + 1, 2, none⟩ f2).setCell ⟨b + 1, 3, none⟩ f3).heap[b + 1]? = some (.cells #[f0, f1, f2, f3] u (0, 0)) ∧
    (∀ q, q ≠ b → q ≠ b + 1 → ((((((((w5.setCell ⟨b, 0, none⟩ l0).setCell ⟨b, 1, none⟩ l1).setCell ⟨b, 2, none⟩ l2).setCell ⟨b, 3, none⟩ l3).setCell ⟨b + 1, 0, none⟩ f0).setCell ⟨b + 1, 1, none⟩ f1).setCell ⟨b + 1, 2, none⟩ f2).setCell ⟨b + 1, 3, none⟩ f3).heap[q]? = w5.heap[q]?) ∧
    ((((((((w5.setCell ⟨b, 0, none⟩ l0).setCell ⟨b, 1, none⟩ l1).setCell ⟨b, 2, none⟩ l2).setCell ⟨b, 3, none⟩ l3).setCell ⟨b + 1, 0, none⟩ f0).setCell ⟨b + 1, 1, none⟩ f1).setCell ⟨b + 1, 2, none⟩ f2).setCell ⟨b + 1, 3, none⟩ f3).heap.size = w5.heap.size ∧
    (((((((((w5.setCell ⟨b, 0, none⟩ l0).setCell ⟨b, 1, none⟩ l1).setCell ⟨b, 2, none⟩ l2).setCell ⟨b, 3, none⟩ l3).setCell ⟨b + 1, 0, none⟩ f0).setCell ⟨b + 1, 1, none⟩ f1).setCell ⟨b + 1, 2, none⟩ f2).setCell ⟨b + 1, 3, none⟩ f3).os = w5.os ∧ ((((((((w5.setCell ⟨b, 0, none⟩ l0).setCell ⟨b, 1, none⟩ l1).setCell ⟨b, 2, none⟩ l2).setCell ⟨b, 3, none⟩ l3).setCell ⟨b + 1, 0, none⟩ f0).setCell ⟨b + 1, 1, none⟩ f1).setCell ⟨b + 1, 2, none⟩ f2).setCell ⟨b + 1, 3, none⟩ f3).tape = w5.tape ∧ ((((((((w5.setCell ⟨b, 0, none⟩ l0).setCell ⟨b, 1, none⟩ l1).setCell ⟨b, 2, none⟩ l2).setCell ⟨b, 3, none⟩ l3).setCell ⟨b + 1, 0, none⟩ f0).setCell ⟨b + 1, 1, none⟩ f1).setCell ⟨b + 1, 2, none⟩ f2).setCell ⟨b + 1, 3, none⟩ f3).output = w5.output) := by
  refine ⟨?_, ?_, fun q h1 h2 => ?_, by simp, by simp only [st_os], by simp only [st_tape], by simp only [st_out]⟩
  · rw [set4_oth _ _ _ _ _ _ _ (by omega)]
    exact set4_row _ _ _ _ _ _ _ _ _ _ _ h2
  · exact set4_row _ _ _ d0 d1 d2 d3 _ _ _ _ ((set4_oth _ _ _ _ _ _ _ (by omega)).trans h3)
  · rw [set4_oth _ _ _ _ _ _ _ h2, set4_oth _ _ _ _ _ _ _ h1]
set_option maxHeartbeats 4000000 in
set_option maxRecDepth 100000 in
theorem pcls_c (T : TbE) (ps : List Int) (pq : Option Addr) (cq : Nat) (n : Int) (w : World) (hT : TbO w T) (hps : Li w (.slice pq ps.length cq) ps) :
    Calls Tryd.prog 14 #[.agg T.box, .agg #[.slice pq ps.length cq, .int .i64 n]] w fun e w' => ∃ av rv pvs, e = .returned (.tuple #[.agg #[av, rv, .int .i64 (clsL T ps n).size, .int .i64 (clsL T ps n).copies], errV (clsN T ps n)]) ∧ LayO w' w.heap.size av rv (clsL T ps n) pvs ∧ Below w.heap.size w w' := by
  obtain ⟨r0, r1, r2, hZ, hB⟩ := rows3 w (.cells T.box 25 (0, 0)) (.cells #[.slice pq ps.length cq, .int .i64 n] 27 (0, 0)) (.cells #[.slice none 0 0, .slice none 0 0, .int .i64 0, .int .i64 0] 33 (0, 0))
  have HR2 := hideI r2
  have HB := hideI hB
  have HC := hideI (lcls_c T ps pq cq n _ (hT.below hB) (hps.below hB))
  clear r0 r1 r2 hB hT hps
  unfold TbE.box at HC HR2 HB hZ ⊢
  go_enter Tryd.func14, Tryd.ntmps14
  go_wp2_with fail
  generalize World.alloc (World.alloc (World.alloc w _) _) _ = W at HC HR2 HB hZ ⊢
  refine (unhideI HC).mono ?_
  rintro e w4 ⟨av, rv, pvs, rfl, hlay, hb4⟩
  obtain ⟨⟨ap, an, ac, rfl⟩, rp, rn, rc, rfl⟩ := hlay.shapes
  have HLY := hideI hlay
  have HB4 := hideI (below_cut (unhideI HB) hb4 (by omega))
  have HD2 := hideI ((hb4.block (w.heap.size + 1 + 1) (by omega)).trans (unhideI HR2))
  clear hlay hb4 HC
  obtain ⟨en, hen⟩ : ∃ en, en = errV (clsN T ps n) := ⟨_, rfl⟩
  rw [← hen]
  have HEN := hideI hen
  clear hen
  obtain ⟨le, hle⟩ : ∃ le, le = clsL T ps n := ⟨_, rfl⟩
  rw [← hle]
  have HLE := hideI hle
  clear hle
  go_wp2_with (refine wpList_store_row rfl 33 _ _ rfl (w.heap.size + 1 + 1) #[.slice ap an ac, .slice rp rn rc, .int .i64 le.size, .int .i64 le.copies] rfl rfl 33 _ (unhideI HD2) (Tryd.infLyK.trans rfl) rfl (by simp [Value.oneCell']) ?_)
  refine bodyPost_ret (results_ct (fn := Tryd.f14) (p := 4) (q := 5) (px := 33) rfl _ _ (w.heap.size + 1 + 1) 33 #[.slice ap an ac, .slice rp rn rc, .int .i64 le.size, .int .i64 le.copies] (0, 0) _ rfl (setRow_heap _ _ _ _ _ _ (unhideI HD2)) Tryd.underlying33 rfl (Tryd.infLyK.trans rfl)) rfl ?_
  refine ⟨_, _, pvs, by rw [← unhideI HLE, ← unhideI HEN]; rfl, ?_, below_setRow (unhideI HB4) (by omega)⟩
  rw [← unhideI HLE]
  have h := unhideI HLY
  rw [← unhideI HLE] at h
  exact h.row (by omega) (by omega)
set_option maxHeartbeats 4000000 in
set_option maxRecDepth 100000 in
theorem plcls_c (T : TbE) (ps : List Int) (pq : Option Addr) (cq : Nat) (n : Int) (w : World) (hE : ErrTy w) (hT : TbO w T) (hps : Li w (.slice pq ps.length cq) ps) :
    Calls Tryd.prog 6 #[.agg T.box, .agg #[.slice pq ps.length cq, .int .i64 n]] w fun e w' => ∃ av rv pvs, e = .returned (.tuple #[.agg #[av, rv, .int .i64 (clsL T ps n).size, .int .i64 (clsL T ps n).copies], flt (clsN T ps n) (-1) (-1) (-1)]) ∧ LayO w' w.heap.size av rv (clsL T ps n) pvs ∧ Below w.heap.size w w' := by
  obtain ⟨r0, r1, r2, r3, hZ⟩ := rows4h w (.cells T.box 25 (0, 0)) (.cells #[.slice pq ps.length cq, .int .i64 n] 27 (0, 0)) (.cells #[.slice none 0 0, .slice none 0 0, .int .i64 0, .int .i64 0] 33 (0, 0)) (.cells #[.int .i64 0, .int .i64 0, .int .i64 0, .int .i64 0] 35 (0, 0))
  have hB : Below w.heap.size w ((((w.alloc (.cells T.box 25 (0, 0))).alloc (.cells #[.slice pq ps.length cq, .int .i64 n] 27 (0, 0))).alloc (.cells #[.slice none 0 0, .slice none 0 0, .int .i64 0, .int .i64 0] 33 (0, 0))).alloc (.cells #[.int .i64 0, .int .i64 0, .int .i64 0, .int .i64 0] 35 (0, 0))) := ((((Below.refl w.heap.size w).alloc (Nat.le_refl _) (.cells T.box 25 (0, 0))).alloc (by simp) (.cells #[.slice pq ps.length cq, .int .i64 n] 27 (0, 0))).alloc (by simp; omega) (.cells #[.slice none 0 0, .slice none 0 0, .int .i64 0, .int .i64 0] 33 (0, 0))).alloc (by simp; omega) (.cells #[.int .i64 0, .int .i64 0, .int .i64 0, .int .i64 0] 35 (0, 0))
  have HR2 := hideI r2
  have HR3 := hideI r3
  have HB := hideI hB
  have HC := hideI (pcls_c T ps pq cq n _ (hT.below hB) (hps.below hB))
  have HE := hideI (fun V (hb : Below w.heap.size w V) => hE.keep hb)
  clear r0 r1 r2 r3 hB hT hps hE
  unfold TbE.box at HC HR2 HR3 HB hZ ⊢
  go_enter Tryd.func6, Tryd.ntmps6
  go_wp2_with fail
  generalize World.alloc (World.alloc (World.alloc (World.alloc w _) _) _) _ = W at HC HR2 HR3 HB hZ ⊢
  refine (unhideI HC).mono ?_
  rintro e w4 ⟨av, rv, pvs, rfl, hlay, hb4⟩
  obtain ⟨⟨ap, an, ac, rfl⟩, rp, rn, rc, rfl⟩ := hlay.shapes
  have hz4 := hb4.size
  have HLY := hideI hlay
  have HB4 := hideI (below_cut (unhideI HB) hb4 (by omega))
  have HD2 := hideI ((hb4.block (w.heap.size + 1 + 1) (by omega)).trans (unhideI HR2))
  have HD3 := hideI ((hb4.block (w.heap.size + 1 + 1 + 1) (by omega)).trans (unhideI HR3))
  clear hlay hb4 HC HR2 HR3
  have HF := hideI (fun V (hb : Below w.heap.size w V) => show Calls Tryd.prog 15 #[errV (clsN T ps n)] V fun e w' => e = .returned (flt (clsN T ps n) (-1) (-1) (-1)) ∧ Below V.heap.size V w' by
    unfold errV
    split
    · rename_i h
      rw [h]
      exact fault_nil V
    · exact fault_errno _ V (unhideI HE V hb))
  obtain ⟨cn, hcn⟩ : ∃ cn, cn = clsN T ps n := ⟨_, rfl⟩
  rw [← hcn] at HF ⊢
  have HCN := hideI hcn
  clear hcn
  generalize errV cn = en at HF ⊢
  obtain ⟨le, hle⟩ : ∃ le, le = clsL T ps n := ⟨_, rfl⟩
  rw [← hle] at HLY ⊢
  have HLE := hideI hle
  clear hle
  -- region
  go_wp2_with fail
  obtain ⟨hl1, hl2, hl3⟩ := al0 w4 (.cells #[.slice ap an ac, .slice rp rn rc, .int .i64 le.size, .int .i64 le.copies] 33 (0, 0))
  have HE2 := hideI ((hl2.block (w.heap.size + 1 + 1) (by omega)).trans (unhideI HD2))
  have HE3 := hideI ((hl2.block (w.heap.size + 1 + 1 + 1) (by omega)).trans (unhideI HD3))
  have HLY2 := hideI ((unhideI HLY).keep hl2)
  have HB5 := hideI (below_cut (unhideI HB4) hl2 (by omega))
  have HRL := hideI hl1
  clear hl1 hl2
  generalize hTl : w4.heap.size = Tl at HRL hl3 hz4 ⊢
  clear hTl
  generalize World.alloc w4 _ = U at HE2 HE3 HLY2 HB5 HRL hl3 ⊢
  have HK0 := hideI (show U.drew.cell? ⟨Tl, 0, none⟩ = some (.slice ap an ac) ∧ U.drew.cell? ⟨Tl, 1, none⟩ = some (.slice rp rn rc) ∧ U.drew.cell? ⟨Tl, 2, none⟩ = some (.int .i64 le.size) ∧ U.drew.cell? ⟨Tl, 3, none⟩ = some (.int .i64 le.copies) from ⟨(cells_of_row (unhideI HRL) 0).trans rfl, (cells_of_row (unhideI HRL) 1).trans rfl, (cells_of_row (unhideI HRL) 2).trans rfl, (cells_of_row (unhideI HRL) 3).trans rfl⟩)
  have HFC := hideI (unhideI HF U.drew (unhideI HB5).drew)
  refine wp_region_held_drew (S := fun V => V.cell? ⟨Tl, 0, none⟩ = some (.slice ap an ac) ∧ V.cell? ⟨Tl, 1, none⟩ = some (.slice rp rn rc) ∧ V.cell? ⟨Tl, 2, none⟩ = some (.int .i64 le.size) ∧ V.cell? ⟨Tl, 3, none⟩ = some (.int .i64 le.copies)) (by kernel_rfl) (unhideI HK0) (fun hHeld => ?_)
  refine wpAnyH_take (i := 0) (v := ?v0) rfl (by kernel_rfl) (by kernel_rfl) (by kernel_rfl) (fun _ _ _ h => h) (Or.inl ⟨by rfl, ?hy0⟩) (by assumption) ?_
  case hy0 =>
    intro V hV
    try dsimp only at hV
    go_simp
    all_goals (with_reducible rfl)
  simp only [Act.put, List.setIfInBounds_toArray, List.set_cons_zero, List.set_cons_succ, List.getElem_toArray, List.getElem_cons_zero]
  refine wpAnyH_take (i := 1) (v := ?v1) rfl (by kernel_rfl) (by kernel_rfl) (by kernel_rfl) (fun _ _ _ h => h) (Or.inl ⟨by rfl, ?hy1⟩) (by assumption) ?_
  case hy1 =>
    intro V hV
    try dsimp only at hV
    go_simp
    all_goals (with_reducible rfl)
  simp only [Act.put, List.setIfInBounds_toArray, List.set_cons_zero, List.set_cons_succ, List.getElem_toArray, List.getElem_cons_zero, List.getElem_cons_succ]
  refine wpAnyH_ready (rs := [2]) (by kernel_rfl) (by simp) ?_
  refine AllReadyH.cons rfl (fun K hK => ?_) AllReadyH.nil
  go_simp
  refine (unhideI HFC).mono ?_
  rintro e w5 ⟨rfl, hb5⟩
  have hr2 := (hb5.block (w.heap.size + 1 + 1) (by show w.heap.size + 1 + 1 < U.heap.size; omega)).trans (unhideI HE2)
  have hr3 := (hb5.block (w.heap.size + 1 + 1 + 1) (by show w.heap.size + 1 + 1 + 1 < U.heap.size; omega)).trans (unhideI HE3)
  have hrl := (hb5.block Tl (by show Tl < U.heap.size; omega)).trans (unhideI HRL)
  have c0 := (cells_of_row hr2 0).trans rfl
  have c1 := (cells_of_row hr2 1).trans rfl
  have c2 := (cells_of_row hr2 2).trans rfl
  have c3 := (cells_of_row hr2 3).trans rfl
  have d0 := (cells_of_row hr3 0).trans rfl
  have d1 := (cells_of_row hr3 1).trans rfl
  have d2 := (cells_of_row hr3 2).trans rfl
  have d3 := (cells_of_row hr3 3).trans rfl
  have z0 := frozen_of_row _ _ 0 _ _ hr2
  have z1 := frozen_of_row _ _ 1 _ _ hr2
  have z2 := frozen_of_row _ _ 2 _ _ hr2
  have z3 := frozen_of_row _ _ 3 _ _ hr2
  have y0 := frozen_of_row _ _ 0 _ _ hr3
  have y1 := frozen_of_row _ _ 1 _ _ hr3
  have y2 := frozen_of_row _ _ 2 _ _ hr3
  have y3 := frozen_of_row _ _ 3 _ _ hr3
  have HR2 := hideI hr2
  have HR3 := hideI hr3
  have HRL5 := hideI hrl
  have HB6 := hideI (below_cut (unhideI HB5) (below_cut (Below.refl U.heap.size U).drew hb5 (Nat.le_refl _)) (by omega))
  have HLY3 := hideI ((unhideI HLY2).keep (below_cut (Below.refl U.heap.size U).drew hb5 (Nat.le_refl _)))
  clear hb5 hr2 hr3 hrl
  unfold flt
  go_wp2_with fail
  refine hK.out _ _ (show _ from ⟨(cells_of_row (unhideI HRL5) 0).trans rfl, (cells_of_row (unhideI HRL5) 1).trans rfl, (cells_of_row (unhideI HRL5) 2).trans rfl, (cells_of_row (unhideI HRL5) 3).trans rfl⟩) (fun hHeld2 => ?_)
  clear hK K
  try simp only [Act.put, List.setIfInBounds_toArray, List.set_cons_zero, List.set_cons_succ, List.getElem_toArray, List.getElem_cons_zero, List.getElem_cons_succ]
  refine wpAnyH_ready (rs := [3]) (by kernel_rfl) (by simp) ?_
  refine AllReadyH.cons rfl (fun K hK => ?_) AllReadyH.nil
  go_simp
  refine hK.out _ _ (show _ from ⟨(cells_of_row ((set4_oth _ _ _ _ _ _ _ (by omega)).trans (unhideI HRL5)) 0).trans rfl, (cells_of_row ((set4_oth _ _ _ _ _ _ _ (by omega)).trans (unhideI HRL5)) 1).trans rfl, (cells_of_row ((set4_oth _ _ _ _ _ _ _ (by omega)).trans (unhideI HRL5)) 2).trans rfl, (cells_of_row ((set4_oth _ _ _ _ _ _ _ (by omega)).trans (unhideI HRL5)) 3).trans rfl⟩) (fun hHeld2 => ?_)
  clear hK K
  try simp only [Act.put, List.setIfInBounds_toArray, List.set_cons_zero, List.set_cons_succ, List.getElem_toArray, List.getElem_cons_zero, List.getElem_cons_succ]
  refine wpAnyH_ready (rs := [4]) (by kernel_rfl) (by simp) ?_
  refine AllReadyH.cons rfl (fun K hK => ?_) AllReadyH.nil
  go_simp
  refine hK.out _ _ (show _ from ⟨(cells_of_row ((set4_oth _ _ _ _ _ _ _ (by omega)).trans ((set4_oth _ _ _ _ _ _ _ (by omega)).trans (unhideI HRL5))) 0).trans rfl, (cells_of_row ((set4_oth _ _ _ _ _ _ _ (by omega)).trans ((set4_oth _ _ _ _ _ _ _ (by omega)).trans (unhideI HRL5))) 1).trans rfl, (cells_of_row ((set4_oth _ _ _ _ _ _ _ (by omega)).trans ((set4_oth _ _ _ _ _ _ _ (by omega)).trans (unhideI HRL5))) 2).trans rfl, (cells_of_row ((set4_oth _ _ _ _ _ _ _ (by omega)).trans ((set4_oth _ _ _ _ _ _ _ (by omega)).trans (unhideI HRL5))) 3).trans rfl⟩) (fun hHeld2 => ?_)
  clear hK K
  try simp only [Act.put, List.setIfInBounds_toArray, List.set_cons_zero, List.set_cons_succ, List.getElem_toArray, List.getElem_cons_zero, List.getElem_cons_succ]
  refine wpAnyH_done (by kernel_rfl) ?_ _
  have htr := two_rows w5 (w.heap.size + 1 + 1) 33 35 (.slice ap an ac) (.slice rp rn rc) (.int .i64 le.size) (.int .i64 le.copies) (.int .i64 cn) (.int .i64 (-1)) (.int .i64 (-1)) (.int .i64 (-1)) _ _ _ _ _ _ _ _ (unhideI HR2) (unhideI HR3)
  clear c0 d0 z0 y0 c1 d1 z1 y1 c2 d2 z2 y2 c3 d3 z3 y3
  generalize World.setCell (World.setCell (World.setCell (World.setCell (World.setCell (World.setCell (World.setCell (World.setCell w5 _ _) _ _) _ _) _ _) _ _) _ _) _ _) _ _ = Z at htr ⊢
  obtain ⟨hq2, hq3, hq, hqs, hqo⟩ := htr
  have HQ2 := hideI hq2
  have HQ3 := hideI hq3
  have HQ := hideI hq
  have HQS := hideI hqs
  have HQO := hideI hqo
  clear hq2 hq3 hq hqs hqo
  go_wp2
  refine bodyPost_ret (results_cc (fn := Tryd.f6) (p := 4) (q := 5) (px := 33) (uy := 35) rfl _ _ (w.heap.size + 1 + 1) 33 #[.slice ap an ac, .slice rp rn rc, .int .i64 le.size, .int .i64 le.copies] (0, 0) _ (w.heap.size + 1 + 1 + 1) 35 #[.int .i64 cn, .int .i64 (-1), .int .i64 (-1), .int .i64 (-1)] (0, 0) _ rfl (unhideI HQ2) Tryd.underlying33 rfl (Tryd.infLyK.trans rfl) rfl (unhideI HQ3) Tryd.underlying35 rfl (Tryd.infPfK.trans rfl)) rfl ?_
  have h6 := unhideI HB6
  have h6z := h6.size
  have hqo := unhideI HQO
  have hqs := unhideI HQS
  refine ⟨.slice ap an ac, .slice rp rn rc, pvs, ?_, ?_, ⟨hqo.1.trans h6.os, hqo.2.1.trans h6.tape, hqo.2.2.trans h6.output, by omega, fun q hq9 => (unhideI HQ q (by omega) (by omega)).trans (h6.block q hq9)⟩⟩
  · rw [← unhideI HLE, ← unhideI HCN]
  · rw [← unhideI HLE]
    exact (unhideI HLY3).same (fun q hq9 => unhideI HQ q (by omega) (by omega)) (by omega)
end Go.Proofs.YtffemeicclhioaaDoor
