/-
 Checks: the fields of calls, by package program. Own work of the verifier.
-/
import Derived.Test.YtffemeicclhioaaGreatDoorPk
import Derived.Test.YtffemeicclhioaaGreatDoorCkK
namespace Go.Proofs.YtffemeicclhioaaGreatDoor
open Go.RowKit

set_option maxHeartbeats 4000000 in
set_option maxRecDepth 100000 in
theorem ff12_c : FfS 12 := by
 intro p f d a bb n fx gs os fv ev pv hv sv bv av ov A E B w hSC ha ho hF hn
 obtain ⟨pf, cf, pe, ce, pp, cp, ph, ch, ps, cs, pb, cb, pa, ca, po, co, rfl, rfl, rfl, rfl, rfl, rfl, rfl, rfl, ⟨hl1, hl2, hl3, hl4, hl5, hl6⟩, HSC, HA, HO, HW, HR1, HR2, HZ⟩ := ckPre 12 d a bb n fx hSC ha ho _ rfl
 have HF := Zac hF
 have HNN := Zac hn
 clear hSC ha ho hF hn
 go_enter Tryz.func76, Tryz.ntmps76
 go_wp2_with fail
 generalize World.alloc (World.alloc w _) _ = W at HSC HA HO HW HR1 HR2 HZ ⊢
 have hT := Zaa HZ
 cases hr : inB fx 0 (p.funcs.length - 1) with
 | false =>
  have HK := Zac (fun (V : World) (h : Below W.heap.size W V) => show Below W.heap.size W V ∧ V.cell? ⟨w.heap.size, 0, none⟩ = some (.slice pf p.funcs.length cf) ∧ V.cell? ⟨w.heap.size, 1, none⟩ = some (.slice pe p.externs.length ce) ∧ V.cell? ⟨w.heap.size, 2, none⟩ = some (.slice pp f.params.length cp) ∧ V.cell? ⟨w.heap.size, 3, none⟩ = some (.int .i64 f.results) ∧ V.cell? ⟨w.heap.size, 4, none⟩ = some (.slice ph f.homes.length ch) ∧ V.cell? ⟨w.heap.size, 5, none⟩ = some (.slice ps f.slots.length cs) ∧ V.cell? ⟨w.heap.size, 6, none⟩ = some (.slice pb f.blocks.length cb) ∧ V.cell? ⟨w.heap.size + 1, 0, none⟩ = some (.int .i64 12) ∧ V.cell? ⟨w.heap.size + 1, 1, none⟩ = some (.int .i64 d) ∧ V.cell? ⟨w.heap.size + 1, 2, none⟩ = some (.int .i64 a) ∧ V.cell? ⟨w.heap.size + 1, 3, none⟩ = some (.int .i64 bb) ∧ V.cell? ⟨w.heap.size + 1, 4, none⟩ = some (.int .u64 n) ∧ V.cell? ⟨w.heap.size + 1, 5, none⟩ = some (.int .i64 fx) ∧ V.cell? ⟨w.heap.size + 1, 6, none⟩ = some (.slice pa gs.length ca) ∧ V.cell? ⟨w.heap.size + 1, 7, none⟩ = some (.slice po os.length co) from ⟨h, (Zab ((h.block w.heap.size (by omega)).trans (Zaa HR1)) 0).trans rfl, (Zab ((h.block w.heap.size (by omega)).trans (Zaa HR1)) 1).trans rfl, (Zab ((h.block w.heap.size (by omega)).trans (Zaa HR1)) 2).trans rfl, (Zab ((h.block w.heap.size (by omega)).trans (Zaa HR1)) 3).trans rfl, (Zab ((h.block w.heap.size (by omega)).trans (Zaa HR1)) 4).trans rfl, (Zab ((h.block w.heap.size (by omega)).trans (Zaa HR1)) 5).trans rfl, (Zab ((h.block w.heap.size (by omega)).trans (Zaa HR1)) 6).trans rfl, (Zab ((h.block (w.heap.size + 1) (by omega)).trans (Zaa HR2)) 0).trans rfl, (Zab ((h.block (w.heap.size + 1) (by omega)).trans (Zaa HR2)) 1).trans rfl, (Zab ((h.block (w.heap.size + 1) (by omega)).trans (Zaa HR2)) 2).trans rfl, (Zab ((h.block (w.heap.size + 1) (by omega)).trans (Zaa HR2)) 3).trans rfl, (Zab ((h.block (w.heap.size + 1) (by omega)).trans (Zaa HR2)) 4).trans rfl, (Zab ((h.block (w.heap.size + 1) (by omega)).trans (Zaa HR2)) 5).trans rfl, (Zab ((h.block (w.heap.size + 1) (by omega)).trans (Zaa HR2)) 6).trans rfl, (Zab ((h.block (w.heap.size + 1) (by omega)).trans (Zaa HR2)) 7).trans rfl⟩)
  have HX := Zac (show Zai p f ⟨12, d, a, bb, n, fx, gs, os⟩ = false by unfold Zai; simp [hr])
  clear hT
  refine wp_region_held_drew (S := fun V => Below W.heap.size W V ∧ V.cell? ⟨w.heap.size, 0, none⟩ = some (.slice pf p.funcs.length cf) ∧ V.cell? ⟨w.heap.size, 1, none⟩ = some (.slice pe p.externs.length ce) ∧ V.cell? ⟨w.heap.size, 2, none⟩ = some (.slice pp f.params.length cp) ∧ V.cell? ⟨w.heap.size, 3, none⟩ = some (.int .i64 f.results) ∧ V.cell? ⟨w.heap.size, 4, none⟩ = some (.slice ph f.homes.length ch) ∧ V.cell? ⟨w.heap.size, 5, none⟩ = some (.slice ps f.slots.length cs) ∧ V.cell? ⟨w.heap.size, 6, none⟩ = some (.slice pb f.blocks.length cb) ∧ V.cell? ⟨w.heap.size + 1, 0, none⟩ = some (.int .i64 12) ∧ V.cell? ⟨w.heap.size + 1, 1, none⟩ = some (.int .i64 d) ∧ V.cell? ⟨w.heap.size + 1, 2, none⟩ = some (.int .i64 a) ∧ V.cell? ⟨w.heap.size + 1, 3, none⟩ = some (.int .i64 bb) ∧ V.cell? ⟨w.heap.size + 1, 4, none⟩ = some (.int .u64 n) ∧ V.cell? ⟨w.heap.size + 1, 5, none⟩ = some (.int .i64 fx) ∧ V.cell? ⟨w.heap.size + 1, 6, none⟩ = some (.slice pa gs.length ca) ∧ V.cell? ⟨w.heap.size + 1, 7, none⟩ = some (.slice po os.length co)) (by kernel_rfl) (Zaa HK _ (Below.refl _ _).drew) (fun hHeld => ?_)
  refine tT 0 ?v0 rfl (by kernel_rfl) (fun _ _ _ h => h) (by rfl) ?hy0 (by assumption) ?_
  case hy0 =>
   intro V hV
   try dsimp only at hV
   go_simp
   all_goals (with_reducible rfl)
  simp only [Act.put, zA, zB, zC, zD, zE]
  refine tT 1 ?v1 rfl (by kernel_rfl) (fun _ _ _ h => h) (by rfl) ?hy1 (by assumption) ?_
  case hy1 =>
   intro V hV
   try dsimp only at hV
   go_simp
   all_goals (with_reducible rfl)
  simp only [Act.put, zA, zB, zC, zD, zE, zF]
  refine tT 2 ?v2 rfl (by kernel_rfl) (fun _ _ _ h => h) (by rfl) ?hy2 (by assumption) ?_
  case hy2 =>
   intro V hV
   try dsimp only at hV
   go_simp
   all_goals (with_reducible rfl)
  simp only [Act.put, zA, zB, zC, zD, zE, zF]
  refine wpAnyH_ready (rs := [3]) (by kernel_rfl) (by simp) ?_
  refine AllReadyH.cons rfl (fun K hK => ?_) AllReadyH.nil
  go_simp
  refine (hasFunc_c p _ _ _ _ _ _ _ _ fx _ hl4).mono ?_
  rintro e w5 ⟨rfl, hb5⟩
  rw [hr]
  have HB5 := Zac (Zad (Below.refl W.heap.size W).drew hb5 (Nat.le_refl _))
  clear hb5
  go_wp2_with fail
  refine hK.out _ _ (Zaa HK _ (Zaa HB5)) (fun hHeld2 => ?_)
  clear hK K
  try simp only [Act.put, zA, zB, zC, zD, zE, zF]
  refine tT 4 ?v4 rfl (by kernel_rfl) (fun _ _ _ h => h) (by rfl) ?hy4 (by assumption) ?_
  case hy4 =>
   intro V hV
   try dsimp only at hV
   go_simp
   all_goals (with_reducible rfl)
  simp only [Act.put, zA, zB, zC, zD, zE, zF]
  refine tS 5 rfl (by kernel_rfl) (fun _ _ _ h => h) (by rfl) (by assumption) ?_
  simp only [Act.put, zA, zB, zC, zD, zE, zF]
  refine tS 6 rfl (by kernel_rfl) (fun _ _ _ h => h) (by rfl) (by assumption) ?_
  simp only [Act.put, zA, zB, zC, zD, zE, zF]
  refine tS 7 rfl (by kernel_rfl) (fun _ _ _ h => h) (by rfl) (by assumption) ?_
  simp only [Act.put, zA, zB, zC, zD, zE, zF]
  refine tS 8 rfl (by kernel_rfl) (fun _ _ _ h => h) (by rfl) (by assumption) ?_
  simp only [Act.put, zA, zB, zC, zD, zE, zF]
  refine tS 9 rfl (by kernel_rfl) (fun _ _ _ h => h) (by rfl) (by assumption) ?_
  simp only [Act.put, zA, zB, zC, zD, zE, zF]
  refine tS 10 rfl (by kernel_rfl) (fun _ _ _ h => h) (by rfl) (by assumption) ?_
  simp only [Act.put, zA, zB, zC, zD, zE, zF]
  refine tS 11 rfl (by kernel_rfl) (fun _ _ _ h => h) (by rfl) (by assumption) ?_
  simp only [Act.put, zA, zB, zC, zD, zE, zF]
  refine tS 12 rfl (by kernel_rfl) (fun _ _ _ h => h) (by rfl) (by assumption) ?_
  simp only [Act.put, zA, zB, zC, zD, zE, zF]
  refine tS 13 rfl (by kernel_rfl) (fun _ _ _ h => h) (by rfl) (by assumption) ?_
  simp only [Act.put, zA, zB, zC, zD, zE, zF]
  refine tS 14 rfl (by kernel_rfl) (fun _ _ _ h => h) (by rfl) (by assumption) ?_
  simp only [Act.put, zA, zB, zC, zD, zE, zF]
  refine tS 15 rfl (by kernel_rfl) (fun _ _ _ h => h) (by rfl) (by assumption) ?_
  simp only [Act.put, zA, zB, zC, zD, zE, zF]
  refine tT 16 ?v16 rfl (by kernel_rfl) (fun _ _ _ h => h) (by rfl) ?hy16 (by assumption) ?_
  case hy16 =>
   intro V hV
   try dsimp only at hV
   go_simp
   all_goals (with_reducible rfl)
  simp only [Act.put, zA, zB, zC, zD, zE, zF]
  refine tT 17 ?v17 rfl (by kernel_rfl) (fun _ _ _ h => h) (by rfl) ?hy17 (by assumption) ?_
  case hy17 =>
   intro V hV
   try dsimp only at hV
   go_simp
   all_goals (with_reducible rfl)
  simp only [Act.put, zA, zB, zC, zD, zE, zF]
  refine wpAnyH_done (by kernel_rfl) ?_ _
  clear hr
  go_wp2
  go_ret
  exact ⟨by rw [Zaa HX]; rfl, Zad (Zaa HW) (Zaa HB5) (by have := Zaa HZ; omega)⟩
 | true =>
  unfold inB at hr
  obtain ⟨g0, g1⟩ := of_decide_eq_true hr
  obtain ⟨m, rfl⟩ : ∃ m : Nat, fx = m := ⟨fx.toNat, by omega⟩
  have hm : m < p.funcs.length := by omega
  obtain ⟨p', cap', he, -, -, hcc⟩ := (Zaa HSC).prog.fs
  injection he with e1 e2 e3
  subst e1 e3
  obtain ⟨sb, so, rfl, hsbl, hc⟩ := hcc (by omega)
  have hel := hc m hm
  have hfc := (Zaa HSC).prog.feach m hm
  have hgd : p.funcs[m] = p.funcs.getD m Zaj := by simp [List.getD, hm]
  rw [hgd] at hfc
  have hg8 := (Zaa HF).funcs m hm
  have HX := Zac (show Zai p f ⟨12, d, a, bb, n, m, gs, os⟩ = (callB f ⟨12, d, a, bb, n, m, gs, os⟩ (sigE (p.funcs.getD m Zaj))) by unfold Zai inB; simp only [Int.toNat_natCast]; simp; omega)
  generalize p.funcs.getD m Zaj = g at hfc hg8 HX
  obtain ⟨gv, hg, sg, bg, Bg, hA, hfd⟩ := hfc
  have HFD := Zac hfd
  obtain ⟨gp, gc, rfl⟩ := hfd.ps.shape
  rw [hA] at hel
  have e0 := hel 0 _ rfl
  have e1 := hel 1 _ rfl
  have e2 := hel 2 _ rfl
  have e3 := hel 3 _ rfl
  have e4 := hel 4 _ rfl
  rw [Nat.add_zero] at e0
  have HK := Zac (fun (V : World) (h : Below W.heap.size W V) => show Below W.heap.size W V ∧ V.cell? ⟨w.heap.size, 0, none⟩ = some (.slice (some ⟨sb, so, none⟩) p.funcs.length cf) ∧ V.cell? ⟨w.heap.size, 1, none⟩ = some (.slice pe p.externs.length ce) ∧ V.cell? ⟨w.heap.size, 2, none⟩ = some (.slice pp f.params.length cp) ∧ V.cell? ⟨w.heap.size, 3, none⟩ = some (.int .i64 f.results) ∧ V.cell? ⟨w.heap.size, 4, none⟩ = some (.slice ph f.homes.length ch) ∧ V.cell? ⟨w.heap.size, 5, none⟩ = some (.slice ps f.slots.length cs) ∧ V.cell? ⟨w.heap.size, 6, none⟩ = some (.slice pb f.blocks.length cb) ∧ V.cell? ⟨w.heap.size + 1, 0, none⟩ = some (.int .i64 12) ∧ V.cell? ⟨w.heap.size + 1, 1, none⟩ = some (.int .i64 d) ∧ V.cell? ⟨w.heap.size + 1, 2, none⟩ = some (.int .i64 a) ∧ V.cell? ⟨w.heap.size + 1, 3, none⟩ = some (.int .i64 bb) ∧ V.cell? ⟨w.heap.size + 1, 4, none⟩ = some (.int .u64 n) ∧ V.cell? ⟨w.heap.size + 1, 5, none⟩ = some (.int .i64 ↑m) ∧ V.cell? ⟨w.heap.size + 1, 6, none⟩ = some (.slice pa gs.length ca) ∧ V.cell? ⟨w.heap.size + 1, 7, none⟩ = some (.slice po os.length co) ∧ V.cell? ⟨sb, so + m * 5, none⟩ = some (.slice gp g.params.length gc) ∧ V.cell? ⟨sb, so + m * 5 + 1, none⟩ = some (.int .i64 g.results) ∧ V.cell? ⟨sb, so + m * 5 + 2, none⟩ = some (hg) ∧ V.cell? ⟨sb, so + m * 5 + 3, none⟩ = some (sg) ∧ V.cell? ⟨sb, so + m * 5 + 4, none⟩ = some (bg) from ⟨h, (Zab ((h.block w.heap.size (by omega)).trans (Zaa HR1)) 0).trans rfl, (Zab ((h.block w.heap.size (by omega)).trans (Zaa HR1)) 1).trans rfl, (Zab ((h.block w.heap.size (by omega)).trans (Zaa HR1)) 2).trans rfl, (Zab ((h.block w.heap.size (by omega)).trans (Zaa HR1)) 3).trans rfl, (Zab ((h.block w.heap.size (by omega)).trans (Zaa HR1)) 4).trans rfl, (Zab ((h.block w.heap.size (by omega)).trans (Zaa HR1)) 5).trans rfl, (Zab ((h.block w.heap.size (by omega)).trans (Zaa HR1)) 6).trans rfl, (Zab ((h.block (w.heap.size + 1) (by omega)).trans (Zaa HR2)) 0).trans rfl, (Zab ((h.block (w.heap.size + 1) (by omega)).trans (Zaa HR2)) 1).trans rfl, (Zab ((h.block (w.heap.size + 1) (by omega)).trans (Zaa HR2)) 2).trans rfl, (Zab ((h.block (w.heap.size + 1) (by omega)).trans (Zaa HR2)) 3).trans rfl, (Zab ((h.block (w.heap.size + 1) (by omega)).trans (Zaa HR2)) 4).trans rfl, (Zab ((h.block (w.heap.size + 1) (by omega)).trans (Zaa HR2)) 5).trans rfl, (Zab ((h.block (w.heap.size + 1) (by omega)).trans (Zaa HR2)) 6).trans rfl, (Zab ((h.block (w.heap.size + 1) (by omega)).trans (Zaa HR2)) 7).trans rfl, (h.cell hsbl).trans e0, (h.cell hsbl).trans e1, (h.cell hsbl).trans e2, (h.cell hsbl).trans e3, (h.cell hsbl).trans e4⟩)
  have HFU := Zac (fun V fv ev pv r hv sv bv => hasFunc_c p ev pv hv sv bv fv cf r (m : Int) V hl4)
  have hin : inB (m : Int) 0 (p.funcs.length - 1) = true := by unfold inB; simp; omega
  rw [hin] at HFU
  clear hT hr hin hfd hel e0 e1 e2 e3 e4 hcc hc hgd g0 g1 hA
  go_region_held3 (fun V => Below W.heap.size W V ∧ V.cell? ⟨w.heap.size, 0, none⟩ = some (.slice (some ⟨sb, so, none⟩) p.funcs.length cf) ∧ V.cell? ⟨w.heap.size, 1, none⟩ = some (.slice pe p.externs.length ce) ∧ V.cell? ⟨w.heap.size, 2, none⟩ = some (.slice pp f.params.length cp) ∧ V.cell? ⟨w.heap.size, 3, none⟩ = some (.int .i64 f.results) ∧ V.cell? ⟨w.heap.size, 4, none⟩ = some (.slice ph f.homes.length ch) ∧ V.cell? ⟨w.heap.size, 5, none⟩ = some (.slice ps f.slots.length cs) ∧ V.cell? ⟨w.heap.size, 6, none⟩ = some (.slice pb f.blocks.length cb) ∧ V.cell? ⟨w.heap.size + 1, 0, none⟩ = some (.int .i64 12) ∧ V.cell? ⟨w.heap.size + 1, 1, none⟩ = some (.int .i64 d) ∧ V.cell? ⟨w.heap.size + 1, 2, none⟩ = some (.int .i64 a) ∧ V.cell? ⟨w.heap.size + 1, 3, none⟩ = some (.int .i64 bb) ∧ V.cell? ⟨w.heap.size + 1, 4, none⟩ = some (.int .u64 n) ∧ V.cell? ⟨w.heap.size + 1, 5, none⟩ = some (.int .i64 ↑m) ∧ V.cell? ⟨w.heap.size + 1, 6, none⟩ = some (.slice pa gs.length ca) ∧ V.cell? ⟨w.heap.size + 1, 7, none⟩ = some (.slice po os.length co) ∧ V.cell? ⟨sb, so + m * 5, none⟩ = some (.slice gp g.params.length gc) ∧ V.cell? ⟨sb, so + m * 5 + 1, none⟩ = some (.int .i64 g.results) ∧ V.cell? ⟨sb, so + m * 5 + 2, none⟩ = some (hg) ∧ V.cell? ⟨sb, so + m * 5 + 3, none⟩ = some (sg) ∧ V.cell? ⟨sb, so + m * 5 + 4, none⟩ = some (bg)) ((first | exact Zaa HK _ (Zaa HB7) | exact Zaa HK _ (Zaa HB6) | exact Zaa HK _ (Zaa HB5) | exact Zaa HK _ (Below.refl _ _).drew)) ((first | (go_at_call 83; refine (Zaa HFU _ _ _ _ _ _ _ _).mono ?_; rintro e w5 ⟨rfl, hb5⟩; have HB5 := Zac (Zad (Below.refl W.heap.size W).drew hb5 (Nat.le_refl _)); clear hb5) | (go_at_call 56; refine (sigP_c g _ _ _ _ _ ((Zaa HFD).below (Zaa HB5)).ps (by omega)).mono ?_; rintro e w6 ⟨v6, rfl, hv6, hb6⟩; have HB6 := Zac (Zad (Zaa HB5) hb6 (Zaa HB5).size); have HV6 := Zac hv6; clear hb6 hv6) | (go_at_call 84; refine (callFits_c f ⟨12, d, a, bb, n, m, gs, os⟩ (sigE g) _ _ _ _ _ _ _ _ _ _ ((Zaa HSC).below (Zaa HB6)).func.hs ((Zaa HSC).below (Zaa HB6)).func.ss ((Zaa HA).below (Zaa HB6)) ((Zaa HO).below (Zaa HB6)) (Zaa HV6) (by have := hg8.2; show g.results ≤ _; omega)).mono ?_; rintro e w7 ⟨rfl, hb7⟩; have HB7 := Zac (Zad (Zaa HB6) hb7 (Zaa HB6).size); clear hb7)))
  all_goals (
   go_wp2
   go_ret
   exact ⟨by rw [Zaa HX]; rfl, Zad (Zaa HW) (Zaa HB7) (by have := Zaa HZ; omega)⟩)
set_option maxHeartbeats 4000000 in
set_option maxRecDepth 100000 in
theorem ff17_c : FfS 17 := by
 intro p f d a bb n fx gs os fv ev pv hv sv bv av ov A E B w hSC ha ho hF hn
 obtain ⟨pf, cf, pe, ce, pp, cp, ph, ch, ps, cs, pb, cb, pa, ca, po, co, rfl, rfl, rfl, rfl, rfl, rfl, rfl, rfl, ⟨hl1, hl2, hl3, hl4, hl5, hl6⟩, HSC, HA, HO, HW, HR1, HR2, HZ⟩ := ckPre 17 d a bb n fx hSC ha ho _ rfl
 have HF := Zac hF
 have HNN := Zac hn
 clear hSC ha ho hF hn
 go_enter Tryz.func76, Tryz.ntmps76
 go_wp2_with fail
 generalize World.alloc (World.alloc w _) _ = W at HSC HA HO HW HR1 HR2 HZ ⊢
 have hT := Zaa HZ
 cases hr : inB fx 0 (p.funcs.length - 1) with
 | false =>
  have HK := Zac (fun (V : World) (h : Below W.heap.size W V) => show Below W.heap.size W V ∧ V.cell? ⟨w.heap.size, 0, none⟩ = some (.slice pf p.funcs.length cf) ∧ V.cell? ⟨w.heap.size, 1, none⟩ = some (.slice pe p.externs.length ce) ∧ V.cell? ⟨w.heap.size, 2, none⟩ = some (.slice pp f.params.length cp) ∧ V.cell? ⟨w.heap.size, 3, none⟩ = some (.int .i64 f.results) ∧ V.cell? ⟨w.heap.size, 4, none⟩ = some (.slice ph f.homes.length ch) ∧ V.cell? ⟨w.heap.size, 5, none⟩ = some (.slice ps f.slots.length cs) ∧ V.cell? ⟨w.heap.size, 6, none⟩ = some (.slice pb f.blocks.length cb) ∧ V.cell? ⟨w.heap.size + 1, 0, none⟩ = some (.int .i64 17) ∧ V.cell? ⟨w.heap.size + 1, 1, none⟩ = some (.int .i64 d) ∧ V.cell? ⟨w.heap.size + 1, 2, none⟩ = some (.int .i64 a) ∧ V.cell? ⟨w.heap.size + 1, 3, none⟩ = some (.int .i64 bb) ∧ V.cell? ⟨w.heap.size + 1, 4, none⟩ = some (.int .u64 n) ∧ V.cell? ⟨w.heap.size + 1, 5, none⟩ = some (.int .i64 fx) ∧ V.cell? ⟨w.heap.size + 1, 6, none⟩ = some (.slice pa gs.length ca) ∧ V.cell? ⟨w.heap.size + 1, 7, none⟩ = some (.slice po os.length co) from ⟨h, (Zab ((h.block w.heap.size (by omega)).trans (Zaa HR1)) 0).trans rfl, (Zab ((h.block w.heap.size (by omega)).trans (Zaa HR1)) 1).trans rfl, (Zab ((h.block w.heap.size (by omega)).trans (Zaa HR1)) 2).trans rfl, (Zab ((h.block w.heap.size (by omega)).trans (Zaa HR1)) 3).trans rfl, (Zab ((h.block w.heap.size (by omega)).trans (Zaa HR1)) 4).trans rfl, (Zab ((h.block w.heap.size (by omega)).trans (Zaa HR1)) 5).trans rfl, (Zab ((h.block w.heap.size (by omega)).trans (Zaa HR1)) 6).trans rfl, (Zab ((h.block (w.heap.size + 1) (by omega)).trans (Zaa HR2)) 0).trans rfl, (Zab ((h.block (w.heap.size + 1) (by omega)).trans (Zaa HR2)) 1).trans rfl, (Zab ((h.block (w.heap.size + 1) (by omega)).trans (Zaa HR2)) 2).trans rfl, (Zab ((h.block (w.heap.size + 1) (by omega)).trans (Zaa HR2)) 3).trans rfl, (Zab ((h.block (w.heap.size + 1) (by omega)).trans (Zaa HR2)) 4).trans rfl, (Zab ((h.block (w.heap.size + 1) (by omega)).trans (Zaa HR2)) 5).trans rfl, (Zab ((h.block (w.heap.size + 1) (by omega)).trans (Zaa HR2)) 6).trans rfl, (Zab ((h.block (w.heap.size + 1) (by omega)).trans (Zaa HR2)) 7).trans rfl⟩)
  have HX := Zac (show Zai p f ⟨17, d, a, bb, n, fx, gs, os⟩ = false by unfold Zai; simp [hr])
  clear hT
  refine wp_region_held_drew (S := fun V => Below W.heap.size W V ∧ V.cell? ⟨w.heap.size, 0, none⟩ = some (.slice pf p.funcs.length cf) ∧ V.cell? ⟨w.heap.size, 1, none⟩ = some (.slice pe p.externs.length ce) ∧ V.cell? ⟨w.heap.size, 2, none⟩ = some (.slice pp f.params.length cp) ∧ V.cell? ⟨w.heap.size, 3, none⟩ = some (.int .i64 f.results) ∧ V.cell? ⟨w.heap.size, 4, none⟩ = some (.slice ph f.homes.length ch) ∧ V.cell? ⟨w.heap.size, 5, none⟩ = some (.slice ps f.slots.length cs) ∧ V.cell? ⟨w.heap.size, 6, none⟩ = some (.slice pb f.blocks.length cb) ∧ V.cell? ⟨w.heap.size + 1, 0, none⟩ = some (.int .i64 17) ∧ V.cell? ⟨w.heap.size + 1, 1, none⟩ = some (.int .i64 d) ∧ V.cell? ⟨w.heap.size + 1, 2, none⟩ = some (.int .i64 a) ∧ V.cell? ⟨w.heap.size + 1, 3, none⟩ = some (.int .i64 bb) ∧ V.cell? ⟨w.heap.size + 1, 4, none⟩ = some (.int .u64 n) ∧ V.cell? ⟨w.heap.size + 1, 5, none⟩ = some (.int .i64 fx) ∧ V.cell? ⟨w.heap.size + 1, 6, none⟩ = some (.slice pa gs.length ca) ∧ V.cell? ⟨w.heap.size + 1, 7, none⟩ = some (.slice po os.length co)) (by kernel_rfl) (Zaa HK _ (Below.refl _ _).drew) (fun hHeld => ?_)
  refine tT 0 ?v0 rfl (by kernel_rfl) (fun _ _ _ h => h) (by rfl) ?hy0 (by assumption) ?_
  case hy0 =>
   intro V hV
   try dsimp only at hV
   go_simp
   all_goals (with_reducible rfl)
  simp only [Act.put, zA, zB, zC, zD, zE]
  refine tT 1 ?v1 rfl (by kernel_rfl) (fun _ _ _ h => h) (by rfl) ?hy1 (by assumption) ?_
  case hy1 =>
   intro V hV
   try dsimp only at hV
   go_simp
   all_goals (with_reducible rfl)
  simp only [Act.put, zA, zB, zC, zD, zE, zF]
  refine tT 2 ?v2 rfl (by kernel_rfl) (fun _ _ _ h => h) (by rfl) ?hy2 (by assumption) ?_
  case hy2 =>
   intro V hV
   try dsimp only at hV
   go_simp
   all_goals (with_reducible rfl)
  simp only [Act.put, zA, zB, zC, zD, zE, zF]
  refine wpAnyH_ready (rs := [3]) (by kernel_rfl) (by simp) ?_
  refine AllReadyH.cons rfl (fun K hK => ?_) AllReadyH.nil
  go_simp
  refine (hasFunc_c p _ _ _ _ _ _ _ _ fx _ hl4).mono ?_
  rintro e w5 ⟨rfl, hb5⟩
  rw [hr]
  have HB5 := Zac (Zad (Below.refl W.heap.size W).drew hb5 (Nat.le_refl _))
  clear hb5
  go_wp2_with fail
  refine hK.out _ _ (Zaa HK _ (Zaa HB5)) (fun hHeld2 => ?_)
  clear hK K
  try simp only [Act.put, zA, zB, zC, zD, zE, zF]
  refine tT 4 ?v4 rfl (by kernel_rfl) (fun _ _ _ h => h) (by rfl) ?hy4 (by assumption) ?_
  case hy4 =>
   intro V hV
   try dsimp only at hV
   go_simp
   all_goals (with_reducible rfl)
  simp only [Act.put, zA, zB, zC, zD, zE, zF]
  refine tS 5 rfl (by kernel_rfl) (fun _ _ _ h => h) (by rfl) (by assumption) ?_
  simp only [Act.put, zA, zB, zC, zD, zE, zF]
  refine tS 6 rfl (by kernel_rfl) (fun _ _ _ h => h) (by rfl) (by assumption) ?_
  simp only [Act.put, zA, zB, zC, zD, zE, zF]
  refine tS 7 rfl (by kernel_rfl) (fun _ _ _ h => h) (by rfl) (by assumption) ?_
  simp only [Act.put, zA, zB, zC, zD, zE, zF]
  refine tS 8 rfl (by kernel_rfl) (fun _ _ _ h => h) (by rfl) (by assumption) ?_
  simp only [Act.put, zA, zB, zC, zD, zE, zF]
  refine tS 9 rfl (by kernel_rfl) (fun _ _ _ h => h) (by rfl) (by assumption) ?_
  simp only [Act.put, zA, zB, zC, zD, zE, zF]
  refine tS 10 rfl (by kernel_rfl) (fun _ _ _ h => h) (by rfl) (by assumption) ?_
  simp only [Act.put, zA, zB, zC, zD, zE, zF]
  refine tS 11 rfl (by kernel_rfl) (fun _ _ _ h => h) (by rfl) (by assumption) ?_
  simp only [Act.put, zA, zB, zC, zD, zE, zF]
  refine tS 12 rfl (by kernel_rfl) (fun _ _ _ h => h) (by rfl) (by assumption) ?_
  simp only [Act.put, zA, zB, zC, zD, zE, zF]
  refine tS 13 rfl (by kernel_rfl) (fun _ _ _ h => h) (by rfl) (by assumption) ?_
  simp only [Act.put, zA, zB, zC, zD, zE, zF]
  refine tS 14 rfl (by kernel_rfl) (fun _ _ _ h => h) (by rfl) (by assumption) ?_
  simp only [Act.put, zA, zB, zC, zD, zE, zF]
  refine tS 15 rfl (by kernel_rfl) (fun _ _ _ h => h) (by rfl) (by assumption) ?_
  simp only [Act.put, zA, zB, zC, zD, zE, zF]
  refine tT 16 ?v16 rfl (by kernel_rfl) (fun _ _ _ h => h) (by rfl) ?hy16 (by assumption) ?_
  case hy16 =>
   intro V hV
   try dsimp only at hV
   go_simp
   all_goals (with_reducible rfl)
  simp only [Act.put, zA, zB, zC, zD, zE, zF]
  refine tT 17 ?v17 rfl (by kernel_rfl) (fun _ _ _ h => h) (by rfl) ?hy17 (by assumption) ?_
  case hy17 =>
   intro V hV
   try dsimp only at hV
   go_simp
   all_goals (with_reducible rfl)
  simp only [Act.put, zA, zB, zC, zD, zE, zF]
  refine wpAnyH_done (by kernel_rfl) ?_ _
  clear hr
  go_wp2
  go_ret
  exact ⟨by rw [Zaa HX]; rfl, Zad (Zaa HW) (Zaa HB5) (by have := Zaa HZ; omega)⟩
 | true =>
  unfold inB at hr
  obtain ⟨g0, g1⟩ := of_decide_eq_true hr
  obtain ⟨m, rfl⟩ : ∃ m : Nat, fx = m := ⟨fx.toNat, by omega⟩
  have hm : m < p.funcs.length := by omega
  obtain ⟨p', cap', he, -, -, hcc⟩ := (Zaa HSC).prog.fs
  injection he with e1 e2 e3
  subst e1 e3
  obtain ⟨sb, so, rfl, hsbl, hc⟩ := hcc (by omega)
  have hel := hc m hm
  have hfc := (Zaa HSC).prog.feach m hm
  have hgd : p.funcs[m] = p.funcs.getD m Zaj := by simp [List.getD, hm]
  rw [hgd] at hfc
  have hg8 := (Zaa HF).funcs m hm
  have HX := Zac (show Zai p f ⟨17, d, a, bb, n, m, gs, os⟩ = (tailB f ⟨17, d, a, bb, n, m, gs, os⟩ (sigE (p.funcs.getD m Zaj))) by unfold Zai inB; simp only [Int.toNat_natCast]; simp; omega)
  generalize p.funcs.getD m Zaj = g at hfc hg8 HX
  obtain ⟨gv, hg, sg, bg, Bg, hA, hfd⟩ := hfc
  have HFD := Zac hfd
  obtain ⟨gp, gc, rfl⟩ := hfd.ps.shape
  rw [hA] at hel
  have e0 := hel 0 _ rfl
  have e1 := hel 1 _ rfl
  have e2 := hel 2 _ rfl
  have e3 := hel 3 _ rfl
  have e4 := hel 4 _ rfl
  rw [Nat.add_zero] at e0
  have HK := Zac (fun (V : World) (h : Below W.heap.size W V) => show Below W.heap.size W V ∧ V.cell? ⟨w.heap.size, 0, none⟩ = some (.slice (some ⟨sb, so, none⟩) p.funcs.length cf) ∧ V.cell? ⟨w.heap.size, 1, none⟩ = some (.slice pe p.externs.length ce) ∧ V.cell? ⟨w.heap.size, 2, none⟩ = some (.slice pp f.params.length cp) ∧ V.cell? ⟨w.heap.size, 3, none⟩ = some (.int .i64 f.results) ∧ V.cell? ⟨w.heap.size, 4, none⟩ = some (.slice ph f.homes.length ch) ∧ V.cell? ⟨w.heap.size, 5, none⟩ = some (.slice ps f.slots.length cs) ∧ V.cell? ⟨w.heap.size, 6, none⟩ = some (.slice pb f.blocks.length cb) ∧ V.cell? ⟨w.heap.size + 1, 0, none⟩ = some (.int .i64 17) ∧ V.cell? ⟨w.heap.size + 1, 1, none⟩ = some (.int .i64 d) ∧ V.cell? ⟨w.heap.size + 1, 2, none⟩ = some (.int .i64 a) ∧ V.cell? ⟨w.heap.size + 1, 3, none⟩ = some (.int .i64 bb) ∧ V.cell? ⟨w.heap.size + 1, 4, none⟩ = some (.int .u64 n) ∧ V.cell? ⟨w.heap.size + 1, 5, none⟩ = some (.int .i64 ↑m) ∧ V.cell? ⟨w.heap.size + 1, 6, none⟩ = some (.slice pa gs.length ca) ∧ V.cell? ⟨w.heap.size + 1, 7, none⟩ = some (.slice po os.length co) ∧ V.cell? ⟨sb, so + m * 5, none⟩ = some (.slice gp g.params.length gc) ∧ V.cell? ⟨sb, so + m * 5 + 1, none⟩ = some (.int .i64 g.results) ∧ V.cell? ⟨sb, so + m * 5 + 2, none⟩ = some (hg) ∧ V.cell? ⟨sb, so + m * 5 + 3, none⟩ = some (sg) ∧ V.cell? ⟨sb, so + m * 5 + 4, none⟩ = some (bg) from ⟨h, (Zab ((h.block w.heap.size (by omega)).trans (Zaa HR1)) 0).trans rfl, (Zab ((h.block w.heap.size (by omega)).trans (Zaa HR1)) 1).trans rfl, (Zab ((h.block w.heap.size (by omega)).trans (Zaa HR1)) 2).trans rfl, (Zab ((h.block w.heap.size (by omega)).trans (Zaa HR1)) 3).trans rfl, (Zab ((h.block w.heap.size (by omega)).trans (Zaa HR1)) 4).trans rfl, (Zab ((h.block w.heap.size (by omega)).trans (Zaa HR1)) 5).trans rfl, (Zab ((h.block w.heap.size (by omega)).trans (Zaa HR1)) 6).trans rfl, (Zab ((h.block (w.heap.size + 1) (by omega)).trans (Zaa HR2)) 0).trans rfl, (Zab ((h.block (w.heap.size + 1) (by omega)).trans (Zaa HR2)) 1).trans rfl, (Zab ((h.block (w.heap.size + 1) (by omega)).trans (Zaa HR2)) 2).trans rfl, (Zab ((h.block (w.heap.size + 1) (by omega)).trans (Zaa HR2)) 3).trans rfl, (Zab ((h.block (w.heap.size + 1) (by omega)).trans (Zaa HR2)) 4).trans rfl, (Zab ((h.block (w.heap.size + 1) (by omega)).trans (Zaa HR2)) 5).trans rfl, (Zab ((h.block (w.heap.size + 1) (by omega)).trans (Zaa HR2)) 6).trans rfl, (Zab ((h.block (w.heap.size + 1) (by omega)).trans (Zaa HR2)) 7).trans rfl, (h.cell hsbl).trans e0, (h.cell hsbl).trans e1, (h.cell hsbl).trans e2, (h.cell hsbl).trans e3, (h.cell hsbl).trans e4⟩)
  have HFU := Zac (fun V fv ev pv r hv sv bv => hasFunc_c p ev pv hv sv bv fv cf r (m : Int) V hl4)
  have hin : inB (m : Int) 0 (p.funcs.length - 1) = true := by unfold inB; simp; omega
  rw [hin] at HFU
  clear hT hr hin hfd hel e0 e1 e2 e3 e4 hcc hc hgd g0 g1 hA
  go_region_held3 (fun V => Below W.heap.size W V ∧ V.cell? ⟨w.heap.size, 0, none⟩ = some (.slice (some ⟨sb, so, none⟩) p.funcs.length cf) ∧ V.cell? ⟨w.heap.size, 1, none⟩ = some (.slice pe p.externs.length ce) ∧ V.cell? ⟨w.heap.size, 2, none⟩ = some (.slice pp f.params.length cp) ∧ V.cell? ⟨w.heap.size, 3, none⟩ = some (.int .i64 f.results) ∧ V.cell? ⟨w.heap.size, 4, none⟩ = some (.slice ph f.homes.length ch) ∧ V.cell? ⟨w.heap.size, 5, none⟩ = some (.slice ps f.slots.length cs) ∧ V.cell? ⟨w.heap.size, 6, none⟩ = some (.slice pb f.blocks.length cb) ∧ V.cell? ⟨w.heap.size + 1, 0, none⟩ = some (.int .i64 17) ∧ V.cell? ⟨w.heap.size + 1, 1, none⟩ = some (.int .i64 d) ∧ V.cell? ⟨w.heap.size + 1, 2, none⟩ = some (.int .i64 a) ∧ V.cell? ⟨w.heap.size + 1, 3, none⟩ = some (.int .i64 bb) ∧ V.cell? ⟨w.heap.size + 1, 4, none⟩ = some (.int .u64 n) ∧ V.cell? ⟨w.heap.size + 1, 5, none⟩ = some (.int .i64 ↑m) ∧ V.cell? ⟨w.heap.size + 1, 6, none⟩ = some (.slice pa gs.length ca) ∧ V.cell? ⟨w.heap.size + 1, 7, none⟩ = some (.slice po os.length co) ∧ V.cell? ⟨sb, so + m * 5, none⟩ = some (.slice gp g.params.length gc) ∧ V.cell? ⟨sb, so + m * 5 + 1, none⟩ = some (.int .i64 g.results) ∧ V.cell? ⟨sb, so + m * 5 + 2, none⟩ = some (hg) ∧ V.cell? ⟨sb, so + m * 5 + 3, none⟩ = some (sg) ∧ V.cell? ⟨sb, so + m * 5 + 4, none⟩ = some (bg)) ((first | exact Zaa HK _ (Zaa HB7) | exact Zaa HK _ (Zaa HB6) | exact Zaa HK _ (Zaa HB5) | exact Zaa HK _ (Below.refl _ _).drew)) ((first | (go_at_call 83; refine (Zaa HFU _ _ _ _ _ _ _ _).mono ?_; rintro e w5 ⟨rfl, hb5⟩; have HB5 := Zac (Zad (Below.refl W.heap.size W).drew hb5 (Nat.le_refl _)); clear hb5) | (go_at_call 56; refine (sigP_c g _ _ _ _ _ ((Zaa HFD).below (Zaa HB5)).ps (by omega)).mono ?_; rintro e w6 ⟨v6, rfl, hv6, hb6⟩; have HB6 := Zac (Zad (Zaa HB5) hb6 (Zaa HB5).size); have HV6 := Zac hv6; clear hb6 hv6) | (go_at_call 86; refine (tailFits_c f ⟨17, d, a, bb, n, m, gs, os⟩ (sigE g) _ _ _ _ _ _ _ _ _ _ ((Zaa HSC).below (Zaa HB6)).func.hs ((Zaa HSC).below (Zaa HB6)).func.ss ((Zaa HA).below (Zaa HB6)) ((Zaa HO).below (Zaa HB6)) (Zaa HV6)).mono ?_; rintro e w7 ⟨rfl, hb7⟩; have HB7 := Zac (Zad (Zaa HB6) hb7 (Zaa HB6).size); clear hb7)))
  all_goals (
   go_wp2
   go_ret
   exact ⟨by rw [Zaa HX]; rfl, Zad (Zaa HW) (Zaa HB7) (by have := Zaa HZ; omega)⟩)
end Go.Proofs.YtffemeicclhioaaGreatDoor

