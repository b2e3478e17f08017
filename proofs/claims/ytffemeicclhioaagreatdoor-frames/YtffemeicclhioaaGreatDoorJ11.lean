/-
  Own work of the verifier: CkM, CkN, CkO, CkP, as one text.
-/
import Derived.Test.YtffemeicclhioaaGreatDoorPk
import Derived.Test.YtffemeicclhioaaGreatDoorCkL
import Derived.Test.YtffemeicclhioaaGreatDoorJ3
namespace Go.Proofs.YtffemeicclhioaaGreatDoor
open Go.RowKit

set_option maxHeartbeats 4000000 in
set_option maxRecDepth 100000 in
theorem ff13_c : FfS 13 := by
 intro p f d a bb n fx gs os fv ev pv hv sv bv av ov A E B w hSC ha ho hF hn
 obtain ⟨pf, cf, pe, ce, pp, cp, ph, ch, ps, cs, pb, cb, pa, ca, po, co, rfl, rfl, rfl, rfl, rfl, rfl, rfl, rfl, ⟨hl1, hl2, hl3, hl4, hl5, hl6⟩, HSC, HA, HO, HW, HR1, HR2, HZ⟩ := ckPre 13 d a bb n fx hSC ha ho _ rfl
 have HF := Zac hF
 have HNN := Zac hn
 clear hSC ha ho hF hn
 go_enter Tryz.func76, Tryz.ntmps76
 go_wp2_with fail
 generalize World.alloc (World.alloc w _) _ = W at HSC HA HO HW HR1 HR2 HZ ⊢
 have hT := Zaa HZ
 cases hr : inB fx 0 (p.externs.length - 1) with
 | false =>
  have HX := Zac (show Zai p f ⟨13, d, a, bb, n, fx, gs, os⟩ = false by unfold Zai; simp [hr])
  have HWI := Zac (fun V => isWithin_c fx 0 (p.externs.length - 1) V)
  rw [hr] at HWI
  have s1 := (Zab (Zaa HR1) 1).trans rfl
  have i5 := (Zab (Zaa HR2) 5).trans rfl
  clear hT hr
  go_quiet ((go_at_call 54; exact Calls.quiet_of_same (Zaa HWI _)))
  go_wp2
  go_ret
  exact ⟨by rw [Zaa HX]; rfl, Zah (Zaa HW) _⟩
 | true =>
  unfold inB at hr
  obtain ⟨g0, g1⟩ := of_decide_eq_true hr
  obtain ⟨m, rfl⟩ : ∃ m : Nat, fx = m := ⟨fx.toNat, by omega⟩
  have hm : m < p.externs.length := by omega
  obtain ⟨p', cap', he, -, -, hcc⟩ := (Zaa HSC).prog.es
  injection he with e1 e2 e3
  subst e1 e3
  obtain ⟨sb, so, rfl, hsbl, hc⟩ := hcc (by omega)
  have hel := hc m hm
  have hfc := (Zaa HSC).prog.eeach m hm
  have hgd : p.externs[m] = p.externs.getD m ([], 0) := by simp [List.getD, hm]
  rw [hgd] at hfc
  have hg8 := (Zaa HF).externs m hm
  have HX := Zac (show Zai p f ⟨13, d, a, bb, n, m, gs, os⟩ = (callB f ⟨13, d, a, bb, n, m, gs, os⟩ (p.externs.getD m ([], 0))) by unfold Zai inB; simp only [Int.toNat_natCast]; simp; omega)
  generalize p.externs.getD m ([], 0) = s at hfc hg8 HX
  obtain ⟨gv, hA, hli⟩ := hfc
  have HLI := Zac hli
  obtain ⟨gp, gc, rfl⟩ := hli.shape
  rw [hA] at hel
  have e0 := hel 0 _ rfl
  have e1 := hel 1 _ rfl
  rw [Nat.add_zero] at e0
  have HK := Zac (fun (V : World) (h : Below W.heap.size W V) => show Below W.heap.size W V ∧ V.cell? ⟨w.heap.size, 0, none⟩ = some (.slice pf p.funcs.length cf) ∧ V.cell? ⟨w.heap.size, 1, none⟩ = some (.slice (some ⟨sb, so, none⟩) p.externs.length ce) ∧ V.cell? ⟨w.heap.size, 2, none⟩ = some (.slice pp f.params.length cp) ∧ V.cell? ⟨w.heap.size, 3, none⟩ = some (.int .i64 f.results) ∧ V.cell? ⟨w.heap.size, 4, none⟩ = some (.slice ph f.homes.length ch) ∧ V.cell? ⟨w.heap.size, 5, none⟩ = some (.slice ps f.slots.length cs) ∧ V.cell? ⟨w.heap.size, 6, none⟩ = some (.slice pb f.blocks.length cb) ∧ V.cell? ⟨w.heap.size + 1, 0, none⟩ = some (.int .i64 13) ∧ V.cell? ⟨w.heap.size + 1, 1, none⟩ = some (.int .i64 d) ∧ V.cell? ⟨w.heap.size + 1, 2, none⟩ = some (.int .i64 a) ∧ V.cell? ⟨w.heap.size + 1, 3, none⟩ = some (.int .i64 bb) ∧ V.cell? ⟨w.heap.size + 1, 4, none⟩ = some (.int .u64 n) ∧ V.cell? ⟨w.heap.size + 1, 5, none⟩ = some (.int .i64 ↑m) ∧ V.cell? ⟨w.heap.size + 1, 6, none⟩ = some (.slice pa gs.length ca) ∧ V.cell? ⟨w.heap.size + 1, 7, none⟩ = some (.slice po os.length co) ∧ V.cell? ⟨sb, so + m * 2, none⟩ = some (.slice gp s.1.length gc) ∧ V.cell? ⟨sb, so + m * 2 + 1, none⟩ = some (.int .i64 s.2) from ⟨h, (Zab ((h.block w.heap.size (by omega)).trans (Zaa HR1)) 0).trans rfl, (Zab ((h.block w.heap.size (by omega)).trans (Zaa HR1)) 1).trans rfl, (Zab ((h.block w.heap.size (by omega)).trans (Zaa HR1)) 2).trans rfl, (Zab ((h.block w.heap.size (by omega)).trans (Zaa HR1)) 3).trans rfl, (Zab ((h.block w.heap.size (by omega)).trans (Zaa HR1)) 4).trans rfl, (Zab ((h.block w.heap.size (by omega)).trans (Zaa HR1)) 5).trans rfl, (Zab ((h.block w.heap.size (by omega)).trans (Zaa HR1)) 6).trans rfl, (Zab ((h.block (w.heap.size + 1) (by omega)).trans (Zaa HR2)) 0).trans rfl, (Zab ((h.block (w.heap.size + 1) (by omega)).trans (Zaa HR2)) 1).trans rfl, (Zab ((h.block (w.heap.size + 1) (by omega)).trans (Zaa HR2)) 2).trans rfl, (Zab ((h.block (w.heap.size + 1) (by omega)).trans (Zaa HR2)) 3).trans rfl, (Zab ((h.block (w.heap.size + 1) (by omega)).trans (Zaa HR2)) 4).trans rfl, (Zab ((h.block (w.heap.size + 1) (by omega)).trans (Zaa HR2)) 5).trans rfl, (Zab ((h.block (w.heap.size + 1) (by omega)).trans (Zaa HR2)) 6).trans rfl, (Zab ((h.block (w.heap.size + 1) (by omega)).trans (Zaa HR2)) 7).trans rfl, (h.cell hsbl).trans e0, (h.cell hsbl).trans e1⟩)
  have HWI := Zac (fun V => isWithin_c (m : Int) 0 (IntKind.i64.wrap (p.externs.length - 1)) V)
  have hin : inB (m : Int) 0 (IntKind.i64.wrap (p.externs.length - 1)) = true := by rw [IntKind.wrap_of_boundsK (by omega) (by omega)]; unfold inB; simp; omega
  rw [hin] at HWI
  have HCF := Zac (callFits_c f ⟨13, d, a, bb, n, m, gs, os⟩ s (.slice pf p.funcs.length cf) (.slice (some ⟨sb, so, none⟩) p.externs.length ce) (.slice pp f.params.length cp) (.slice ph f.homes.length ch) (.slice ps f.slots.length cs) (.slice pb f.blocks.length cb) (.slice pa gs.length ca) (.slice po os.length co) (.slice gp s.1.length gc) W.drew ((Zaa HSC).below (Below.refl W.heap.size W).drew).func.hs ((Zaa HSC).below (Below.refl W.heap.size W).drew).func.ss ((Zaa HA).below (Below.refl W.heap.size W).drew) ((Zaa HO).below (Below.refl W.heap.size W).drew) ((Zaa HLI).below (Below.refl W.heap.size W).drew) (by omega))
  have HWJ := Zac (Zaa HWI W.drew)
  have HK0 := Zac (Zaa HK W.drew (Below.refl W.heap.size W).drew)
  clear hT hr hin hli hel e0 e1 hcc hc hgd g0 g1 hA
  refine wp_region_held_drew (S := fun V => Below W.heap.size W V ∧ V.cell? ⟨w.heap.size, 0, none⟩ = some (.slice pf p.funcs.length cf) ∧ V.cell? ⟨w.heap.size, 1, none⟩ = some (.slice (some ⟨sb, so, none⟩) p.externs.length ce) ∧ V.cell? ⟨w.heap.size, 2, none⟩ = some (.slice pp f.params.length cp) ∧ V.cell? ⟨w.heap.size, 3, none⟩ = some (.int .i64 f.results) ∧ V.cell? ⟨w.heap.size, 4, none⟩ = some (.slice ph f.homes.length ch) ∧ V.cell? ⟨w.heap.size, 5, none⟩ = some (.slice ps f.slots.length cs) ∧ V.cell? ⟨w.heap.size, 6, none⟩ = some (.slice pb f.blocks.length cb) ∧ V.cell? ⟨w.heap.size + 1, 0, none⟩ = some (.int .i64 13) ∧ V.cell? ⟨w.heap.size + 1, 1, none⟩ = some (.int .i64 d) ∧ V.cell? ⟨w.heap.size + 1, 2, none⟩ = some (.int .i64 a) ∧ V.cell? ⟨w.heap.size + 1, 3, none⟩ = some (.int .i64 bb) ∧ V.cell? ⟨w.heap.size + 1, 4, none⟩ = some (.int .u64 n) ∧ V.cell? ⟨w.heap.size + 1, 5, none⟩ = some (.int .i64 ↑m) ∧ V.cell? ⟨w.heap.size + 1, 6, none⟩ = some (.slice pa gs.length ca) ∧ V.cell? ⟨w.heap.size + 1, 7, none⟩ = some (.slice po os.length co) ∧ V.cell? ⟨sb, so + m * 2, none⟩ = some (.slice gp s.1.length gc) ∧ V.cell? ⟨sb, so + m * 2 + 1, none⟩ = some (.int .i64 s.2)) (by kernel_rfl) (Zaa HK0) (fun hHeld => ?_)
  refine tT 0 ?v0 rfl (by kernel_rfl) (fun _ _ _ h => h) (by rfl) ?hy0 (by assumption) ?_
  case hy0 =>
   intro V hV
   try dsimp only at hV
   go_simp
   all_goals (with_reducible rfl)
  simp only [Act.put, zA, zB, zC, zD, zE]
  refine tT 1 ?v1 rfl (by kernel_rfl) (fun _ _ _ h => h) (by rfl) ?hy1 (by assumption) ?_
  case hy1 =>
   intro V hV
   try dsimp only at hV
   go_simp
   all_goals (with_reducible rfl)
  simp only [Act.put, zA, zB, zC, zD, zE, zF]
  refine tT 2 ?v2 rfl (by kernel_rfl) (fun _ _ _ h => h) (by rfl) ?hy2 (by assumption) ?_
  case hy2 =>
   intro V hV
   try dsimp only at hV
   go_simp
   all_goals (with_reducible rfl)
  simp only [Act.put, zA, zB, zC, zD, zE, zF]
  refine tT 3 ?v3 rfl (by kernel_rfl) (fun _ _ _ h => h) (by rfl) ?hy3 (by assumption) ?_
  case hy3 =>
   intro V hV
   try dsimp only at hV
   go_simp
   all_goals (with_reducible rfl)
  simp only [Act.put, zA, zB, zC, zD, zE, zF]
  refine tT 4 ?v4 rfl (by kernel_rfl) (fun _ _ _ h => h) (by rfl) ?hy4 (by assumption) ?_
  case hy4 =>
   intro V hV
   try dsimp only at hV
   go_simp
   all_goals (with_reducible rfl)
  simp only [Act.put, zA, zB, zC, zD, zE, zF]
  refine tT 5 ?v5 rfl (by kernel_rfl) (fun _ _ _ h => h) (by rfl) ?hy5 (by assumption) ?_
  case hy5 =>
   intro V hV
   try dsimp only at hV
   go_simp
   all_goals (with_reducible rfl)
  simp only [Act.put, zA, zB, zC, zD, zE, zF]
  refine tT 6 ?v6 rfl (by kernel_rfl) (fun _ _ _ h => h) (by rfl) ?hy6 (by assumption) ?_
  case hy6 =>
   intro V hV
   try dsimp only at hV
   go_simp
   all_goals (with_reducible rfl)
  simp only [Act.put, zA, zB, zC, zD, zE, zF]
  refine wpAnyH_ready (rs := [7]) (by kernel_rfl) (by simp) ?_
  refine AllReadyH.cons rfl (fun K hK => ?_) AllReadyH.nil
  go_simp
  refine (Zaa HWJ).mono ?_
  rintro e w5 ⟨rfl, hb5⟩
  subst w5
  go_wp2_with fail
  refine hK.out _ _ (Zaa HK0) (fun hHeld2 => ?_)
  clear hK K
  try simp only [Act.put, zA, zB, zC, zD, zE, zF]
  refine tT 8 ?v8 rfl (by kernel_rfl) (fun _ _ _ h => h) (by rfl) ?hy8 (by assumption) ?_
  case hy8 =>
   intro V hV
   try dsimp only at hV
   go_simp
   all_goals (with_reducible rfl)
  simp only [Act.put, zA, zB, zC, zD, zE, zF]
  refine tT 9 ?v9 rfl (by kernel_rfl) (fun _ _ _ h => h) (by rfl) ?hy9 (by assumption) ?_
  case hy9 =>
   intro V hV
   try dsimp only at hV
   go_simp
   all_goals (with_reducible rfl)
  simp only [Act.put, zA, zB, zC, zD, zE, zF]
  refine tT 10 ?v10 rfl (by kernel_rfl) (fun _ _ _ h => h) (by rfl) ?hy10 (by assumption) ?_
  case hy10 =>
   intro V hV
   try dsimp only at hV
   go_simp
   all_goals (with_reducible rfl)
  simp only [Act.put, zA, zB, zC, zD, zE, zF]
  refine tT 11 ?v11 rfl (by kernel_rfl) (fun _ _ _ h => h) (by rfl) ?hy11 (by assumption) ?_
  case hy11 =>
   intro V hV
   try dsimp only at hV
   go_simp
   all_goals (with_reducible rfl)
  simp only [Act.put, zA, zB, zC, zD, zE, zF]
  refine tT 12 ?v12 rfl (by kernel_rfl) (fun _ _ _ h => h) (by rfl) ?hy12 (by assumption) ?_
  case hy12 =>
   intro V hV
   try dsimp only at hV
   go_simp
   all_goals (with_reducible rfl)
  simp only [Act.put, zA, zB, zC, zD, zE, zF]
  refine tT 13 ?v13 rfl (by kernel_rfl) (fun _ _ _ h => h) (by rfl) ?hy13 (by assumption) ?_
  case hy13 =>
   intro V hV
   try dsimp only at hV
   go_simp
   all_goals (with_reducible rfl)
  simp only [Act.put, zA, zB, zC, zD, zE, zF]
  refine tT 14 ?v14 rfl (by kernel_rfl) (fun _ _ _ h => h) (by rfl) ?hy14 (by assumption) ?_
  case hy14 =>
   intro V hV
   try dsimp only at hV
   go_simp
   all_goals (with_reducible rfl)
  simp only [Act.put, zA, zB, zC, zD, zE, zF]
  refine tT 15 ?v15 rfl (by kernel_rfl) (fun _ _ _ h => h) (by rfl) ?hy15 (by assumption) ?_
  case hy15 =>
   intro V hV
   try dsimp only at hV
   go_simp
   all_goals (with_reducible rfl)
  simp only [Act.put, zA, zB, zC, zD, zE, zF]
  refine tT 16 ?v16 rfl (by kernel_rfl) (fun _ _ _ h => h) (by rfl) ?hy16 (by assumption) ?_
  case hy16 =>
   intro V hV
   try dsimp only at hV
   go_simp
   all_goals (with_reducible rfl)
  simp only [Act.put, zA, zB, zC, zD, zE, zF]
  refine tT 17 ?v17 rfl (by kernel_rfl) (fun _ _ _ h => h) (by rfl) ?hy17 (by assumption) ?_
  case hy17 =>
   intro V hV
   try dsimp only at hV
   go_simp
   all_goals (with_reducible rfl)
  simp only [Act.put, zA, zB, zC, zD, zE, zF]
  refine wpAnyH_ready (rs := [18]) (by kernel_rfl) (by simp) ?_
  refine AllReadyH.cons rfl (fun K hK => ?_) AllReadyH.nil
  go_simp
  refine (Zaa HCF).mono ?_
  rintro e w7 ⟨rfl, hb7⟩
  have HB7 := Zac (Zad (Below.refl W.heap.size W).drew hb7 (Nat.le_refl _))
  clear hb7
  go_wp2_with fail
  refine hK.out _ _ (Zaa HK _ (Zaa HB7)) (fun hHeld2 => ?_)
  clear hK K
  try simp only [Act.put, zA, zB, zC, zD, zE, zF]
  refine tT 19 ?v19 rfl (by kernel_rfl) (fun _ _ _ h => h) (by rfl) ?hy19 (by assumption) ?_
  case hy19 =>
   intro V hV
   try dsimp only at hV
   go_simp
   all_goals (with_reducible rfl)
  simp only [Act.put, zA, zB, zC, zD, zE, zF]
  refine tT 20 ?v20 rfl (by kernel_rfl) (fun _ _ _ h => h) (by rfl) ?hy20 (by assumption) ?_
  case hy20 =>
   intro V hV
   try dsimp only at hV
   go_simp
   all_goals (with_reducible rfl)
  simp only [Act.put, zA, zB, zC, zD, zE, zF]
  refine wpAnyH_done (by kernel_rfl) ?_ _
  go_wp2
  go_ret
  exact ⟨by rw [Zaa HX]; rfl, Zad (Zaa HW) (Zaa HB7) (by have := Zaa HZ; omega)⟩
end Go.Proofs.YtffemeicclhioaaGreatDoor
namespace Go.Proofs.YtffemeicclhioaaGreatDoor
open Go.RowKit

theorem fieldsFit_c (p : ProgE) (f : FuncE) (i : InsE) (fv ev pv hv sv bv av ov : Value) (A E : Nat → Array Value) (B : Nat → Value) (w : World) (h1 : 1 ≤ i.op) (h18 : i.op ≤ 18) (hSC : ScD w p f fv ev pv hv sv bv A E B) (ha : LS 2 w av i.args.length (fun k => pairA (i.args.getD k (0, 0)))) (ho : Li w ov i.outs) (hF : FitD p f) (hn : 0 ≤ i.n ∧ i.n < 18446744073709551616) :
 Calls Tryz.prog 76 #[.agg #[fv, ev, pv, .int .i64 f.results, hv, sv, bv], .agg #[.int .i64 i.op, .int .i64 i.d, .int .i64 i.a, .int .i64 i.bb, .int .u64 i.n, .int .i64 i.f, av, ov]] w fun e w' => e = .returned (.bool (Zai p f i)) ∧ Below w.heap.size w w' := by
 obtain ⟨op, d, a, bb, n, fx, gs, os⟩ := i
 simp only at h1 h18 ha ho hn ⊢
 have hs : op = 1 ∨ op = 2 ∨ op = 3 ∨ op = 4 ∨ op = 5 ∨ op = 6 ∨ op = 7 ∨ op = 8 ∨ op = 9 ∨ op = 10 ∨ op = 11 ∨ op = 12 ∨ op = 13 ∨ op = 14 ∨ op = 15 ∨ op = 16 ∨ op = 17 ∨ op = 18 := by omega
 rcases hs with rfl | rfl | rfl | rfl | rfl | rfl | rfl | rfl | rfl | rfl | rfl | rfl | rfl | rfl | rfl | rfl | rfl | rfl
 ·
  exact ff1_c p f d a bb n fx gs os fv ev pv hv sv bv av ov A E B w hSC ha ho hF hn
 ·
  exact ff2_c p f d a bb n fx gs os fv ev pv hv sv bv av ov A E B w hSC ha ho hF hn
 ·
  exact ff3_c p f d a bb n fx gs os fv ev pv hv sv bv av ov A E B w hSC ha ho hF hn
 ·
  exact ff4_c p f d a bb n fx gs os fv ev pv hv sv bv av ov A E B w hSC ha ho hF hn
 ·
  exact ff5_c p f d a bb n fx gs os fv ev pv hv sv bv av ov A E B w hSC ha ho hF hn
 ·
  exact ff6_c p f d a bb n fx gs os fv ev pv hv sv bv av ov A E B w hSC ha ho hF hn
 ·
  exact ff7_c p f d a bb n fx gs os fv ev pv hv sv bv av ov A E B w hSC ha ho hF hn
 ·
  exact ff8_c p f d a bb n fx gs os fv ev pv hv sv bv av ov A E B w hSC ha ho hF hn
 ·
  exact ff9_c p f d a bb n fx gs os fv ev pv hv sv bv av ov A E B w hSC ha ho hF hn
 ·
  exact ff10_c p f d a bb n fx gs os fv ev pv hv sv bv av ov A E B w hSC ha ho hF hn
 ·
  exact ff11_c p f d a bb n fx gs os fv ev pv hv sv bv av ov A E B w hSC ha ho hF hn
 ·
  exact ff12_c p f d a bb n fx gs os fv ev pv hv sv bv av ov A E B w hSC ha ho hF hn
 ·
  exact ff13_c p f d a bb n fx gs os fv ev pv hv sv bv av ov A E B w hSC ha ho hF hn
 ·
  exact ff14_c p f d a bb n fx gs os fv ev pv hv sv bv av ov A E B w hSC ha ho hF hn
 ·
  exact ff15_c p f d a bb n fx gs os fv ev pv hv sv bv av ov A E B w hSC ha ho hF hn
 ·
  exact ff16_c p f d a bb n fx gs os fv ev pv hv sv bv av ov A E B w hSC ha ho hF hn
 ·
  exact ff17_c p f d a bb n fx gs os fv ev pv hv sv bv av ov A E B w hSC ha ho hF hn
 ·
  exact ff18_c p f d a bb n fx gs os fv ev pv hv sv bv av ov A E B w hSC ha ho hF hn
theorem ends_c (op : Int) (w : World) : Calls Tryz.prog 74 #[.int .i64 op] w fun e w' => e = .returned (.bool (inB op 14 18)) ∧ w' = w := by
 unfold inB
 by_cases h1 : 14 ≤ op
 ·
  by_cases h2 : op ≤ 18
  ·
   have hd : decide (14 ≤ op ∧ op ≤ 18) = true := by simp; omega
   rw [hd]
   clear hd
   go_enter Tryz.func74, Tryz.ntmps74
   go_wp2
   go_ret
   exact ⟨rfl, rfl⟩
  ·
   have hd : decide (14 ≤ op ∧ op ≤ 18) = false := by simp; omega
   rw [hd]
   clear hd
   go_enter Tryz.func74, Tryz.ntmps74
   go_wp2
   go_ret
   exact ⟨rfl, rfl⟩
 ·
  have hd : decide (14 ≤ op ∧ op ≤ 18) = false := by simp; omega
  rw [hd]
  clear hd
  go_enter Tryz.func74, Tryz.ntmps74
  go_wp2
  go_ret
  exact ⟨rfl, rfl⟩
set_option maxRecDepth 100000 in
theorem needsZ_c (op : Int) (w : World) (hg : NeedsAt w) (h : ¬ (1 ≤ op ∧ op ≤ 18)) : Calls Tryz.prog 73 #[.int .i64 op] w fun e w' => e = .returned (.int .u8 0) ∧ w' = w := by
 by_cases h0 : op < 0
 ·
  clear h
  go_enter Tryz.func73, Tryz.ntmps73
  go_wp2
  go_ret
  exact ⟨rfl, rfl⟩
 ·
  by_cases h19 : 19 ≤ op
  ·
   clear h
   go_enter Tryz.func73, Tryz.ntmps73
   go_wp2
   go_ret
   exact ⟨rfl, rfl⟩
  ·
   obtain rfl : op = 0 := by omega
   have c0 := (hg 0 (by decide)).trans rfl
   clear h h0 h19 hg
   go_enter Tryz.func73, Tryz.ntmps73
   go_wp2
   go_ret
   exact ⟨rfl, rfl⟩
theorem need_ne (op : Int) (h1 : 1 ≤ op) (h2 : op ≤ 18) : ((needOf op) != 0) = true := by
 have hs : op = 1 ∨ op = 2 ∨ op = 3 ∨ op = 4 ∨ op = 5 ∨ op = 6 ∨ op = 7 ∨ op = 8 ∨ op = 9 ∨ op = 10 ∨ op = 11 ∨ op = 12 ∨ op = 13 ∨ op = 14 ∨ op = 15 ∨ op = 16 ∨ op = 17 ∨ op = 18 := by omega
 rcases hs with rfl | rfl | rfl | rfl | rfl | rfl | rfl | rfl | rfl | rfl | rfl | rfl | rfl | rfl | rfl | rfl | rfl | rfl <;> rfl
theorem NeedsAt.keep {w w' : World} (h : NeedsAt w) (hb : Below w.heap.size w w') : NeedsAt w' := fun k hk => (hb.cell (World.block_lt_of_cell? w _ (h k hk))).trans (h k hk)
set_option maxHeartbeats 4000000 in
set_option maxRecDepth 100000 in
theorem fits_c (p : ProgE) (f : FuncE) (i : InsE) (last : Bool) (fv ev pv hv sv bv av ov : Value) (A E : Nat → Array Value) (B : Nat → Value) (w : World) (hSC : ScD w p f fv ev pv hv sv bv A E B) (ha : LS 2 w av i.args.length (fun k => pairA (i.args.getD k (0, 0)))) (ho : Li w ov i.outs) (hF : FitD p f) (hn : 0 ≤ i.n ∧ i.n < 18446744073709551616) (hN : NeedsAt w) (h1w : 1 < w.heap.size) :
 Calls Tryz.prog 61 #[.agg #[fv, ev, pv, .int .i64 f.results, hv, sv, bv], .agg #[.int .i64 i.op, .int .i64 i.d, .int .i64 i.a, .int .i64 i.bb, .int .u64 i.n, .int .i64 i.f, av, ov], .bool last] w fun e w' => e = .returned (.bool (insB p f i last)) ∧ Below w.heap.size w w' := by
 have hx := al0 w (.cells #[fv, ev, pv, .int .i64 f.results, hv, sv, bv] 149 (0, 0))
 generalize hW1 : World.alloc w (.cells #[fv, ev, pv, .int .i64 f.results, hv, sv, bv] 149 (0, 0)) = W1 at hx
 have hx2 := al0 W1 (.cells #[.int .i64 i.op, .int .i64 i.d, .int .i64 i.a, .int .i64 i.bb, .int .u64 i.n, .int .i64 i.f, av, ov] 76 (0, 0))
 have hs1 := hx.2.2
 have hs2 := hx2.2.2
 have hb12 := Zad hx.2.1 hx2.2.1 (by omega)
 have HSC := Zac (hSC.below hb12)
 have HA := Zac (ha.below hb12)
 have HO := Zac (ho.below hb12)
 have HNA := Zac (hN.keep hb12)
 have HW := Zac hb12
 have HR1 := Zac ((hx2.2.1.block w.heap.size (by omega)).trans hx.1)
 have hr2 := hx2.1
 rw [hs1] at hr2 hs2
 have HR2 := Zac hr2
 have HZ := Zac hs2
 have HF := Zac hF
 have HNN := Zac hn
 obtain ⟨pf, cf, rfl⟩ := hSC.prog.fs.shape
 obtain ⟨pe, ce, rfl⟩ := hSC.prog.es.shape
 obtain ⟨pp, cp, rfl⟩ := hSC.func.ps.shape
 obtain ⟨ph, ch, rfl⟩ := hSC.func.hs.shape
 obtain ⟨ps, cs, rfl⟩ := hSC.func.ss.shape
 obtain ⟨pb, cb, rfl⟩ := hSC.func.bs.shape
 obtain ⟨pa, ca, rfl⟩ := ha.shape
 obtain ⟨po, co, rfl⟩ := ho.shape
 have H1W := Zac h1w
 clear hx hx2 hs1 hs2 hb12 hr2 hSC ha ho hF hn hN h1w
 subst hW1
 go_enter Tryz.func61, Tryz.ntmps61
 go_wp2_with fail
 generalize World.alloc (World.alloc w _) _ = W at HSC HA HO HNA HW HR1 HR2 HZ ⊢
 have i0 := (Zab (Zaa HR2) 0).trans rfl
 have i1 := (Zab (Zaa HR2) 1).trans rfl
 have i2 := (Zab (Zaa HR2) 2).trans rfl
 have i3 := (Zab (Zaa HR2) 3).trans rfl
 have i4 := (Zab (Zaa HR2) 4).trans rfl
 have i5 := (Zab (Zaa HR2) 5).trans rfl
 have i6 := (Zab (Zaa HR2) 6).trans rfl
 have i7 := (Zab (Zaa HR2) 7).trans rfl
 by_cases hop : 1 ≤ i.op ∧ i.op ≤ 18
 ·
  refine (needs_c i.op hop.1 hop.2 W (Zaa HNA)).mono ?_
  rintro e w2 ⟨rfl, h2⟩
  subst w2
  have zn := need_ne i.op hop.1 hop.2
  generalize needOf i.op = nd at zn ⊢
  have HOP := Zac hop
  clear hop
  go_wp2_with fail
  refine (ends_c i.op W).mono ?_
  rintro e w2 ⟨rfl, h2⟩
  subst w2
  have HI := Zac (show insB p f i last = ((inB i.op 14 18 == last) && (!i.spare && Zai p f i)) by
   have hop := Zaa HOP
   unfold insB inB
   have e1 : decide (1 ≤ i.op ∧ i.op ≤ 18) = true := decide_eq_true hop
   have e2 : decide (14 ≤ i.op ∧ i.op ≤ 18) = decide (14 ≤ i.op) := decide_eq_decide.2 ⟨fun h => h.1, fun h => ⟨h, hop.2⟩⟩
   rw [e1, e2, Bool.true_and])
  generalize inB i.op 14 18 = en at HI ⊢
  by_cases hel : en = last
  ·
   subst hel
   have ze : (en == en) = true := by simp
   go_wp2_with fail
   refine (hasSpare_c i.op i.d i.a i.bb i.n i.f pa po i.args.length i.outs.length ca co W (Zaa HOP).1 (Zaa HOP).2 (Zaa HNA) (World.block_lt_of_cell? W _ (Zaa HNA 0 (by decide)))).mono ?_
   rintro e w2 ⟨rfl, hb⟩
   have HB2 := Zac hb
   clear hb i0 i1 i2 i3 i4 i5 i6 i7
   have hz := Zaa HZ
   have hrs := ((Zaa HB2).block w.heap.size (by omega)).trans (Zaa HR1)
   have hri := ((Zaa HB2).block (w.heap.size + 1) (by omega)).trans (Zaa HR2)
   have s0 := (Zab hrs 0).trans rfl
   have s1 := (Zab hrs 1).trans rfl
   have s2 := (Zab hrs 2).trans rfl
   have s3 := (Zab hrs 3).trans rfl
   have s4 := (Zab hrs 4).trans rfl
   have s5 := (Zab hrs 5).trans rfl
   have s6 := (Zab hrs 6).trans rfl
   have i0 := (Zab hri 0).trans rfl
   have i1 := (Zab hri 1).trans rfl
   have i2 := (Zab hri 2).trans rfl
   have i3 := (Zab hri 3).trans rfl
   have i4 := (Zab hri 4).trans rfl
   have i5 := (Zab hri 5).trans rfl
   have i6 := (Zab hri 6).trans rfl
   have i7 := (Zab hri 7).trans rfl
   clear hz hrs hri
   cases hsp : i.spare with
   | true =>
    have hx := Zac (show insB p f i en = false by rw [Zaa HI, hsp]; simp)
    have hsp' : spareOf i.op i.d i.a i.bb i.n i.f i.args.length i.outs.length = true := hsp
    rw [hsp']
    clear hsp hsp'
    go_wp2
    go_ret
    exact ⟨by rw [Zaa hx]; rfl, Zad (Zaa HW) (Zaa HB2) (by have := Zaa HZ; omega)⟩
   | false =>
    have HX := Zac (show insB p f i en = Zai p f i by rw [Zaa HI, hsp]; simp)
    have hsp' : spareOf i.op i.d i.a i.bb i.n i.f i.args.length i.outs.length = false := hsp
    rw [hsp']
    clear hsp hsp'
    go_wp2_with fail
    refine (fieldsFit_c p f i _ _ _ _ _ _ _ _ A E B w2 (Zaa HOP).1 (Zaa HOP).2 ((Zaa HSC).below (Zaa HB2)) ((Zaa HA).below (Zaa HB2)) ((Zaa HO).below (Zaa HB2)) (Zaa HF) (Zaa HNN)).mono ?_
    rintro e w3 ⟨rfl, hb⟩
    have HB3 := Zac (Zad (Zaa HB2) hb (Zaa HB2).size)
    clear hb
    go_wp2
    go_ret
    exact ⟨by rw [Zaa HX]; rfl, Zad (Zaa HW) (Zaa HB3) (by have := Zaa HZ; omega)⟩
  ·
   have ze : (en == last) = false := by simpa using hel
   have hx := Zac (show insB p f i last = false by rw [Zaa HI, ze]; rfl)
   clear hel
   go_wp2
   go_ret
   exact ⟨by rw [Zaa hx]; rfl, Zaa HW⟩
 ·
  refine (needsZ_c i.op W (Zaa HNA) hop).mono ?_
  rintro e w2 ⟨rfl, h2⟩
  subst w2
  have hx := Zac (show insB p f i last = false by unfold insB inB; rw [decide_eq_false hop]; rfl)
  clear hop
  go_wp2
  go_ret
  exact ⟨by rw [Zaa hx]; rfl, Zaa HW⟩
end Go.Proofs.YtffemeicclhioaaGreatDoor
namespace Go.Proofs.YtffemeicclhioaaGreatDoor
open Go.RowKit

/-- The numbers of all instructions are words. -/
def NumF (f : FuncE) : Prop := ∀ k j, 0 ≤ ((f.blocks.getD k []).getD j noIns).n ∧ ((f.blocks.getD k []).getD j noIns).n < 18446744073709551616
theorem LS.eights {w : World} {v : Value} {n : Nat} {A : Nat → Array Value} (h : LS 8 w v n A) : ∃ p cap, v = .slice p n cap ∧ n < 9223372036854775808 ∧ (0 < n → ∃ sb so, p = some ⟨sb, so, none⟩ ∧ sb < w.heap.size ∧ ∀ k, k < n → ∀ j x, (A k)[j]? = some x → w.cell? ⟨sb, so + k * 8 + j, none⟩ = some x) := by
 obtain ⟨p, cap, h1, h2, h3, h4⟩ := h
 refine ⟨p, cap, h1, h3, fun h0 => ?_⟩
 obtain ⟨sb, so, e, hl, hc⟩ := h4 h0
 exact ⟨sb, so, e, hl, fun k hk j x hx => hc k hk j x (by simpa using hx)⟩
set_option maxHeartbeats 8000000 in
set_option maxRecDepth 100000 in
theorem firstWrong_c (p : ProgE) (f : FuncE) (fv ev pv hv sv bv : Value) (A E : Nat → Array Value) (B : Nat → Value) (w : World) (hSC : ScD w p f fv ev pv hv sv bv A E B) (hF : FitD p f) (hnn : NumF f) (hN : NeedsAt w) (h1w : 1 < w.heap.size) :
 Calls Tryz.prog 43 #[.agg #[fv, ev], .agg #[pv, .int .i64 f.results, hv, sv, bv]] w fun e w' => e = .returned (.tuple #[.int .i64 (wrongB p f).1, .int .i64 (wrongB p f).2]) ∧ Below w.heap.size w w' := by
 have hx := al0 w (.cells #[fv, ev] 29 (0, 0))
 generalize hW1 : World.alloc w (.cells #[fv, ev] 29 (0, 0)) = W1 at hx
 have hx2 := al0 W1 (.cells #[pv, .int .i64 f.results, hv, sv, bv] 70 (0, 0))
 generalize hW2 : World.alloc W1 (.cells #[pv, .int .i64 f.results, hv, sv, bv] 70 (0, 0)) = W2 at hx2
 have hx3 := al0 W2 (.cells #[fv, ev, pv, .int .i64 f.results, hv, sv, bv] 149 (0, 0))
 have hs1 := hx.2.2
 have hs2 := hx2.2.2
 have hs3 := hx3.2.2
 have hb12 := Zad hx.2.1 hx2.2.1 (by omega)
 have hb13 := Zad hb12 hx3.2.1 (by omega)
 have HSC := Zac (hSC.below hb13)
 have HNA := Zac (hN.keep hb13)
 have HW := Zac hb13
 have hr3 := hx3.1
 rw [hs2, hs1] at hr3 hs3
 have HR3 := Zac hr3
 have HZ := Zac hs3
 have HF := Zac hF
 have HNN := Zac hnn
 have H1W := Zac h1w
 have hl3 : f.blocks.length < 9223372036854775808 := by obtain ⟨_, _, _, _, h, _⟩ := hSC.func.bs; exact h
 obtain ⟨pf, cf, rfl⟩ := hSC.prog.fs.shape
 obtain ⟨pe, ce, rfl⟩ := hSC.prog.es.shape
 obtain ⟨pp, cp, rfl⟩ := hSC.func.ps.shape
 obtain ⟨ph, ch, rfl⟩ := hSC.func.hs.shape
 obtain ⟨ps, cs, rfl⟩ := hSC.func.ss.shape
 obtain ⟨pb, cb, rfl⟩ := hSC.func.bs.shape
 clear hx hx2 hx3 hs1 hs2 hs3 hb12 hb13 hr3 hSC hF hnn hN h1w
 subst hW1 hW2
 go_enter Tryz.func43, Tryz.ntmps43
 go_wp2_with fail
 generalize World.alloc (World.alloc (World.alloc w _) _) _ = W at HSC HNA HW HR3 HZ ⊢
 go_loopw [17] (fun j w' => ∃ k : Nat, j = .int .i64 k ∧ k ≤ f.blocks.length ∧ Below W.heap.size W w' ∧ ∀ q, q < k → blkB p f q = true) (fun j _ => f.blocks.length - (intOf j).toNat)
 case atStart => exact ⟨0, rfl, by omega, Below.refl _ _, fun q hq => by omega⟩
 case round =>
  obtain ⟨k, rfl, hk, hbw, hno⟩ := hrel
  have HNO := Zac hno
  clear hno
  by_cases hk2 : k < f.blocks.length
  ·
   obtain ⟨p', cap', he, -, -, hcc⟩ := (Zaa HSC).func.bs.ones
   injection he with e1 e2 e3
   subst e1 e3
   obtain ⟨sb, so, rfl, hc⟩ := hcc (by omega)
   have c0 := (hbw.cell (World.block_lt_of_cell? W _ (hc k hk2))).trans (hc k hk2)
   have hblk := (Zaa HSC).func.each k hk2
   have hgd : f.blocks[k] = f.blocks.getD k [] := by simp [List.getD, hk2]
   rw [hgd] at hblk
   have HOK := Zac (fun j => show okAt p f k j = insB p f ((f.blocks.getD k []).getD j noIns) (decide (j + 1 = (f.blocks.getD k []).length)) from rfl)
   have HBB := Zac (show blkB p f k = upB (f.blocks.getD k []).length (okAt p f k) from rfl)
   have HNJ := Zac ((Zaa HNN) k)
   have HWR := Zac (fun (hb : blkB p f k = false) => show wrongB p f = ((k : Int), (((firstN (f.blocks.getD k []).length (okAt p f k)).getD 0 : Nat) : Int)) by unfold wrongB; rw [firstN_some (Zaa HNO) hk2 hb])
   generalize f.blocks.getD k [] = bl at hblk HOK HBB HNJ HWR
   obtain ⟨Ai, hls, hins⟩ := hblk
   obtain ⟨pl, cl, hBk, hll, hlc⟩ := hls.eights
   rw [hBk] at c0
   have HLC := Zac hlc
   have HINS := Zac hins
   have HBW := Zac hbw
   clear hcc hc hgd hls hlc hins hbw hBk e2
   go_wp2_with fail
   clear c0
   have hwz := (Zaa HBW).size
   generalize hwr : wr = V0 at HBW hwz ⊢
   clear hwr
   go_loopw [24] (fun j w' => ∃ m : Nat, j = .int .i64 m ∧ m ≤ bl.length ∧ Below V0.heap.size V0 w' ∧ ∀ q, q < m → okAt p f k q = true) (fun j _ => bl.length - (intOf j).toNat)
   case atStart => exact ⟨0, rfl, by omega, Below.refl _ _, fun q hq => by omega⟩
   case round =>
    obtain ⟨m, rfl, hm, hbm, hmo⟩ := hrel
    have HMO := Zac hmo
    clear hmo
    have hWm : Below W.heap.size W wr := Zad (Zaa HBW) hbm hwz
    have hmz := hbm.size
    by_cases hm2 : m < bl.length
    ·
     obtain ⟨sl, sx, rfl, hslt, hcell⟩ := Zaa HLC (by omega)
     have hic := Zaa HINS m hm2
     have hgm : bl[m] = bl.getD m noIns := by simp [List.getD, hm2]
     rw [hgm] at hic
     have HOM := Zac ((Zaa HOK) m)
     have HNM := Zac ((Zaa HNJ) m)
     generalize bl.getD m noIns = i at hic HOM HNM
     obtain ⟨av, ov, hAi, hav, hov⟩ := hic
     have HAV := Zac hav
     have HOV := Zac hov
     obtain ⟨pa, ca, rfl⟩ := hav.shape
     obtain ⟨po, co, rfl⟩ := hov.shape
     have hcm := hcell m hm2
     rw [hAi] at hcm
     have k0 := (hWm.cell hslt).trans (hcm 0 _ rfl)
     have k1 := (hWm.cell hslt).trans (hcm 1 _ rfl)
     have k2 := (hWm.cell hslt).trans (hcm 2 _ rfl)
     have k3 := (hWm.cell hslt).trans (hcm 3 _ rfl)
     have k4 := (hWm.cell hslt).trans (hcm 4 _ rfl)
     have k5 := (hWm.cell hslt).trans (hcm 5 _ rfl)
     have k6 := (hWm.cell hslt).trans (hcm 6 _ rfl)
     have k7 := (hWm.cell hslt).trans (hcm 7 _ rfl)
     rw [Nat.add_zero] at k0
     have hrow := (hWm.block (w.heap.size + 1 + 1) (by have := Zaa HZ; omega)).trans (Zaa HR3)
     have s0 := fun X : Obj => (row_al hrow 0 X).trans rfl
     have s1 := fun X : Obj => (row_al hrow 1 X).trans rfl
     have s2 := fun X : Obj => (row_al hrow 2 X).trans rfl
     have s3 := fun X : Obj => (row_al hrow 3 X).trans rfl
     have s4 := fun X : Obj => (row_al hrow 4 X).trans rfl
     have s5 := fun X : Obj => (row_al hrow 5 X).trans rfl
     have s6 := fun X : Obj => (row_al hrow 6 X).trans rfl
     have hlast : ((m : Int) == (bl.length : Int) - 1) = decide (m + 1 = bl.length) := by
      rw [show ((m : Int) == (bl.length : Int) - 1) = decide ((m : Int) = (bl.length : Int) - 1) from rfl]
      exact decide_eq_decide.2 (by omega)
     have HWM := Zac hWm
     have HBM := Zac hbm
     clear hcm hcell hrow hWm hbm hAi hav hov hgm
     generalize hld : decide (m + 1 = bl.length) = last at hlast HOM
     clear hld
     go_wp2_with fail
     have hy := al0 wr (.cells #[.int .i64 i.op, .int .i64 i.d, .int .i64 i.a, .int .i64 i.bb, .int .u64 i.n, .int .i64 i.f, .slice pa i.args.length ca, .slice po i.outs.length co] 76 (0, 0))
     have hbU := Zad (Zaa HWM) hy.2.1 (by have := (Zaa HWM).size; omega)
     refine (fits_c p f i last _ _ _ _ _ _ _ _ A E B _ ((Zaa HSC).below hbU) ((Zaa HAV).below hbU) ((Zaa HOV).below hbU) (Zaa HF) (Zaa HNM) ((Zaa HNA).keep hbU) (by have := Zaa HZ; have := hbU.size; omega)).mono ?_
     rintro e w3 ⟨rfl, hb3⟩
     have HU := Zac (Zad (Zad (Zaa HBM) hy.2.1 hmz) hb3 (by have := hy.2.2; omega))
     have HU2 := Zac (Zad hbU hb3 hbU.size)
     clear hb3 hy hbU k0 k1 k2 k3 k4 k5 k6 k7 s0 s1 s2 s3 s4 s5 s6
     cases hfi : insB p f i last with
     | false =>
      have hokf := (Zaa HOM).trans hfi
      have hbf : blkB p f k = false := by rw [Zaa HBB]; exact upB_false hm2 hokf
      have hx := Zac (show wrongB p f = ((k : Int), (m : Int)) by rw [Zaa HWR hbf, firstN_some (Zaa HMO) hm2 hokf]; rfl)
      clear hfi hokf hbf
      go_wp2
      go_returns
      exact ⟨by rw [Zaa hx]; rfl, Zad (Zaa HW) (Zaa HU2) (by have := Zaa HZ; omega)⟩
     | true =>
      have hx := Zac (Zal (Zaa HMO) ((Zaa HOM).trans hfi))
      clear hfi
      go_wp2
      go_roundw
      case rel => exact ⟨m + 1, by go_num, by omega, Zaa HU, Zaa hx⟩
      case measure => simp [intOf]; omega
    ·
     have hx := Zac (Zal (q := blkB p f) (Zaa HNO) (by rw [Zaa HBB]; exact upB_true (fun q hq => Zaa HMO q (by omega))))
     obtain rfl : m = bl.length := by omega
     have HWM := Zac hWm
     clear hWm hbm
     go_wp2
     go_roundw
     case rel => exact ⟨k + 1, by go_num, by omega, Zaa HWM, Zaa hx⟩
     case measure => simp [intOf]; omega
  ·
   have hx := Zac (show wrongB p f = (-1, -1) by unfold wrongB; rw [firstN_none (fun q hq => Zaa HNO q (by omega))])
   obtain rfl : k = f.blocks.length := by omega
   have HBW := Zac hbw
   clear hbw
   go_wp2
   go_returns
   exact ⟨by rw [Zaa hx]; rfl, Zad (Zaa HW) (Zaa HBW) (by have := Zaa HZ; omega)⟩
end Go.Proofs.YtffemeicclhioaaGreatDoor
namespace Go.Proofs.YtffemeicclhioaaGreatDoor
open Go.RowKit

theorem LS.twos {w : World} {v : Value} {n : Nat} {A : Nat → Array Value} (h : LS 2 w v n A) : ∃ p cap, v = .slice p n cap ∧ n < 9223372036854775808 ∧ (0 < n → ∃ sb so, p = some ⟨sb, so, none⟩ ∧ sb < w.heap.size ∧ ∀ k, k < n → ∀ j x, (A k)[j]? = some x → w.cell? ⟨sb, so + k * 2 + j, none⟩ = some x) := by
 obtain ⟨p, cap, h1, h2, h3, h4⟩ := h
 refine ⟨p, cap, h1, h3, fun h0 => ?_⟩
 obtain ⟨sb, so, e, hl, hc⟩ := h4 h0
 exact ⟨sb, so, e, hl, fun k hk j x hx => hc k hk j x (by simpa using hx)⟩
theorem LS.fives {w : World} {v : Value} {n : Nat} {A : Nat → Array Value} (h : LS 5 w v n A) : ∃ p cap, v = .slice p n cap ∧ n < 9223372036854775808 ∧ (0 < n → ∃ sb so, p = some ⟨sb, so, none⟩ ∧ sb < w.heap.size ∧ ∀ k, k < n → ∀ j x, (A k)[j]? = some x → w.cell? ⟨sb, so + k * 5 + j, none⟩ = some x) := by
 obtain ⟨p, cap, h1, h2, h3, h4⟩ := h
 refine ⟨p, cap, h1, h3, fun h0 => ?_⟩
 obtain ⟨sb, so, e, hl, hc⟩ := h4 h0
 exact ⟨sb, so, e, hl, fun k hk j x hx => hc k hk j x (by simpa using hx)⟩
set_option maxHeartbeats 4000000 in
set_option maxRecDepth 100000 in
theorem countsFit_c (p : ProgE) (fv ev : Value) (A E : Nat → Array Value) (w : World) (hP : ProgC w fv ev p A E) : Calls Tryz.prog 40 #[.agg #[fv, ev]] w fun e w' => e = .returned (.bool (countsB p)) ∧ Below w.heap.size w w' := by
 have hx := al0 w (.cells #[fv, ev] 29 (0, 0))
 have HP := Zac (hP.below hx.2.1)
 have hl4 : p.funcs.length < 9223372036854775808 := by obtain ⟨_, _, _, _, h, _⟩ := hP.fs; exact h
 have hl5 : p.externs.length < 9223372036854775808 := by obtain ⟨_, _, _, _, h, _⟩ := hP.es; exact h
 obtain ⟨pf, cf, rfl⟩ := hP.fs.shape
 obtain ⟨pe, ce, rfl⟩ := hP.es.shape
 have HX := Zac hx
 clear hx hP
 go_enter Tryz.func40, Tryz.ntmps40
 go_wp2_with fail
 refine (isWithin_c p.funcs.length 1 8 _).mono ?_
 rintro e w2 ⟨rfl, h2⟩
 subst w2
 cases h1 : inB p.funcs.length 1 8 with
 | false =>
  have hz := Zac (show countsB p = false by unfold countsB; rw [h1]; rfl)
  clear h1
  go_wp2
  go_ret
  exact ⟨by rw [Zaa hz]; rfl, (Zaa HX).2.1⟩
 | true =>
  have H1 := Zac h1
  clear h1
  by_cases h4 : p.externs.length ≤ 4
  ·
   have HCB := Zac (show countsB p = upB p.externs.length (fun k => sigB (p.externs.getD k ([], 0))) by unfold countsB; rw [Zaa H1]; simp [h4])
   go_wp2_with fail
   generalize World.alloc w _ = W at HP HX ⊢
   go_loopw [19] (fun j w' => ∃ k : Nat, j = .int .i64 k ∧ k ≤ p.externs.length ∧ Below W.heap.size W w' ∧ ∀ q, q < k → sigB (p.externs.getD q ([], 0)) = true) (fun j _ => p.externs.length - (intOf j).toNat)
   case atStart => exact ⟨0, rfl, by omega, Below.refl _ _, fun q hq => by omega⟩
   case round =>
    obtain ⟨k, rfl, hk, hbw, hno⟩ := hrel
    have HNO := Zac hno
    clear hno
    have hws := hbw.size
    have hWs := (Zaa HX).2.2
    by_cases hk2 : k < p.externs.length
    ·
     obtain ⟨p', cap', he, -, hcc⟩ := (Zaa HP).es.twos
     injection he with e1 e2 e3
     subst e1 e3
     obtain ⟨sb, so, rfl, hslt, hc⟩ := hcc (by omega)
     have hsc := (Zaa HP).eeach k hk2
     have hgd : p.externs[k] = p.externs.getD k ([], 0) := by simp [List.getD, hk2]
     rw [hgd] at hsc
     have HBAD := Zac (fun hb : sigB (p.externs.getD k ([], 0)) = false => show countsB p = false by rw [Zaa HCB]; exact upB_false hk2 hb)
     have HNX := Zac (fun hb : sigB (p.externs.getD k ([], 0)) = true => Zal (q := fun q => sigB (p.externs.getD q ([], 0))) (Zaa HNO) hb)
     generalize p.externs.getD k ([], 0) = s at hsc HBAD HNX
     obtain ⟨lv, hE, hli⟩ := hsc
     have HLI := Zac hli
     obtain ⟨pl, cl, rfl⟩ := hli.shape
     have hck := hc k hk2
     rw [hE] at hck
     have k0 := (hbw.cell hslt).trans (hck 0 _ rfl)
     have k1 := (hbw.cell hslt).trans (hck 1 _ rfl)
     rw [Nat.add_zero] at k0
     have HBW := Zac hbw
     clear hck hc hcc hE hgd hli hbw e2
     go_wp2_with fail
     have hy := al0 wr (.cells #[.slice pl s.1.length cl, .int .i64 s.2] 79 (0, 0))
     have hbU := Zad (Zaa HBW) hy.2.1 hws
     refine (sigFits_c _ s.1 s.2 _ ((Zaa HLI).below hbU)).mono ?_
     rintro e w3 ⟨rfl, hb3⟩
     have HU := Zac (Zad hbU hb3 hbU.size)
     clear hb3 hbU hy k0 k1
     rw [show ((s.1, s.2) : List Int × Int) = s from rfl]
     cases hsb : sigB s with
     | false =>
      have hz := Zac (Zaa HBAD hsb)
      clear hsb
      go_wp2
      go_ret
      exact ⟨by rw [Zaa hz]; rfl, Zad (Zaa HX).2.1 (Zaa HU) (by omega)⟩
     | true =>
      have hz := Zac (Zaa HNX hsb)
      clear hsb
      go_wp2
      go_roundw
      case rel => exact ⟨k + 1, by go_num, by omega, Zaa HU, Zaa hz⟩
      case measure => simp [intOf]; omega
    ·
     have hz := Zac (show countsB p = true by rw [Zaa HCB]; exact upB_true (fun q hq => Zaa HNO q (by omega)))
     obtain rfl : k = p.externs.length := by omega
     have HBW := Zac hbw
     clear hbw
     go_wp2
     go_ret
     exact ⟨by rw [Zaa hz]; rfl, Zad (Zaa HX).2.1 (Zaa HBW) (by omega)⟩
  ·
   have hz := Zac (show countsB p = false by unfold countsB; simp [h4])
   go_wp2
   go_ret
   exact ⟨by rw [Zaa hz]; rfl, (Zaa HX).2.1⟩
theorem badIn_c (a b c : Int) (w : World) : Calls Tryz.prog 42 #[.int .i64 a, .int .i64 b, .int .i64 c] w fun e w' => e = .returned (.iface 61 (.pointer (some ⟨w.heap.size, 0, none⟩))) ∧ w' = w.alloc (.cells #[.iface 58 (.int .i64 5), .int .i64 a, .int .i64 b, .int .i64 c] 64 (0, 0)) := by
 go_enter Tryz.func42, Tryz.ntmps42
 go_wp2
 go_ret
 exact ⟨rfl, rfl⟩
end Go.Proofs.YtffemeicclhioaaGreatDoor
