/-
  Checks: calls, by package program. Own work of the verifier.
-/
import Derived.Test.YteaemhhbpaicnaaDoorCkI
namespace Go.Proofs.YteaemhhbpaicnaaDoor
open Go.RowKit

set_option maxHeartbeats 4000000 in
set_option maxRecDepth 100000 in
theorem tailFits_c (f : FuncE) (i : InsE) (s : List Int × Int) (fv ev pv hv sv bv av ov qv : Value) (w : World) (hh : Li w hv f.homes) (hs : Li w sv f.slots) (ha : LS 2 w av i.args.length (fun k => pairA (i.args.getD k (0, 0)))) (ho : Li w ov i.outs) (hq : Li w qv s.1) : Calls Tryd.prog 66 #[.agg #[fv, ev, pv, .int .i64 f.results, hv, sv, bv], .agg #[.int .i64 i.op, .int .i64 i.d, .int .i64 i.a, .int .i64 i.bb, .int .u64 i.n, .int .i64 i.f, av, ov], .agg #[qv, .int .i64 s.2]] w fun e w' => e = .returned (.bool (tailB f i s)) ∧ Below w.heap.size w w' := by
  have hx := al0 w (.cells #[fv, ev, pv, .int .i64 f.results, hv, sv, bv] 122 (0, 0))
  generalize hW1 : World.alloc w (.cells #[fv, ev, pv, .int .i64 f.results, hv, sv, bv] 122 (0, 0)) = W1 at hx
  have hx2 := al0 W1 (.cells #[.int .i64 i.op, .int .i64 i.d, .int .i64 i.a, .int .i64 i.bb, .int .u64 i.n, .int .i64 i.f, av, ov] 54 (0, 0))
  generalize hW2 : World.alloc W1 (.cells #[.int .i64 i.op, .int .i64 i.d, .int .i64 i.a, .int .i64 i.bb, .int .u64 i.n, .int .i64 i.f, av, ov] 54 (0, 0)) = W2 at hx2
  have hx3 := al0 W2 (.cells #[qv, .int .i64 s.2] 67 (0, 0))
  have hs1 := hx.2.2
  have hs2 := hx2.2.2
  have hs3 := hx3.2.2
  have hb12 := below_cut hx.2.1 hx2.2.1 (by omega)
  have hb13 := below_cut hb12 hx3.2.1 (by omega)
  have HH := hideI (hh.below hb13)
  have HS := hideI (hs.below hb13)
  have HA := hideI (ha.below hb13)
  have HO := hideI (ho.below hb13)
  have HQ := hideI (hq.below hb13)
  have HW := hideI hb13
  have HR1 := hideI ((hx3.2.1.block w.heap.size (by omega)).trans ((hx2.2.1.block w.heap.size (by omega)).trans hx.1))
  have HR2 := hideI ((hx3.2.1.block (w.heap.size + 1) (by omega)).trans (hs1 ▸ hx2.1))
  have hr3 := hx3.1
  rw [hs2, hs1] at hr3 hs3
  have HR3 := hideI hr3
  have HZ := hideI hs3
  have hhl : f.homes.length < 9223372036854775808 := hh.lt
  have hol : i.outs.length < 9223372036854775808 := ho.lt
  obtain ⟨ph, ch, rfl⟩ := hh.shape
  obtain ⟨ps, cs, rfl⟩ := hs.shape
  obtain ⟨pa, ca, rfl⟩ := ha.shape
  obtain ⟨po, co, rfl⟩ := ho.shape
  obtain ⟨pq, cq, rfl⟩ := hq.shape
  clear hx hx2 hx3 hs1 hs2 hs3 hb12 hb13 hr3 hh hs ha ho hq
  subst hW1 hW2
  go_enter Tryd.func66, Tryd.ntmps66
  go_wp2_with fail
  generalize World.alloc (World.alloc (World.alloc w _) _) _ = W at HH HS HA HO HQ HW HR1 HR2 HR3 HZ ⊢
  refine (argsFit_c f _ _ _ _ _ _ _ _ _ i.args s.1 W (unhideI HH) (unhideI HS) (unhideI HA) (unhideI HQ)).mono ?_
  rintro e w2 ⟨rfl, hb⟩
  have HB2 := hideI hb
  have hz := unhideI HZ
  have hri := (hb.block (w.heap.size + 1) (by omega)).trans (unhideI HR2)
  have hrq := (hb.block (w.heap.size + 1 + 1) (by omega)).trans (unhideI HR3)
  have hrs := (hb.block w.heap.size (by omega)).trans (unhideI HR1)
  have r7 := (cells_of_row hri 7).trans rfl
  have q1 := (cells_of_row hrq 1).trans rfl
  have s0 := (cells_of_row hrs 0).trans rfl
  have s1 := (cells_of_row hrs 1).trans rfl
  have s2 := (cells_of_row hrs 2).trans rfl
  have s3 := (cells_of_row hrs 3).trans rfl
  have s4 := (cells_of_row hrs 4).trans rfl
  have s5 := (cells_of_row hrs 5).trans rfl
  have s6 := (cells_of_row hrs 6).trans rfl
  clear hb hri hrq hrs hz
  cases h1 : argsB f i.args s.1 with
  | false =>
    have hx := hideI (show tailB f i s = false by unfold tailB; rw [h1]; rfl)
    clear h1
    go_wp2
    go_ret
    exact ⟨by rw [unhideI hx]; rfl, below_cut (unhideI HW) (unhideI HB2) (by have := unhideI HZ; omega)⟩
  | true =>
    have H1 := hideI h1
    clear h1
    by_cases h2 : s.2 = f.results
    · have z2 : (s.2 == f.results) = true := by simpa using h2
      have hx := hideI (show tailB f i s = true by unfold tailB; rw [unhideI H1]; simp [h2])
      clear h2
      go_wp2
      go_ret
      exact ⟨by rw [unhideI hx]; rfl, below_cut (unhideI HW) (unhideI HB2) (by have := unhideI HZ; omega)⟩
    · have z2 : (s.2 == f.results) = false := by simpa using h2
      have hx := hideI (show tailB f i s = false by unfold tailB; rw [unhideI H1]; simp [h2])
      clear h2
      go_wp2
      go_ret
      exact ⟨by rw [unhideI hx]; rfl, below_cut (unhideI HW) (unhideI HB2) (by have := unhideI HZ; omega)⟩
set_option maxHeartbeats 4000000 in
set_option maxRecDepth 100000 in
theorem callFits_c (f : FuncE) (i : InsE) (s : List Int × Int) (fv ev pv hv sv bv av ov qv : Value) (w : World) (hh : Li w hv f.homes) (hs : Li w sv f.slots) (ha : LS 2 w av i.args.length (fun k => pairA (i.args.getD k (0, 0)))) (ho : Li w ov i.outs) (hq : Li w qv s.1) (hon : s.2 ≤ 1000000) : Calls Tryd.prog 64 #[.agg #[fv, ev, pv, .int .i64 f.results, hv, sv, bv], .agg #[.int .i64 i.op, .int .i64 i.d, .int .i64 i.a, .int .i64 i.bb, .int .u64 i.n, .int .i64 i.f, av, ov], .agg #[qv, .int .i64 s.2]] w fun e w' => e = .returned (.bool (callB f i s)) ∧ Below w.heap.size w w' := by
  have hx := al0 w (.cells #[fv, ev, pv, .int .i64 f.results, hv, sv, bv] 122 (0, 0))
  generalize hW1 : World.alloc w (.cells #[fv, ev, pv, .int .i64 f.results, hv, sv, bv] 122 (0, 0)) = W1 at hx
  have hx2 := al0 W1 (.cells #[.int .i64 i.op, .int .i64 i.d, .int .i64 i.a, .int .i64 i.bb, .int .u64 i.n, .int .i64 i.f, av, ov] 54 (0, 0))
  generalize hW2 : World.alloc W1 (.cells #[.int .i64 i.op, .int .i64 i.d, .int .i64 i.a, .int .i64 i.bb, .int .u64 i.n, .int .i64 i.f, av, ov] 54 (0, 0)) = W2 at hx2
  have hx3 := al0 W2 (.cells #[qv, .int .i64 s.2] 67 (0, 0))
  have hs1 := hx.2.2
  have hs2 := hx2.2.2
  have hs3 := hx3.2.2
  have hb12 := below_cut hx.2.1 hx2.2.1 (by omega)
  have hb13 := below_cut hb12 hx3.2.1 (by omega)
  have HH := hideI (hh.below hb13)
  have HS := hideI (hs.below hb13)
  have HA := hideI (ha.below hb13)
  have HO := hideI (ho.below hb13)
  have HQ := hideI (hq.below hb13)
  have HW := hideI hb13
  have HR1 := hideI ((hx3.2.1.block w.heap.size (by omega)).trans ((hx2.2.1.block w.heap.size (by omega)).trans hx.1))
  have HR2 := hideI ((hx3.2.1.block (w.heap.size + 1) (by omega)).trans (hs1 ▸ hx2.1))
  have hr3 := hx3.1
  rw [hs2, hs1] at hr3 hs3
  have HR3 := hideI hr3
  have HZ := hideI hs3
  have hhl : f.homes.length < 9223372036854775808 := hh.lt
  have hol : i.outs.length < 9223372036854775808 := ho.lt
  obtain ⟨ph, ch, rfl⟩ := hh.shape
  obtain ⟨ps, cs, rfl⟩ := hs.shape
  obtain ⟨pa, ca, rfl⟩ := ha.shape
  obtain ⟨po, co, rfl⟩ := ho.shape
  obtain ⟨pq, cq, rfl⟩ := hq.shape
  clear hx hx2 hx3 hs1 hs2 hs3 hb12 hb13 hr3 hh hs ha ho hq
  subst hW1 hW2
  go_enter Tryd.func64, Tryd.ntmps64
  go_wp2_with fail
  generalize World.alloc (World.alloc (World.alloc w _) _) _ = W at HH HS HA HO HQ HW HR1 HR2 HR3 HZ ⊢
  refine (argsFit_c f _ _ _ _ _ _ _ _ _ i.args s.1 W (unhideI HH) (unhideI HS) (unhideI HA) (unhideI HQ)).mono ?_
  rintro e w2 ⟨rfl, hb⟩
  have HB2 := hideI hb
  have hz := unhideI HZ
  have hri := (hb.block (w.heap.size + 1) (by omega)).trans (unhideI HR2)
  have hrq := (hb.block (w.heap.size + 1 + 1) (by omega)).trans (unhideI HR3)
  have hrs := (hb.block w.heap.size (by omega)).trans (unhideI HR1)
  have r7 := (cells_of_row hri 7).trans rfl
  have q1 := (cells_of_row hrq 1).trans rfl
  have s0 := (cells_of_row hrs 0).trans rfl
  have s1 := (cells_of_row hrs 1).trans rfl
  have s2 := (cells_of_row hrs 2).trans rfl
  have s3 := (cells_of_row hrs 3).trans rfl
  have s4 := (cells_of_row hrs 4).trans rfl
  have s5 := (cells_of_row hrs 5).trans rfl
  have s6 := (cells_of_row hrs 6).trans rfl
  clear hb hri hrq hrs hz
  cases h1 : argsB f i.args s.1 with
  | false =>
    have hx := hideI (show callB f i s = false by unfold callB; rw [h1]; rfl)
    clear h1
    go_wp2
    go_ret
    exact ⟨by rw [unhideI hx]; rfl, below_cut (unhideI HW) (unhideI HB2) (by have := unhideI HZ; omega)⟩
  | true =>
    have H1 := hideI h1
    clear h1
    by_cases h2 : (i.outs.length : Int) = s.2
    · have z2 : ((i.outs.length : Int) == s.2) = true := by simpa using h2
      go_wp2_with fail
      refine (haveLocals_c f _ _ _ _ _ _ _ _ i.outs w2 ⟨_, _, rfl⟩ hhl ((unhideI HO).below (unhideI HB2))).mono ?_
      rintro e w3 ⟨rfl, hb⟩
      have HB3 := hideI (below_cut (unhideI HB2) hb (unhideI HB2).size)
      have hz := unhideI HZ
      have hri := ((unhideI HB3).block (w.heap.size + 1) (by omega)).trans (unhideI HR2)
      have r7 := (cells_of_row hri 7).trans rfl
      clear hb hri hz
      cases h3 : localsB f i.outs with
      | false =>
        have hx := hideI (show callB f i s = false by unfold callB; rw [h3]; simp)
        clear h3
        go_wp2
        go_ret
        exact ⟨by rw [unhideI hx]; rfl, below_cut (unhideI HW) (unhideI HB3) (by have := unhideI HZ; omega)⟩
      | true =>
        have H3 := hideI h3
        have hl6 : i.outs.length ≤ 1000000 := by omega
        have H2 := hideI h2
        clear h3 h2
        go_wp2_with fail
        refine (areApart_c _ i.outs w3 ((unhideI HO).below (unhideI HB3)) hl6).mono ?_
        rintro e w4 ⟨rfl, h4'⟩
        subst w4
        have HT := hideI (show callB f i s = apartB i.outs by unfold callB; rw [unhideI H1, unhideI H3]; simp [unhideI H2])
        go_wp2
        go_ret
        exact ⟨by rw [unhideI HT]; rfl, below_cut (unhideI HW) (unhideI HB3) (by have := unhideI HZ; omega)⟩
    · have z2 : ((i.outs.length : Int) == s.2) = false := by simpa using h2
      have hx := hideI (show callB f i s = false by unfold callB; simp [h2])
      clear h2
      go_wp2
      go_ret
      exact ⟨by rw [unhideI hx]; rfl, below_cut (unhideI HW) (unhideI HB2) (by have := unhideI HZ; omega)⟩
end Go.Proofs.YteaemhhbpaicnaaDoor
