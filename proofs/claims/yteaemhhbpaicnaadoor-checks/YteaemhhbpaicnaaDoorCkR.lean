/-
  Checks: plain.CheckProgram. Own work of the verifier.
-/
import Derived.Test.YteaemhhbpaicnaaDoorCkQ
namespace Go.Proofs.YteaemhhbpaicnaaDoor
open Go.RowKit

set_option maxHeartbeats 2000000 in
set_option maxRecDepth 100000 in
theorem pchk_c (r sp lk t0 t1 : Int) (va vr vs : Value) (al sh by_ : Int) (pr : Bool) (ag rs ss : List Int) (p : ProgE) (fv ev : Value) (A E : Nat → Array Value) (w : World) (hT : TabC w va vr vs ag rs ss) (hP : ProgC w fv ev p A E) (hnn : NumP p) (hN : NeedsAt w) (h1w : 1 < w.heap.size) :
    Calls Tryd.prog 8 #[.agg (boxOf r sp lk t0 t1 va vr vs al sh by_ pr), .agg #[fv, ev]] w fun e w' => ∃ v, e = .returned v ∧ ErrOf w' v (chkB (tabB r sp lk t0 t1 ag rs ss al sh by_) r (ownL sp lk t0 t1) p) ∧ Below w.heap.size w w' := by
  have hx := al0 w (.cells (boxOf r sp lk t0 t1 va vr vs al sh by_ pr) 25 (0, 0))
  generalize hW1 : World.alloc w (.cells (boxOf r sp lk t0 t1 va vr vs al sh by_ pr) 25 (0, 0)) = W1 at hx
  have hx2 := al0 W1 (.cells #[fv, ev] 29 (0, 0))
  have hs1 := hx.2.2
  have hs2 := hx2.2.2
  have hb12 := below_cut hx.2.1 hx2.2.1 (by omega)
  have HCK := hideI (checkP_c r sp lk t0 t1 va vr vs al sh by_ pr ag rs ss p fv ev A E _ (hT.below hb12) (hP.below hb12) hnn (hN.keep hb12) (by omega))
  have HW := hideI hb12
  have HSZ := hideI (show w.heap.size ≤ (W1.alloc (.cells #[fv, ev] 29 (0, 0))).heap.size by omega)
  obtain ⟨pf, cf, rfl⟩ := hP.fs.shape
  obtain ⟨pe, ce, rfl⟩ := hP.es.shape
  obtain ⟨pva, cva, rfl⟩ := hT.a.shape
  obtain ⟨pvr, cvr, rfl⟩ := hT.r.shape
  obtain ⟨pvs, cvs, rfl⟩ := hT.s.shape
  clear hx hx2 hs1 hs2 hb12 hT hP hnn hN h1w
  subst hW1
  unfold boxOf at HCK HW HSZ ⊢
  go_enter Tryd.func8, Tryd.ntmps8
  go_wp2_with fail
  generalize World.alloc (World.alloc w _) _ = W at HCK HW HSZ ⊢
  refine (unhideI HCK).mono ?_
  rintro e w2 ⟨v, rfl, he, hb⟩
  have HE := hideI he
  have HB := hideI (below_cut (unhideI HW) hb (unhideI HSZ))
  clear he hb
  go_wp2
  go_ret
  exact ⟨_, rfl, unhideI HE, unhideI HB⟩
theorem fault_of {w : World} {v : Value} {x : FltE} (hE : ErrTy w) (h : ErrOf w v x) : Calls Tryd.prog 7 #[v] w fun e w' => e = .returned (flt x.e x.f x.b x.a) ∧ Below w.heap.size w w' := by
  rcases h with ⟨rfl, rfl⟩ | ⟨n, -, rfl, rfl⟩ | ⟨q, -, rfl, hb⟩
  · exact fault_nil w
  · exact fault_errno n w hE
  · exact fault_bad _ _ _ _ q w hE hb
theorem ErrTy.keep {w w' : World} (h : ErrTy w) (hb : Below w.heap.size w w') : ErrTy w' := (hb.cell (World.block_lt_of_cell? w _ h)).trans h
theorem ErrOf.shape {w : World} {v : Value} {x : FltE} (h : ErrOf w v x) : v = .nilIface ∨ ∃ t u, v = .iface t u := by
  rcases h with ⟨rfl, rfl⟩ | ⟨n, -, rfl, rfl⟩ | ⟨q, -, rfl, hb⟩
  · exact Or.inl rfl
  · exact Or.inr ⟨_, _, rfl⟩
  · exact Or.inr ⟨_, _, rfl⟩
theorem Tryd.infFltK : (Tryd.prog.info? 31).map (·.size) = some 4 := by kernel_rfl
set_option maxHeartbeats 2000000 in
set_option maxRecDepth 100000 in
theorem plchk_c (r sp lk t0 t1 : Int) (va vr vs : Value) (al sh by_ : Int) (pr : Bool) (ag rs ss : List Int) (p : ProgE) (fv ev : Value) (A E : Nat → Array Value) (w : World) (hT : TabC w va vr vs ag rs ss) (hP : ProgC w fv ev p A E) (hnn : NumP p) (hN : NeedsAt w) (h1w : 1 < w.heap.size) (hE : ErrTy w) :
    Calls Tryd.prog 4 #[.agg (boxOf r sp lk t0 t1 va vr vs al sh by_ pr), .agg #[fv, ev]] w fun e w' => e = .returned (flt (chkB (tabB r sp lk t0 t1 ag rs ss al sh by_) r (ownL sp lk t0 t1) p).e (chkB (tabB r sp lk t0 t1 ag rs ss al sh by_) r (ownL sp lk t0 t1) p).f (chkB (tabB r sp lk t0 t1 ag rs ss al sh by_) r (ownL sp lk t0 t1) p).b (chkB (tabB r sp lk t0 t1 ag rs ss al sh by_) r (ownL sp lk t0 t1) p).a) ∧ Below w.heap.size w w' := by
  have hx := al0 w (.cells (boxOf r sp lk t0 t1 va vr vs al sh by_ pr) 25 (0, 0))
  generalize hW1 : World.alloc w (.cells (boxOf r sp lk t0 t1 va vr vs al sh by_ pr) 25 (0, 0)) = W1 at hx
  have hx2 := al0 W1 (.cells #[fv, ev] 29 (0, 0))
  generalize hW2 : World.alloc W1 (.cells #[fv, ev] 29 (0, 0)) = W2 at hx2
  have hx3 := al0 W2 (.cells #[.int .i64 0, .int .i64 0, .int .i64 0, .int .i64 0] 31 (0, 0))
  have hs1 := hx.2.2
  have hs2 := hx2.2.2
  have hs3 := hx3.2.2
  have hb12 := below_cut (below_cut hx.2.1 hx2.2.1 (by omega)) hx3.2.1 (by omega)
  have HCK := hideI (pchk_c r sp lk t0 t1 va vr vs al sh by_ pr ag rs ss p fv ev A E _ (hT.below hb12) (hP.below hb12) hnn (hN.keep hb12) (by omega))
  have HW := hideI hb12
  have HE := hideI (hE.keep hb12)
  have hr3 := hx3.1
  rw [hs2, hs1] at hr3 hs3
  have HR := hideI hr3
  have HSZ := hideI hs3
  obtain ⟨pf, cf, rfl⟩ := hP.fs.shape
  obtain ⟨pe, ce, rfl⟩ := hP.es.shape
  obtain ⟨pva, cva, rfl⟩ := hT.a.shape
  obtain ⟨pvr, cvr, rfl⟩ := hT.r.shape
  obtain ⟨pvs, cvs, rfl⟩ := hT.s.shape
  clear hx hx2 hx3 hs1 hs2 hs3 hr3 hb12 hT hP hnn hN h1w hE
  subst hW1 hW2
  unfold boxOf at HCK HW HSZ HE HR ⊢
  generalize (chkB (tabB r sp lk t0 t1 ag rs ss al sh by_) r (ownL sp lk t0 t1) p) = x at HCK ⊢
  obtain ⟨xe, xf, xb, xa⟩ := x
  go_enter Tryd.func4, Tryd.ntmps4
  go_wp2_with fail
  generalize World.alloc (World.alloc (World.alloc w _) _) _ = W at HCK HW HSZ HE HR ⊢
  refine (unhideI HCK).mono ?_
  rintro e w2 ⟨v, rfl, he, hb⟩
  have HER := hideI (fault_of ((unhideI HE).keep hb) he)
  have hz := unhideI HSZ
  have HB := hideI (below_cut (unhideI HW) hb (by omega))
  have HR2 := hideI ((hb.block (w.heap.size + 1 + 1) (by omega)).trans (unhideI HR))
  have hb2z := hb.size
  have HZ2 := hideI (show w.heap.size + 1 + 1 < w2.heap.size by omega)
  clear he hb hz hb2z
  go_wp2_with fail
  refine (unhideI HER).mono ?_
  rintro e w3 ⟨rfl, hb3⟩
  have HB3 := hideI (below_cut (unhideI HB) hb3 (unhideI HB).size)
  have HR3 := hideI ((hb3.block (w.heap.size + 1 + 1) (unhideI HZ2)).trans (unhideI HR2))
  clear hb3
  unfold flt
  go_wp2_with (refine wpList_store_row rfl 31 (.tmp 4) (.tmp 8) rfl (w.heap.size + 1 + 1) #[.int .i64 xe, .int .i64 xf, .int .i64 xb, .int .i64 xa] rfl rfl 31 _ (unhideI HR3) (Tryd.infFltK.trans rfl) rfl (by simp [Value.oneCell']) ?_)
  refine bodyPost_ret (resultsK (fn := Tryd.f4) (q := 4) (uy := 31) rfl _ _ (w.heap.size + 1 + 1) 31 #[.int .i64 xe, .int .i64 xf, .int .i64 xb, .int .i64 xa] (0, 0) _ rfl (setRow_heap _ _ _ _ _ _ (unhideI HR3)) Tryd.underlying31 rfl (Tryd.infFltK.trans rfl)) rfl ?_
  exact ⟨rfl, below_setRow (unhideI HB3) (by omega)⟩
end Go.Proofs.YteaemhhbpaicnaaDoor
