/-
  Tables: plain.CheckTable, prologueref.Samples by their contracts; a law for a region that draws its order, guards in it. Own work of the verifier.
-/
import Derived.Test.YtobempobmokkcaaGreatDoorTblPl
namespace Go.Proofs.YtobempobmokkcaaGreatDoor
open Go.RowKit

theorem flow2w {P : Program} {ops : Array Oper} {Q : Exit → Act → World → Prop} {id : Nat} (hm : P.follows .mixedOrders = true) (base : Nat) (a0 : Act) (Ok : Nat → Value → World → Prop) (S : World → Prop) (R : World → World → Prop)
    (hd : ∀ (i : Nat) (o : Oper), ops[i]? = some o → (o.dst = some (base + i) ∨ o.dst = none))
    (hw : ∀ (i : Nat) (o : Oper), ops[i]? = some o → ∀ (a : Act) (w : World), a.tmps.size = a0.tmps.size → (∀ e ∈ o.after, Region.binds .any e = true → (∃ o', ops[e.on]? = some o' ∧ o'.dst = some (base + e.on)) → Ok e.on (a.eval (.tmp (base + e.on))) w) → Region.wanted o (yielded ops a.tmps) = true)
    (hsz : ∀ (i : Nat) (o : Oper), ops[i]? = some o → o.dst = some (base + i) → base + i < a0.tmps.size)
    (hle : ∀ (i : Nat) (o : Oper), ops[i]? = some o → ∀ e ∈ o.after, e.on < i)
    (stab : ∀ i v w w', Ok i v w → R w w' → Ok i v w')
    (stabS : ∀ w w', S w → R w w' → S w')
    (step : ∀ (i : Nat) (o : Oper), ops[i]? = some o → ∀ (a : Act) (w : World), S w → (∀ t, t < base → a.eval (.tmp t) = a0.eval (.tmp t)) → (∀ e ∈ o.after, Region.binds .any e = true → (∃ o', ops[e.on]? = some o' ∧ o'.dst = some (base + e.on)) → Ok e.on (a.eval (.tmp (base + e.on))) w) →
      o.wp P a w (fun a' w' => ∃ v, a' = a.put o.dst v ∧ R w w' ∧ Ok i v w') Q)
    (fin : ∀ (a : Act) (w : World), S w → a.defers = a0.defers → a.tmps.size = a0.tmps.size → (∀ t, t < base ∨ base + ops.size ≤ t → a.eval (.tmp t) = a0.eval (.tmp t)) → (∀ (i : Nat) (o : Oper), ops[i]? = some o → o.dst = some (base + i) → Ok i (a.eval (.tmp (base + i))) w) → (∀ (i : Nat) (o : Oper), ops[i]? = some o → o.dst = none → a.eval (.tmp (base + i)) = a0.eval (.tmp (base + i)) ∧ ∃ v, Ok i v w) → Q .normal a w)
    {w : World} (hS : S w.drew) : (Code.region id ops true).wp P Q a0 w := by
  refine wp_region_any hm (wpAny_inv (fun L a w => S w ∧ L.size = ops.size ∧ a.defers = a0.defers ∧ a.tmps.size = a0.tmps.size ∧ (∀ t, t < base ∨ base + ops.size ≤ t → a.eval (.tmp t) = a0.eval (.tmp t)) ∧ (∀ i, i < ops.size → L.getD i true = true → ∀ o, ops[i]? = some o → o.dst = some (base + i) → Ok i (a.eval (.tmp (base + i))) w) ∧ (∀ (i : Nat) (o : Oper), ops[i]? = some o → o.dst = none → a.eval (.tmp (base + i)) = a0.eval (.tmp (base + i)) ∧ (L.getD i true = true → ∃ v, Ok i v w))) ?_ ?_ _ _ _ _ ?_ ?_)
  · rintro L a w i ⟨h1, h2, h3, h4, h5, h6, h7⟩ hi
    obtain ⟨hl, o, ho, hdeps⟩ := mem_ready.1 hi
    have hlt : i < ops.size := (Array.getElem?_eq_some_iff.1 ho).1
    have hdst := hd i o ho
    have hdd : ∀ e ∈ o.after, Region.binds .any e = true → (∃ o', ops[e.on]? = some o' ∧ o'.dst = some (base + e.on)) → Ok e.on (a.eval (.tmp (base + e.on))) w := (fun e he hb hh => by
      obtain ⟨o', ho', hdo⟩ := hh
      have hel : L.getD e.on true = true := by
        have := hdeps e he hb
        have hes : e.on < L.size := by have := hle i o ho e he; omega
        simpa [hes] using this
      exact h6 e.on (Nat.lt_trans (hle i o ho e he) hlt) hel o' ho' hdo)
    have hwp := step i o ho a w h1 (fun t ht => h5 t (Or.inl ht)) hdd
    unfold wpOp
    simp only [ho]
    rw [if_pos (hw i o ho a w h4 hdd)]
    refine Or.inl ?_
    refine Oper.wp_mono ?_ hwp
    rintro a' w' ⟨v, rfl, hbl, hok⟩
    have key : (fun a' w' => S w' ∧ (L.setIfInBounds i true).size = ops.size ∧ a'.defers = a0.defers ∧ a'.tmps.size = a0.tmps.size ∧ (∀ t, t < base ∨ base + ops.size ≤ t → a'.eval (.tmp t) = a0.eval (.tmp t)) ∧ (∀ j, j < ops.size → (L.setIfInBounds i true).getD j true = true → ∀ o, ops[j]? = some o → o.dst = some (base + j) → Ok j (a'.eval (.tmp (base + j))) w') ∧ (∀ (j : Nat) (o : Oper), ops[j]? = some o → o.dst = none → a'.eval (.tmp (base + j)) = a0.eval (.tmp (base + j)) ∧ ((L.setIfInBounds i true).getD j true = true → ∃ v, Ok j v w'))) (a.put o.dst v) w' := by
      rcases hdst with hdst | hdst
      · simp only [hdst]
        refine ⟨stabS _ _ h1 hbl, by simpa using h2, by simpa [Act.put] using h3, by simpa [Act.put] using h4, fun t ht => ?_, fun j hj hlj o' ho' hdo => ?_, fun j o' ho' hdo => ?_⟩
        · rw [eval_put_ne _ _ _ _ (by omega)]; exact h5 t ht
        · by_cases hji : j = i
          · subst hji; rw [eval_put_same _ _ _ (by have := hsz j o' ho' hdo; omega)]; exact hok
          · rw [eval_put_ne _ _ _ _ (by omega)]
            exact stab _ _ _ _ (h6 j hj (by simpa [Array.getElem?_setIfInBounds, Ne.symm hji] using hlj) o' ho' hdo) hbl
        · have hji : ¬ j = i := fun e => by subst e; rw [ho'] at ho; injection ho with ho; subst ho; rw [hdo] at hdst; cases hdst
          rw [eval_put_ne a (base + i) (base + j) v (by omega)]
          refine ⟨(h7 j o' ho' hdo).1, fun hlj => ?_⟩
          obtain ⟨v', hv'⟩ := (h7 j o' ho' hdo).2 (by simpa [Array.getElem?_setIfInBounds, Ne.symm hji] using hlj)
          exact ⟨v', stab _ _ _ _ hv' hbl⟩
      · simp only [hdst, Act.put]
        refine ⟨stabS _ _ h1 hbl, by simpa using h2, h3, h4, h5, fun j hj hlj o' ho' hdo => ?_, fun j o' ho' hdo => ⟨(h7 j o' ho' hdo).1, fun hlj => ?_⟩⟩
        · have hji : ¬ j = i := fun e => by subst e; rw [ho'] at ho; injection ho with ho; subst ho; rw [hdo] at hdst; cases hdst
          exact stab _ _ _ _ (h6 j hj (by simpa [Array.getElem?_setIfInBounds, Ne.symm hji] using hlj) o' ho' hdo) hbl
        · by_cases hji : j = i
          · subst hji; exact ⟨v, hok⟩
          · obtain ⟨v', hv'⟩ := (h7 j o' ho' hdo).2 (by simpa [Array.getElem?_setIfInBounds, Ne.symm hji] using hlj)
            exact ⟨v', stab _ _ _ _ hv' hbl⟩
    exact key
  · rintro L a w ⟨h1, h2, h3, h4, h5, h6, h7⟩ hr
    have all : ∀ n j, j < n → j < ops.size → L.getD j true = true := by
      intro n
      induction n with
      | zero => intro j hj; omega
      | succ n ih =>
        intro j hj hjs
        cases hlj : L.getD j true with
        | true => rfl
        | false =>
          exfalso
          have ho : ops[j]? = some ops[j] := Array.getElem?_eq_getElem hjs
          have : j ∈ Region.ready .any ops L := mem_ready.2 ⟨hlj, ops[j], ho, fun e he _ => by
            have hlt := hle j _ ho e he
            have := ih e.on (by omega) (by omega)
            have hes : e.on < L.size := by omega
            simpa [hes] using this⟩
          rw [hr] at this
          cases this
    exact fin a w h1 h3 h4 h5 (fun i o ho hdo => h6 i (Array.getElem?_eq_some_iff.1 ho).1 (all (i + 1) i (by omega) (Array.getElem?_eq_some_iff.1 ho).1) o ho hdo) (fun i o ho hdo => ⟨(h7 i o ho hdo).1, (h7 i o ho hdo).2 (all (i + 1) i (by omega) (Array.getElem?_eq_some_iff.1 ho).1)⟩)
  · unfold unl
    exact Nat.le_trans List.countP_le_length (by simp)
  · exact ⟨hS, by simp, rfl, rfl, fun _ _ => rfl, fun i hi h => by simp [hi] at h, fun i o ho _ => ⟨rfl, fun h => by simp [(Array.getElem?_eq_some_iff.1 ho).1] at h⟩⟩
structure TD where
  r : Int
  sp : Int
  lk : Int
  t0 : Int
  t1 : Int
  al : Int
  sh : Int
  by_ : Int
  pr : Bool
  l4 : List Int
  l5 : List Int
  l6 : List Int
def td (k : Nat) : TD := if k = 0 then ⟨12, 11, -1, 9, 10, 16, 0, 2, false, [0, 1, 2, 3], [0, 1], [5, 6, 7]⟩ else ⟨14, 13, 12, 10, 11, 16, 16, 2, true, [0, 1, 2, 3], [0, 1], [6, 7, 8, 9]⟩
def TD.box (d : TD) (v4 v5 v6 : Value) : Array Value := boxOf d.r d.sp d.lk d.t0 d.t1 v4 v5 v6 d.al d.sh d.by_ d.pr
theorem td_len (k : Nat) : (td k).l4.length ≤ 1000 ∧ (td k).l5.length ≤ 1000 ∧ (td k).l6.length ≤ 1000 := by unfold td; split <;> simp
/-- The k-th of the statement's own tables, in the row g. -/
def SmpRow (k g : Nat) (u : World) : Prop := ∃ v4 v5 v6, u.rangeAt g (k * 12) ((td k).box v4 v5 v6).toList ∧ RdI u v4 (td k).l4 ∧ RdI u v5 (td k).l5 ∧ RdI u v6 (td k).l6
theorem SmpRow.below {k g : Nat} {u u' : World} (h : SmpRow k g u) (hb : Below u.heap.size u u') : SmpRow k g u' := by
  obtain ⟨v4, v5, v6, h1, h2, h3, h4⟩ := h
  refine ⟨v4, v5, v6, fun j v hv => ?_, h2.below hb, h3.below hb, h4.below hb⟩
  have := h1 j v hv
  exact (hb.cell (p := ⟨g, k * 12 + j, none⟩) (World.block_lt_of_cell? u _ this)).trans this
theorem blk_new (w : World) (o : Obj) (g : Nat) (hg : g = w.heap.size) : (w.alloc o).heap[g]? = some o := by subst hg; exact heap_alloc_new w o
theorem rd_blk {u : World} {g n : Nat} {ns : List Int} {cs : Array Value} {t : TypeId} (h : u.heap[g]? = some (.cells cs t (0, 0))) (hn : n = ns.length) (hc : ∀ i, i < ns.length → cs[i]? = some (.int .i64 (ns.getD i 0))) (cap : Nat) : RdI u (.slice (some ⟨g, 0, none⟩) n cap) ns := by
  subst hn
  exact Or.inr ⟨g, cap, rfl, fun i hi => ((cells_of h).1 i).trans (hc i hi)⟩
def chkN (b : Bool) : Int := match b with
  | true => 0
  | false => 2
set_option maxHeartbeats 2000000 in
set_option maxRecDepth 100000 in
theorem pcheck_c (r sp lk t0 t1 : Int) (va vr vs : Value) (al sh by_ : Int) (pr : Bool) (ag rs ss : List Int) (w : World) (ha : Rs w va ag) (hr : Rs w vr rs) (hs : Rs w vs ss) (ca : ∀ a n cap, va = .slice a n cap → n ≤ cap) (cr : ∀ a n cap, vr = .slice a n cap → n ≤ cap) (cs : ∀ a n cap, vs = .slice a n cap → n ≤ cap) : Calls Tryz.prog 19 #[.agg (boxOf r sp lk t0 t1 va vr vs al sh by_ pr)] w fun e w' => e = .returned (chkV (tabB r sp lk t0 t1 ag rs ss al sh by_)) ∧ Below w.heap.size w w' := by
  have hb : ∀ X, Below w.heap.size w (w.alloc X) := fun X => (Below.refl w.heap.size w).alloc (Nat.le_refl _) X
  have HC := hideQ (fun X : Obj => check_c r sp lk t0 t1 va vr vs al sh by_ pr ag rs ss (w.alloc X) (ha.below (hb X)) (hr.below (hb X)) (hs.below (hb X)) ca cr cs)
  have HB := hideQ hb
  clear hb ha hr hs ca cr cs
  unfold boxOf at HC ⊢
  go_enter Tryz.func19, Tryz.ntmps19
  go_wp2_with fail
  refine (unhideQ HC _).mono ?_
  rintro e w1 ⟨rfl, hb1⟩
  have HB1 := hideQ ((unhideQ HB _).trans (hb1.mono (by simp)))
  clear hb1
  go_wp2
  go_ret
  exact ⟨rfl, unhideQ HB1⟩
set_option maxHeartbeats 2000000 in
set_option maxRecDepth 100000 in
theorem plcheck_c (r sp lk t0 t1 : Int) (va vr vs : Value) (al sh by_ : Int) (pr : Bool) (ag rs ss : List Int) (w : World) (hE : ErrTy w) (ha : Rs w va ag) (hr : Rs w vr rs) (hs : Rs w vs ss) (ca : ∀ a n cap, va = .slice a n cap → n ≤ cap) (cr : ∀ a n cap, vr = .slice a n cap → n ≤ cap) (cs : ∀ a n cap, vs = .slice a n cap → n ≤ cap) : Calls Tryz.prog 5 #[.agg (boxOf r sp lk t0 t1 va vr vs al sh by_ pr)] w fun e w' => e = .returned (flt (chkN (tabB r sp lk t0 t1 ag rs ss al sh by_)) (-1) (-1) (-1)) ∧ Below w.heap.size w w' := by
  have h0 := lt_of_cell hE
  have hb : ∀ X Y, Below w.heap.size w ((w.alloc X).alloc Y) := fun X Y => ((Below.refl w.heap.size w).alloc (Nat.le_refl _) X).alloc (by simp) Y
  have HC := hideQ (fun X Y : Obj => pcheck_c r sp lk t0 t1 va vr vs al sh by_ pr ag rs ss ((w.alloc X).alloc Y) (ha.below (hb X Y)) (hr.below (hb X Y)) (hs.below (hb X Y)) ca cr cs)
  have HB := hideQ hb
  have HE := hideQ hE
  clear hb ha hr hs ca cr cs hE
  unfold boxOf at HC ⊢
  go_enter Tryz.func5, Tryz.ntmps5
  go_wp2_with fail
  refine (unhideQ HC _ _).mono ?_
  rintro e w1 ⟨rfl, hb1⟩
  have hz1 := hb1.size
  simp only [World.size_alloc] at hz1
  have HB1 := hideQ ((unhideQ HB _ _).trans (hb1.mono (by simp; omega)))
  have HR := hideQ ((hb1.block (w.heap.size + 1) (by simp)).trans (heap_alloc2_new w _ _))
  have hf : Calls Tryz.prog 18 #[chkV (tabB r sp lk t0 t1 ag rs ss al sh by_)] w1 fun e w' => e = .returned (flt (chkN (tabB r sp lk t0 t1 ag rs ss al sh by_)) (-1) (-1) (-1)) ∧ Below w1.heap.size w1 w' := by
    have hE1 : ErrTy w1 := (unhideQ HE).below (unhideQ HB1) h0
    cases tabB r sp lk t0 t1 ag rs ss al sh by_ with
    | true => exact fault_nil w1
    | false => exact fault_errno 2 w1 hE1
  have HF := hideQ hf
  clear hb1 hf
  go_wp2_with fail
  refine (unhideQ HF).mono ?_
  rintro e w2 ⟨rfl, hb2⟩
  have HB2 := hideQ ((unhideQ HB1).trans (hb2.mono (by omega)))
  have HR2 := hideQ ((hb2.block (w.heap.size + 1) (by omega)).trans (unhideQ HR))
  clear hb2
  obtain ⟨fv, f1, f2, f3⟩ := flt_arr (chkN (tabB r sp lk t0 t1 ag rs ss al sh by_)) (-1) (-1) (-1)
  have HF1 := hideQ f1
  rw [← f1]
  clear f1
  go_wp2_with (refine wpList_store_row rfl 28 (.tmp 2) (.tmp 5) rfl (w.heap.size + 1) fv rfl rfl 28 _ (unhideQ HR2) (Tryz.infFlt.trans (congrArg some f2.symm)) f2.symm f3 ?_)
  refine bodyPost_ret (results_cell_row (fn := Tryz.f5) (p := 2) (ty := 28) rfl _ _ (w.heap.size + 1) 28 fv (0, 0) _ rfl (setRow_heap _ _ _ _ _ _ (unhideQ HR2)) Tryz.underlying28 rfl (Tryz.infFlt.trans (congrArg some f2.symm))) rfl ?_
  exact ⟨by rw [unhideQ HF1], below_setRow (unhideQ HB2) (by omega) _⟩
end Go.Proofs.YtobempobmokkcaaGreatDoor
