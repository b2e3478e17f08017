/-
  A region that draws its order: as 'flow', with stores among its operations, by whatever relation of the worlds the facts are kept. Own work of the verifier.
-/
import Derived.Test.YtobempobmokkcaaGreatDoorPrtOrd
import Derived.Laws.CopyRow
namespace Go.Proofs.YtobempobmokkcaaGreatDoor
open Go.RowKit

theorem opRun {P : Program} {o : Oper} {a : Act} {w w' : World} {v : Value} {Q : Exit → Act → World → Prop} {F : Value → World → Prop} (h : (execOp a.eval o).run P w = .ok (.value v) w') (hF : F v w') : o.wp P a w (fun a' w' => ∃ v, a' = a.put o.dst v ∧ F v w') Q := by
  unfold Oper.wp
  rw [h]
  exact ⟨v, rfl, hF⟩
theorem opSkip {P : Program} {o : Oper} {a : Act} {w w' : World} {Q : Exit → Act → World → Prop} {F : Value → World → Prop} (h : (execOp a.eval o).run P w = .ok .skip w') (hF : F undef w') : o.wp P a w (fun a' w' => ∃ v, a' = a.put o.dst v ∧ F v w') Q := by
  unfold Oper.wp
  rw [h]
  exact ⟨undef, rfl, hF⟩
theorem opEnter {P : Program} {o : Oper} {a : Act} {w w1 : World} {f : FuncId} {args : Array Value} {Q : Exit → Act → World → Prop} {F : Value → World → Prop} (h : (execOp a.eval o).run P w = .ok (.enter f args) w1) (hF : Calls P f args w1 fun e w' => ∃ v, e = .returned v ∧ F v w') : o.wp P a w (fun a' w' => ∃ v, a' = a.put o.dst v ∧ F v w') Q := by
  unfold Oper.wp
  rw [h]
  refine hF.mono ?_
  rintro e w' ⟨v, rfl, hv⟩
  exact ⟨v, rfl, hv⟩
theorem flow2 {P : Program} {ops : Array Oper} {Q : Exit → Act → World → Prop} {id : Nat} (hm : P.follows .mixedOrders = true) (base : Nat) (a0 : Act) (Ok : Nat → Value → World → Prop) (S : World → Prop) (R : World → World → Prop)
    (hd : ∀ (i : Nat) (o : Oper), ops[i]? = some o → (o.dst = some (base + i) ∨ o.dst = none) ∧ o.guard = none)
    (hsz : ∀ (i : Nat) (o : Oper), ops[i]? = some o → o.dst = some (base + i) → base + i < a0.tmps.size)
    (hle : ∀ (i : Nat) (o : Oper), ops[i]? = some o → ∀ e ∈ o.after, e.on < i)
    (stab : ∀ i v w w', Ok i v w → R w w' → Ok i v w')
    (stabS : ∀ w w', S w → R w w' → S w')
    (step : ∀ (i : Nat) (o : Oper), ops[i]? = some o → ∀ (a : Act) (w : World), S w → (∀ t, t < base → a.eval (.tmp t) = a0.eval (.tmp t)) → (∀ e ∈ o.after, Region.binds .any e = true → (∃ o', ops[e.on]? = some o' ∧ o'.dst = some (base + e.on)) → Ok e.on (a.eval (.tmp (base + e.on))) w) →
      o.wp P a w (fun a' w' => ∃ v, a' = a.put o.dst v ∧ R w w' ∧ Ok i v w') Q)
    (fin : ∀ (a : Act) (w : World), S w → a.defers = a0.defers → a.tmps.size = a0.tmps.size → (∀ t, t < base ∨ base + ops.size ≤ t → a.eval (.tmp t) = a0.eval (.tmp t)) → (∀ (i : Nat) (o : Oper), ops[i]? = some o → o.dst = some (base + i) → Ok i (a.eval (.tmp (base + i))) w) → (∀ (i : Nat) (o : Oper), ops[i]? = some o → o.dst = none → a.eval (.tmp (base + i)) = a0.eval (.tmp (base + i)) ∧ ∃ v, Ok i v w) → Q .normal a w)
    {w : World} (hS : S w.drew) : (Code.region id ops true).wp P Q a0 w := by
  refine wp_region_any hm (wpAny_inv (fun L a w => S w ∧ L.size = ops.size ∧ a.defers = a0.defers ∧ a.tmps.size = a0.tmps.size ∧ (∀ t, t < base ∨ base + ops.size ≤ t → a.eval (.tmp t) = a0.eval (.tmp t)) ∧ (∀ i, i < ops.size → L.getD i true = true → ∀ o, ops[i]? = some o → o.dst = some (base + i) → Ok i (a.eval (.tmp (base + i))) w) ∧ (∀ (i : Nat) (o : Oper), ops[i]? = some o → o.dst = none → a.eval (.tmp (base + i)) = a0.eval (.tmp (base + i)) ∧ (L.getD i true = true → ∃ v, Ok i v w))) ?_ ?_ _ _ _ _ ?_ ?_)
  · rintro L a w i ⟨h1, h2, h3, h4, h5, h6, h7⟩ hi
    obtain ⟨hl, o, ho, hdeps⟩ := mem_ready.1 hi
    have hlt : i < ops.size := (Array.getElem?_eq_some_iff.1 ho).1
    obtain ⟨hdst, hgd⟩ := hd i o ho
    have hwp := step i o ho a w h1 (fun t ht => h5 t (Or.inl ht)) (fun e he hb hh => by
      obtain ⟨o', ho', hdo⟩ := hh
      have hel : L.getD e.on true = true := by
        have := hdeps e he hb
        have hes : e.on < L.size := by have := hle i o ho e he; omega
        simpa [hes] using this
      exact h6 e.on (Nat.lt_trans (hle i o ho e he) hlt) hel o' ho' hdo)
    unfold wpOp
    simp only [ho]
    rw [if_pos (by unfold Region.wanted; rw [hgd])]
    refine Or.inl ?_
    refine Oper.wp_mono ?_ hwp
    rintro a' w' ⟨v, rfl, hbl, hok⟩
    have key : (fun a' w' => S w' ∧ (L.setIfInBounds i true).size = ops.size ∧ a'.defers = a0.defers ∧ a'.tmps.size = a0.tmps.size ∧ (∀ t, t < base ∨ base + ops.size ≤ t → a'.eval (.tmp t) = a0.eval (.tmp t)) ∧ (∀ j, j < ops.size → (L.setIfInBounds i true).getD j true = true → ∀ o, ops[j]? = some o → o.dst = some (base + j) → Ok j (a'.eval (.tmp (base + j))) w') ∧ (∀ (j : Nat) (o : Oper), ops[j]? = some o → o.dst = none → a'.eval (.tmp (base + j)) = a0.eval (.tmp (base + j)) ∧ ((L.setIfInBounds i true).getD j true = true → ∃ v, Ok j v w'))) (a.put o.dst v) w' := by
      rcases hdst with hdst | hdst
      · simp only [hdst]
        refine ⟨stabS _ _ h1 hbl, by simpa using h2, by simpa [Act.put] using h3, by simpa [Act.put] using h4, fun t ht => ?_, fun j hj hlj o' ho' hdo => ?_, fun j o' ho' hdo => ?_⟩
        · rw [eval_put_ne _ _ _ _ (by omega)]; exact h5 t ht
        · by_cases hji : j = i
          · subst hji; rw [eval_put_same _ _ _ (by have := hsz j o' ho' hdo; omega)]; exact hok
          · rw [eval_put_ne _ _ _ _ (by omega)]
            exact stab _ _ _ _ (h6 j hj (by simpa [Array.getElem?_setIfInBounds, Ne.symm hji] using hlj) o' ho' hdo) hbl
        · have hji : ¬ j = i := fun e => by subst e; rw [ho'] at ho; injection ho with ho; subst ho; rw [hdo] at hdst; cases hdst
          rw [eval_put_ne a (base + i) (base + j) v (by omega)]
          refine ⟨(h7 j o' ho' hdo).1, fun hlj => ?_⟩
          obtain ⟨v', hv'⟩ := (h7 j o' ho' hdo).2 (by simpa [Array.getElem?_setIfInBounds, Ne.symm hji] using hlj)
          exact ⟨v', stab _ _ _ _ hv' hbl⟩
      · simp only [hdst, Act.put]
        refine ⟨stabS _ _ h1 hbl, by simpa using h2, h3, h4, h5, fun j hj hlj o' ho' hdo => ?_, fun j o' ho' hdo => ⟨(h7 j o' ho' hdo).1, fun hlj => ?_⟩⟩
        · have hji : ¬ j = i := fun e => by subst e; rw [ho'] at ho; injection ho with ho; subst ho; rw [hdo] at hdst; cases hdst
          exact stab _ _ _ _ (h6 j hj (by simpa [Array.getElem?_setIfInBounds, Ne.symm hji] using hlj) o' ho' hdo) hbl
        · by_cases hji : j = i
          · subst hji; exact ⟨v, hok⟩
          · obtain ⟨v', hv'⟩ := (h7 j o' ho' hdo).2 (by simpa [Array.getElem?_setIfInBounds, Ne.symm hji] using hlj)
            exact ⟨v', stab _ _ _ _ hv' hbl⟩
    exact key
  · rintro L a w ⟨h1, h2, h3, h4, h5, h6, h7⟩ hr
    have all : ∀ n j, j < n → j < ops.size → L.getD j true = true := by
      intro n
      induction n with
      | zero => intro j hj; omega
      | succ n ih =>
        intro j hj hjs
        cases hlj : L.getD j true with
        | true => rfl
        | false =>
          exfalso
          have ho : ops[j]? = some ops[j] := Array.getElem?_eq_getElem hjs
          have : j ∈ Region.ready .any ops L := mem_ready.2 ⟨hlj, ops[j], ho, fun e he _ => by
            have hlt := hle j _ ho e he
            have := ih e.on (by omega) (by omega)
            have hes : e.on < L.size := by omega
            simpa [hes] using this⟩
          rw [hr] at this
          cases this
    exact fin a w h1 h3 h4 h5 (fun i o ho hdo => h6 i (Array.getElem?_eq_some_iff.1 ho).1 (all (i + 1) i (by omega) (Array.getElem?_eq_some_iff.1 ho).1) o ho hdo) (fun i o ho hdo => ⟨(h7 i o ho hdo).1, (h7 i o ho hdo).2 (all (i + 1) i (by omega) (Array.getElem?_eq_some_iff.1 ho).1)⟩)
  · unfold unl
    exact Nat.le_trans List.countP_le_length (by simp)
  · exact ⟨hS, by simp, rfl, rfl, fun _ _ => rfl, fun i hi h => by simp [hi] at h, fun i o ho _ => ⟨rfl, fun h => by simp [(Array.getElem?_eq_some_iff.1 ho).1] at h⟩⟩
theorem act_of2 (a a0 : Act) (base : Nat) (vs : List Value) (hd : a.defers = a0.defers) (hs : a.tmps.size = a0.tmps.size) (hb : base + vs.length ≤ a0.tmps.size)
    (hout : ∀ t, t < base ∨ base + vs.length ≤ t → a.eval (.tmp t) = a0.eval (.tmp t)) (hin : ∀ i, i < vs.length → a.eval (.tmp (base + i)) = vs.getD i undef) :
    a = ⟨(a0.tmps.toList.take base ++ (vs ++ a0.tmps.toList.drop (base + vs.length))).toArray, a0.defers⟩ := by
  obtain ⟨ts, df⟩ := a
  simp only at hd hs
  subst hd
  congr 1
  apply Array.ext
  · simp; omega
  · intro t h1 h2
    have hmin : min base a0.tmps.size = base := by omega
    have e0 : ts[t] = (⟨ts, a0.defers⟩ : Act).eval (.tmp t) := by simp [Act.eval, h1]
    rw [e0]
    by_cases c1 : t < base
    · rw [hout t (Or.inl c1)]
      simp [Act.eval, hmin, c1, show t < a0.tmps.size by omega]
    · by_cases c2 : t < base + vs.length
      · have := hin (t - base) (by omega)
        rw [show base + (t - base) = t by omega] at this
        rw [this]
        simp [List.getElem_append, c1, hmin, show t - base < vs.length by omega, List.getD]
      · rw [hout t (Or.inr (by omega))]
        simp [Act.eval, List.getElem_append, c1, hmin, show ¬ t - base < vs.length by omega, show t < a0.tmps.size by omega]
        congr 1
        omega
theorem store_run {P : Program} (w : World) (T : Nat) (t : TypeId) (cs arr : Array Value) (hsz : (sizeOf t).run P w = .ok arr.size w) (hc : cs.size = arr.size) (h : w.heap[T]? = some (.cells cs t (0, 0))) (h1 : ∀ v ∈ arr.toList, v.oneCell' = true) :
   (Instr.storeAt t (.pointer (some ⟨T, 0, none⟩)) (.agg arr)).run P w = .ok () (w.setRow T arr) := by
  have key := run_storeCells_at (P := P) T 0 t arr.toList 0 cs w h (by simp [hc]) h1
  have e1 : cs.toList.drop (0 + 0 + arr.toList.length) = [] := List.drop_of_length_le (by simp [hc])
  rw [e1] at key
  simp only [Nat.add_zero, List.take_zero, List.nil_append, List.append_nil, Array.toArray_toList] at key
  have e2 : (Instr.storeAt t (.pointer (some ⟨T, 0, none⟩)) (.agg arr)) = storeVar t ⟨T, 0, none⟩ (.agg arr) := rfl
  rw [e2]
  unfold storeVar
  rw [Sem.run_bind, hsz]
  simp only [Result.andThen_ok, Value.cells, ne_eq, not_true_eq_false, if_false]
  exact key
end Go.Proofs.YtobempobmokkcaaGreatDoor
