/-
  A region that draws its order, each operation of which only computes, reads, or makes memory: whatever the order, each slot holds what it should. Own work of the verifier.
-/
import Derived.Test.YtobempobmokkcaaGreatDoorPrtRef
import Derived.Orders
namespace Go.Proofs.YtobempobmokkcaaGreatDoor
open Go.RowKit

theorem cnt_lt (p q : Nat → Bool) (i : Nat) : ∀ l : List Nat, i ∈ l → (∀ j, q j = true → p j = true) → p i = true → q i = false → l.countP q < l.countP p
  | [], hi, _, _, _ => by cases hi
  | x :: r, hi, hpq, hp, hq => by
    have hm : r.countP q ≤ r.countP p := List.countP_mono_left (fun j _ h => hpq j h)
    by_cases hx : x = i
    · subst hx; simp [hp, hq]; omega
    · have hi' : i ∈ r := (List.mem_cons.1 hi).resolve_left (fun e => hx e.symm)
      have ih := cnt_lt p q i r hi' hpq hp hq
      cases hqx : q x with
      | false => simp [List.countP_cons, hqx]; omega
      | true => simp [hqx, hpq x hqx]; omega
def unl (n : Nat) (L : Array Bool) : Nat := (List.range n).countP fun j => !L.getD j true

theorem wpAny_inv {P : Program} {md : Region.Mode} {ops : Array Oper} {Q : Exit → Act → World → Prop} (I : Array Bool → Act → World → Prop)
    (step : ∀ L a w i, I L a w → i ∈ Region.ready md ops L → wpOp P ops Q i (fun a' w' => I (L.setIfInBounds i true) a' w') a w)
    (fin : ∀ L a w, I L a w → Region.ready md ops L = [] → Q .normal a w) :
    ∀ (fuel : Nat) (L : Array Bool) (a : Act) (w : World), unl ops.size L ≤ fuel → I L a w → wpAny P md ops Q fuel L a w
  | 0, L, a, w, h, hI => by
    have hr : Region.ready md ops L = [] := by
      apply List.eq_nil_iff_forall_not_mem.2
      intro i hi
      have h1 := (mem_ready.1 hi).1
      have hlt : i < ops.size := by
        obtain ⟨_, o, ho, _⟩ := mem_ready.1 hi
        exact (Array.getElem?_eq_some_iff.1 ho).1
      have h0 : unl ops.size L = 0 := by omega
      unfold unl at h0
      have := List.countP_eq_zero.1 h0 i (List.mem_range.2 hlt)
      rw [h1] at this
      simp at this
    exact ⟨hr, fin L a w hI hr⟩
  | fuel + 1, L, a, w, h, hI => by
    refine ⟨fin L a w hI, fun i hi => wpOp_mono (fun a' w' h' => wpAny_inv I step fin fuel _ a' w' ?_ h') (step L a w i hI hi)⟩
    have h1 := (mem_ready.1 hi).1
    have hlt : i < ops.size := by
      obtain ⟨_, o, ho, _⟩ := mem_ready.1 hi
      exact (Array.getElem?_eq_some_iff.1 ho).1
    have hLs : i < L.size := by
      rcases Nat.lt_or_ge i L.size with h' | h'
      · exact h'
      · simp [Array.getElem?_eq_none h'] at h1
    have := cnt_lt (fun j => !L.getD j true) (fun j => !(L.setIfInBounds i true).getD j true) i (List.range ops.size) (List.mem_range.2 hlt)
      (fun j hj => by
        by_cases hji : i = j
        · subst hji; simp [hLs] at hj
        · simpa [Array.getElem?_setIfInBounds, hji] using hj)
      (by simp only [h1]; rfl) (by simp [hLs])
    unfold unl at h ⊢
    omega

theorem eval_put_same (a : Act) (d : Nat) (v : Value) (h : d < a.tmps.size) : (a.put (some d) v).eval (.tmp d) = v := by
  simp [Act.put, Act.eval, h]
theorem eval_put_ne (a : Act) (d t : Nat) (v : Value) (h : d ≠ t) : (a.put (some d) v).eval (.tmp t) = a.eval (.tmp t) := by
  simp [Act.put, Act.eval, h]

theorem flow {P : Program} {ops : Array Oper} {Q : Exit → Act → World → Prop} {id : Nat} (hm : P.follows .mixedOrders = true) (base : Nat) (a0 : Act) (Ok : Nat → Value → World → Prop) (S : World → Prop)
    (hd : ∀ (i : Nat) (o : Oper), ops[i]? = some o → o.dst = some (base + i) ∧ o.guard = none)
    (hsz : base + ops.size ≤ a0.tmps.size)
    (hle : ∀ (i : Nat) (o : Oper), ops[i]? = some o → ∀ e ∈ o.after, e.on < i)
    (stab : ∀ i v w w', Ok i v w → Below w.heap.size w w' → Ok i v w')
    (stabS : ∀ w w', S w → Below w.heap.size w w' → S w')
    (step : ∀ (i : Nat) (o : Oper), ops[i]? = some o → ∀ (a : Act) (w : World), S w → (∀ t, t < base → a.eval (.tmp t) = a0.eval (.tmp t)) → (∀ e ∈ o.after, Region.binds .any e = true → Ok e.on (a.eval (.tmp (base + e.on))) w) →
      ∃ v w', (execOp a.eval o).run P w = .ok (.value v) w' ∧ Below w.heap.size w w' ∧ Ok i v w')
    (fin : ∀ (a : Act) (w : World), S w → a.defers = a0.defers → a.tmps.size = a0.tmps.size → (∀ t, t < base ∨ base + ops.size ≤ t → a.eval (.tmp t) = a0.eval (.tmp t)) → (∀ i, i < ops.size → Ok i (a.eval (.tmp (base + i))) w) → Q .normal a w)
    {w : World} (hS : S w.drew) : (Code.region id ops true).wp P Q a0 w := by
  refine wp_region_any hm (wpAny_inv (fun L a w => S w ∧ L.size = ops.size ∧ a.defers = a0.defers ∧ a.tmps.size = a0.tmps.size ∧ (∀ t, t < base ∨ base + ops.size ≤ t → a.eval (.tmp t) = a0.eval (.tmp t)) ∧ ∀ i, i < ops.size → L.getD i true = true → Ok i (a.eval (.tmp (base + i))) w) ?_ ?_ _ _ _ _ ?_ ?_)
  · rintro L a w i ⟨h1, h2, h3, h4, h5, h6⟩ hi
    obtain ⟨hl, o, ho, hdeps⟩ := mem_ready.1 hi
    have hlt : i < ops.size := (Array.getElem?_eq_some_iff.1 ho).1
    obtain ⟨hdst, hgd⟩ := hd i o ho
    obtain ⟨v, w', hrun, hbl, hok⟩ := step i o ho a w h1 (fun t ht => h5 t (Or.inl ht)) (fun e he hb => h6 e.on (Nat.lt_trans (hle i o ho e he) hlt) (by
      have := hdeps e he hb
      have hes : e.on < L.size := by have := hle i o ho e he; omega
      simpa [hes] using this))
    unfold wpOp
    simp only [ho]
    rw [if_pos (by unfold Region.wanted; rw [hgd])]
    refine Or.inl ?_
    unfold Oper.wp
    rw [hrun]
    simp only [Oper.upon, hdst]
    refine ⟨stabS _ _ h1 hbl, by simpa using h2, by simpa [Act.put] using h3, by simpa [Act.put] using h4, fun t ht => ?_, fun j hj hlj => ?_⟩
    · rw [eval_put_ne _ _ _ _ (by omega)]; exact h5 t ht
    · by_cases hji : j = i
      · subst hji; rw [eval_put_same _ _ _ (by omega)]; exact hok
      · rw [eval_put_ne _ _ _ _ (by omega)]
        exact stab _ _ _ _ (h6 j hj (by simpa [Array.getElem?_setIfInBounds, Ne.symm hji] using hlj)) hbl
  · rintro L a w ⟨h1, h2, h3, h4, h5, h6⟩ hr
    refine fin a w h1 h3 h4 h5 (fun i hi => h6 i hi ?_)
    -- the least one that is not listed would be ready
    have all : ∀ n j, j < n → j < ops.size → L.getD j true = true := by
      intro n
      induction n with
      | zero => intro j hj; omega
      | succ n ih =>
        intro j hj hjs
        cases hlj : L.getD j true with
        | true => rfl
        | false =>
          exfalso
          have ho : ops[j]? = some ops[j] := Array.getElem?_eq_getElem hjs
          have : j ∈ Region.ready .any ops L := mem_ready.2 ⟨hlj, ops[j], ho, fun e he _ => by
            have hlt := hle j _ ho e he
            have := ih e.on (by omega) (by omega)
            have hes : e.on < L.size := by omega
            simpa [hes] using this⟩
          rw [hr] at this
          cases this
    exact all (i + 1) i (by omega) hi
  · unfold unl
    exact Nat.le_trans List.countP_le_length (by simp)
  · exact ⟨hS, by simp, rfl, rfl, fun _ _ => rfl, fun i hi h => by simp [hi] at h⟩
end Go.Proofs.YtobempobmokkcaaGreatDoor
