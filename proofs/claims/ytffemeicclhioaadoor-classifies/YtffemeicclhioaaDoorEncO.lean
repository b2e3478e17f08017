/-
  Encodes: a program that came in, opened: its lists, its numbers, and how much it holds. Own work of the verifier.
-/
import Derived.Test.YtffemeicclhioaaDoorRows
import Derived.Test.YtffemeicclhioaaDoorM1
import Derived.WideShapes
import Derived.SizedLaws
import Derived.ChangeSlices
import Derived.Deep.Slices
namespace Go.Proofs.YtffemeicclhioaaDoor
open Go.ChangeShapes Go.WideShapes Go.ChangeAt Go.RowKit Go.Deep

def i64Ok (n : Int) : Prop := -9223372036854775808 ≤ n ∧ n ≤ 9223372036854775807
namespace bulkE
theorem one_le {H : Type} (d : DataW H) : 1 ≤ Rows.uptoBulk d := by
  cases d with
  | lit l => cases l <;> simp [Rows.uptoBulk]
  | _ => simp [Rows.uptoBulk]
theorem range_le {H : Type} (D : Nat → DataW H) (m : Nat → Nat) : ∀ (len : Nat), (∀ i, i < len → m i ≤ Rows.uptoBulk (D i)) → ((List.range len).map m).sum ≤ Rows.uptoBulkAll ((List.range len).map D)
  | 0, _ => by simp [Rows.uptoBulkAll]
  | n + 1, h => by
    have happ : ∀ (a b : List (DataW H)), Rows.uptoBulkAll (a ++ b) = Rows.uptoBulkAll a + Rows.uptoBulkAll b := by
      intro a b
      induction a with
      | nil => simp [Rows.uptoBulkAll]
      | cons x r ih => simp only [List.cons_append, Rows.uptoBulkAll, ih]; omega
    have h1 := range_le D m n (fun i hi => h i (by omega))
    have h2 := h n (by omega)
    rw [List.range_succ, List.map_append, List.map_append, List.sum_append, happ]
    simp [Rows.uptoBulkAll]
    omega
end bulkE
theorem Tryd.cellsIntE : Tryd.prog.cellsOf 3 = 1 := by kernel_rfl
theorem field_ofE {α : Type} {tr : TypeId → List Value → Option α} {fs : Array Field} {cs : List Value} {xs : List α} {c : Nat} {i : Nat} {f : Field} {y : α}
    (hf : ∀ (i : Nat) (f : Field), fs[i]? = some f → tr f.type ((cs.drop f.offset).take (Tryd.prog.cellsOf f.type)) = xs[i]?) (hi : fs[i]? = some f) (hc : Tryd.prog.cellsOf f.type = c) (hy : xs[i]? = some y) : tr f.type ((cs.drop f.offset).take c) = some y := by
  rw [← hy, ← hf i f hi, hc]
theorem list2E {α : Type} {l : List α} (h : l.length = 2) : ∃ a0 a1, l = [a0, a1] := by
  match l, h with
  | [a0, a1], _ => exact ⟨_, _, rfl⟩
theorem maxLen_short {n : Nat} (h : n ≤ maxLen) : n < short := by unfold maxLen at h; unfold short; omega
section
variable {H : Type} {enc : TypeId × Value → H} {w : World} {held : Bool}
abbrev TrE (enc : TypeId × Value → H) (w : World) (held : Bool) (n : Nat) (t : TypeId) (cs : List Value) (y : DataW H × List MemPlace) : Prop := DataW.trod enc Tryd.prog w 0 (fun _ => true) held n t cs = some y
theorem int_openE {n : Nat} {v : Value} {y : DataW H × List MemPlace} (h : TrE enc w held n 3 [v] y) : ∃ x : Int, v = .int .i64 x ∧ i64Ok x := by
  obtain ⟨x, e, -, hw⟩ := DataW.trod_int Tryd.underlying3 h
  have hb := bounds_i64 hw
  exact ⟨x, List.head_eq_of_cons_eq e, by unfold i64Ok; omega⟩
/-- A list of structs, opened: whatever its elements are. -/
theorem list_openE {t e : TypeId} {α : Type} [Inhabited α] {size : Nat} {msr : α → Nat} {One : Array Value × α → Prop} (ht : Tryd.prog.underlying t = some (.slice e)) (hc : Tryd.prog.cellsOf e = size) (hs : 0 < size)
    (elem : ∀ n cs y, cs.length = size → TrE enc w held n e cs y → ∃ x : α, One (cs.toArray, x) ∧ msr x ≤ Rows.uptoBulk y.1)
    {n : Nat} {v : Value} {y : DataW H × List MemPlace} (h : TrE enc w held n t [v] y) :
    ∃ ps : List (Array Value × α), LsB size w w.heap.size v ps ∧ (∀ q ∈ ps, One q) ∧ (ps.map fun q => msr q.2).sum + 1 ≤ Rows.uptoBulk y.1 ∧ ps.length < short ∧ ∃ a c, v = .slice a ps.length c ∧ ps.length ≤ c := by
  rcases open_slice ht h with ⟨h0, h1⟩ | ⟨a, len, cap, m, k, D, Pl, h0, -, hl, hm, hmm, h1, hx⟩
  · simp at h0
    subst h0 h1
    exact ⟨[], Or.inl ⟨rfl, _, _, rfl⟩, fun q hq => (by cases hq), (by simp [Rows.uptoBulk]), (by simp), _, _, rfl, (by simp)⟩
  · simp at h0
    subst h0 h1
    simp at hmm
    subst hmm
    have each : ∀ i, i < len → ∃ q : Array Value × α, One q ∧ w.cells? 0 (a.add (i * size)) size = some q.1.toList ∧ msr q.2 ≤ Rows.uptoBulk (D i) := by
      intro i hi
      obtain ⟨cs', g1, g2⟩ := hx i (by omega)
      rw [hc] at g1
      obtain ⟨-, hlen, -⟩ := World.cells?_some g1
      obtain ⟨x, g3, g4⟩ := elem k cs' _ hlen g2
      exact ⟨(cs'.toArray, x), g3, by simpa using g1, g4⟩
    haveI : Inhabited (Array Value × α) := ⟨(#[], default)⟩
    obtain ⟨f, hf⟩ := choose_lt each
    have hlenp : ((List.range len).map f).length = len := by simp
    refine ⟨(List.range len).map f, ?_, ?_, ?_, ?_, ?_⟩
    · rcases Nat.eq_zero_or_pos len with rfl | hpos
      · exact Or.inl ⟨rfl, _, _, rfl⟩
      · obtain ⟨sb, so, spot⟩ := a
        have g := World.cells?_some (hf 0 hpos).2.1
        have hcell := g.2.2 0 hs
        have hlt : 0 < (f 0).1.toList.length := by rw [g.2.1]; exact hs
        have hsp : spot = none := by
          rw [List.getElem?_eq_getElem hlt] at hcell
          simpa [Addr.add] using World.cell?_spot hcell
        subst hsp
        have hbk : sb < w.heap.size := by
          rw [List.getElem?_eq_getElem hlt] at hcell
          have := World.block_lt_of_cell? w _ hcell
          simpa [Addr.add] using this
        refine Or.inr ⟨sb, so, _, by rw [hlenp], hbk, fun i hi => ?_⟩
        have hi' : i < len := by simpa using hi
        have g := World.cells?_some (hf i hi').2.1
        intro j x hx'
        have hj : j < size := by
          have := (List.getElem?_eq_some_iff.1 hx').1
          rw [List.getElem_map, List.getElem_range, g.2.1] at this
          exact this
        have := g.2.2 j hj
        rw [List.getElem_map, List.getElem_range] at hx'
        rw [hx'] at this
        rw [Go.WideShapes.add_plain, Go.WideShapes.add_plain] at this
        exact this
    · intro q hq
      obtain ⟨i, hi, rfl⟩ := List.mem_map.1 hq
      exact (hf i (List.mem_range.1 hi)).1
    · rw [List.map_map]
      have := bulkE.range_le D (fun i => msr (f i).2) len (fun i hi => (hf i hi).2.2)
      simp only [Rows.uptoBulk]
      have e : (fun q : Array Value × α => msr q.2) ∘ f = fun i => msr (f i).2 := rfl
      rw [e]
      omega
    · rw [hlenp]; exact maxLen_short (by omega)
    · exact ⟨_, _, by rw [hlenp], by rw [hlenp]; exact hl⟩
theorem nums_openE {n : Nat} {v : Value} {y : DataW H × List MemPlace} (h : TrE enc w held n 23 [v] y) :
    ∃ ns : List Int, RsB w w.heap.size v ns ∧ (∀ x ∈ ns, i64Ok x) ∧ ns.length + 1 ≤ Rows.uptoBulk y.1 ∧ ns.length < short ∧ ∃ a c, v = .slice a ns.length c ∧ ns.length ≤ c := by
  obtain ⟨ps, h1, h2, h3, h4, a, c, h5, h6⟩ := list_openE (msr := fun _ => 1) (One := fun q : Array Value × Int => q.1 = #[.int .i64 q.2] ∧ i64Ok q.2) Tryd.underlying23 Tryd.cellsIntE (by decide) (fun n cs y hl hy => by
    match cs, hl with
    | [v], _ =>
      obtain ⟨x, rfl, hx⟩ := int_openE hy
      exact ⟨x, ⟨rfl, hx⟩, bulkE.one_le _⟩) h
  have hl : (ps.map (·.2)).length = ps.length := by simp
  refine ⟨ps.map (·.2), ?_, ?_, ?_, by omega, a, c, by rw [hl]; exact h5, by rw [hl]; exact h6⟩
  · rcases h1 with ⟨e, p, cap, hv⟩ | ⟨sb, so, cap, hv, hb, hc⟩
    · exact Or.inl ⟨by rw [e]; rfl, p, cap, hv⟩
    · refine Or.inr ⟨sb, so, cap, by rw [hl]; exact hv, hb, fun i hi => ?_⟩
      rw [hl] at hi
      have h0 := (h2 ps[i] (List.getElem_mem hi)).1
      have := hc i hi 0 (.int .i64 ps[i].2) (by rw [h0]; rfl)
      rw [Nat.mul_one, Nat.add_zero] at this
      rw [this]
      simp [List.getD, hi]
  · intro x hx
    obtain ⟨q, hq, rfl⟩ := List.mem_map.1 hx
    exact (h2 q hq).2
  · have e : (ps.map fun _ => 1).sum = ps.length := by
      clear h1 h2 h3 h4 h5 h6 hl
      induction ps with
      | nil => rfl
      | cons a r ih => simp [ih]; omega
    rw [hl]
    rw [e] at h3
    exact h3
end
end Go.Proofs.YtffemeicclhioaaDoor

