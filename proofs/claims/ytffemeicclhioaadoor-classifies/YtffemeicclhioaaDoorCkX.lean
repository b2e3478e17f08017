/-
  Checks: a table and a program that came in, opened: their lists with room behind, their numbers, how long lists of parameters are. Own work of the verifier.
-/
import Derived.Test.YtffemeicclhioaaDoorRows
import Derived.Test.YtffemeicclhioaaDoorEncO
import Derived.Test.YtffemeicclhioaaDoorM5
import Derived.Test.YtffemeicclhioaaDoorCkR
namespace Go.Proofs.YtffemeicclhioaaDoor
open Go.ChangeShapes Go.WideShapes Go.ChangeAt Go.RowKit Go.Deep

theorem mem_weightsAll {H : Type} {P : Program} {e : TypeId} {d : DataW H} {x : Nat} : ∀ {l : List (DataW H)}, d ∈ l → x ∈ d.weights P e → x ∈ DataW.weightsAll P e l
  | a :: r, hd, hx => by
    rw [DataW.weightsAll]
    rcases List.mem_cons.1 hd with rfl | h
    · exact List.mem_append.2 (Or.inl hx)
    · exact List.mem_append.2 (Or.inr (mem_weightsAll h hx))
theorem LS.congr {size : Nat} {w : World} {v : Value} {n : Nat} {A B : Nat → Array Value} (h : LS size w v n A) (e : ∀ i, i < n → A i = B i) : LS size w v n B := by
  obtain ⟨p, cap, h1, h2, h3, h4⟩ := h
  refine ⟨p, cap, h1, h2, h3, fun h0 => ?_⟩
  obtain ⟨sb, so, e1, hl, hc⟩ := h4 h0
  exact ⟨sb, so, e1, hl, fun i hi => by rw [← e i hi]; exact hc i hi⟩
section
variable {H : Type} {enc : TypeId × Value → H} {w : World} {held : Bool}
abbrev Lite (t : TypeId) (d : DataW H) : Prop := ∀ x ∈ d.weights Tryd.prog t, x ≤ reachBytes
theorem list_openC {t e : TypeId} {α : Type} [Inhabited α] {size b : Nat} {One : Array Value × α → Prop} (ht : Tryd.prog.underlying t = some (.slice e)) (hc : Tryd.prog.cellsOf e = size) (hs : 0 < size) (hby : Tryd.prog.bytesOf e = b)
    (elem : ∀ n cs y, cs.length = size → TrE enc w held n e cs y → Lite e y.1 → ∃ x : α, One (cs.toArray, x))
    {n : Nat} {v : Value} {y : DataW H × List MemPlace} (h : TrE enc w held n t [v] y) (hw : Lite t y.1) :
    ∃ ps : List (Array Value × α), LS size w v ps.length (fun k => (ps.getD k (#[], default)).1) ∧ (∀ q ∈ ps, One q) ∧ ps.length * b ≤ reachBytes := by
  rcases open_slice ht h with ⟨h0, h1⟩ | ⟨a, len, cap, m, k, D, Pl, h0, -, hl, hm, hmm, h1, hx⟩
  · simp at h0
    subst h0 h1
    exact ⟨[], ⟨none, 0, rfl, Nat.le_refl _, by show 0 < short; decide, fun h => absurd h (Nat.lt_irrefl 0)⟩, fun q hq => (by cases hq), (by simp)⟩
  · simp at h0
    subst h0 h1
    simp at hmm
    subst hmm
    unfold Lite at hw
    simp only [DataW.weights, ht, List.length_map, List.length_range, hby] at hw
    have hb0 := hw _ List.mem_cons_self
    have each : ∀ i, i < len → ∃ q : Array Value × α, One q ∧ w.cells? 0 (a.add (i * size)) size = some q.1.toList := by
      intro i hi
      obtain ⟨cs', g1, g2⟩ := hx i (by omega)
      rw [hc] at g1
      obtain ⟨-, hlen, -⟩ := World.cells?_some g1
      obtain ⟨x, g3⟩ := elem k cs' _ hlen g2 (fun z hz => hw z (List.mem_cons.2 (Or.inr (List.mem_append.2 (Or.inl (mem_weightsAll (List.mem_map.2 ⟨i, List.mem_range.2 hi, rfl⟩) hz))))))
      exact ⟨(cs'.toArray, x), g3, by simpa using g1⟩
    haveI : Inhabited (Array Value × α) := ⟨(#[], default)⟩
    obtain ⟨f, hf⟩ := choose_lt each
    have hlenp : ((List.range len).map f).length = len := by simp
    refine ⟨(List.range len).map f, ?_, ?_, ?_⟩
    · rw [hlenp]
      refine ⟨_, _, rfl, hl, maxLen_short (by omega), fun hpos => ?_⟩
      obtain ⟨sb, so, spot⟩ := a
      have g := World.cells?_some (hf 0 hpos).2
      have hcell := g.2.2 0 hs
      have hlt : 0 < (f 0).1.toList.length := by rw [g.2.1]; exact hs
      have hsp : spot = none := by
        rw [List.getElem?_eq_getElem hlt] at hcell
        simpa [Addr.add] using World.cell?_spot hcell
      subst hsp
      have hbk : sb < w.heap.size := by
        rw [List.getElem?_eq_getElem hlt] at hcell
        have := World.block_lt_of_cell? w _ hcell
        simpa [Addr.add] using this
      refine ⟨sb, so, rfl, hbk, fun i hi => ?_⟩
      have g := World.cells?_some (hf i hi).2
      have e1 : (((List.range len).map f).getD i (#[], default)).1 = (f i).1 := by simp [List.getD, hi]
      show w.rangeAt sb (so + i * size) (((List.range len).map f).getD i (#[], default)).1.toList
      rw [e1]
      intro j x hx'
      have hj : j < size := by
        have := (List.getElem?_eq_some_iff.1 hx').1
        rw [g.2.1] at this
        exact this
      have := g.2.2 j hj
      rw [hx'] at this
      rw [Go.WideShapes.add_plain, Go.WideShapes.add_plain] at this
      exact this
    · intro q hq
      obtain ⟨i, hi, rfl⟩ := List.mem_map.1 hq
      exact (hf i (List.mem_range.1 hi)).1
    · rw [hlenp]
      exact Nat.le_trans (Nat.mul_le_mul_right _ (Nat.le_add_right _ _)) hb0
theorem getD_map2 {α β : Type} (ps : List (α × β)) (a : α) (b : β) (k : Nat) : (ps.map (·.2)).getD k b = (ps.getD k (a, b)).2 := by
  simp only [List.getD, List.getElem?_map]
  cases ps[k]? <;> rfl
theorem getD_memC {α : Type} (ps : List α) (d : α) (k : Nat) (h : k < ps.length) : ps.getD k d ∈ ps := by simp [List.getD, h]
theorem nums_openC {n : Nat} {v : Value} {y : DataW H × List MemPlace} (h : TrE enc w held n 23 [v] y) (hw : Lite 23 y.1) : ∃ ns : List Int, Li w v ns := by
  obtain ⟨ps, h1, h2, -⟩ := list_openC (One := fun q : Array Value × Int => q.1 = #[.int .i64 q.2]) Tryd.underlying23 Tryd.cellsIntE (by decide) rfl (fun n cs y hl hy _ => by
    match cs, hl with
    | [v], _ =>
      obtain ⟨x, rfl, hx⟩ := int_openE hy
      exact ⟨x, rfl⟩) h hw
  have hl : (ps.map (·.2)).length = ps.length := by simp
  obtain ⟨p, cap, g1, g2, g3, g4⟩ := (h1.congr (B := fun k => #[.int .i64 ((ps.map (·.2)).getD k default)]) (fun i hi => by rw [getD_map2 ps #[]]; exact h2 _ (getD_memC _ _ _ hi))).ones
  exact ⟨ps.map (·.2), p, cap, by rw [hl]; exact g1, by rw [hl]; exact g2, by rw [hl]; exact g3, fun h0 => by rw [hl] at h0 ⊢; exact g4 h0⟩
end
end Go.Proofs.YtffemeicclhioaaDoor

