/-
  Checks: a table and a program that came in, opened: their lists with room behind, their numbers, how long lists of parameters are. Own work of the verifier.
-/
import Derived.Test.YteaemhhbpaicnaaDoorRows
import Derived.Test.YteaemhhbpaicnaaDoorEncO
import Derived.Test.YteaemhhbpaicnaaDoorM5
import Derived.Test.YteaemhhbpaicnaaDoorCkR
namespace Go.Proofs.YteaemhhbpaicnaaDoor
open Go.ChangeShapes Go.WideShapes Go.ChangeAt Go.RowKit Go.Deep

theorem mem_weightsAll {H : Type} {P : Program} {e : TypeId} {d : DataW H} {x : Nat} : ∀ {l : List (DataW H)}, d ∈ l → x ∈ d.weights P e → x ∈ DataW.weightsAll P e l
  | a :: r, hd, hx => by
    rw [DataW.weightsAll]
    rcases List.mem_cons.1 hd with rfl | h
    · exact List.mem_append.2 (Or.inl hx)
    · exact List.mem_append.2 (Or.inr (mem_weightsAll h hx))
theorem LS.congr {size : Nat} {w : World} {v : Value} {n : Nat} {A B : Nat → Array Value} (h : LS size w v n A) (e : ∀ i, i < n → A i = B i) : LS size w v n B := by
  obtain ⟨p, cap, h1, h2, h3, h4⟩ := h
  refine ⟨p, cap, h1, h2, h3, fun h0 => ?_⟩
  obtain ⟨sb, so, e1, hl, hc⟩ := h4 h0
  exact ⟨sb, so, e1, hl, fun i hi => by rw [← e i hi]; exact hc i hi⟩
section
variable {H : Type} {enc : TypeId × Value → H} {w : World} {held : Bool}
abbrev Lite (t : TypeId) (d : DataW H) : Prop := ∀ x ∈ d.weights Tryd.prog t, x ≤ reachBytes
theorem list_openC {t e : TypeId} {α : Type} [Inhabited α] {size b : Nat} {One : Array Value × α → Prop} (ht : Tryd.prog.underlying t = some (.slice e)) (hc : Tryd.prog.cellsOf e = size) (hs : 0 < size) (hby : Tryd.prog.bytesOf e = b)
    (elem : ∀ n cs y, cs.length = size → TrE enc w held n e cs y → Lite e y.1 → ∃ x : α, One (cs.toArray, x))
    {n : Nat} {v : Value} {y : DataW H × List MemPlace} (h : TrE enc w held n t [v] y) (hw : Lite t y.1) :
    ∃ ps : List (Array Value × α), LS size w v ps.length (fun k => (ps.getD k (#[], default)).1) ∧ (∀ q ∈ ps, One q) ∧ ps.length * b ≤ reachBytes := by
  rcases open_slice ht h with ⟨h0, h1⟩ | ⟨a, len, cap, m, k, D, Pl, h0, -, hl, hm, hmm, h1, hx⟩
  · simp at h0
    subst h0 h1
    exact ⟨[], ⟨none, 0, rfl, Nat.le_refl _, by show 0 < short; decide, fun h => absurd h (Nat.lt_irrefl 0)⟩, fun q hq => (by cases hq), (by simp)⟩
  · simp at h0
    subst h0 h1
    simp at hmm
    subst hmm
    unfold Lite at hw
    simp only [DataW.weights, ht, List.length_map, List.length_range, hby] at hw
    have hb0 := hw _ List.mem_cons_self
    have each : ∀ i, i < len → ∃ q : Array Value × α, One q ∧ w.cells? 0 (a.add (i * size)) size = some q.1.toList := by
      intro i hi
      obtain ⟨cs', g1, g2⟩ := hx i (by omega)
      rw [hc] at g1
      obtain ⟨-, hlen, -⟩ := World.cells?_some g1
      obtain ⟨x, g3⟩ := elem k cs' _ hlen g2 (fun z hz => hw z (List.mem_cons.2 (Or.inr (List.mem_append.2 (Or.inl (mem_weightsAll (List.mem_map.2 ⟨i, List.mem_range.2 hi, rfl⟩) hz))))))
      exact ⟨(cs'.toArray, x), g3, by simpa using g1⟩
    haveI : Inhabited (Array Value × α) := ⟨(#[], default)⟩
    obtain ⟨f, hf⟩ := choose_lt each
    have hlenp : ((List.range len).map f).length = len := by simp
    refine ⟨(List.range len).map f, ?_, ?_, ?_⟩
    · rw [hlenp]
      refine ⟨_, _, rfl, hl, maxLen_short (by omega), fun hpos => ?_⟩
      obtain ⟨sb, so, spot⟩ := a
      have g := World.cells?_some (hf 0 hpos).2
      have hcell := g.2.2 0 hs
      have hlt : 0 < (f 0).1.toList.length := by rw [g.2.1]; exact hs
      have hsp : spot = none := by
        rw [List.getElem?_eq_getElem hlt] at hcell
        simpa [Addr.add] using World.cell?_spot hcell
      subst hsp
      have hbk : sb < w.heap.size := by
        rw [List.getElem?_eq_getElem hlt] at hcell
        have := World.block_lt_of_cell? w _ hcell
        simpa [Addr.add] using this
      refine ⟨sb, so, rfl, hbk, fun i hi => ?_⟩
      have g := World.cells?_some (hf i hi).2
      have e1 : (((List.range len).map f).getD i (#[], default)).1 = (f i).1 := by simp [List.getD, hi]
      show w.rangeAt sb (so + i * size) (((List.range len).map f).getD i (#[], default)).1.toList
      rw [e1]
      intro j x hx'
      have hj : j < size := by
        have := (List.getElem?_eq_some_iff.1 hx').1
        rw [g.2.1] at this
        exact this
      have := g.2.2 j hj
      rw [hx'] at this
      rw [Go.WideShapes.add_plain, Go.WideShapes.add_plain] at this
      exact this
    · intro q hq
      obtain ⟨i, hi, rfl⟩ := List.mem_map.1 hq
      exact (hf i (List.mem_range.1 hi)).1
    · rw [hlenp]
      exact Nat.le_trans (Nat.mul_le_mul_right _ (Nat.le_add_right _ _)) hb0
theorem getD_map2 {α β : Type} (ps : List (α × β)) (a : α) (b : β) (k : Nat) : (ps.map (·.2)).getD k b = (ps.getD k (a, b)).2 := by
  simp only [List.getD, List.getElem?_map]
  cases ps[k]? <;> rfl
theorem getD_memC {α : Type} (ps : List α) (d : α) (k : Nat) (h : k < ps.length) : ps.getD k d ∈ ps := by simp [List.getD, h]
theorem nums_openC {n : Nat} {v : Value} {y : DataW H × List MemPlace} (h : TrE enc w held n 23 [v] y) (hw : Lite 23 y.1) : ∃ ns : List Int, Li w v ns := by
  obtain ⟨ps, h1, h2, -⟩ := list_openC (One := fun q : Array Value × Int => q.1 = #[.int .i64 q.2]) Tryd.underlying23 Tryd.cellsIntE (by decide) rfl (fun n cs y hl hy _ => by
    match cs, hl with
    | [v], _ =>
      obtain ⟨x, rfl, hx⟩ := int_openE hy
      exact ⟨x, rfl⟩) h hw
  have hl : (ps.map (·.2)).length = ps.length := by simp
  obtain ⟨p, cap, g1, g2, g3, g4⟩ := (h1.congr (B := fun k => #[.int .i64 ((ps.map (·.2)).getD k default)]) (fun i hi => by rw [getD_map2 ps #[]]; exact h2 _ (getD_memC _ _ _ hi))).ones
  exact ⟨ps.map (·.2), p, cap, by rw [hl]; exact g1, by rw [hl]; exact g2, by rw [hl]; exact g3, fun h0 => by rw [hl] at h0 ⊢; exact g4 h0⟩
theorem pairs_openC {t e : TypeId} (ht : Tryd.prog.underlying t = some (.slice e)) (hc : Tryd.prog.cellsOf e = 2) (hby : Tryd.prog.bytesOf e = 16)
    (elem : ∀ n cs y, cs.length = 2 → TrE enc w held n e cs y → ∃ x : Int × Int, cs.toArray = #[.int .i64 x.1, .int .i64 x.2])
    {n : Nat} {v : Value} {y : DataW H × List MemPlace} (h : TrE enc w held n t [v] y) (hw : Lite t y.1) : ∃ xs : List (Int × Int), LS 2 w v xs.length (fun k => pairA (xs.getD k (0, 0))) ∧ xs.length * 16 ≤ reachBytes := by
  obtain ⟨ps, h1, h2, h3⟩ := list_openC (One := fun q : Array Value × (Int × Int) => q.1 = pairA q.2) ht hc (by decide) hby (fun n cs y hl hy _ => by
    obtain ⟨x, hx⟩ := elem n cs y hl hy
    exact ⟨x, hx⟩) h hw
  have hl : (ps.map (·.2)).length = ps.length := by simp
  refine ⟨ps.map (·.2), ?_, by rw [hl]; exact h3⟩
  rw [hl]
  exact h1.congr (fun i hi => by rw [getD_map2 ps #[]]; exact h2 _ (getD_memC _ _ _ hi))
set_option maxRecDepth 100000 in
theorem args_openC {n : Nat} {v : Value} {y : DataW H × List MemPlace} (h : TrE enc w held n 52 [v] y) (hw : Lite 52 y.1) : ∃ xs : List (Int × Int), LS 2 w v xs.length (fun k => pairA (xs.getD k (0, 0))) ∧ xs.length * 16 ≤ reachBytes :=
  pairs_openC Tryd.underlying52 Tryd.cellsArgE (by kernel_rfl) (fun n cs y hl hy => by
    obtain ⟨x, ⟨hx, -⟩, -⟩ := two_openE Tryd.underlying82 rfl rfl rfl rfl rfl hl hy
    exact ⟨x, hx⟩) h hw
set_option maxRecDepth 100000 in
theorem params_openC {n : Nat} {v : Value} {y : DataW H × List MemPlace} (h : TrE enc w held n 45 [v] y) (hw : Lite 45 y.1) : ∃ xs : List (Int × Int), LS 2 w v xs.length (fun k => pairA (xs.getD k (0, 0))) ∧ xs.length * 16 ≤ reachBytes :=
  pairs_openC Tryd.underlying45 Tryd.cellsParamE (by kernel_rfl) (fun n cs y hl hy => by
    obtain ⟨x, ⟨hx, -⟩, -⟩ := two_openE Tryd.underlying71 rfl rfl rfl rfl rfl hl hy
    exact ⟨x, hx⟩) h hw
def wordI (i : InsE) : Prop := 0 ≤ i.n ∧ i.n < 18446744073709551616
set_option maxRecDepth 100000 in
theorem ins_openC {n : Nat} {cs : List Value} {y : DataW H × List MemPlace} (hl : cs.length = 8) (h : TrE enc w held n 54 cs y) (hw : Lite 54 y.1) : ∃ i : InsE, InsC w cs.toArray i ∧ wordI i := by
  obtain ⟨c0, c1, c2, c3, c4, c5, c6, c7, rfl⟩ := list8E hl
  obtain ⟨xs, k, -, hx, -, hxl, hall⟩ := DataW.trod_struct Tryd.underlying54 h
  obtain ⟨y0, y1, y2, y3, y4, y5, y6, y7, rfl⟩ := list8E hxl
  have f0 : TrE enc w held k 3 [c0] y0 := field_ofE hall (i := 0) rfl Tryd.cellsIntE rfl
  have f1 : TrE enc w held k 3 [c1] y1 := field_ofE hall (i := 1) rfl Tryd.cellsIntE rfl
  have f2 : TrE enc w held k 3 [c2] y2 := field_ofE hall (i := 2) rfl Tryd.cellsIntE rfl
  have f3 : TrE enc w held k 3 [c3] y3 := field_ofE hall (i := 3) rfl Tryd.cellsIntE rfl
  have f4 : TrE enc w held k 51 [c4] y4 := field_ofE hall (i := 4) rfl Tryd.cellsU64E rfl
  have f5 : TrE enc w held k 3 [c5] y5 := field_ofE hall (i := 5) rfl Tryd.cellsIntE rfl
  have f6 : TrE enc w held k 52 [c6] y6 := field_ofE hall (i := 6) rfl Tryd.cellsArgsE rfl
  have f7 : TrE enc w held k 23 [c7] y7 := field_ofE hall (i := 7) rfl Tryd.cellsIntsE rfl
  clear hall
  rw [show y.1 = _ from congrArg Prod.fst hx] at hw
  unfold Lite at hw
  simp only [DataW.weights, Tryd.underlying54, List.map_cons, List.map_nil, DataW.weightsEach, List.mem_append] at hw
  obtain ⟨x0, rfl, b0⟩ := int_openE f0
  obtain ⟨x1, rfl, b1⟩ := int_openE f1
  obtain ⟨x2, rfl, b2⟩ := int_openE f2
  obtain ⟨x3, rfl, b3⟩ := int_openE f3
  obtain ⟨x4, rfl, b4⟩ := u64_openE f4
  obtain ⟨x5, rfl, b5⟩ := int_openE f5
  obtain ⟨gs, l6, -⟩ := args_openC f6 (fun z hz => hw z (by first | exact Or.inl hz | simp only [hz, true_or, or_true]))
  obtain ⟨os, l7⟩ := nums_openC f7 (fun z hz => hw z (by first | exact Or.inl hz | simp only [hz, true_or, or_true]))
  exact ⟨⟨x0, x1, x2, x3, x4, x5, gs, os⟩, ⟨c6, c7, rfl, l6, l7⟩, b4⟩
theorem block_openC {n : Nat} {cs : List Value} {y : DataW H × List MemPlace} (hl : cs.length = 1) (h : TrE enc w held n 50 cs y) (hw : Lite 50 y.1) :
    ∃ l : List InsE, ∃ v, cs = [v] ∧ BlkC w v l ∧ ∀ i ∈ l, wordI i := by
  match cs, hl with
  | [v], _ =>
    haveI : Inhabited InsE := ⟨⟨0, 0, 0, 0, 0, 0, [], []⟩⟩
    obtain ⟨ps, h1, h2, -⟩ := list_openC (One := fun q : Array Value × InsE => InsC w q.1 q.2 ∧ wordI q.2) Tryd.underlying50 Tryd.cellsInsE (by decide) rfl (fun n cs y hl hy hw => ins_openC hl hy hw) h hw
    have hl : (ps.map (·.2)).length = ps.length := by simp
    refine ⟨ps.map (·.2), v, rfl, ⟨_, by rw [hl]; exact h1, fun k hk => ?_⟩, fun i hi => ?_⟩
    · rw [hl] at hk
      have e1 : (ps.getD k (#[], default)) = ps[k] := by simp [List.getD, hk]
      rw [e1, List.getElem_map]
      exact (h2 _ (List.getElem_mem hk)).1
    · obtain ⟨q, hq, rfl⟩ := List.mem_map.1 hi
      exact (h2 q hq).2
theorem blocks_openC {n : Nat} {v : Value} {y : DataW H × List MemPlace} (h : TrE enc w held n 46 [v] y) (hw : Lite 46 y.1) :
    ∃ (bl : List (List InsE)) (B : Nat → Value), LS 1 w v bl.length (fun k => #[B k]) ∧ (∀ k (hk : k < bl.length), BlkC w (B k) bl[k]) ∧ ∀ l ∈ bl, ∀ i ∈ l, wordI i := by
  obtain ⟨ps, h1, h2, -⟩ := list_openC (One := fun q : Array Value × List InsE => ∃ v, q.1 = #[v] ∧ BlkC w v q.2 ∧ ∀ i ∈ q.2, wordI i) Tryd.underlying46 Tryd.cellsInssE (by decide) rfl (fun n cs y hl hy hw => by
    obtain ⟨l, v, rfl, g⟩ := block_openC hl hy hw
    exact ⟨l, v, rfl, g⟩) h hw
  have hl : (ps.map (·.2)).length = ps.length := by simp
  refine ⟨ps.map (·.2), fun k => ((ps.getD k (#[], default)).1).getD 0 undef, ?_, fun k hk => ?_, fun l hl i hi => ?_⟩
  · rw [hl]
    refine h1.congr (fun i hi => ?_)
    obtain ⟨v', e, -⟩ := h2 _ (getD_memC ps (#[], default) i hi)
    show (ps.getD i (#[], default)).1 = #[((ps.getD i (#[], default)).1).getD 0 undef]
    rw [e]
    rfl
  · rw [hl] at hk
    have e1 : (ps.getD k (#[], default)) = ps[k] := by simp [List.getD, hk]
    obtain ⟨v', e, g, -⟩ := h2 _ (List.getElem_mem hk)
    show BlkC w (((ps.getD k (#[], default)).1).getD 0 undef) (ps.map (·.2))[k]
    rw [e1, List.getElem_map, e]
    exact g
  · obtain ⟨q, hq, rfl⟩ := List.mem_map.1 hl
    obtain ⟨v', -, -, g⟩ := h2 q hq
    exact g i hi
theorem sig_openC {n : Nat} {cs : List Value} {y : DataW H × List MemPlace} (hl : cs.length = 2) (h : TrE enc w held n 67 cs y) (hw : Lite 67 y.1) : ∃ s : List Int × Int, SigC w cs.toArray s := by
  obtain ⟨c0, c1, rfl⟩ := list2E hl
  obtain ⟨xs, k, -, hx, -, hxl, hall⟩ := DataW.trod_struct Tryd.underlying67 h
  obtain ⟨y0, y1, rfl⟩ := list2E hxl
  have f0 : TrE enc w held k 23 [c0] y0 := field_ofE hall (i := 0) rfl Tryd.cellsIntsE rfl
  have f1 : TrE enc w held k 3 [c1] y1 := field_ofE hall (i := 1) rfl Tryd.cellsIntE rfl
  clear hall
  rw [show y.1 = _ from congrArg Prod.fst hx] at hw
  unfold Lite at hw
  simp only [DataW.weights, Tryd.underlying67, List.map_cons, List.map_nil, DataW.weightsEach, List.mem_append] at hw
  obtain ⟨ns, l0⟩ := nums_openC f0 (fun z hz => hw z (by first | exact Or.inl hz | simp only [hz, true_or, or_true]))
  obtain ⟨x1, rfl, b1⟩ := int_openE f1
  exact ⟨(ns, x1), c0, rfl, l0⟩
def wordF (f : FuncE) : Prop := (∀ l ∈ f.blocks, ∀ i ∈ l, wordI i) ∧ f.params.length * 16 ≤ reachBytes
set_option maxRecDepth 100000 in
theorem func_openC {n : Nat} {cs : List Value} {y : DataW H × List MemPlace} (hl : cs.length = 5) (h : TrE enc w held n 48 cs y) (hw : Lite 48 y.1) : ∃ f : FuncE, FuncC w cs.toArray f ∧ wordF f := by
  obtain ⟨c0, c1, c2, c3, c4, rfl⟩ := list5E hl
  obtain ⟨xs, k, -, hx, -, hxl, hall⟩ := DataW.trod_struct Tryd.underlying48 h
  obtain ⟨y0, y1, y2, y3, y4, rfl⟩ := list5E hxl
  have f0 : TrE enc w held k 45 [c0] y0 := field_ofE hall (i := 0) rfl Tryd.cellsParamsE rfl
  have f1 : TrE enc w held k 3 [c1] y1 := field_ofE hall (i := 1) rfl Tryd.cellsIntE rfl
  have f2 : TrE enc w held k 23 [c2] y2 := field_ofE hall (i := 2) rfl Tryd.cellsIntsE rfl
  have f3 : TrE enc w held k 23 [c3] y3 := field_ofE hall (i := 3) rfl Tryd.cellsIntsE rfl
  have f4 : TrE enc w held k 46 [c4] y4 := field_ofE hall (i := 4) rfl Tryd.cellsBlocksE rfl
  clear hall
  rw [show y.1 = _ from congrArg Prod.fst hx] at hw
  unfold Lite at hw
  simp only [DataW.weights, Tryd.underlying48, List.map_cons, List.map_nil, DataW.weightsEach, List.mem_append] at hw
  obtain ⟨pp, l0, m0⟩ := params_openC f0 (fun z hz => hw z (by first | exact Or.inl hz | simp only [hz, true_or, or_true]))
  obtain ⟨x1, rfl, b1⟩ := int_openE f1
  obtain ⟨hs, l2⟩ := nums_openC f2 (fun z hz => hw z (by first | exact Or.inl hz | simp only [hz, true_or, or_true]))
  obtain ⟨ss, l3⟩ := nums_openC f3 (fun z hz => hw z (by first | exact Or.inl hz | simp only [hz, true_or, or_true]))
  obtain ⟨bl, B, l4, l5, v4⟩ := blocks_openC f4 (fun z hz => hw z (by first | exact Or.inl hz | simp only [hz, true_or, or_true]))
  exact ⟨⟨pp, x1, hs, ss, bl⟩, ⟨c0, c2, c3, c4, B, rfl, ⟨l0, l2, l3, l4, l5⟩⟩, v4, m0⟩
set_option maxRecDepth 100000 in
theorem prog_openC {b0 : Nat} {r : Reach} {v : Value} {d : DataW H} {p : List MemPlace} (hv : Value.okWide Tryd.prog w r b0 29 v) (h : DataW.Trod enc Tryd.prog w 0 (fun _ => true) held 29 v d p) (hw : Lite 29 d) :
    ∃ (fv ev : Value) (P : ProgE) (A E : Nat → Array Value), v = .agg #[fv, ev] ∧ ProgC w fv ev P A E ∧ NumP P ∧ ∀ k, (P.funcs.getD k noFunc).params.length ≤ 8796093022208 := by
  obtain ⟨cs, rfl, hsz⟩ := okWide_struct Tryd.underlying29 hv
  obtain ⟨l⟩ := cs
  obtain ⟨c0, c1, rfl⟩ := list2E (l := l) (hsz.trans (by kernel_rfl))
  obtain ⟨fuel, hf⟩ := h
  obtain ⟨xs, k, -, hx, -, hxl, hall⟩ := DataW.trod_struct Tryd.underlying29 hf
  obtain ⟨y0, y1, rfl⟩ := list2E hxl
  have f0 : TrE enc w held k 26 [c0] y0 := field_ofE hall (i := 0) rfl Tryd.cellsFuncsE rfl
  have f1 : TrE enc w held k 27 [c1] y1 := field_ofE hall (i := 1) rfl Tryd.cellsSigsE rfl
  clear hall
  rw [show d = _ from congrArg Prod.fst hx] at hw
  unfold Lite at hw
  simp only [DataW.weights, Tryd.underlying29, List.map_cons, List.map_nil, DataW.weightsEach, List.mem_append] at hw
  haveI : Inhabited FuncE := ⟨noFunc⟩
  obtain ⟨pf, l0, v0, -⟩ := list_openC (One := fun q : Array Value × FuncE => FuncC w q.1 q.2 ∧ wordF q.2) Tryd.underlying26 Tryd.cellsFuncE (by decide) rfl (fun n cs y hl hy hw => func_openC hl hy hw) f0 (fun z hz => hw z (by first | exact Or.inl hz | simp only [hz, true_or, or_true]))
  obtain ⟨pe, l1, v1, -⟩ := list_openC (One := fun q : Array Value × (List Int × Int) => SigC w q.1 q.2) Tryd.underlying27 Tryd.cellsSigE (by decide) rfl (fun n cs y hl hy hw => sig_openC hl hy hw) f1 (fun z hz => hw z (by first | exact Or.inl hz | simp only [hz, true_or, or_true]))
  have hl0 : (pf.map (·.2)).length = pf.length := by simp
  have hl1 : (pe.map (·.2)).length = pe.length := by simp
  have hfw : ∀ k, wordF ((pf.map (·.2)).getD k noFunc) := fun k => by
    by_cases hk : k < pf.length
    · rw [getD_map2 pf #[]]
      exact (v0 _ (getD_memC _ _ _ hk)).2
    · rw [show (pf.map (·.2)).getD k noFunc = noFunc by simp [List.getD, Nat.le_of_not_lt hk]]
      exact ⟨fun l hl => (by cases hl), by simp [noFunc]⟩
  refine ⟨c0, c1, ⟨pf.map (·.2), pe.map (·.2)⟩, _, _, rfl, ⟨by rw [hl0]; exact l0, fun k hk => ?_, by rw [hl1]; exact l1, fun k hk => ?_⟩, fun k i j => ?_, fun k => ?_⟩
  · have hk' : k < pf.length := by rw [← hl0]; exact hk
    have e1 : (pf.getD k (#[], default)) = pf[k] := by simp [List.getD, hk']
    show FuncC w (pf.getD k (#[], default)).1 (pf.map (·.2))[k]
    rw [e1, List.getElem_map]
    exact (v0 _ (List.getElem_mem hk')).1
  · have hk' : k < pe.length := by rw [← hl1]; exact hk
    have e1 : (pe.getD k (#[], default)) = pe[k] := by simp [List.getD, hk']
    show SigC w (pe.getD k (#[], default)).1 (pe.map (·.2))[k]
    rw [e1, List.getElem_map]
    exact v1 _ (List.getElem_mem hk')
  · have h := (hfw k).1
    show 0 ≤ ((((pf.map (·.2)).getD k noFunc).blocks.getD i []).getD j noIns).n ∧ ((((pf.map (·.2)).getD k noFunc).blocks.getD i []).getD j noIns).n < 18446744073709551616
    generalize (pf.map (·.2)).getD k noFunc = f at h
    by_cases hi : i < f.blocks.length
    · by_cases hj : j < (f.blocks.getD i []).length
      · exact h _ (getD_memC _ _ _ hi) _ (getD_memC _ _ _ hj)
      · rw [show (f.blocks.getD i []).getD j noIns = noIns by generalize f.blocks.getD i [] = l at hj ⊢; simp [List.getD, Nat.le_of_not_lt hj]]
        exact ⟨by decide, by decide⟩
    · rw [show f.blocks.getD i [] = [] by simp [List.getD, Nat.le_of_not_lt hi]]
      exact ⟨Int.le_refl 0, by show (0 : Int) < _; decide⟩
  · have h := (hfw k).2
    unfold reachBytes at h
    show ((pf.map (·.2)).getD k noFunc).params.length ≤ 8796093022208
    omega
end
end Go.Proofs.YteaemhhbpaicnaaDoor
