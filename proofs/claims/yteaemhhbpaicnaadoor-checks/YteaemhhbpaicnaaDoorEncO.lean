/-
  Encodes: a program that came in, opened: its lists, its numbers, and how much it holds. Own work of the verifier.
-/
import Derived.Test.YteaemhhbpaicnaaDoorRows
import Derived.Test.YteaemhhbpaicnaaDoorM1
import Derived.WideShapes
import Derived.SizedLaws
import Derived.ChangeSlices
import Derived.Deep.Slices
namespace Go.Proofs.YteaemhhbpaicnaaDoor
open Go.ChangeShapes Go.WideShapes Go.ChangeAt Go.RowKit Go.Deep

def i64Ok (n : Int) : Prop := -9223372036854775808 ≤ n ∧ n ≤ 9223372036854775807
structure InsOk (i : InsE) : Prop where
  op : i64Ok i.op
  d : i64Ok i.d
  a : i64Ok i.a
  bb : i64Ok i.bb
  n : 0 ≤ i.n ∧ i.n < 18446744073709551616
  f : i64Ok i.f
  args : ∀ x ∈ i.args, i64Ok x.1 ∧ i64Ok x.2
  outs : ∀ x ∈ i.outs, i64Ok x
structure FuncOk (f : FuncE) : Prop where
  params : ∀ x ∈ f.params, i64Ok x.1 ∧ i64Ok x.2
  results : i64Ok f.results
  homes : ∀ x ∈ f.homes, i64Ok x
  slots : ∀ x ∈ f.slots, i64Ok x
  blocks : ∀ l ∈ f.blocks, ∀ i ∈ l, InsOk i
def SigOk (s : List Int × Int) : Prop := (∀ x ∈ s.1, i64Ok x) ∧ i64Ok s.2
structure ProgOk (p : ProgE) : Prop where
  funcs : ∀ f ∈ p.funcs, FuncOk f
  externs : ∀ s ∈ p.externs, SigOk s
/-- How much is in it. -/
def mIns (i : InsE) : Nat := 8 + i.args.length + i.outs.length
def mBlock (l : List InsE) : Nat := 1 + (l.map mIns).sum
def mSig (s : List Int × Int) : Nat := 2 + s.1.length
def mFunc (f : FuncE) : Nat := 6 + f.params.length + f.homes.length + f.slots.length + (f.blocks.map mBlock).sum
def mProg (p : ProgE) : Nat := 2 + (p.externs.map mSig).sum + (p.funcs.map mFunc).sum
namespace bulkE
theorem one_le {H : Type} (d : DataW H) : 1 ≤ Rows.uptoBulk d := by
  cases d with
  | lit l => cases l <;> simp [Rows.uptoBulk]
  | _ => simp [Rows.uptoBulk]
theorem range_le {H : Type} (D : Nat → DataW H) (m : Nat → Nat) : ∀ (len : Nat), (∀ i, i < len → m i ≤ Rows.uptoBulk (D i)) → ((List.range len).map m).sum ≤ Rows.uptoBulkAll ((List.range len).map D)
  | 0, _ => by simp [Rows.uptoBulkAll]
  | n + 1, h => by
    have happ : ∀ (a b : List (DataW H)), Rows.uptoBulkAll (a ++ b) = Rows.uptoBulkAll a + Rows.uptoBulkAll b := by
      intro a b
      induction a with
      | nil => simp [Rows.uptoBulkAll]
      | cons x r ih => simp only [List.cons_append, Rows.uptoBulkAll, ih]; omega
    have h1 := range_le D m n (fun i hi => h i (by omega))
    have h2 := h n (by omega)
    rw [List.range_succ, List.map_append, List.map_append, List.sum_append, happ]
    simp [Rows.uptoBulkAll]
    omega
end bulkE
theorem Tryd.cellsIntE : Tryd.prog.cellsOf 3 = 1 := by kernel_rfl
theorem Tryd.cellsU64E : Tryd.prog.cellsOf 51 = 1 := by kernel_rfl
theorem Tryd.cellsIntsE : Tryd.prog.cellsOf 23 = 1 := by kernel_rfl
theorem Tryd.cellsArgE : Tryd.prog.cellsOf 82 = 2 := by kernel_rfl
theorem Tryd.cellsArgsE : Tryd.prog.cellsOf 52 = 1 := by kernel_rfl
theorem Tryd.cellsParamE : Tryd.prog.cellsOf 71 = 2 := by kernel_rfl
theorem Tryd.cellsParamsE : Tryd.prog.cellsOf 45 = 1 := by kernel_rfl
theorem Tryd.cellsInsE : Tryd.prog.cellsOf 54 = 8 := by kernel_rfl
theorem Tryd.cellsInssE : Tryd.prog.cellsOf 50 = 1 := by kernel_rfl
theorem Tryd.cellsBlocksE : Tryd.prog.cellsOf 46 = 1 := by kernel_rfl
theorem Tryd.cellsSigE : Tryd.prog.cellsOf 67 = 2 := by kernel_rfl
theorem Tryd.cellsSigsE : Tryd.prog.cellsOf 27 = 1 := by kernel_rfl
theorem Tryd.cellsFuncE : Tryd.prog.cellsOf 48 = 5 := by kernel_rfl
theorem Tryd.cellsFuncsE : Tryd.prog.cellsOf 26 = 1 := by kernel_rfl
theorem field_ofE {α : Type} {tr : TypeId → List Value → Option α} {fs : Array Field} {cs : List Value} {xs : List α} {c : Nat} {i : Nat} {f : Field} {y : α}
    (hf : ∀ (i : Nat) (f : Field), fs[i]? = some f → tr f.type ((cs.drop f.offset).take (Tryd.prog.cellsOf f.type)) = xs[i]?) (hi : fs[i]? = some f) (hc : Tryd.prog.cellsOf f.type = c) (hy : xs[i]? = some y) : tr f.type ((cs.drop f.offset).take c) = some y := by
  rw [← hy, ← hf i f hi, hc]
theorem list2E {α : Type} {l : List α} (h : l.length = 2) : ∃ a0 a1, l = [a0, a1] := by
  match l, h with
  | [a0, a1], _ => exact ⟨_, _, rfl⟩
theorem list5E {α : Type} {l : List α} (h : l.length = 5) : ∃ a0 a1 a2 a3 a4, l = [a0, a1, a2, a3, a4] := by
  match l, h with
  | [a0, a1, a2, a3, a4], _ => exact ⟨_, _, _, _, _, rfl⟩
theorem list8E {α : Type} {l : List α} (h : l.length = 8) : ∃ a0 a1 a2 a3 a4 a5 a6 a7, l = [a0, a1, a2, a3, a4, a5, a6, a7] := by
  match l, h with
  | [a0, a1, a2, a3, a4, a5, a6, a7], _ => exact ⟨_, _, _, _, _, _, _, _, rfl⟩
theorem maxLen_short {n : Nat} (h : n ≤ maxLen) : n < short := by unfold maxLen at h; unfold short; omega
section
variable {H : Type} {enc : TypeId × Value → H} {w : World} {held : Bool}
abbrev TrE (enc : TypeId × Value → H) (w : World) (held : Bool) (n : Nat) (t : TypeId) (cs : List Value) (y : DataW H × List MemPlace) : Prop := DataW.trod enc Tryd.prog w 0 (fun _ => true) held n t cs = some y
theorem int_openE {n : Nat} {v : Value} {y : DataW H × List MemPlace} (h : TrE enc w held n 3 [v] y) : ∃ x : Int, v = .int .i64 x ∧ i64Ok x := by
  obtain ⟨x, e, -, hw⟩ := DataW.trod_int Tryd.underlying3 h
  have hb := bounds_i64 hw
  exact ⟨x, List.head_eq_of_cons_eq e, by unfold i64Ok; omega⟩
theorem u64_openE {n : Nat} {v : Value} {y : DataW H × List MemPlace} (h : TrE enc w held n 51 [v] y) : ∃ x : Int, v = .int .u64 x ∧ 0 ≤ x ∧ x < 18446744073709551616 := by
  obtain ⟨x, e, -, hw⟩ := DataW.trod_int Tryd.underlying51 h
  refine ⟨x, List.head_eq_of_cons_eq e, ?_⟩
  have hb := bounds_u64 hw
  omega
/-- A list of structs, opened: whatever its elements are. -/
theorem list_openE {t e : TypeId} {α : Type} [Inhabited α] {size : Nat} {msr : α → Nat} {One : Array Value × α → Prop} (ht : Tryd.prog.underlying t = some (.slice e)) (hc : Tryd.prog.cellsOf e = size) (hs : 0 < size)
    (elem : ∀ n cs y, cs.length = size → TrE enc w held n e cs y → ∃ x : α, One (cs.toArray, x) ∧ msr x ≤ Rows.uptoBulk y.1)
    {n : Nat} {v : Value} {y : DataW H × List MemPlace} (h : TrE enc w held n t [v] y) :
    ∃ ps : List (Array Value × α), LsB size w w.heap.size v ps ∧ (∀ q ∈ ps, One q) ∧ (ps.map fun q => msr q.2).sum + 1 ≤ Rows.uptoBulk y.1 ∧ ps.length < short ∧ ∃ a c, v = .slice a ps.length c ∧ ps.length ≤ c := by
  rcases open_slice ht h with ⟨h0, h1⟩ | ⟨a, len, cap, m, k, D, Pl, h0, -, hl, hm, hmm, h1, hx⟩
  · simp at h0
    subst h0 h1
    exact ⟨[], Or.inl ⟨rfl, _, _, rfl⟩, fun q hq => (by cases hq), (by simp [Rows.uptoBulk]), (by simp), _, _, rfl, (by simp)⟩
  · simp at h0
    subst h0 h1
    simp at hmm
    subst hmm
    have each : ∀ i, i < len → ∃ q : Array Value × α, One q ∧ w.cells? 0 (a.add (i * size)) size = some q.1.toList ∧ msr q.2 ≤ Rows.uptoBulk (D i) := by
      intro i hi
      obtain ⟨cs', g1, g2⟩ := hx i (by omega)
      rw [hc] at g1
      obtain ⟨-, hlen, -⟩ := World.cells?_some g1
      obtain ⟨x, g3, g4⟩ := elem k cs' _ hlen g2
      exact ⟨(cs'.toArray, x), g3, by simpa using g1, g4⟩
    haveI : Inhabited (Array Value × α) := ⟨(#[], default)⟩
    obtain ⟨f, hf⟩ := choose_lt each
    have hlenp : ((List.range len).map f).length = len := by simp
    refine ⟨(List.range len).map f, ?_, ?_, ?_, ?_, ?_⟩
    · rcases Nat.eq_zero_or_pos len with rfl | hpos
      · exact Or.inl ⟨rfl, _, _, rfl⟩
      · obtain ⟨sb, so, spot⟩ := a
        have g := World.cells?_some (hf 0 hpos).2.1
        have hcell := g.2.2 0 hs
        have hlt : 0 < (f 0).1.toList.length := by rw [g.2.1]; exact hs
        have hsp : spot = none := by
          rw [List.getElem?_eq_getElem hlt] at hcell
          simpa [Addr.add] using World.cell?_spot hcell
        subst hsp
        have hbk : sb < w.heap.size := by
          rw [List.getElem?_eq_getElem hlt] at hcell
          have := World.block_lt_of_cell? w _ hcell
          simpa [Addr.add] using this
        refine Or.inr ⟨sb, so, _, by rw [hlenp], hbk, fun i hi => ?_⟩
        have hi' : i < len := by simpa using hi
        have g := World.cells?_some (hf i hi').2.1
        intro j x hx'
        have hj : j < size := by
          have := (List.getElem?_eq_some_iff.1 hx').1
          rw [List.getElem_map, List.getElem_range, g.2.1] at this
          exact this
        have := g.2.2 j hj
        rw [List.getElem_map, List.getElem_range] at hx'
        rw [hx'] at this
        rw [Go.WideShapes.add_plain, Go.WideShapes.add_plain] at this
        exact this
    · intro q hq
      obtain ⟨i, hi, rfl⟩ := List.mem_map.1 hq
      exact (hf i (List.mem_range.1 hi)).1
    · rw [List.map_map]
      have := bulkE.range_le D (fun i => msr (f i).2) len (fun i hi => (hf i hi).2.2)
      simp only [Rows.uptoBulk]
      have e : (fun q : Array Value × α => msr q.2) ∘ f = fun i => msr (f i).2 := rfl
      rw [e]
      omega
    · rw [hlenp]; exact maxLen_short (by omega)
    · exact ⟨_, _, by rw [hlenp], by rw [hlenp]; exact hl⟩
theorem nums_openE {n : Nat} {v : Value} {y : DataW H × List MemPlace} (h : TrE enc w held n 23 [v] y) :
    ∃ ns : List Int, RsB w w.heap.size v ns ∧ (∀ x ∈ ns, i64Ok x) ∧ ns.length + 1 ≤ Rows.uptoBulk y.1 ∧ ns.length < short ∧ ∃ a c, v = .slice a ns.length c ∧ ns.length ≤ c := by
  obtain ⟨ps, h1, h2, h3, h4, a, c, h5, h6⟩ := list_openE (msr := fun _ => 1) (One := fun q : Array Value × Int => q.1 = #[.int .i64 q.2] ∧ i64Ok q.2) Tryd.underlying23 Tryd.cellsIntE (by decide) (fun n cs y hl hy => by
    match cs, hl with
    | [v], _ =>
      obtain ⟨x, rfl, hx⟩ := int_openE hy
      exact ⟨x, ⟨rfl, hx⟩, bulkE.one_le _⟩) h
  have hl : (ps.map (·.2)).length = ps.length := by simp
  refine ⟨ps.map (·.2), ?_, ?_, ?_, by omega, a, c, by rw [hl]; exact h5, by rw [hl]; exact h6⟩
  · rcases h1 with ⟨e, p, cap, hv⟩ | ⟨sb, so, cap, hv, hb, hc⟩
    · exact Or.inl ⟨by rw [e]; rfl, p, cap, hv⟩
    · refine Or.inr ⟨sb, so, cap, by rw [hl]; exact hv, hb, fun i hi => ?_⟩
      rw [hl] at hi
      have h0 := (h2 ps[i] (List.getElem_mem hi)).1
      have := hc i hi 0 (.int .i64 ps[i].2) (by rw [h0]; rfl)
      rw [Nat.mul_one, Nat.add_zero] at this
      rw [this]
      simp [List.getD, hi]
  · intro x hx
    obtain ⟨q, hq, rfl⟩ := List.mem_map.1 hx
    exact (h2 q hq).2
  · have e : (ps.map fun _ => 1).sum = ps.length := by
      clear h1 h2 h3 h4 h5 h6 hl
      induction ps with
      | nil => rfl
      | cons a r ih => simp [ih]; omega
    rw [hl]
    rw [e] at h3
    exact h3
theorem two_openE {t : TypeId} {fs : Array Field} {f0 f1 : Field} (ht : Tryd.prog.underlying t = some (.struct fs)) (hf : fs = #[f0, f1]) (t0 : f0.type = 3) (t1 : f1.type = 3) (o0 : f0.offset = 0) (o1 : f1.offset = 1)
    {n : Nat} {cs : List Value} {y : DataW H × List MemPlace} (hl : cs.length = 2) (h : TrE enc w held n t cs y) : ∃ x : Int × Int, (cs.toArray = #[.int .i64 x.1, .int .i64 x.2] ∧ i64Ok x.1 ∧ i64Ok x.2) ∧ 3 ≤ Rows.uptoBulk y.1 := by
  obtain ⟨c0, c1, rfl⟩ := list2E hl
  obtain ⟨xs, k, -, hx, -, hxl, hall⟩ := DataW.trod_struct ht h
  subst hf
  obtain ⟨y0, y1, rfl⟩ := list2E hxl
  have g0 := hall 0 f0 rfl
  have g1 := hall 1 f1 rfl
  rw [t0, o0, Tryd.cellsIntE] at g0
  rw [t1, o1, Tryd.cellsIntE] at g1
  obtain ⟨x0, rfl, b0⟩ := int_openE (v := c0) (y := y0) g0
  obtain ⟨x1, rfl, b1⟩ := int_openE (v := c1) (y := y1) g1
  refine ⟨(x0, x1), ⟨rfl, b0, b1⟩, ?_⟩
  rw [congrArg Prod.fst hx]
  have := bulkE.one_le y0.1
  have := bulkE.one_le y1.1
  simp only [List.map_cons, List.map_nil, Rows.uptoBulk, Rows.uptoBulkAll]
  omega
theorem ones_sum {α : Type} (ps : List α) : (ps.map fun _ => 1).sum = ps.length := by
  induction ps with
  | nil => rfl
  | cons a r ih => simp [ih]; omega
theorem sum_map2 {α β : Type} (ps : List (α × β)) (m : β → Nat) : (ps.map fun q => m q.2).sum = ((ps.map (·.2)).map m).sum := by rw [List.map_map]; rfl
set_option maxRecDepth 100000 in
theorem args_openE {n : Nat} {v : Value} {y : DataW H × List MemPlace} (h : TrE enc w held n 52 [v] y) :
    ∃ ps : List (Array Value × (Int × Int)), LsB 2 w w.heap.size v ps ∧ (∀ q ∈ ps, q.1 = #[.int .i64 q.2.1, .int .i64 q.2.2] ∧ i64Ok q.2.1 ∧ i64Ok q.2.2) ∧ ps.length + 1 ≤ Rows.uptoBulk y.1 ∧ ps.length < short ∧ ∃ a c, v = .slice a ps.length c ∧ ps.length ≤ c := by
  obtain ⟨ps, h1, h2, h3, h4, h5⟩ := list_openE (msr := fun _ => 1) (One := fun q : Array Value × (Int × Int) => q.1 = #[.int .i64 q.2.1, .int .i64 q.2.2] ∧ i64Ok q.2.1 ∧ i64Ok q.2.2) Tryd.underlying52 Tryd.cellsArgE (by decide) (fun n cs y hl hy => by
    obtain ⟨x, hx, hb⟩ := two_openE Tryd.underlying82 rfl rfl rfl rfl rfl hl hy
    exact ⟨x, hx, by omega⟩) h
  rw [ones_sum] at h3
  exact ⟨ps, h1, h2, h3, h4, h5⟩
set_option maxRecDepth 100000 in
theorem params_openE {n : Nat} {v : Value} {y : DataW H × List MemPlace} (h : TrE enc w held n 45 [v] y) :
    ∃ ps : List (Array Value × (Int × Int)), LsB 2 w w.heap.size v ps ∧ (∀ q ∈ ps, q.1 = #[.int .i64 q.2.1, .int .i64 q.2.2] ∧ i64Ok q.2.1 ∧ i64Ok q.2.2) ∧ ps.length + 1 ≤ Rows.uptoBulk y.1 ∧ ps.length < short ∧ ∃ a c, v = .slice a ps.length c ∧ ps.length ≤ c := by
  obtain ⟨ps, h1, h2, h3, h4, h5⟩ := list_openE (msr := fun _ => 1) (One := fun q : Array Value × (Int × Int) => q.1 = #[.int .i64 q.2.1, .int .i64 q.2.2] ∧ i64Ok q.2.1 ∧ i64Ok q.2.2) Tryd.underlying45 Tryd.cellsParamE (by decide) (fun n cs y hl hy => by
    obtain ⟨x, hx, hb⟩ := two_openE Tryd.underlying71 rfl rfl rfl rfl rfl hl hy
    exact ⟨x, hx, by omega⟩) h
  rw [ones_sum] at h3
  exact ⟨ps, h1, h2, h3, h4, h5⟩
set_option maxRecDepth 100000 in
theorem ins_openE {n : Nat} {cs : List Value} {y : DataW H × List MemPlace} (hl : cs.length = 8) (h : TrE enc w held n 54 cs y) :
    ∃ i : InsE, (InsAt w w.heap.size (cs.toArray, i) ∧ InsOk i) ∧ mIns i ≤ Rows.uptoBulk y.1 := by
  obtain ⟨c0, c1, c2, c3, c4, c5, c6, c7, rfl⟩ := list8E hl
  obtain ⟨xs, k, -, hx, -, hxl, hall⟩ := DataW.trod_struct Tryd.underlying54 h
  obtain ⟨y0, y1, y2, y3, y4, y5, y6, y7, rfl⟩ := list8E hxl
  have f0 : TrE enc w held k 3 [c0] y0 := field_ofE hall (i := 0) rfl Tryd.cellsIntE rfl
  have f1 : TrE enc w held k 3 [c1] y1 := field_ofE hall (i := 1) rfl Tryd.cellsIntE rfl
  have f2 : TrE enc w held k 3 [c2] y2 := field_ofE hall (i := 2) rfl Tryd.cellsIntE rfl
  have f3 : TrE enc w held k 3 [c3] y3 := field_ofE hall (i := 3) rfl Tryd.cellsIntE rfl
  have f4 : TrE enc w held k 51 [c4] y4 := field_ofE hall (i := 4) rfl Tryd.cellsU64E rfl
  have f5 : TrE enc w held k 3 [c5] y5 := field_ofE hall (i := 5) rfl Tryd.cellsIntE rfl
  have f6 : TrE enc w held k 52 [c6] y6 := field_ofE hall (i := 6) rfl Tryd.cellsArgsE rfl
  have f7 : TrE enc w held k 23 [c7] y7 := field_ofE hall (i := 7) rfl Tryd.cellsIntsE rfl
  clear hall
  obtain ⟨x0, rfl, b0⟩ := int_openE f0
  obtain ⟨x1, rfl, b1⟩ := int_openE f1
  obtain ⟨x2, rfl, b2⟩ := int_openE f2
  obtain ⟨x3, rfl, b3⟩ := int_openE f3
  obtain ⟨x4, rfl, b4⟩ := u64_openE f4
  obtain ⟨x5, rfl, b5⟩ := int_openE f5
  obtain ⟨pa, l6, v6, m6, s6, -⟩ := args_openE f6
  obtain ⟨ns, l7, v7, m7, s7, -⟩ := nums_openE f7
  have hpl : (pa.map (·.2)).length = pa.length := by simp
  refine ⟨⟨x0, x1, x2, x3, x4, x5, pa.map (·.2), ns⟩, ⟨⟨c6, c7, pa, rfl, rfl, fun q hq => (v6 q hq).1, l6, l7, by rw [hpl]; exact s6, s7⟩, ⟨b0, b1, b2, b3, b4, b5, fun x hx => ?_, v7⟩⟩, ?_⟩
  · obtain ⟨q, hq, rfl⟩ := List.mem_map.1 hx
    exact (v6 q hq).2
  · rw [congrArg Prod.fst hx]
    have := bulkE.one_le y0.1
    have := bulkE.one_le y1.1
    have := bulkE.one_le y2.1
    have := bulkE.one_le y3.1
    have := bulkE.one_le y4.1
    have := bulkE.one_le y5.1
    simp only [List.map_cons, List.map_nil, Rows.uptoBulk, Rows.uptoBulkAll, mIns, hpl]
    omega
theorem block_openE {n : Nat} {cs : List Value} {y : DataW H × List MemPlace} (hl : cs.length = 1) (h : TrE enc w held n 50 cs y) :
    ∃ l : List InsE, (∃ v, cs = [v] ∧ BlkAt w w.heap.size (v, l) ∧ (∀ i ∈ l, InsOk i) ∧ ∃ a k c, v = .slice a k c ∧ k ≤ c) ∧ mBlock l ≤ Rows.uptoBulk y.1 := by
  match cs, hl with
  | [v], _ =>
    haveI : Inhabited InsE := ⟨⟨0, 0, 0, 0, 0, 0, [], []⟩⟩
    obtain ⟨ps, h1, h2, h3, h4, a, c, h5, h6⟩ := list_openE (msr := mIns) (One := fun q : Array Value × InsE => InsAt w w.heap.size q ∧ InsOk q.2) Tryd.underlying50 Tryd.cellsInsE (by decide) (fun n cs y hl hy => ins_openE hl hy) h
    refine ⟨ps.map (·.2), ⟨v, rfl, ⟨ps, rfl, h1, fun q hq => (h2 q hq).1, h4⟩, fun i hi => ?_, a, _, c, h5, h6⟩, ?_⟩
    · obtain ⟨q, hq, rfl⟩ := List.mem_map.1 hi
      exact (h2 q hq).2
    · rw [sum_map2] at h3
      unfold mBlock
      omega
theorem blocks_openE {n : Nat} {v : Value} {y : DataW H × List MemPlace} (h : TrE enc w held n 46 [v] y) :
    ∃ pb : List (Value × List InsE), VsB w w.heap.size v pb ∧ (∀ q ∈ pb, BlkAt w w.heap.size q ∧ (∀ i ∈ q.2, InsOk i) ∧ ∃ a k c, q.1 = .slice a k c ∧ k ≤ c) ∧ ((pb.map (·.2)).map mBlock).sum + 1 ≤ Rows.uptoBulk y.1 ∧ pb.length < short ∧ ∃ a c, v = .slice a pb.length c ∧ pb.length ≤ c := by
  obtain ⟨ps, h1, h2, h3, h4, a, c, h5, h6⟩ := list_openE (msr := mBlock) (One := fun q : Array Value × List InsE => ∃ v, q.1 = #[v] ∧ BlkAt w w.heap.size (v, q.2) ∧ (∀ i ∈ q.2, InsOk i) ∧ ∃ a k c, v = .slice a k c ∧ k ≤ c) Tryd.underlying46 Tryd.cellsInssE (by decide) (fun n cs y hl hy => by
    obtain ⟨l, ⟨v, rfl, g⟩, hm⟩ := block_openE hl hy
    exact ⟨l, ⟨v, rfl, g⟩, hm⟩) h
  have hl : (ps.map fun q => (q.1.getD 0 undef, q.2)).length = ps.length := by simp
  refine ⟨ps.map fun q => (q.1.getD 0 undef, q.2), ?_, ?_, ?_, by rw [hl]; exact h4, a, c, by rw [hl]; exact h5, by rw [hl]; exact h6⟩
  · rcases h1 with ⟨e, p, cap, hv⟩ | ⟨sb, so, cap, hv, hb, hc⟩
    · exact Or.inl ⟨by rw [e]; rfl, p, cap, hv⟩
    · refine Or.inr ⟨sb, so, cap, by rw [hl]; exact hv, hb, fun i hi => ?_⟩
      rw [hl] at hi
      obtain ⟨v', h0, -⟩ := h2 ps[i] (List.getElem_mem hi)
      have := hc i hi 0 v' (by rw [h0]; rfl)
      rw [Nat.mul_one, Nat.add_zero] at this
      rw [this]
      simp [h0]
  · intro x hx
    obtain ⟨q, hq, rfl⟩ := List.mem_map.1 hx
    obtain ⟨v', h0, g1, g2, g3⟩ := h2 q hq
    simp only [h0]
    exact ⟨g1, g2, g3⟩
  · rw [sum_map2] at h3
    have e : (ps.map fun q => (q.1.getD 0 undef, q.2)).map (·.2) = ps.map (·.2) := by rw [List.map_map]; rfl
    rw [e]
    exact h3
set_option maxRecDepth 100000 in
theorem sig_openE {n : Nat} {cs : List Value} {y : DataW H × List MemPlace} (hl : cs.length = 2) (h : TrE enc w held n 67 cs y) :
    ∃ s : List Int × Int, (SigAt w w.heap.size (cs.toArray, s) ∧ SigOk s) ∧ mSig s ≤ Rows.uptoBulk y.1 := by
  obtain ⟨c0, c1, rfl⟩ := list2E hl
  obtain ⟨xs, k, -, hx, -, hxl, hall⟩ := DataW.trod_struct Tryd.underlying67 h
  obtain ⟨y0, y1, rfl⟩ := list2E hxl
  have f0 : TrE enc w held k 23 [c0] y0 := field_ofE hall (i := 0) rfl Tryd.cellsIntsE rfl
  have f1 : TrE enc w held k 3 [c1] y1 := field_ofE hall (i := 1) rfl Tryd.cellsIntE rfl
  clear hall
  obtain ⟨ns, l0, v0, m0, s0, -⟩ := nums_openE f0
  obtain ⟨x1, rfl, b1⟩ := int_openE f1
  refine ⟨(ns, x1), ⟨⟨c0, rfl, l0, s0⟩, v0, b1⟩, ?_⟩
  rw [congrArg Prod.fst hx]
  have := bulkE.one_le y1.1
  simp only [List.map_cons, List.map_nil, Rows.uptoBulk, Rows.uptoBulkAll, mSig]
  omega
set_option maxRecDepth 100000 in
theorem func_openE {n : Nat} {cs : List Value} {y : DataW H × List MemPlace} (hl : cs.length = 5) (h : TrE enc w held n 48 cs y) :
    ∃ f : FuncE, (FuncAt w w.heap.size (cs.toArray, f) ∧ FuncOk f) ∧ mFunc f ≤ Rows.uptoBulk y.1 := by
  obtain ⟨c0, c1, c2, c3, c4, rfl⟩ := list5E hl
  obtain ⟨xs, k, -, hx, -, hxl, hall⟩ := DataW.trod_struct Tryd.underlying48 h
  obtain ⟨y0, y1, y2, y3, y4, rfl⟩ := list5E hxl
  have f0 : TrE enc w held k 45 [c0] y0 := field_ofE hall (i := 0) rfl Tryd.cellsParamsE rfl
  have f1 : TrE enc w held k 3 [c1] y1 := field_ofE hall (i := 1) rfl Tryd.cellsIntE rfl
  have f2 : TrE enc w held k 23 [c2] y2 := field_ofE hall (i := 2) rfl Tryd.cellsIntsE rfl
  have f3 : TrE enc w held k 23 [c3] y3 := field_ofE hall (i := 3) rfl Tryd.cellsIntsE rfl
  have f4 : TrE enc w held k 46 [c4] y4 := field_ofE hall (i := 4) rfl Tryd.cellsBlocksE rfl
  clear hall
  obtain ⟨pp, l0, v0, m0, s0, -⟩ := params_openE f0
  obtain ⟨x1, rfl, b1⟩ := int_openE f1
  obtain ⟨hs, l2, v2, m2, s2, -⟩ := nums_openE f2
  obtain ⟨ss, l3, v3, m3, s3, -⟩ := nums_openE f3
  obtain ⟨pb, l4, v4, m4, s4, -⟩ := blocks_openE f4
  refine ⟨⟨pp.map (·.2), x1, hs, ss, pb.map (·.2)⟩, ⟨⟨c0, c2, c3, c4, pp, pb, rfl, ⟨rfl, fun q hq => (v0 q hq).1, l0, l2, l3, l4, rfl, fun q hq => (v4 q hq).1, s0, s2, s3, s4⟩⟩, ⟨fun x hx => ?_, b1, v2, v3, fun l hl i hi => ?_⟩⟩, ?_⟩
  · obtain ⟨q, hq, rfl⟩ := List.mem_map.1 hx
    exact (v0 q hq).2
  · obtain ⟨q, hq, rfl⟩ := List.mem_map.1 hl
    exact (v4 q hq).2.1 i hi
  · rw [congrArg Prod.fst hx]
    have := bulkE.one_le y1.1
    simp only [List.map_cons, List.map_nil, Rows.uptoBulk, Rows.uptoBulkAll, mFunc, List.length_map]
    omega
set_option maxRecDepth 100000 in
theorem prog_openE {b0 : Nat} {r : Reach} {v : Value} {d : DataW H} {p : List MemPlace} (hv : Value.okWide Tryd.prog w r b0 29 v) (h : DataW.Trod enc Tryd.prog w 0 (fun _ => true) held 29 v d p) :
    ∃ (fv ev : Value) (P : ProgE) (pf : List (Array Value × FuncE)) (pe : List (Array Value × (List Int × Int))), v = .agg #[fv, ev] ∧ ProgV w w.heap.size P fv ev pf pe ∧ ProgOk P ∧ mProg P ≤ Rows.uptoBulk d := by
  obtain ⟨cs, rfl, hsz⟩ := okWide_struct Tryd.underlying29 hv
  obtain ⟨l⟩ := cs
  obtain ⟨c0, c1, rfl⟩ := list2E (l := l) (hsz.trans (by kernel_rfl))
  obtain ⟨fuel, hf⟩ := h
  obtain ⟨xs, k, -, hx, -, hxl, hall⟩ := DataW.trod_struct Tryd.underlying29 hf
  obtain ⟨y0, y1, rfl⟩ := list2E hxl
  have f0 : TrE enc w held k 26 [c0] y0 := field_ofE hall (i := 0) rfl Tryd.cellsFuncsE rfl
  have f1 : TrE enc w held k 27 [c1] y1 := field_ofE hall (i := 1) rfl Tryd.cellsSigsE rfl
  clear hall
  haveI : Inhabited FuncE := ⟨⟨[], 0, [], [], []⟩⟩
  obtain ⟨pf, l0, v0, m0, s0, -⟩ := list_openE (msr := mFunc) (One := fun q : Array Value × FuncE => FuncAt w w.heap.size q ∧ FuncOk q.2) Tryd.underlying26 Tryd.cellsFuncE (by decide) (fun n cs y hl hy => func_openE hl hy) f0
  obtain ⟨pe, l1, v1, m1, s1, -⟩ := list_openE (msr := mSig) (One := fun q : Array Value × (List Int × Int) => SigAt w w.heap.size q ∧ SigOk q.2) Tryd.underlying27 Tryd.cellsSigE (by decide) (fun n cs y hl hy => sig_openE hl hy) f1
  refine ⟨c0, c1, ⟨pf.map (·.2), pe.map (·.2)⟩, pf, pe, rfl, ⟨l0, l1, rfl, rfl, fun q hq => (v0 q hq).1, fun q hq => (v1 q hq).1, s0, s1⟩, ⟨fun f hf => ?_, fun f hf => ?_⟩, ?_⟩
  · obtain ⟨q, hq, rfl⟩ := List.mem_map.1 hf
    exact (v0 q hq).2
  · obtain ⟨q, hq, rfl⟩ := List.mem_map.1 hf
    exact (v1 q hq).2
  · rw [show d = _ from congrArg Prod.fst hx]
    rw [sum_map2] at m0 m1
    simp only [List.map_cons, List.map_nil, Rows.uptoBulk, Rows.uptoBulkAll, mProg]
    omega
end
end Go.Proofs.YteaemhhbpaicnaaDoor

