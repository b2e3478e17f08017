/-
  Own work of the verifier: CkR, CkX, ClPure, EncQ, CkS, EncR, EncT, EncU, EncV, as one text.
-/
import Derived.Test.YtffemeicclhioaaGreatDoorCkQ
import Derived.Test.YtffemeicclhioaaGreatDoorRows
import Derived.Test.YtffemeicclhioaaGreatDoorJ0
import Derived.Test.YtffemeicclhioaaGreatDoorJ5
import Derived.Test.YtffemeicclhioaaGreatDoorJ7
import Derived.Deep.QuietTactic
import Derived.BigQuiet
import Derived.Test.YtffemeicclhioaaGreatDoorJ11
namespace Go.Proofs.YtffemeicclhioaaGreatDoor
open Go.RowKit

theorem fault_of {w : World} {v : Value} {x : FltE} (hE : ErrTy w) (h : ErrOf w v x) : Calls Tryz.prog 10 #[v] w fun e w' => e = .returned (flt x.e x.f x.b x.a) ∧ Below w.heap.size w w' := by
 rcases h with ⟨rfl, rfl⟩ | ⟨n, -, rfl, rfl⟩ | ⟨q, -, rfl, hb⟩
 ·
  exact fault_nil w
 ·
  exact fault_errno n w hE
 ·
  exact fault_bad _ _ _ _ q w hE hb
theorem ErrTy.keep {w w' : World} (h : ErrTy w) (hb : Below w.heap.size w w') : ErrTy w' := (hb.cell (World.block_lt_of_cell? w _ h)).trans h
theorem ErrOf.shape {w : World} {v : Value} {x : FltE} (h : ErrOf w v x) : v = .nilIface ∨ ∃ t u, v = .iface t u := by
 rcases h with ⟨rfl, rfl⟩ | ⟨n, -, rfl, rfl⟩ | ⟨q, -, rfl, hb⟩
 ·
  exact Or.inl rfl
 ·
  exact Or.inr ⟨_, _, rfl⟩
 ·
  exact Or.inr ⟨_, _, rfl⟩
end Go.Proofs.YtffemeicclhioaaGreatDoor
namespace Go.Proofs.YtffemeicclhioaaGreatDoor
open Go.ChangeShapes Go.WideShapes Go.ChangeAt Go.RowKit Go.Deep

theorem mem_weightsAll {H : Type} {P : Program} {e : TypeId} {d : DataW H} {x : Nat} : ∀ {l : List (DataW H)}, d ∈ l → x ∈ d.weights P e → x ∈ DataW.weightsAll P e l
 | a :: r, hd, hx => by
  rw [DataW.weightsAll]
  rcases List.mem_cons.1 hd with rfl | h
  ·
   exact List.mem_append.2 (Or.inl hx)
  ·
   exact List.mem_append.2 (Or.inr (mem_weightsAll h hx))
theorem LS.congr {size : Nat} {w : World} {v : Value} {n : Nat} {A B : Nat → Array Value} (h : LS size w v n A) (e : ∀ i, i < n → A i = B i) : LS size w v n B := by
 obtain ⟨p, cap, h1, h2, h3, h4⟩ := h
 refine ⟨p, cap, h1, h2, h3, fun h0 => ?_⟩
 obtain ⟨sb, so, e1, hl, hc⟩ := h4 h0
 exact ⟨sb, so, e1, hl, fun i hi => by rw [← e i hi]; exact hc i hi⟩
section
variable {H : Type} {enc : TypeId × Value → H} {w : World} {held : Bool}
abbrev Lite (t : TypeId) (d : DataW H) : Prop := ∀ x ∈ d.weights Tryz.prog t, x ≤ reachBytes
theorem list_openC {t e : TypeId} {α : Type} [Inhabited α] {size b : Nat} {One : Array Value × α → Prop} (ht : Tryz.prog.underlying t = some (.slice e)) (hc : Tryz.prog.cellsOf e = size) (hs : 0 < size) (hby : Tryz.prog.bytesOf e = b)
 (elem : ∀ n cs y, cs.length = size → TrE enc w held n e cs y → Lite e y.1 → ∃ x : α, One (cs.toArray, x))
 {n : Nat} {v : Value} {y : DataW H × List MemPlace} (h : TrE enc w held n t [v] y) (hw : Lite t y.1) :
 ∃ ps : List (Array Value × α), LS size w v ps.length (fun k => (ps.getD k (#[], default)).1) ∧ (∀ q ∈ ps, One q) ∧ ps.length * b ≤ reachBytes := by
 rcases open_slice ht h with ⟨h0, h1⟩ | ⟨a, len, cap, m, k, D, Pl, h0, -, hl, hm, hmm, h1, hx⟩
 ·
  simp at h0
  subst h0 h1
  exact ⟨[], ⟨none, 0, rfl, Nat.le_refl _, by show 0 < short; decide, fun h => absurd h (Nat.lt_irrefl 0)⟩, fun q hq => (by cases hq), (by simp)⟩
 ·
  simp at h0
  subst h0 h1
  simp at hmm
  subst hmm
  unfold Lite at hw
  simp only [DataW.weights, ht, List.length_map, List.length_range, hby] at hw
  have hb0 := hw _ List.mem_cons_self
  have each : ∀ i, i < len → ∃ q : Array Value × α, One q ∧ w.cells? 0 (a.add (i * size)) size = some q.1.toList := by
   intro i hi
   obtain ⟨cs', g1, g2⟩ := hx i (by omega)
   rw [hc] at g1
   obtain ⟨-, hlen, -⟩ := World.cells?_some g1
   obtain ⟨x, g3⟩ := elem k cs' _ hlen g2 (fun z hz => hw z (List.mem_cons.2 (Or.inr (List.mem_append.2 (Or.inl (mem_weightsAll (List.mem_map.2 ⟨i, List.mem_range.2 hi, rfl⟩) hz))))))
   exact ⟨(cs'.toArray, x), g3, by simpa using g1⟩
  haveI : Inhabited (Array Value × α) := ⟨(#[], default)⟩
  obtain ⟨f, hf⟩ := choose_lt each
  have hlenp : ((List.range len).map f).length = len := by simp
  refine ⟨(List.range len).map f, ?_, ?_, ?_⟩
  ·
   rw [hlenp]
   refine ⟨_, _, rfl, hl, maxLen_short (by omega), fun hpos => ?_⟩
   obtain ⟨sb, so, spot⟩ := a
   have g := World.cells?_some (hf 0 hpos).2
   have hcell := g.2.2 0 hs
   have hlt : 0 < (f 0).1.toList.length := by rw [g.2.1]; exact hs
   have hsp : spot = none := by
    rw [List.getElem?_eq_getElem hlt] at hcell
    simpa [Addr.add] using World.cell?_spot hcell
   subst hsp
   have hbk : sb < w.heap.size := by
    rw [List.getElem?_eq_getElem hlt] at hcell
    have := World.block_lt_of_cell? w _ hcell
    simpa [Addr.add] using this
   refine ⟨sb, so, rfl, hbk, fun i hi => ?_⟩
   have g := World.cells?_some (hf i hi).2
   have e1 : (((List.range len).map f).getD i (#[], default)).1 = (f i).1 := by simp [List.getD, hi]
   show w.rangeAt sb (so + i * size) (((List.range len).map f).getD i (#[], default)).1.toList
   rw [e1]
   intro j x hx'
   have hj : j < size := by
    have := (List.getElem?_eq_some_iff.1 hx').1
    rw [g.2.1] at this
    exact this
   have := g.2.2 j hj
   rw [hx'] at this
   rw [Go.WideShapes.add_plain, Go.WideShapes.add_plain] at this
   exact this
  ·
   intro q hq
   obtain ⟨i, hi, rfl⟩ := List.mem_map.1 hq
   exact (hf i (List.mem_range.1 hi)).1
  ·
   rw [hlenp]
   exact Nat.le_trans (Nat.mul_le_mul_right _ (Nat.le_add_right _ _)) hb0
theorem getD_map2 {α β : Type} (ps : List (α × β)) (a : α) (b : β) (k : Nat) : (ps.map (·.2)).getD k b = (ps.getD k (a, b)).2 := by
 simp only [List.getD, List.getElem?_map]
 cases ps[k]? <;> rfl
theorem getD_memC {α : Type} (ps : List α) (d : α) (k : Nat) (h : k < ps.length) : ps.getD k d ∈ ps := by simp [List.getD, h]
theorem nums_openC {n : Nat} {v : Value} {y : DataW H × List MemPlace} (h : TrE enc w held n 23 [v] y) (hw : Lite 23 y.1) : ∃ ns : List Int, Li w v ns := by
 obtain ⟨ps, h1, h2, -⟩ := list_openC (One := fun q : Array Value × Int => q.1 = #[.int .i64 q.2]) Tryz.underlying23 Tryz.cellsIntE (by decide) rfl (fun n cs y hl hy _ => by
  match cs, hl with
  | [v], _ =>
   obtain ⟨x, rfl, hx⟩ := int_openE hy
   exact ⟨x, rfl⟩) h hw
 have hl : (ps.map (·.2)).length = ps.length := by simp
 obtain ⟨p, cap, g1, g2, g3, g4⟩ := (h1.congr (B := fun k => #[.int .i64 ((ps.map (·.2)).getD k default)]) (fun i hi => by rw [getD_map2 ps #[]]; exact h2 _ (getD_memC _ _ _ hi))).ones
 exact ⟨ps.map (·.2), p, cap, by rw [hl]; exact g1, by rw [hl]; exact g2, by rw [hl]; exact g3, fun h0 => by rw [hl] at h0 ⊢; exact g4 h0⟩
theorem pairs_openC {t e : TypeId} (ht : Tryz.prog.underlying t = some (.slice e)) (hc : Tryz.prog.cellsOf e = 2) (hby : Tryz.prog.bytesOf e = 16)
 (elem : ∀ n cs y, cs.length = 2 → TrE enc w held n e cs y → ∃ x : Int × Int, cs.toArray = #[.int .i64 x.1, .int .i64 x.2])
 {n : Nat} {v : Value} {y : DataW H × List MemPlace} (h : TrE enc w held n t [v] y) (hw : Lite t y.1) : ∃ xs : List (Int × Int), LS 2 w v xs.length (fun k => pairA (xs.getD k (0, 0))) ∧ xs.length * 16 ≤ reachBytes := by
 obtain ⟨ps, h1, h2, h3⟩ := list_openC (One := fun q : Array Value × (Int × Int) => q.1 = pairA q.2) ht hc (by decide) hby (fun n cs y hl hy _ => by
  obtain ⟨x, hx⟩ := elem n cs y hl hy
  exact ⟨x, hx⟩) h hw
 have hl : (ps.map (·.2)).length = ps.length := by simp
 refine ⟨ps.map (·.2), ?_, by rw [hl]; exact h3⟩
 rw [hl]
 exact h1.congr (fun i hi => by rw [getD_map2 ps #[]]; exact h2 _ (getD_memC _ _ _ hi))
set_option maxRecDepth 100000 in
theorem args_openC {n : Nat} {v : Value} {y : DataW H × List MemPlace} (h : TrE enc w held n 74 [v] y) (hw : Lite 74 y.1) : ∃ xs : List (Int × Int), LS 2 w v xs.length (fun k => pairA (xs.getD k (0, 0))) ∧ xs.length * 16 ≤ reachBytes :=
 pairs_openC Tryz.underlying74 Tryz.cellsArgE (by kernel_rfl) (fun n cs y hl hy => by
  obtain ⟨x, ⟨hx, -⟩, -⟩ := two_openE Tryz.underlying116 rfl rfl rfl rfl rfl hl hy
  exact ⟨x, hx⟩) h hw
set_option maxRecDepth 100000 in
theorem params_openC {n : Nat} {v : Value} {y : DataW H × List MemPlace} (h : TrE enc w held n 67 [v] y) (hw : Lite 67 y.1) : ∃ xs : List (Int × Int), LS 2 w v xs.length (fun k => pairA (xs.getD k (0, 0))) ∧ xs.length * 16 ≤ reachBytes :=
 pairs_openC Tryz.underlying67 Tryz.cellsParamE (by kernel_rfl) (fun n cs y hl hy => by
  obtain ⟨x, ⟨hx, -⟩, -⟩ := two_openE Tryz.underlying105 rfl rfl rfl rfl rfl hl hy
  exact ⟨x, hx⟩) h hw
def wordI (i : InsE) : Prop := 0 ≤ i.n ∧ i.n < 18446744073709551616
set_option maxRecDepth 100000 in
theorem ins_openC {n : Nat} {cs : List Value} {y : DataW H × List MemPlace} (hl : cs.length = 8) (h : TrE enc w held n 76 cs y) (hw : Lite 76 y.1) : ∃ i : InsE, InsC w cs.toArray i ∧ wordI i := by
 obtain ⟨c0, c1, c2, c3, c4, c5, c6, c7, rfl⟩ := list8E hl
 obtain ⟨xs, k, -, hx, -, hxl, hall⟩ := DataW.trod_struct Tryz.underlying76 h
 obtain ⟨y0, y1, y2, y3, y4, y5, y6, y7, rfl⟩ := list8E hxl
 have f0 : TrE enc w held k 3 [c0] y0 := field_ofE hall (i := 0) rfl Tryz.cellsIntE rfl
 have f1 : TrE enc w held k 3 [c1] y1 := field_ofE hall (i := 1) rfl Tryz.cellsIntE rfl
 have f2 : TrE enc w held k 3 [c2] y2 := field_ofE hall (i := 2) rfl Tryz.cellsIntE rfl
 have f3 : TrE enc w held k 3 [c3] y3 := field_ofE hall (i := 3) rfl Tryz.cellsIntE rfl
 have f4 : TrE enc w held k 73 [c4] y4 := field_ofE hall (i := 4) rfl Tryz.cellsU64E rfl
 have f5 : TrE enc w held k 3 [c5] y5 := field_ofE hall (i := 5) rfl Tryz.cellsIntE rfl
 have f6 : TrE enc w held k 74 [c6] y6 := field_ofE hall (i := 6) rfl Tryz.cellsArgsE rfl
 have f7 : TrE enc w held k 23 [c7] y7 := field_ofE hall (i := 7) rfl Tryz.cellsIntsE rfl
 clear hall
 rw [show y.1 = _ from congrArg Prod.fst hx] at hw
 unfold Lite at hw
 simp only [DataW.weights, Tryz.underlying76, List.map_cons, List.map_nil, DataW.weightsEach, List.mem_append] at hw
 obtain ⟨x0, rfl, b0⟩ := int_openE f0
 obtain ⟨x1, rfl, b1⟩ := int_openE f1
 obtain ⟨x2, rfl, b2⟩ := int_openE f2
 obtain ⟨x3, rfl, b3⟩ := int_openE f3
 obtain ⟨x4, rfl, b4⟩ := u64_openE f4
 obtain ⟨x5, rfl, b5⟩ := int_openE f5
 obtain ⟨gs, l6, -⟩ := args_openC f6 (fun z hz => hw z (by first | exact Or.inl hz | simp only [hz, true_or, or_true]))
 obtain ⟨os, l7⟩ := nums_openC f7 (fun z hz => hw z (by first | exact Or.inl hz | simp only [hz, true_or, or_true]))
 exact ⟨⟨x0, x1, x2, x3, x4, x5, gs, os⟩, ⟨c6, c7, rfl, l6, l7⟩, b4⟩
theorem block_openC {n : Nat} {cs : List Value} {y : DataW H × List MemPlace} (hl : cs.length = 1) (h : TrE enc w held n 72 cs y) (hw : Lite 72 y.1) :
 ∃ l : List InsE, ∃ v, cs = [v] ∧ BlkC w v l ∧ ∀ i ∈ l, wordI i := by
 match cs, hl with
 | [v], _ =>
  haveI : Inhabited InsE := ⟨⟨0, 0, 0, 0, 0, 0, [], []⟩⟩
  obtain ⟨ps, h1, h2, -⟩ := list_openC (One := fun q : Array Value × InsE => InsC w q.1 q.2 ∧ wordI q.2) Tryz.underlying72 Tryz.cellsInsE (by decide) rfl (fun n cs y hl hy hw => ins_openC hl hy hw) h hw
  have hl : (ps.map (·.2)).length = ps.length := by simp
  refine ⟨ps.map (·.2), v, rfl, ⟨_, by rw [hl]; exact h1, fun k hk => ?_⟩, fun i hi => ?_⟩
  ·
   rw [hl] at hk
   have e1 : (ps.getD k (#[], default)) = ps[k] := by simp [List.getD, hk]
   rw [e1, List.getElem_map]
   exact (h2 _ (List.getElem_mem hk)).1
  ·
   obtain ⟨q, hq, rfl⟩ := List.mem_map.1 hi
   exact (h2 q hq).2
theorem blocks_openC {n : Nat} {v : Value} {y : DataW H × List MemPlace} (h : TrE enc w held n 68 [v] y) (hw : Lite 68 y.1) :
 ∃ (bl : List (List InsE)) (B : Nat → Value), LS 1 w v bl.length (fun k => #[B k]) ∧ (∀ k (hk : k < bl.length), BlkC w (B k) bl[k]) ∧ ∀ l ∈ bl, ∀ i ∈ l, wordI i := by
 obtain ⟨ps, h1, h2, -⟩ := list_openC (One := fun q : Array Value × List InsE => ∃ v, q.1 = #[v] ∧ BlkC w v q.2 ∧ ∀ i ∈ q.2, wordI i) Tryz.underlying68 Tryz.cellsInssE (by decide) rfl (fun n cs y hl hy hw => by
  obtain ⟨l, v, rfl, g⟩ := block_openC hl hy hw
  exact ⟨l, v, rfl, g⟩) h hw
 have hl : (ps.map (·.2)).length = ps.length := by simp
 refine ⟨ps.map (·.2), fun k => ((ps.getD k (#[], default)).1).getD 0 undef, ?_, fun k hk => ?_, fun l hl i hi => ?_⟩
 ·
  rw [hl]
  refine h1.congr (fun i hi => ?_)
  obtain ⟨v', e, -⟩ := h2 _ (getD_memC ps (#[], default) i hi)
  show (ps.getD i (#[], default)).1 = #[((ps.getD i (#[], default)).1).getD 0 undef]
  rw [e]
  rfl
 ·
  rw [hl] at hk
  have e1 : (ps.getD k (#[], default)) = ps[k] := by simp [List.getD, hk]
  obtain ⟨v', e, g, -⟩ := h2 _ (List.getElem_mem hk)
  show BlkC w (((ps.getD k (#[], default)).1).getD 0 undef) (ps.map (·.2))[k]
  rw [e1, List.getElem_map, e]
  exact g
 ·
  obtain ⟨q, hq, rfl⟩ := List.mem_map.1 hl
  obtain ⟨v', -, -, g⟩ := h2 q hq
  exact g i hi
theorem sig_openC {n : Nat} {cs : List Value} {y : DataW H × List MemPlace} (hl : cs.length = 2) (h : TrE enc w held n 79 cs y) (hw : Lite 79 y.1) : ∃ s : List Int × Int, SigC w cs.toArray s := by
 obtain ⟨c0, c1, rfl⟩ := list2E hl
 obtain ⟨xs, k, -, hx, -, hxl, hall⟩ := DataW.trod_struct Tryz.underlying79 h
 obtain ⟨y0, y1, rfl⟩ := list2E hxl
 have f0 : TrE enc w held k 23 [c0] y0 := field_ofE hall (i := 0) rfl Tryz.cellsIntsE rfl
 have f1 : TrE enc w held k 3 [c1] y1 := field_ofE hall (i := 1) rfl Tryz.cellsIntE rfl
 clear hall
 rw [show y.1 = _ from congrArg Prod.fst hx] at hw
 unfold Lite at hw
 simp only [DataW.weights, Tryz.underlying79, List.map_cons, List.map_nil, DataW.weightsEach, List.mem_append] at hw
 obtain ⟨ns, l0⟩ := nums_openC f0 (fun z hz => hw z (by first | exact Or.inl hz | simp only [hz, true_or, or_true]))
 obtain ⟨x1, rfl, b1⟩ := int_openE f1
 exact ⟨(ns, x1), c0, rfl, l0⟩
def wordF (f : FuncE) : Prop := (∀ l ∈ f.blocks, ∀ i ∈ l, wordI i) ∧ f.params.length * 16 ≤ reachBytes
set_option maxRecDepth 100000 in
theorem func_openC {n : Nat} {cs : List Value} {y : DataW H × List MemPlace} (hl : cs.length = 5) (h : TrE enc w held n 70 cs y) (hw : Lite 70 y.1) : ∃ f : FuncE, FuncC w cs.toArray f ∧ wordF f := by
 obtain ⟨c0, c1, c2, c3, c4, rfl⟩ := list5E hl
 obtain ⟨xs, k, -, hx, -, hxl, hall⟩ := DataW.trod_struct Tryz.underlying70 h
 obtain ⟨y0, y1, y2, y3, y4, rfl⟩ := list5E hxl
 have f0 : TrE enc w held k 67 [c0] y0 := field_ofE hall (i := 0) rfl Tryz.cellsParamsE rfl
 have f1 : TrE enc w held k 3 [c1] y1 := field_ofE hall (i := 1) rfl Tryz.cellsIntE rfl
 have f2 : TrE enc w held k 23 [c2] y2 := field_ofE hall (i := 2) rfl Tryz.cellsIntsE rfl
 have f3 : TrE enc w held k 23 [c3] y3 := field_ofE hall (i := 3) rfl Tryz.cellsIntsE rfl
 have f4 : TrE enc w held k 68 [c4] y4 := field_ofE hall (i := 4) rfl Tryz.cellsBlocksE rfl
 clear hall
 rw [show y.1 = _ from congrArg Prod.fst hx] at hw
 unfold Lite at hw
 simp only [DataW.weights, Tryz.underlying70, List.map_cons, List.map_nil, DataW.weightsEach, List.mem_append] at hw
 obtain ⟨pp, l0, m0⟩ := params_openC f0 (fun z hz => hw z (by first | exact Or.inl hz | simp only [hz, true_or, or_true]))
 obtain ⟨x1, rfl, b1⟩ := int_openE f1
 obtain ⟨hs, l2⟩ := nums_openC f2 (fun z hz => hw z (by first | exact Or.inl hz | simp only [hz, true_or, or_true]))
 obtain ⟨ss, l3⟩ := nums_openC f3 (fun z hz => hw z (by first | exact Or.inl hz | simp only [hz, true_or, or_true]))
 obtain ⟨bl, B, l4, l5, v4⟩ := blocks_openC f4 (fun z hz => hw z (by first | exact Or.inl hz | simp only [hz, true_or, or_true]))
 exact ⟨⟨pp, x1, hs, ss, bl⟩, ⟨c0, c2, c3, c4, B, rfl, ⟨l0, l2, l3, l4, l5⟩⟩, v4, m0⟩
set_option maxRecDepth 100000 in
theorem prog_openC {b0 : Nat} {r : Reach} {v : Value} {d : DataW H} {p : List MemPlace} (hv : Value.okWide Tryz.prog w r b0 29 v) (h : DataW.Trod enc Tryz.prog w 0 (fun _ => true) held 29 v d p) (hw : Lite 29 d) :
 ∃ (fv ev : Value) (P : ProgE) (A E : Nat → Array Value), v = .agg #[fv, ev] ∧ ProgC w fv ev P A E ∧ NumP P ∧ ∀ k, (P.funcs.getD k Zaj).params.length ≤ 8796093022208 := by
 obtain ⟨cs, rfl, hsz⟩ := okWide_struct Tryz.underlying29 hv
 obtain ⟨l⟩ := cs
 obtain ⟨c0, c1, rfl⟩ := list2E (l := l) (hsz.trans (by kernel_rfl))
 obtain ⟨fuel, hf⟩ := h
 obtain ⟨xs, k, -, hx, -, hxl, hall⟩ := DataW.trod_struct Tryz.underlying29 hf
 obtain ⟨y0, y1, rfl⟩ := list2E hxl
 have f0 : TrE enc w held k 26 [c0] y0 := field_ofE hall (i := 0) rfl Tryz.cellsFuncsE rfl
 have f1 : TrE enc w held k 27 [c1] y1 := field_ofE hall (i := 1) rfl Tryz.cellsSigsE rfl
 clear hall
 rw [show d = _ from congrArg Prod.fst hx] at hw
 unfold Lite at hw
 simp only [DataW.weights, Tryz.underlying29, List.map_cons, List.map_nil, DataW.weightsEach, List.mem_append] at hw
 haveI : Inhabited FuncE := ⟨Zaj⟩
 obtain ⟨pf, l0, v0, -⟩ := list_openC (One := fun q : Array Value × FuncE => FuncC w q.1 q.2 ∧ wordF q.2) Tryz.underlying26 Tryz.cellsFuncE (by decide) rfl (fun n cs y hl hy hw => func_openC hl hy hw) f0 (fun z hz => hw z (by first | exact Or.inl hz | simp only [hz, true_or, or_true]))
 obtain ⟨pe, l1, v1, -⟩ := list_openC (One := fun q : Array Value × (List Int × Int) => SigC w q.1 q.2) Tryz.underlying27 Tryz.cellsSigE (by decide) rfl (fun n cs y hl hy hw => sig_openC hl hy hw) f1 (fun z hz => hw z (by first | exact Or.inl hz | simp only [hz, true_or, or_true]))
 have hl0 : (pf.map (·.2)).length = pf.length := by simp
 have hl1 : (pe.map (·.2)).length = pe.length := by simp
 have hfw : ∀ k, wordF ((pf.map (·.2)).getD k Zaj) := fun k => by
  by_cases hk : k < pf.length
  ·
   rw [getD_map2 pf #[]]
   exact (v0 _ (getD_memC _ _ _ hk)).2
  ·
   rw [show (pf.map (·.2)).getD k Zaj = Zaj by simp [List.getD, Nat.le_of_not_lt hk]]
   exact ⟨fun l hl => (by cases hl), by simp [Zaj]⟩
 refine ⟨c0, c1, ⟨pf.map (·.2), pe.map (·.2)⟩, _, _, rfl, ⟨by rw [hl0]; exact l0, fun k hk => ?_, by rw [hl1]; exact l1, fun k hk => ?_⟩, fun k i j => ?_, fun k => ?_⟩
 ·
  have hk' : k < pf.length := by rw [← hl0]; exact hk
  have e1 : (pf.getD k (#[], default)) = pf[k] := by simp [List.getD, hk']
  show FuncC w (pf.getD k (#[], default)).1 (pf.map (·.2))[k]
  rw [e1, List.getElem_map]
  exact (v0 _ (List.getElem_mem hk')).1
 ·
  have hk' : k < pe.length := by rw [← hl1]; exact hk
  have e1 : (pe.getD k (#[], default)) = pe[k] := by simp [List.getD, hk']
  show SigC w (pe.getD k (#[], default)).1 (pe.map (·.2))[k]
  rw [e1, List.getElem_map]
  exact v1 _ (List.getElem_mem hk')
 ·
  have h := (hfw k).1
  show 0 ≤ ((((pf.map (·.2)).getD k Zaj).blocks.getD i []).getD j noIns).n ∧ ((((pf.map (·.2)).getD k Zaj).blocks.getD i []).getD j noIns).n < 18446744073709551616
  generalize (pf.map (·.2)).getD k Zaj = f at h
  by_cases hi : i < f.blocks.length
  ·
   by_cases hj : j < (f.blocks.getD i []).length
   ·
    exact h _ (getD_memC _ _ _ hi) _ (getD_memC _ _ _ hj)
   ·
    rw [show (f.blocks.getD i []).getD j noIns = noIns by generalize f.blocks.getD i [] = l at hj ⊢; simp [List.getD, Nat.le_of_not_lt hj]]
    exact ⟨by decide, by decide⟩
  ·
   rw [show f.blocks.getD i [] = [] by simp [List.getD, Nat.le_of_not_lt hi]]
   exact ⟨Int.le_refl 0, by show (0 : Int) < _; decide⟩
 ·
  have h := (hfw k).2
  unfold reachBytes at h
  show ((pf.map (·.2)).getD k Zaj).params.length ≤ 8796093022208
  omega
end
end Go.Proofs.YtffemeicclhioaaGreatDoor
namespace Go.Proofs.YtffemeicclhioaaGreatDoor
open Go.RowKit

/-- How far the giving of places is: registers, cells, copies. -/
structure GivS where
 u : Nat
 c : Int
 p : Int
structure SptE where
 pl : List (Int × Int)
 ref : Bool
 at_ : Int
structure LayE where
 args : List SptE
 res : List (Int × Int)
 size : Int
 copies : Int
def wdS (br n : Int) : Nat := if n = 0 ∨ br < n then 1 else n.toNat
def u1S (pr : Bool) (w u : Nat) : Nat := if (decide (1 < w) && (pr && decide (u % 2 = 1))) = true then u + 1 else u
def rgS (L w u1 : Nat) : Bool := decide (u1 + w ≤ L)
def plS (ag : List Int) (rg : Bool) (u1 : Nat) (c : Int) (i : Nat) : Int × Int := if rg = true then (ag.getD (u1 + i) 0, 0) else (-1, c + 8 * i)
def stepS (L : Nat) (br : Int) (pr : Bool) (n : Int) (s : GivS) : GivS :=
 ⟨if rgS L (wdS br n) (u1S pr (wdS br n) s.u) = true then u1S pr (wdS br n) s.u + wdS br n else if 1 < wdS br n then L else u1S pr (wdS br n) s.u,
  if rgS L (wdS br n) (u1S pr (wdS br n) s.u) = true then s.c else s.c + 8 * wdS br n, if br < n then s.p + 8 * n else s.p⟩
def spotS (ag : List Int) (br : Int) (pr : Bool) (n : Int) (s : GivS) : SptE :=
 ⟨(List.range (wdS br n)).map (plS ag (rgS ag.length (wdS br n) (u1S pr (wdS br n) s.u)) (u1S pr (wdS br n) s.u) s.c), decide (br < n), if br < n then s.p else 0⟩
/-- Behind the first k parameters. -/
def stA (L : Nat) (br : Int) (pr : Bool) (ps : List Int) (sh : Int) : Nat → GivS
 | 0 => ⟨0, sh, 0⟩
 | k + 1 => stepS L br pr (ps.getD k 0) (stA L br pr ps sh k)
def sptA (ag : List Int) (br : Int) (pr : Bool) (ps : List Int) (sh : Int) (k : Nat) : SptE := spotS ag br pr (ps.getD k 0) (stA ag.length br pr ps sh k)
def resS (rs : List Int) (c : Int) (k : Nat) : Int × Int := if k < rs.length then (rs.getD k 0, 0) else (-1, c + 8 * ((k - rs.length : Nat) : Int))
def resC (rs : List Int) (c : Int) (k : Nat) : Int := c + 8 * ((k - rs.length : Nat) : Int)
def layE (ag rs : List Int) (br : Int) (pr : Bool) (sh : Int) (ps : List Int) (n : Int) : LayE :=
 ⟨(List.range ps.length).map (sptA ag br pr ps sh), (List.range n.toNat).map (resS rs (stA ag.length br pr ps sh ps.length).c), resC rs (stA ag.length br pr ps sh ps.length).c n.toNat, (stA ag.length br pr ps sh ps.length).p⟩
theorem wdS_pos (br n : Int) (h : 0 ≤ n) : 1 ≤ wdS br n := by unfold wdS; split <;> omega
theorem wdS_le (br n : Int) (h : n ≤ 8) : wdS br n ≤ 8 := by unfold wdS; split <;> omega
theorem u1S_one (pr : Bool) (u : Nat) : u1S pr 1 u = u := by unfold u1S; simp
theorem stepS_u {L : Nat} {br : Int} {pr : Bool} {n : Int} {s : GivS} (hn : 0 ≤ n) (hu : s.u ≤ L) : (stepS L br pr n s).u ≤ L := by
 unfold stepS
 simp only
 split
 ·
  rename_i h
  unfold rgS at h
  exact of_decide_eq_true h
 ·
  split
  ·
   exact Nat.le_refl _
  ·
   have h1 : wdS br n = 1 := by have := wdS_pos br n hn; omega
   rw [h1, u1S_one]
   exact hu
theorem stepS_c {L : Nat} {br : Int} {pr : Bool} {n : Int} {s : GivS} (hn : n ≤ 8) : s.c ≤ (stepS L br pr n s).c ∧ (stepS L br pr n s).c ≤ s.c + 64 := by
 have := wdS_le br n hn
 unfold stepS
 simp only
 split <;> omega
theorem stepS_p {L : Nat} {br : Int} {pr : Bool} {n : Int} {s : GivS} (h0 : 0 ≤ n) (hn : n ≤ 8) : s.p ≤ (stepS L br pr n s).p ∧ (stepS L br pr n s).p ≤ s.p + 64 := by
 unfold stepS
 simp only
 split <;> omega
structure StOk (L : Nat) (sh : Int) (k : Nat) (s : GivS) : Prop where
 u : s.u ≤ L
 c0 : sh ≤ s.c
 c1 : s.c ≤ sh + 64 * k
 p0 : 0 ≤ s.p
 p1 : s.p ≤ 64 * k
theorem stA_ok {L : Nat} {br : Int} {pr : Bool} {ps : List Int} {sh : Int} (hps : numsIn ps 0 8 = true) : ∀ k, k ≤ ps.length → StOk L sh k (stA L br pr ps sh k)
 | 0, _ => ⟨Nat.zero_le _, Int.le_refl _, by show sh ≤ sh + 64 * ((0 : Nat) : Int); omega, Int.le_refl _, by show (0 : Int) ≤ 64 * ((0 : Nat) : Int); omega⟩
 | k + 1, h => by
  have ih := stA_ok (L := L) (br := br) (pr := pr) (sh := sh) hps k (by omega)
  have hk := upB_get hps (k := k) (by omega)
  unfold inB at hk
  obtain ⟨h0, h8⟩ := of_decide_eq_true hk
  have hc := stepS_c (L := L) (br := br) (pr := pr) (s := stA L br pr ps sh k) h8
  have hp := stepS_p (L := L) (br := br) (pr := pr) (s := stA L br pr ps sh k) h0 h8
  have i1 := ih.c0
  have i2 := ih.c1
  have i3 := ih.p0
  have i4 := ih.p1
  refine ⟨stepS_u h0 ih.u, ?_, ?_, ?_, ?_⟩ <;> simp only [stA] <;> omega
theorem map_range_snoc {α : Type} (f : Nat → α) (k : Nat) : (List.range (k + 1)).map f = (List.range k).map f ++ [f k] := by rw [List.range_succ, List.map_append]; rfl
/-- Places, cell by cell. -/
def plC (xs : List (Int × Int)) : List Value := xs.flatMap fun x => [.int .i64 x.1, .int .i64 x.2]
theorem plC_snoc (xs : List (Int × Int)) (x : Int × Int) : plC (xs ++ [x]) = plC xs ++ [.int .i64 x.1, .int .i64 x.2] := by simp [plC]
theorem plC_len (xs : List (Int × Int)) : (plC xs).length = xs.length * 2 := by
 induction xs with
 | nil => rfl
 | cons a r ih => simp only [plC, List.flatMap_cons, List.length_append, List.length_cons, List.length_nil] at ih ⊢; omega
theorem plC_get : ∀ (xs : List (Int × Int)) (k : Nat), k < xs.length → (plC xs)[k * 2]? = some (.int .i64 (xs.getD k (0, 0)).1) ∧ (plC xs)[k * 2 + 1]? = some (.int .i64 (xs.getD k (0, 0)).2)
 | a :: r, 0, _ => ⟨rfl, rfl⟩
 | a :: r, k + 1, h => by
  have ih := plC_get r k (by simpa using h)
  have e : plC (a :: r) = [.int .i64 a.1, .int .i64 a.2] ++ plC r := rfl
  rw [e]
  refine ⟨?_, ?_⟩
  ·
   rw [List.getElem?_append_right (by simp; omega)]
   rw [show (k + 1) * 2 - [Value.int .i64 a.1, .int .i64 a.2].length = k * 2 by simp; omega, ih.1]
   simp [List.getD]
  ·
   rw [List.getElem?_append_right (by simp; omega)]
   rw [show (k + 1) * 2 + 1 - [Value.int .i64 a.1, .int .i64 a.2].length = k * 2 + 1 by simp; omega, ih.2]
   simp [List.getD]
end Go.Proofs.YtffemeicclhioaaGreatDoor
namespace Go.Proofs.YtffemeicclhioaaGreatDoor
open Go.RowKit

set_option maxHeartbeats 1000000 in
theorem in_c (n lo hi : Int) (w : World) : Calls Tryz.prog 12 #[.int .i64 n, .int .i64 lo, .int .i64 hi] w fun e w' => e = .returned (.bool (decide (lo ≤ n ∧ n ≤ hi))) ∧ w' = w := by
 by_cases h1 : lo ≤ n
 ·
  by_cases h2 : n ≤ hi
  ·
   have hd : decide (lo ≤ n ∧ n ≤ hi) = true := by simp; omega
   rw [hd]
   clear hd
   go_enter Tryz.func12, Tryz.ntmps12
   go_wp2
   go_ret
   exact ⟨rfl, rfl⟩
  ·
   have hd : decide (lo ≤ n ∧ n ≤ hi) = false := by simp; omega
   rw [hd]
   clear hd
   go_enter Tryz.func12, Tryz.ntmps12
   go_wp2
   go_ret
   exact ⟨rfl, rfl⟩
 ·
  have hd : decide (lo ≤ n ∧ n ≤ hi) = false := by simp; omega
  rw [hd]
  clear hd
  go_enter Tryz.func12, Tryz.ntmps12
  go_wp2
  go_ret
  exact ⟨rfl, rfl⟩
/-- The pen at block b: its bytes, and whether something is wrong. -/
structure Pn (w : World) (b : Nat) (l : List UInt8) (bad : Bool) : Prop where
 c0 : w.cell? ⟨b, 0, none⟩ = some (.string ⟨l.toArray⟩)
 c1 : w.cell? ⟨b, 1, none⟩ = some (.bool bad)
 f0 : w.frozen? ⟨b, 0, none⟩ = false
 f1 : w.frozen? ⟨b, 1, none⟩ = false
theorem conv1 (g : Nat) (x : Int) (u : World) (hc : u.cell? ⟨g, 0, none⟩ = some (.int .u8 (x % 256))) : (convert 156 9 (.slice (some ⟨g, 0, none⟩) 1 1)).run Tryz.prog u = .ok (.string ⟨#[byteOf x]⟩) u :=
 run_convert_bytes_back u 156 9 5 ⟨g, 0, none⟩ 1 [byteOf x] Tryz.underlying156 Tryz.underlying5 Tryz.underlying9 (fun j hj => by
  have : j = 0 := by simp at hj; exact hj
  subst this
  rw [show (⟨g, 0, none⟩ : Addr).add 0 = ⟨g, 0, none⟩ by unfold Addr.add; simp, hc]
  have : ((byteOf x).toNat : Int) = x % 256 := by unfold byteOf; simp; omega
  simp [this])
theorem str_app (l : List UInt8) (y : UInt8) : ((⟨l.toArray⟩ : ByteArray) ++ ⟨#[y]⟩) = ⟨(l ++ [y]).toArray⟩ := by
 apply ByteArray.ext
 simp
theorem pn_after {w : World} {b : Nat} {l : List UInt8} {bad : Bool} (h : Pn w b l bad) (t : Bool) (y : UInt8) (X : Obj) : Pn (((w.setCell ⟨b, 1, none⟩ (.bool t)).setCell ⟨b, 0, none⟩ (.string (⟨l.toArray⟩ ++ ⟨#[y]⟩))).alloc X).drew b (l ++ [y]) t ∧ w.grownBy (((w.setCell ⟨b, 1, none⟩ (.bool t)).setCell ⟨b, 0, none⟩ (.string (⟨l.toArray⟩ ++ ⟨#[y]⟩))).alloc X).drew (some b) := by
 have hbl : b < w.heap.size := World.block_lt_of_cell? w _ h.c0
 rw [str_app]
 have e1 : (w.setCell ⟨b, 1, none⟩ (.bool t)).cell? ⟨b, 0, none⟩ = some (.string ⟨l.toArray⟩) := (World.cell?_setCell_other _ _ _ _ (by simp)).trans h.c0
 have e2 : (w.setCell ⟨b, 1, none⟩ (.bool t)).cell? ⟨b, 1, none⟩ = some (.bool t) := World.cell?_setCell_same _ _ _ h.c1
 refine ⟨⟨?_, ?_, ?_, ?_⟩, ?_⟩
 ·
  exact (World.cell?_alloc_past _ _ _ (by simpa using hbl)).trans (World.cell?_setCell_same _ _ _ e1)
 ·
  exact (World.cell?_alloc_past _ _ _ (by simpa using hbl)).trans ((World.cell?_setCell_other _ _ _ _ (by simp)).trans e2)
 ·
  exact (World.frozen?_alloc_past _ _ _ (by simpa using hbl)).trans (by rw [World.frozen?_setCell, World.frozen?_setCell]; exact h.f0)
 ·
  exact (World.frozen?_alloc_past _ _ _ (by simpa using hbl)).trans (by rw [World.frozen?_setCell, World.frozen?_setCell]; exact h.f1)
 ·
  have q := (Below.refl ((w.setCell ⟨b, 1, none⟩ (.bool t)).setCell ⟨b, 0, none⟩ (.string ⟨(l ++ [y]).toArray⟩)).heap.size ((w.setCell ⟨b, 1, none⟩ (.bool t)).setCell ⟨b, 0, none⟩ (.string ⟨(l ++ [y]).toArray⟩))).alloc (Nat.le_refl _) X
  refine ⟨rfl, rfl, rfl, ?_, fun k hk hne => ?_⟩
  ·
   exact Nat.le_trans (by simp) q.size
  ·
   have hkb : k ≠ b := fun e => hne (by rw [e])
   refine (q.block k (by simpa using hk)).trans ?_
   exact (heap_setCell_other _ ⟨b, 0, none⟩ k _ hkb).trans (heap_setCell_other _ ⟨b, 1, none⟩ k _ hkb)
set_option maxHeartbeats 2000000 in
set_option maxRecDepth 100000 in
theorem pnum_c (b : Nat) (l : List UInt8) (bad : Bool) (x lo hi : Int) (w : World) (h : Pn w b l bad) (hl : l.length < 9223372036854775807) :
 Calls Tryz.prog 49 #[.pointer (some ⟨b, 0, none⟩), .int .i64 x, .int .i64 lo, .int .i64 hi] w fun e w' => e = .returned (.tuple #[]) ∧ Pn w' b (l ++ [byteOf x]) (bad || !decide (lo ≤ x ∧ x ≤ hi)) ∧ w.grownBy w' (some b) := by
 have c0 := h.c0
 have c1 := h.c1
 have f0 := h.f0
 have f1 := h.f1
 have hbl : b < w.heap.size := World.block_lt_of_cell? w _ c0
 cases bad with
 | true =>
  go_enter Tryz.func49, Tryz.ntmps49
  go_wp2_with fail
  have HCV := Zam (fun u h => conv1 w.heap.size x u h)
  have hcv := Zaf HCV
  have hcw : ∀ u : World, u.cell? ⟨w.heap.size, 0, none⟩ = some (.int .u8 (IntKind.u8.wrap x)) → (convert 156 9 (.slice (some ⟨w.heap.size, 0, none⟩) 1 1)).run Tryz.prog u = .ok (.string ⟨#[byteOf x]⟩) u := fun u h => conv1 w.heap.size x u h
  have hnl : ¬ 9223372036854775807 < l.length + 1 := by omega
  have cA : ∀ X, ((w.setCell ⟨b, 1, none⟩ (.bool true)).alloc X).cell? ⟨b, 0, none⟩ = some (.string ⟨l.toArray⟩) := fun X => (World.cell?_alloc_past _ _ _ (by simpa using hbl)).trans ((World.cell?_setCell_other _ _ _ _ (by simp)).trans c0)
  have fA : ∀ X, ((w.setCell ⟨b, 1, none⟩ (.bool true)).alloc X).frozen? ⟨b, 0, none⟩ = false := fun X => (World.frozen?_alloc_past _ _ _ (by simpa using hbl)).trans (by rw [World.frozen?_setCell]; exact f0)
  go_region
  refine bodyPost_end (results_none (fn := Tryz.f49) rfl _ _ _) rfl ?_
  exact ⟨rfl, pn_after h true (byteOf x) _⟩
 | false =>
  have HIN := Zam (in_c x lo hi w)
  cases hd : decide (lo ≤ x ∧ x ≤ hi) with
  | true =>
   rw [hd] at HIN
   go_enter Tryz.func49, Tryz.ntmps49
   go_wp2_with fail
   refine (Zaf HIN).mono ?_
   rintro e wx ⟨rfl, hwx⟩
   subst wx
   go_wp2_with fail
   have HCV := Zam (fun u h => conv1 w.heap.size x u h)
   have hcv := Zaf HCV
   have hcw : ∀ u : World, u.cell? ⟨w.heap.size, 0, none⟩ = some (.int .u8 (IntKind.u8.wrap x)) → (convert 156 9 (.slice (some ⟨w.heap.size, 0, none⟩) 1 1)).run Tryz.prog u = .ok (.string ⟨#[byteOf x]⟩) u := fun u h => conv1 w.heap.size x u h
   have hnl : ¬ 9223372036854775807 < l.length + 1 := by omega
   have cA : ∀ X, ((w.setCell ⟨b, 1, none⟩ (.bool false)).alloc X).cell? ⟨b, 0, none⟩ = some (.string ⟨l.toArray⟩) := fun X => (World.cell?_alloc_past _ _ _ (by simpa using hbl)).trans ((World.cell?_setCell_other _ _ _ _ (by simp)).trans c0)
   have fA : ∀ X, ((w.setCell ⟨b, 1, none⟩ (.bool false)).alloc X).frozen? ⟨b, 0, none⟩ = false := fun X => (World.frozen?_alloc_past _ _ _ (by simpa using hbl)).trans (by rw [World.frozen?_setCell]; exact f0)
   go_region
   refine bodyPost_end (results_none (fn := Tryz.f49) rfl _ _ _) rfl ?_
   exact ⟨rfl, pn_after h false (byteOf x) _⟩
  | false =>
   rw [hd] at HIN
   go_enter Tryz.func49, Tryz.ntmps49
   go_wp2_with fail
   refine (Zaf HIN).mono ?_
   rintro e wx ⟨rfl, hwx⟩
   subst wx
   go_wp2_with fail
   have HCV := Zam (fun u h => conv1 w.heap.size x u h)
   have hcv := Zaf HCV
   have hcw : ∀ u : World, u.cell? ⟨w.heap.size, 0, none⟩ = some (.int .u8 (IntKind.u8.wrap x)) → (convert 156 9 (.slice (some ⟨w.heap.size, 0, none⟩) 1 1)).run Tryz.prog u = .ok (.string ⟨#[byteOf x]⟩) u := fun u h => conv1 w.heap.size x u h
   have hnl : ¬ 9223372036854775807 < l.length + 1 := by omega
   have cA : ∀ X, ((w.setCell ⟨b, 1, none⟩ (.bool true)).alloc X).cell? ⟨b, 0, none⟩ = some (.string ⟨l.toArray⟩) := fun X => (World.cell?_alloc_past _ _ _ (by simpa using hbl)).trans ((World.cell?_setCell_other _ _ _ _ (by simp)).trans c0)
   have fA : ∀ X, ((w.setCell ⟨b, 1, none⟩ (.bool true)).alloc X).frozen? ⟨b, 0, none⟩ = false := fun X => (World.frozen?_alloc_past _ _ _ (by simpa using hbl)).trans (by rw [World.frozen?_setCell]; exact f0)
   go_region
   refine bodyPost_end (results_none (fn := Tryz.f49) rfl _ _ _) rfl ?_
   exact ⟨rfl, pn_after h true (byteOf x) _⟩
end Go.Proofs.YtffemeicclhioaaGreatDoor
namespace Go.Proofs.YtffemeicclhioaaGreatDoor
open Go.RowKit

theorem rin_c (n lo hi : Int) (w : World) : Calls Tryz.prog 12 #[.int .i64 n, .int .i64 lo, .int .i64 hi] w fun e w' => e = .returned (.bool (inB n lo hi)) ∧ w' = w := in_c n lo hi w
set_option maxHeartbeats 1000000 in
set_option maxRecDepth 100000 in
theorem rsig_c (v : Value) (ns : List Int) (r : Int) (w : World) (h : Li w v ns) : Calls Tryz.prog 34 #[.agg #[v, .int .i64 r]] w fun e w' => e = .returned (.bool (sigB (ns, r))) ∧ Below w.heap.size w w' := by
 have hx := al0 w (.cells #[v, .int .i64 r] 79 (0, 0))
 obtain ⟨p, cap, rfl, hcap, hlt, hc⟩ := h.below hx.2.1
 have hlt : ns.length < 9223372036854775808 := hlt
 have HC := Zac hc
 have HX := Zac hx
 clear hc hx h
 go_enter Tryz.func34, Tryz.ntmps34
 go_wp2_with fail
 generalize World.alloc w _ = W at HC HX ⊢
 go_loopw [8] (fun j w' => ∃ k : Nat, j = .int .i64 k ∧ k ≤ ns.length ∧ w' = W ∧ ∀ q, q < k → inB (ns.getD q 0) 0 8 = true) (fun j _ => ns.length - (intOf j).toNat)
 case atStart => exact ⟨0, rfl, by omega, rfl, fun q hq => by omega⟩
 case round =>
  obtain ⟨k, rfl, hk, rfl, hno⟩ := hrel
  have HN := Zac hno
  clear hno
  have r0 := (Zab (Zaa HX).1 0).trans rfl
  have r1 := (Zab (Zaa HX).1 1).trans rfl
  by_cases hk2 : k < ns.length
  ·
   obtain ⟨sb, so, rfl, hcc⟩ := Zaa HC (by omega)
   have c := hcc k hk2
   have HW := Zac (rin_c (ns.getD k 0) 0 8 wr)
   have HBAD := Zac (fun hb : inB (ns.getD k 0) 0 8 = false => show sigB (ns, r) = false by have : numsIn ns 0 8 = false := upB_false hk2 hb; unfold sigB; rw [this]; simp)
   have HNX := Zac (fun hb : inB (ns.getD k 0) 0 8 = true => Zal (q := fun q => inB (ns.getD q 0) 0 8) (Zaa HN) hb)
   clear hcc HC
   generalize inB (ns.getD k 0) 0 8 = yes at HW HBAD HNX
   generalize ns.getD k 0 = y at c HW
   go_wp2_with fail
   refine (Zaa HW).mono ?_
   rintro e w2 ⟨rfl, h2⟩
   subst w2
   cases yes with
   | false =>
    have hx := Zac (Zaa HBAD rfl)
    go_wp2
    go_ret
    exact ⟨by rw [Zaa hx]; rfl, (Zaa HX).2.1⟩
   | true =>
    have hx := Zac (Zaa HNX rfl)
    go_wp2
    go_roundw
    case rel => exact ⟨k + 1, by go_num, by omega, trivial, Zaa hx⟩
    case measure => simp [intOf]; omega
  ·
   have HT := Zac (show numsIn ns 0 8 = true from upB_true (fun q hq => Zaa HN q (by omega)))
   obtain rfl : k = ns.length := by omega
   by_cases h8 : ns.length ≤ 8
   ·
    have HS := Zac (show sigB (ns, r) = inB r 0 4 by unfold sigB; rw [Zaa HT]; simp [h8])
    go_wp2_with fail
    refine (rin_c r 0 4 _).mono ?_
    rintro e w2 ⟨rfl, h2⟩
    subst w2
    go_wp2
    go_ret
    exact ⟨by rw [Zaa HS]; rfl, (Zaa HX).2.1⟩
   ·
    have HS := Zac (show sigB (ns, r) = false by unfold sigB; simp [h8])
    go_wp2
    go_ret
    exact ⟨by rw [Zaa HS]; rfl, (Zaa HX).2.1⟩
set_option maxHeartbeats 2000000 in
set_option maxRecDepth 100000 in
theorem rsigs_c (p : ProgE) (fv ev : Value) (A E : Nat → Array Value) (w : World) (hP : ProgC w fv ev p A E) : Calls Tryz.prog 21 #[ev] w fun e w' => e = .returned (.bool (upB p.externs.length fun k => sigB (p.externs.getD k ([], 0)))) ∧ Below w.heap.size w w' := by
 have HP := Zac hP
 have hl5 : p.externs.length < 9223372036854775808 := by obtain ⟨_, _, _, _, h, _⟩ := hP.es; exact h
 obtain ⟨pe, ce, rfl⟩ := hP.es.shape
 clear hP
 go_enter Tryz.func21, Tryz.ntmps21
 go_wp2_with fail
 go_loopw [7] (fun j w' => ∃ k : Nat, j = .int .i64 k ∧ k ≤ p.externs.length ∧ Below w.heap.size w w' ∧ ∀ q, q < k → sigB (p.externs.getD q ([], 0)) = true) (fun j _ => p.externs.length - (intOf j).toNat)
 case atStart => exact ⟨0, rfl, by omega, Below.refl _ _, fun q hq => by omega⟩
 case round =>
  obtain ⟨k, rfl, hk, hbw, hno⟩ := hrel
  have HNO := Zac hno
  clear hno
  have hws := hbw.size
  by_cases hk2 : k < p.externs.length
  ·
   obtain ⟨p', cap', he, -, hcc⟩ := (Zaa HP).es.twos
   injection he with e1 e2 e3
   subst e1 e3
   obtain ⟨sb, so, rfl, hslt, hc⟩ := hcc (by omega)
   have hsc := (Zaa HP).eeach k hk2
   have hgd : p.externs[k] = p.externs.getD k ([], 0) := by simp [List.getD, hk2]
   rw [hgd] at hsc
   have HBAD := Zac (fun hb : sigB (p.externs.getD k ([], 0)) = false => show (upB p.externs.length fun k => sigB (p.externs.getD k ([], 0))) = false from upB_false hk2 hb)
   have HNX := Zac (fun hb : sigB (p.externs.getD k ([], 0)) = true => Zal (q := fun q => sigB (p.externs.getD q ([], 0))) (Zaa HNO) hb)
   generalize p.externs.getD k ([], 0) = s at hsc HBAD HNX
   obtain ⟨lv, hE, hli⟩ := hsc
   have HLI := Zac hli
   obtain ⟨pl, cl, rfl⟩ := hli.shape
   have hck := hc k hk2
   rw [hE] at hck
   have k0 := (hbw.cell hslt).trans (hck 0 _ rfl)
   have k1 := (hbw.cell hslt).trans (hck 1 _ rfl)
   rw [Nat.add_zero] at k0
   have HBW := Zac hbw
   clear hck hc hcc hE hgd hli hbw e2
   go_wp2_with fail
   have hy := al0 wr (.cells #[.slice pl s.1.length cl, .int .i64 s.2] 79 (0, 0))
   have hbU := Zad (Zaa HBW) hy.2.1 hws
   refine (rsig_c _ s.1 s.2 _ ((Zaa HLI).below hbU)).mono ?_
   rintro e w3 ⟨rfl, hb3⟩
   have HU := Zac (Zad hbU hb3 hbU.size)
   clear hb3 hbU hy k0 k1
   rw [show ((s.1, s.2) : List Int × Int) = s from rfl]
   cases hsb : sigB s with
   | false =>
    have hz := Zac (Zaa HBAD hsb)
    clear hsb
    go_wp2
    go_ret
    exact ⟨by rw [Zaa hz]; rfl, Zaa HU⟩
   | true =>
    have hz := Zac (Zaa HNX hsb)
    clear hsb
    go_wp2
    go_roundw
    case rel => exact ⟨k + 1, by go_num, by omega, Zaa HU, Zaa hz⟩
    case measure => simp [intOf]; omega
  ·
   have hz := Zac (show (upB p.externs.length fun k => sigB (p.externs.getD k ([], 0))) = true from upB_true (fun q hq => Zaa HNO q (by omega)))
   obtain rfl : k = p.externs.length := by omega
   have HBW := Zac hbw
   clear hbw
   go_wp2
   go_ret
   exact ⟨by rw [Zaa hz]; rfl, Zaa HBW⟩
set_option maxHeartbeats 2000000 in
set_option maxRecDepth 100000 in
theorem rlocal_c (f : FuncE) (pv hv sv bv lv : Value) (r : Int) (ls : List Int) (w : World) (hh : ∃ p c, hv = .slice p f.homes.length c) (hhl : f.homes.length < 9223372036854775808) (h : Li w lv ls) : Calls Tryz.prog 37 #[.agg #[pv, .int .i64 r, hv, sv, bv], lv] w fun e w' => e = .returned (.bool (localsB f ls)) ∧ Below w.heap.size w w' := by
 obtain ⟨ph, ch, rfl⟩ := hh
 have hx := al0 w (.cells #[pv, .int .i64 r, .slice ph f.homes.length ch, sv, bv] 70 (0, 0))
 obtain ⟨p, cap, rfl, hcap, hlt, hc⟩ := h.below hx.2.1
 have hlt : ls.length < 9223372036854775808 := hlt
 have HC := Zac hc
 have HX := Zac hx
 clear hc hx h
 go_enter Tryz.func37, Tryz.ntmps37
 go_wp2_with fail
 generalize World.alloc w _ = W at HC HX ⊢
 go_loopw [9] (fun j w' => ∃ k : Nat, j = .int .i64 k ∧ k ≤ ls.length ∧ w' = W ∧ ∀ q, q < k → localB f (ls.getD q 0) = true) (fun j _ => ls.length - (intOf j).toNat)
 case atStart => exact ⟨0, rfl, by omega, rfl, fun q hq => by omega⟩
 case round =>
  obtain ⟨k, rfl, hk, rfl, hno⟩ := hrel
  have HN := Zac hno
  clear hno
  by_cases hk2 : k < ls.length
  ·
   obtain ⟨sb, so, rfl, hcc⟩ := Zaa HC (by omega)
   have c := hcc k hk2
   have r2 := (Zab (Zaa HX).1 2).trans rfl
   have HW := Zac (rin_c (ls.getD k 0) 0 (f.homes.length - 1) wr)
   have HBAD := Zac (fun hb : inB (ls.getD k 0) 0 (f.homes.length - 1) = false => show localsB f ls = false from upB_false hk2 hb)
   have HNX := Zac (fun hb : inB (ls.getD k 0) 0 (f.homes.length - 1) = true => Zal (q := fun q => localB f (ls.getD q 0)) (Zaa HN) hb)
   clear hcc HC
   generalize inB (ls.getD k 0) 0 (f.homes.length - 1) = yes at HW HBAD HNX
   generalize ls.getD k 0 = y at c HW
   go_wp2_with fail
   refine (Zaa HW).mono ?_
   rintro e w2 ⟨rfl, h2⟩
   subst w2
   cases yes with
   | false =>
    have hx := Zac (Zaa HBAD rfl)
    go_wp2
    go_ret
    exact ⟨by rw [Zaa hx]; rfl, (Zaa HX).2.1⟩
   | true =>
    have hx := Zac (Zaa HNX rfl)
    go_wp2
    go_roundw
    case rel => exact ⟨k + 1, by go_num, by omega, trivial, Zaa hx⟩
    case measure => simp [intOf]; omega
  ·
   have HT := Zac (show localsB f ls = true from upB_true (fun q hq => Zaa HN q (by omega)))
   obtain rfl : k = ls.length := by omega
   go_wp2
   go_ret
   exact ⟨by rw [Zaa HT]; rfl, (Zaa HX).2.1⟩
set_option maxRecDepth 100000 in
theorem rblock_c (f : FuncE) (pv hv sv : Value) (q : Option Addr) (c : Nat) (r n : Int) (w : World) (hl : f.blocks.length < 9223372036854775808) : Calls Tryz.prog 38 #[.agg #[pv, .int .i64 r, hv, sv, .slice q f.blocks.length c], .int .i64 n] w fun e w' => e = .returned (.bool (inB n 0 (f.blocks.length - 1))) ∧ Below w.heap.size w w' := by
 have HX := Zac (al0 w (.cells #[pv, .int .i64 r, hv, sv, .slice q f.blocks.length c] 70 (0, 0)))
 go_enter Tryz.func38, Tryz.ntmps38
 go_wp2_with fail
 refine (rin_c n 0 (f.blocks.length - 1) _).mono ?_
 rintro e w2 ⟨rfl, h2⟩
 subst w2
 go_wp2
 go_ret
 exact ⟨rfl, (Zaa HX).2.1⟩
end Go.Proofs.YtffemeicclhioaaGreatDoor
namespace Go.Proofs.YtffemeicclhioaaGreatDoor
open Go.RowKit

/-- What the pen writes: its bytes, and whether something was wrong. -/
abbrev Pr := List UInt8 × Bool
def penNum (lo hi x : Int) : Pr := ([byteOf x], !decide (lo ≤ x ∧ x ≤ hi))
def penSeq (a c : Pr) : Pr := (a.1 ++ c.1, a.2 || c.2)
def penAll {α : Type} (one : α → Pr) : List α → Pr
 | [] => ([], false)
 | x :: xs => penSeq (one x) (penAll one xs)
def penL {α : Type} (lo hi : Int) (one : α → Pr) (xs : List α) : Pr := penSeq (penNum lo hi xs.length) (penAll one xs)
theorem penAll_snoc {α : Type} (one : α → Pr) : ∀ (xs : List α) (x : α), penAll one (xs ++ [x]) = penSeq (penAll one xs) (one x)
 | [], x => by simp [penAll, penSeq]
 | y :: xs, x => by
  simp only [List.cons_append, penAll, penAll_snoc one xs x, penSeq, List.append_assoc, Bool.or_assoc]
/-- What becomes of a call of the pen's. -/
def PenE (b : Nat) (l : List UInt8) (bad : Bool) (r : Pr) (w : World) (e : Ending) (w' : World) : Prop := e = .returned (.tuple #[]) ∧ Pn w' b (l ++ r.1) (bad || r.2) ∧ w.grownBy w' (some b)
end Go.Proofs.YtffemeicclhioaaGreatDoor
namespace Go.Proofs.YtffemeicclhioaaGreatDoor
open Go.RowKit

theorem RsB.gb {w w' : World} {b : Nat} {v : Value} {ns : List Int} (h : RsB w b v ns) (hw : w.grownBy w' (some b)) (hb : b < w.heap.size) : RsB w' b v ns := by
 rcases h with h | ⟨sb, so, cap, h1, h2, h3⟩
 ·
  exact Or.inl h
 ·
  exact Or.inr ⟨sb, so, cap, h1, h2, fun i hi => (World.cell?_of_block (hw.block sb (by omega) (by intro e; injection e with e; omega))).trans (h3 i hi)⟩
theorem gb_tr {a c d : World} {row : Option Nat} (h : a.grownBy c row) (k : c.grownBy d row) : a.grownBy d row :=
 ⟨k.os.trans h.os, k.tape.trans h.tape, k.output.trans h.output, Nat.le_trans h.size k.size, fun q hq hr => (k.block q (Nat.lt_of_lt_of_le hq h.size) hr).trans (h.block q hq hr)⟩
theorem gb_alloc (w : World) (o : Obj) (row : Option Nat) : w.grownBy (w.alloc o) row :=
 have q := (Below.refl w.heap.size w).alloc (Nat.le_refl _) o
 ⟨q.os, q.tape, q.output, q.size, fun k hk _ => q.block k hk⟩
theorem Pn.lt {w : World} {b : Nat} {l : List UInt8} {bad : Bool} (h : Pn w b l bad) : b < w.heap.size := World.block_lt_of_cell? w _ h.c0
theorem Pn.alloc {w : World} {b : Nat} {l : List UInt8} {bad : Bool} (h : Pn w b l bad) (o : Obj) : Pn (w.alloc o) b l bad :=
 have e := ((Below.refl w.heap.size w).alloc (Nat.le_refl _) o).block b h.lt
 ⟨(World.cell?_of_block e).trans h.c0, (World.cell?_of_block e).trans h.c1, (World.frozen?_of_block (a := ⟨b, 0, none⟩) e).trans h.f0, (World.frozen?_of_block (a := ⟨b, 1, none⟩) e).trans h.f1⟩
end Go.Proofs.YtffemeicclhioaaGreatDoor
namespace Go.Proofs.YtffemeicclhioaaGreatDoor
open Go.RowKit

def shapeL : List (Array UInt8) := [#[63], #[68, 78], #[68, 65], #[68, 65, 66], #[68, 65, 66], #[68, 65, 66], #[68, 65, 66], #[68, 65, 66], #[68, 65, 66], #[68, 65, 66], #[68, 65, 66, 110], #[68, 65, 66, 110], #[70, 82, 79], #[70, 82, 79], #[65], #[68, 65, 66], #[79], #[70, 82], #[78]]
def shapeB (op : Int) : ByteArray := if 0 ≤ op then ⟨shapeL.getD op.toNat #[63]⟩ else ⟨#[63]⟩
set_option maxHeartbeats 4000000 in
set_option maxRecDepth 100000 in
theorem shape_c (op : Int) (w : World) : Calls Tryz.prog 35 #[.int .i64 op] w fun e w' => e = .returned (.string (shapeB op)) ∧ w' = w := by
 by_cases hop : 1 ≤ op ∧ op ≤ 18
 ·
  have hs : op = 1 ∨ op = 2 ∨ op = 3 ∨ op = 4 ∨ op = 5 ∨ op = 6 ∨ op = 7 ∨ op = 8 ∨ op = 9 ∨ op = 10 ∨ op = 11 ∨ op = 12 ∨ op = 13 ∨ op = 14 ∨ op = 15 ∨ op = 16 ∨ op = 17 ∨ op = 18 := by omega
  rcases hs with rfl | rfl | rfl | rfl | rfl | rfl | rfl | rfl | rfl | rfl | rfl | rfl | rfl | rfl | rfl | rfl | rfl | rfl
  all_goals
   go_enter Tryz.func35, Tryz.ntmps35
   go_wp2
   go_ret
   exact ⟨rfl, rfl⟩
 ·
  have HR := Zam (show shapeB op = ⟨#[63]⟩ by
   unfold shapeB
   split
   ·
    rename_i h0
    by_cases h1 : op = 0
    ·
     subst h1; rfl
    ·
     have h2 : 19 ≤ op.toNat := by omega
     have h3 : shapeL.length ≤ op.toNat := h2
     simp [List.getD, List.getElem?_eq_none h3]
   ·
    rfl)
  have e1 : (op == 1) = false := by simp; omega
  have e2 : (op == 2) = false := by simp; omega
  have e10 : (op == 10) = false := by simp; omega
  have e11 : (op == 11) = false := by simp; omega
  have e12 : (op == 12) = false := by simp; omega
  have e13 : (op == 13) = false := by simp; omega
  have e14 : (op == 14) = false := by simp; omega
  have e15 : (op == 15) = false := by simp; omega
  have e16 : (op == 16) = false := by simp; omega
  have e17 : (op == 17) = false := by simp; omega
  have e18 : (op == 18) = false := by simp; omega
  have hb : (decide (3 ≤ op) && decide (op ≤ 9)) = false := by simp; omega
  go_enter Tryz.func35, Tryz.ntmps35
  go_wp2
  all_goals
   go_ret
   exact ⟨by rw [Zaf HR]; rfl, rfl⟩
def nothingB (d a bb n f : Int) (na no : Nat) : Bool := d == 0 && a == 0 && bb == 0 && n == 0 && f == 0 && (na : Int) == 0 && (no : Int) == 0
set_option maxHeartbeats 4000000 in
set_option maxRecDepth 100000 in
theorem nothing_c (op d a bb n f : Int) (pa po : Option Addr) (na no ca co : Nat) (w : World) : Calls Tryz.prog 50 #[.agg #[.int .i64 op, .int .i64 d, .int .i64 a, .int .i64 bb, .int .u64 n, .int .i64 f, .slice pa na ca, .slice po no co]] w fun e w' => e = .returned (.bool (nothingB d a bb n f na no)) ∧ Below w.heap.size w w' := by
 unfold nothingB
 go_enter Tryz.func50, Tryz.ntmps50
 go_wp2
 all_goals
  go_ret
  refine ⟨?_, by go_grown⟩
  simp_all
end Go.Proofs.YtffemeicclhioaaGreatDoor
namespace Go.Proofs.YtffemeicclhioaaGreatDoor
open Go.RowKit

def penArg (p : Int × Int) : Pr := penSeq (penNum 0 8 p.1) (penNum 0 255 p.2)
/-- What one letter of the shape makes the pen write. -/
def penPart (i : InsE) (c : UInt8) : Pr :=
 if c = 68 then penNum 0 255 i.d else if c = 65 then penNum 0 255 i.a else if c = 66 then penNum 0 255 i.bb
 else if c = 110 then ([byteOf i.n], decide (255 < i.n)) else if c = 78 then (opB i.n 8, false)
 else if c = 70 then penNum 0 255 i.f else if c = 82 then penL 0 8 penArg i.args else if c = 79 then penL 0 4 (penNum 0 255) i.outs else ([], false)
def zap (ls : List UInt8) (c : UInt8) (x : Int) : Int := if ls.contains c then 0 else x
def zapN (ls : List UInt8) (x : Int) : Int := if ls.contains 110 || ls.contains 78 then 0 else x
def zapL (ls : List UInt8) (c : UInt8) (x : Nat) : Nat := if ls.contains c then 0 else x
def zapV (ls : List UInt8) (c : UInt8) (v : Value) : Value := if ls.contains c then .slice none 0 0 else v
/-- What is left of the instruction behind these letters. -/
def restA (i : InsE) (av ov : Value) (ls : List UInt8) : Array Value := #[.int .i64 0, .int .i64 (zap ls 68 i.d), .int .i64 (zap ls 65 i.a), .int .i64 (zap ls 66 i.bb), .int .u64 (zapN ls i.n), .int .i64 (zap ls 70 i.f), zapV ls 82 av, zapV ls 79 ov]
theorem zapV_slice (ls : List UInt8) (c : UInt8) (p : Option Addr) (n k : Nat) : ∃ p' k', zapV ls c (.slice p n k) = .slice p' (zapL ls c n) k' := by
 unfold zapV zapL
 cases ls.contains c
 ·
  exact ⟨p, k, rfl⟩
 ·
  exact ⟨none, 0, rfl⟩
def restB (i : InsE) (ls : List UInt8) : Bool := nothingB (zap ls 68 i.d) (zap ls 65 i.a) (zap ls 66 i.bb) (zapN ls i.n) (zap ls 70 i.f) (zapL ls 82 i.args.length) (zapL ls 79 i.outs.length)
def Zao (op : Int) : List UInt8 := (shapeB op).data.toList
def penIns (i : InsE) : Pr := penSeq (penNum 1 18 i.op) (penSeq (penAll (penPart i) (Zao i.op)) ([], !restB i (Zao i.op)))
theorem rest_68 (i : InsE) (av ov : Value) (ls : List UInt8) : restA i av ov (ls ++ [68]) = (restA i av ov ls).setIfInBounds 1 (.int .i64 0) := by
 simp [restA, zap, zapN, zapV]
theorem rest_65 (i : InsE) (av ov : Value) (ls : List UInt8) : restA i av ov (ls ++ [65]) = (restA i av ov ls).setIfInBounds 2 (.int .i64 0) := by
 simp [restA, zap, zapN, zapV]
theorem rest_66 (i : InsE) (av ov : Value) (ls : List UInt8) : restA i av ov (ls ++ [66]) = (restA i av ov ls).setIfInBounds 3 (.int .i64 0) := by
 simp [restA, zap, zapN, zapV]
theorem rest_110 (i : InsE) (av ov : Value) (ls : List UInt8) : restA i av ov (ls ++ [110]) = (restA i av ov ls).setIfInBounds 4 (.int .u64 0) := by
 simp [restA, zap, zapN, zapV]
theorem rest_78 (i : InsE) (av ov : Value) (ls : List UInt8) : restA i av ov (ls ++ [78]) = (restA i av ov ls).setIfInBounds 4 (.int .u64 0) := by
 simp [restA, zap, zapN, zapV]
theorem rest_70 (i : InsE) (av ov : Value) (ls : List UInt8) : restA i av ov (ls ++ [70]) = (restA i av ov ls).setIfInBounds 5 (.int .i64 0) := by
 simp [restA, zap, zapN, zapV]
theorem rest_82 (i : InsE) (av ov : Value) (ls : List UInt8) : restA i av ov (ls ++ [82]) = (restA i av ov ls).setIfInBounds 6 (.slice none 0 0) := by
 simp [restA, zap, zapN, zapV]
theorem rest_79 (i : InsE) (av ov : Value) (ls : List UInt8) : restA i av ov (ls ++ [79]) = (restA i av ov ls).setIfInBounds 7 (.slice none 0 0) := by
 simp [restA, zap, zapN, zapV]
theorem rest_63 (i : InsE) (av ov : Value) (ls : List UInt8) : restA i av ov (ls ++ [63]) = restA i av ov ls := by
 simp [restA, zap, zapN, zapV]
theorem penAll_append {α : Type} (one : α → Pr) : ∀ (xs ys : List α), penAll one (xs ++ ys) = penSeq (penAll one xs) (penAll one ys)
 | [], ys => by simp [penAll, penSeq]
 | x :: xs, ys => by
  simp only [List.cons_append, penAll, penAll_append one xs ys, penSeq, List.append_assoc, Bool.or_assoc]
theorem penAll_take_len {α : Type} (one : α → Pr) (xs : List α) (q : Nat) : (penAll one (xs.take q)).1.length ≤ (penAll one xs).1.length := by
 have h : penAll one xs = penSeq (penAll one (xs.take q)) (penAll one (xs.drop q)) := by rw [← penAll_append, List.take_append_drop]
 rw [h]
 simp [penSeq]
theorem shape_letters (op : Int) : ∀ c ∈ Zao op, c = 63 ∨ c = 68 ∨ c = 65 ∨ c = 66 ∨ c = 110 ∨ c = 78 ∨ c = 70 ∨ c = 82 ∨ c = 79 := by
 unfold Zao shapeB
 split
 ·
  rename_i h0
  by_cases h : op.toNat < 19
  ·
   generalize op.toNat = k at h
   have : ∀ k, k < 19 → ∀ c ∈ (shapeL.getD k #[63]).toList, c = 63 ∨ c = 68 ∨ c = 65 ∨ c = 66 ∨ c = 110 ∨ c = 78 ∨ c = 70 ∨ c = 82 ∨ c = 79 := by decide
   exact this k h
  ·
   have h3 : shapeL.length ≤ op.toNat := by simp [shapeL]; omega
   intro c hc
   simp [List.getD, List.getElem?_eq_none h3] at hc
   exact Or.inl hc
 ·
  intro c hc
  simp at hc
  exact Or.inl hc
theorem part_68 (i : InsE) : penPart i 68 = penNum 0 255 i.d := rfl
theorem part_65 (i : InsE) : penPart i 65 = penNum 0 255 i.a := rfl
theorem part_66 (i : InsE) : penPart i 66 = penNum 0 255 i.bb := rfl
theorem part_110 (i : InsE) : penPart i 110 = ([byteOf i.n], decide (255 < i.n)) := rfl
theorem part_78 (i : InsE) : penPart i 78 = (opB i.n 8, false) := rfl
theorem part_70 (i : InsE) : penPart i 70 = penNum 0 255 i.f := rfl
theorem part_82 (i : InsE) : penPart i 82 = penL 0 8 penArg i.args := rfl
theorem part_79 (i : InsE) : penPart i 79 = penL 0 4 (penNum 0 255) i.outs := rfl
theorem part_63 (i : InsE) : penPart i 63 = ([], false) := rfl
end Go.Proofs.YtffemeicclhioaaGreatDoor
