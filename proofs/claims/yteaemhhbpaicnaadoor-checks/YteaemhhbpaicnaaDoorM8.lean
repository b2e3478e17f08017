/-
  Own work of the verifier: CkRep, CkPure, as one text.
-/
import Derived.Test.YteaemhhbpaicnaaDoorM1
import Derived.WalkKit
import Derived.Handy
import Derived.Deep.MidRow
import Derived.Laws.Tables
import Derived.Laws.Rows
import Derived.Deep.RegionWith
namespace Go.Proofs.YteaemhhbpaicnaaDoor
open Go.RowKit

/-- A list of numbers. -/
def Li (w : World) (v : Value) (ns : List Int) : Prop := ∃ p cap, v = .slice p ns.length cap ∧ ns.length ≤ cap ∧ ns.length < short ∧ (0 < ns.length → ∃ sb so, p = some ⟨sb, so, none⟩ ∧ ∀ i, i < ns.length → w.cell? ⟨sb, so + i, none⟩ = some (.int .i64 (ns.getD i 0)))
/-- A list of n structs of so many cells. -/
def LS (size : Nat) (w : World) (v : Value) (n : Nat) (A : Nat → Array Value) : Prop := ∃ p cap, v = .slice p n cap ∧ n ≤ cap ∧ n < short ∧ (0 < n → ∃ sb so, p = some ⟨sb, so, none⟩ ∧ sb < w.heap.size ∧ ∀ i, i < n → w.rangeAt sb (so + i * size) (A i).toList)
theorem Li.below {w w' : World} {v : Value} {ns : List Int} (h : Li w v ns) (hb : Below w.heap.size w w') : Li w' v ns := by
  obtain ⟨p, cap, h1, h2, h3, h4⟩ := h
  refine ⟨p, cap, h1, h2, h3, fun h0 => ?_⟩
  obtain ⟨sb, so, e, hc⟩ := h4 h0
  exact ⟨sb, so, e, fun i hi => (hb.cell (p := ⟨sb, so + i, none⟩) (World.block_lt_of_cell? w _ (hc i hi))).trans (hc i hi)⟩
theorem LS.below {size : Nat} {w w' : World} {v : Value} {n : Nat} {A : Nat → Array Value} (h : LS size w v n A) (hb : Below w.heap.size w w') : LS size w' v n A := by
  obtain ⟨p, cap, h1, h2, h3, h4⟩ := h
  refine ⟨p, cap, h1, h2, h3, fun h0 => ?_⟩
  obtain ⟨sb, so, e, hlt, hc⟩ := h4 h0
  exact ⟨sb, so, e, Nat.lt_of_lt_of_le hlt hb.size, fun i hi j x hx => (hb.cell (p := ⟨sb, so + i * size + j, none⟩) hlt).trans (hc i hi j x hx)⟩
def pairA (x : Int × Int) : Array Value := #[.int .i64 x.1, .int .i64 x.2]
def InsC (w : World) (A : Array Value) (i : InsE) : Prop := ∃ av ov, A = #[.int .i64 i.op, .int .i64 i.d, .int .i64 i.a, .int .i64 i.bb, .int .u64 i.n, .int .i64 i.f, av, ov] ∧ LS 2 w av i.args.length (fun k => pairA (i.args.getD k (0, 0))) ∧ Li w ov i.outs
def BlkC (w : World) (v : Value) (l : List InsE) : Prop := ∃ A : Nat → Array Value, LS 8 w v l.length A ∧ ∀ k (h : k < l.length), InsC w (A k) l[k]
structure FuncD (w : World) (f : FuncE) (pv hv sv bv : Value) (B : Nat → Value) : Prop where
  ps : LS 2 w pv f.params.length (fun k => pairA (f.params.getD k (0, 0)))
  hs : Li w hv f.homes
  ss : Li w sv f.slots
  bs : LS 1 w bv f.blocks.length (fun k => #[B k])
  each : ∀ k (h : k < f.blocks.length), BlkC w (B k) f.blocks[k]
def FuncC (w : World) (A : Array Value) (f : FuncE) : Prop := ∃ pv hv sv bv B, A = #[pv, .int .i64 f.results, hv, sv, bv] ∧ FuncD w f pv hv sv bv B
def SigC (w : World) (A : Array Value) (s : List Int × Int) : Prop := ∃ lv, A = #[lv, .int .i64 s.2] ∧ Li w lv s.1
structure ProgC (w : World) (fv ev : Value) (p : ProgE) (A E : Nat → Array Value) : Prop where
  fs : LS 5 w fv p.funcs.length A
  feach : ∀ k (h : k < p.funcs.length), FuncC w (A k) p.funcs[k]
  es : LS 2 w ev p.externs.length E
  eeach : ∀ k (h : k < p.externs.length), SigC w (E k) p.externs[k]
theorem InsC.below {w w' : World} {A : Array Value} {i : InsE} (h : InsC w A i) (hb : Below w.heap.size w w') : InsC w' A i := by
  obtain ⟨av, ov, h1, h2, h3⟩ := h
  exact ⟨av, ov, h1, h2.below hb, h3.below hb⟩
theorem BlkC.below {w w' : World} {v : Value} {l : List InsE} (h : BlkC w v l) (hb : Below w.heap.size w w') : BlkC w' v l := by
  obtain ⟨A, h1, h2⟩ := h
  exact ⟨A, h1.below hb, fun k hk => (h2 k hk).below hb⟩
theorem FuncD.below {w w' : World} {f : FuncE} {pv hv sv bv : Value} {B : Nat → Value} (h : FuncD w f pv hv sv bv B) (hb : Below w.heap.size w w') : FuncD w' f pv hv sv bv B :=
  ⟨h.ps.below hb, h.hs.below hb, h.ss.below hb, h.bs.below hb, fun k hk => (h.each k hk).below hb⟩
theorem FuncC.below {w w' : World} {A : Array Value} {f : FuncE} (h : FuncC w A f) (hb : Below w.heap.size w w') : FuncC w' A f := by
  obtain ⟨pv, hv, sv, bv, B, h1, h2⟩ := h
  exact ⟨pv, hv, sv, bv, B, h1, h2.below hb⟩
theorem SigC.below {w w' : World} {A : Array Value} {s : List Int × Int} (h : SigC w A s) (hb : Below w.heap.size w w') : SigC w' A s := by
  obtain ⟨lv, h1, h2⟩ := h
  exact ⟨lv, h1, h2.below hb⟩
theorem ProgC.below {w w' : World} {fv ev : Value} {p : ProgE} {A E : Nat → Array Value} (h : ProgC w fv ev p A E) (hb : Below w.heap.size w w') : ProgC w' fv ev p A E :=
  ⟨h.fs.below hb, fun k hk => (h.feach k hk).below hb, h.es.below hb, fun k hk => (h.eeach k hk).below hb⟩
theorem Li.nil (w : World) : Li w (.slice none 0 0) [] := ⟨none, 0, rfl, Nat.le_refl _, by decide, fun h => absurd h (by decide)⟩
/-- The first k of a list. -/
theorem Li.take {w : World} {p : Option Addr} {cap : Nat} {ns : List Int} (h : Li w (.slice p ns.length cap) ns) (k : Nat) (hk : k ≤ ns.length) : Li w (.slice p k cap) (ns.take k) := by
  obtain ⟨p', cap', h1, h2, h3, h4⟩ := h
  injection h1 with e1 e2 e3
  subst e1 e3
  have hl : (ns.take k).length = k := by simp; omega
  refine ⟨p, cap, by rw [hl], by omega, by omega, fun h0 => ?_⟩
  obtain ⟨sb, so, e, hc⟩ := h4 (by omega)
  refine ⟨sb, so, e, fun i hi => ?_⟩
  rw [hl] at hi
  rw [hc i (by omega)]
  simp [List.getD, hi]
theorem Li.new {w : World} {g : Nat} {ns : List Int} {t : TypeId} {fr : Nat × Nat} (h : w.heap[g]? = some (.cells (ns.map fun n => Value.int .i64 n).toArray t fr)) (hs : ns.length < short) : Li w (.slice (some ⟨g, 0, none⟩) ns.length ns.length) ns :=
  ⟨_, _, rfl, Nat.le_refl _, hs, fun _ => ⟨g, 0, rfl, fun i hi => by
    rw [Nat.zero_add, cells_of_row h i]
    simp [List.getD, hi]⟩⟩
theorem Li.shape {w : World} {v : Value} {ns : List Int} (h : Li w v ns) : ∃ p cap, v = .slice p ns.length cap := by
  obtain ⟨p, cap, h1, -⟩ := h
  exact ⟨p, cap, h1⟩
theorem LS.shape {size : Nat} {w : World} {v : Value} {n : Nat} {A : Nat → Array Value} (h : LS size w v n A) : ∃ p cap, v = .slice p n cap := by
  obtain ⟨p, cap, h1, -⟩ := h
  exact ⟨p, cap, h1⟩
theorem Li.lt {w : World} {v : Value} {ns : List Int} (h : Li w v ns) : ns.length < short := by
  obtain ⟨p, cap, -, -, h, -⟩ := h
  exact h
end Go.Proofs.YteaemhhbpaicnaaDoor
namespace Go.Proofs.YteaemhhbpaicnaaDoor
open Go.RowKit

def noFunc : FuncE := ⟨[], 0, [], [], []⟩
def noIns : InsE := ⟨0, 0, 0, 0, 0, 0, [], []⟩
def inB (n lo hi : Int) : Bool := decide (lo ≤ n ∧ n ≤ hi)
/-- All of 0 to n - 1. -/
def upB (n : Nat) (q : Nat → Bool) : Bool := (List.range n).all q
theorem upB_true {n : Nat} {q : Nat → Bool} (h : ∀ k, k < n → q k = true) : upB n q = true := by
  unfold upB
  rw [List.all_eq_true]
  exact fun k hk => h k (List.mem_range.1 hk)
theorem upB_false {n : Nat} {q : Nat → Bool} {k : Nat} (hk : k < n) (h : q k = false) : upB n q = false := by
  unfold upB
  rw [List.all_eq_false]
  exact ⟨k, List.mem_range.2 hk, by simp [h]⟩
theorem upB_get {n : Nat} {q : Nat → Bool} (h : upB n q = true) {k : Nat} (hk : k < n) : q k = true := by
  unfold upB at h
  rw [List.all_eq_true] at h
  exact h k (List.mem_range.2 hk)
theorem upB_congr {n : Nat} {q r : Nat → Bool} (h : ∀ k, k < n → q k = r k) : upB n q = upB n r := by
  cases hq : upB n r with
  | true => exact upB_true fun k hk => (h k hk).trans (upB_get hq hk)
  | false =>
    cases hp : upB n q with
    | false => rfl
    | true =>
      rw [← hq]
      exact (upB_true fun k hk => (h k hk).symm.trans (upB_get hp hk)).symm
theorem upTo_next {q : Nat → Bool} {k : Nat} (h : ∀ j, j < k → q j = true) (hk : q k = true) : ∀ j, j < k + 1 → q j = true := fun j hj => by
  rcases Nat.lt_succ_iff_lt_or_eq.1 hj with h' | h'
  · exact h j h'
  · subst h'; exact hk
def numsIn (ns : List Int) (lo hi : Int) : Bool := upB ns.length fun k => inB (ns.getD k 0) lo hi
def sigB (s : List Int × Int) : Bool := decide (s.1.length ≤ 8) && (inB s.2 0 4 && numsIn s.1 0 8)
def sigE (f : FuncE) : List Int × Int := (f.params.map (·.1), f.results)
def homeB (regs : Int) (own hs : List Int) (k : Nat) : Bool := decide (hs.getD k 0 = -1) || (inB (hs.getD k 0) 0 (regs - 1) && (!decide (hs.getD k 0 ∈ own) && !decide (hs.getD k 0 ∈ hs.take k)))
def homesB (regs : Int) (own hs : List Int) : Bool := upB hs.length (homeB regs own hs)
def blocksB (bs : List (List InsE)) : Bool := upB bs.length fun k => inB ((bs.getD k []).length) 1 24
/-- A local, or a slot of so many words. -/
def spotB (f : FuncE) (x : Int × Int) : Bool := if x.1 = 0 then inB x.2 0 (f.homes.length - 1) else inB x.2 0 (f.slots.length - 1) && decide (f.slots.getD x.2.toNat 0 = x.1)
def meetsB (x y : Int × Int) : Bool := decide (x.2 = y.2) && (decide (x.1 = 0) == decide (y.1 = 0))
def paramB (f : FuncE) (k : Nat) : Bool := spotB f (f.params.getD k (0, 0)) && upB k fun j => !meetsB (f.params.getD k (0, 0)) (f.params.getD j (0, 0))
def paramsB (f : FuncE) : Bool := upB f.params.length (paramB f)
def headB (regs : Int) (own : List Int) (f : FuncE) : Bool :=
  decide (f.params.length ≤ 8) && (sigB (sigE f) && (decide (f.homes.length ≤ 12) && (homesB regs own f.homes && (decide (f.slots.length ≤ 6) && (numsIn f.slots 1 8 && (inB f.blocks.length 1 12 && (blocksB f.blocks && paramsB f)))))))
def countsB (p : ProgE) : Bool := inB p.funcs.length 1 8 && (decide (p.externs.length ≤ 4) && upB p.externs.length fun k => sigB (p.externs.getD k ([], 0)))
def localB (f : FuncE) (n : Int) : Bool := inB n 0 (f.homes.length - 1)
def localsB (f : FuncE) (l : List Int) : Bool := upB l.length fun k => localB f (l.getD k 0)
def argsB (f : FuncE) (gs : List (Int × Int)) (ps : List Int) : Bool := decide (gs.length = ps.length) && upB gs.length fun k => decide ((gs.getD k (0, 0)).1 = ps.getD k 0) && spotB f (gs.getD k (0, 0))
def apartB (l : List Int) : Bool := upB l.length fun k => !decide (l.getD k 0 ∈ l.take k)
def callB (f : FuncE) (i : InsE) (s : List Int × Int) : Bool := argsB f i.args s.1 && (decide ((i.outs.length : Int) = s.2) && (localsB f i.outs && apartB i.outs))
def tailB (f : FuncE) (i : InsE) (s : List Int × Int) : Bool := argsB f i.args s.1 && decide (s.2 = f.results)
def widthB (n : Int) : Bool := decide (n = 1 ∨ n = 2 ∨ n = 4 ∨ n = 8)
def slotB (f : FuncE) (i : InsE) : Bool := inB i.a 0 (f.slots.length - 1) && (widthB i.n && (inB i.bb 0 (8 * f.slots.getD i.a.toNat 0 - i.n) && decide (i.bb % i.n = 0)))
def fieldsB (p : ProgE) (f : FuncE) (i : InsE) : Bool :=
  if i.op = 1 then localB f i.d
  else if i.op = 2 then localB f i.d && localB f i.a
  else if i.op = 10 ∨ i.op = 11 then localB f i.d && slotB f i
  else if i.op = 12 then inB i.f 0 (p.funcs.length - 1) && callB f i (sigE (p.funcs.getD i.f.toNat noFunc))
  else if i.op = 13 then inB i.f 0 (p.externs.length - 1) && callB f i (p.externs.getD i.f.toNat ([], 0))
  else if i.op = 14 then inB i.a 0 (f.blocks.length - 1)
  else if i.op = 15 then localB f i.d && (inB i.a 0 (f.blocks.length - 1) && inB i.bb 0 (f.blocks.length - 1))
  else if i.op = 16 then decide ((i.outs.length : Int) = f.results) && localsB f i.outs
  else if i.op = 17 then inB i.f 0 (p.funcs.length - 1) && tailB f i (sigE (p.funcs.getD i.f.toNat noFunc))
  else if i.op = 18 then true
  else localB f i.d && (localB f i.a && localB f i.bb)
def insB (p : ProgE) (f : FuncE) (i : InsE) (last : Bool) : Bool := inB i.op 1 18 && ((decide (14 ≤ i.op) == last) && (!i.spare && fieldsB p f i))
/-- The first one that is not. -/
def firstN (n : Nat) (ok : Nat → Bool) : Option Nat := (List.range n).find? fun k => !ok k
theorem firstN_some {n : Nat} {ok : Nat → Bool} {k : Nat} (h : ∀ j, j < k → ok j = true) (hk : k < n) (hb : ok k = false) : firstN n ok = some k := by
  unfold firstN
  rw [List.find?_range_eq_some]
  exact ⟨by simp [hb], List.mem_range.2 hk, fun j hj => by simp [h j hj]⟩
theorem firstN_none {n : Nat} {ok : Nat → Bool} (h : ∀ j, j < n → ok j = true) : firstN n ok = none := by
  unfold firstN
  rw [List.find?_eq_none]
  intro j hj
  simp [h j (List.mem_range.1 hj)]
def okAt (p : ProgE) (f : FuncE) (k j : Nat) : Bool := insB p f ((f.blocks.getD k []).getD j noIns) (decide (j + 1 = (f.blocks.getD k []).length))
def blkB (p : ProgE) (f : FuncE) (k : Nat) : Bool := upB (f.blocks.getD k []).length (okAt p f k)
def bodyB (p : ProgE) (f : FuncE) : Bool := upB f.blocks.length (blkB p f)
/-- The block and the place of the first instruction that is wrong. -/
def wrongB (p : ProgE) (f : FuncE) : Int × Int := match firstN f.blocks.length (blkB p f) with
  | none => (-1, -1)
  | some k => (k, ((firstN (f.blocks.getD k []).length (okAt p f k)).getD 0 : Nat))
structure FltE where
  e : Int
  f : Int
  b : Int
  a : Int
def chkB (tab : Bool) (regs : Int) (own : List Int) (p : ProgE) : FltE :=
  if tab = false then ⟨2, -1, -1, -1⟩ else if countsB p = false then ⟨5, -1, -1, -1⟩ else match firstN p.funcs.length (fun k => headB regs own (p.funcs.getD k noFunc)) with
    | some k => ⟨5, k, -1, -1⟩
    | none => match firstN p.funcs.length (fun k => bodyB p (p.funcs.getD k noFunc)) with
      | some k => ⟨5, k, (wrongB p (p.funcs.getD k noFunc)).1, (wrongB p (p.funcs.getD k noFunc)).2⟩
      | none => ⟨0, -1, -1, -1⟩
end Go.Proofs.YteaemhhbpaicnaaDoor
