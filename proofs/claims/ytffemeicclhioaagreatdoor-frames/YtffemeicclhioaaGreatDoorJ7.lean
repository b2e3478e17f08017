/-
  Own work of the verifier: CkRep, CkPure, CkA, CkB, CkC, CkD, CkE, as one text.
-/
import Derived.Test.YtffemeicclhioaaGreatDoorJ0
import Derived.WalkKit
import Derived.Handy
import Derived.Deep.MidRow
import Derived.Laws.Tables
import Derived.Laws.Rows
import Derived.Deep.RegionWith
import Derived.Test.YtffemeicclhioaaGreatDoorShelf
import Derived.Laws.AppendOwn
import Derived.Deep.QuietTactic
import Derived.BigQuiet
import Derived.Test.YtffemeicclhioaaGreatDoorJ3
namespace Go.Proofs.YtffemeicclhioaaGreatDoor
open Go.RowKit

/-- A list of numbers. -/
def Li (w : World) (v : Value) (ns : List Int) : Prop := ∃ p cap, v = .slice p ns.length cap ∧ ns.length ≤ cap ∧ ns.length < short ∧ (0 < ns.length → ∃ sb so, p = some ⟨sb, so, none⟩ ∧ ∀ i, i < ns.length → w.cell? ⟨sb, so + i, none⟩ = some (.int .i64 (ns.getD i 0)))
/-- A list of n structs of so many cells. -/
def LS (size : Nat) (w : World) (v : Value) (n : Nat) (A : Nat → Array Value) : Prop := ∃ p cap, v = .slice p n cap ∧ n ≤ cap ∧ n < short ∧ (0 < n → ∃ sb so, p = some ⟨sb, so, none⟩ ∧ sb < w.heap.size ∧ ∀ i, i < n → w.rangeAt sb (so + i * size) (A i).toList)
theorem Li.below {w w' : World} {v : Value} {ns : List Int} (h : Li w v ns) (hb : Below w.heap.size w w') : Li w' v ns := by
 obtain ⟨p, cap, h1, h2, h3, h4⟩ := h
 refine ⟨p, cap, h1, h2, h3, fun h0 => ?_⟩
 obtain ⟨sb, so, e, hc⟩ := h4 h0
 exact ⟨sb, so, e, fun i hi => (hb.cell (p := ⟨sb, so + i, none⟩) (World.block_lt_of_cell? w _ (hc i hi))).trans (hc i hi)⟩
theorem LS.below {size : Nat} {w w' : World} {v : Value} {n : Nat} {A : Nat → Array Value} (h : LS size w v n A) (hb : Below w.heap.size w w') : LS size w' v n A := by
 obtain ⟨p, cap, h1, h2, h3, h4⟩ := h
 refine ⟨p, cap, h1, h2, h3, fun h0 => ?_⟩
 obtain ⟨sb, so, e, hlt, hc⟩ := h4 h0
 exact ⟨sb, so, e, Nat.lt_of_lt_of_le hlt hb.size, fun i hi j x hx => (hb.cell (p := ⟨sb, so + i * size + j, none⟩) hlt).trans (hc i hi j x hx)⟩
def pairA (x : Int × Int) : Array Value := #[.int .i64 x.1, .int .i64 x.2]
def InsC (w : World) (A : Array Value) (i : InsE) : Prop := ∃ av ov, A = #[.int .i64 i.op, .int .i64 i.d, .int .i64 i.a, .int .i64 i.bb, .int .u64 i.n, .int .i64 i.f, av, ov] ∧ LS 2 w av i.args.length (fun k => pairA (i.args.getD k (0, 0))) ∧ Li w ov i.outs
def BlkC (w : World) (v : Value) (l : List InsE) : Prop := ∃ A : Nat → Array Value, LS 8 w v l.length A ∧ ∀ k (h : k < l.length), InsC w (A k) l[k]
structure FuncD (w : World) (f : FuncE) (pv hv sv bv : Value) (B : Nat → Value) : Prop where
 ps : LS 2 w pv f.params.length (fun k => pairA (f.params.getD k (0, 0)))
 hs : Li w hv f.homes
 ss : Li w sv f.slots
 bs : LS 1 w bv f.blocks.length (fun k => #[B k])
 each : ∀ k (h : k < f.blocks.length), BlkC w (B k) f.blocks[k]
def FuncC (w : World) (A : Array Value) (f : FuncE) : Prop := ∃ pv hv sv bv B, A = #[pv, .int .i64 f.results, hv, sv, bv] ∧ FuncD w f pv hv sv bv B
def SigC (w : World) (A : Array Value) (s : List Int × Int) : Prop := ∃ lv, A = #[lv, .int .i64 s.2] ∧ Li w lv s.1
structure ProgC (w : World) (fv ev : Value) (p : ProgE) (A E : Nat → Array Value) : Prop where
 fs : LS 5 w fv p.funcs.length A
 feach : ∀ k (h : k < p.funcs.length), FuncC w (A k) p.funcs[k]
 es : LS 2 w ev p.externs.length E
 eeach : ∀ k (h : k < p.externs.length), SigC w (E k) p.externs[k]
theorem InsC.below {w w' : World} {A : Array Value} {i : InsE} (h : InsC w A i) (hb : Below w.heap.size w w') : InsC w' A i := by
 obtain ⟨av, ov, h1, h2, h3⟩ := h
 exact ⟨av, ov, h1, h2.below hb, h3.below hb⟩
theorem BlkC.below {w w' : World} {v : Value} {l : List InsE} (h : BlkC w v l) (hb : Below w.heap.size w w') : BlkC w' v l := by
 obtain ⟨A, h1, h2⟩ := h
 exact ⟨A, h1.below hb, fun k hk => (h2 k hk).below hb⟩
theorem FuncD.below {w w' : World} {f : FuncE} {pv hv sv bv : Value} {B : Nat → Value} (h : FuncD w f pv hv sv bv B) (hb : Below w.heap.size w w') : FuncD w' f pv hv sv bv B :=
 ⟨h.ps.below hb, h.hs.below hb, h.ss.below hb, h.bs.below hb, fun k hk => (h.each k hk).below hb⟩
theorem FuncC.below {w w' : World} {A : Array Value} {f : FuncE} (h : FuncC w A f) (hb : Below w.heap.size w w') : FuncC w' A f := by
 obtain ⟨pv, hv, sv, bv, B, h1, h2⟩ := h
 exact ⟨pv, hv, sv, bv, B, h1, h2.below hb⟩
theorem SigC.below {w w' : World} {A : Array Value} {s : List Int × Int} (h : SigC w A s) (hb : Below w.heap.size w w') : SigC w' A s := by
 obtain ⟨lv, h1, h2⟩ := h
 exact ⟨lv, h1, h2.below hb⟩
theorem ProgC.below {w w' : World} {fv ev : Value} {p : ProgE} {A E : Nat → Array Value} (h : ProgC w fv ev p A E) (hb : Below w.heap.size w w') : ProgC w' fv ev p A E :=
 ⟨h.fs.below hb, fun k hk => (h.feach k hk).below hb, h.es.below hb, fun k hk => (h.eeach k hk).below hb⟩
theorem Li.nil (w : World) : Li w (.slice none 0 0) [] := ⟨none, 0, rfl, Nat.le_refl _, by decide, fun h => absurd h (by decide)⟩
/-- The first k of a list. -/
theorem Li.take {w : World} {p : Option Addr} {cap : Nat} {ns : List Int} (h : Li w (.slice p ns.length cap) ns) (k : Nat) (hk : k ≤ ns.length) : Li w (.slice p k cap) (ns.take k) := by
 obtain ⟨p', cap', h1, h2, h3, h4⟩ := h
 injection h1 with e1 e2 e3
 subst e1 e3
 have hl : (ns.take k).length = k := by simp; omega
 refine ⟨p, cap, by rw [hl], by omega, by omega, fun h0 => ?_⟩
 obtain ⟨sb, so, e, hc⟩ := h4 (by omega)
 refine ⟨sb, so, e, fun i hi => ?_⟩
 rw [hl] at hi
 rw [hc i (by omega)]
 simp [List.getD, hi]
theorem Li.new {w : World} {g : Nat} {ns : List Int} {t : TypeId} {fr : Nat × Nat} (h : w.heap[g]? = some (.cells (ns.map fun n => Value.int .i64 n).toArray t fr)) (hs : ns.length < short) : Li w (.slice (some ⟨g, 0, none⟩) ns.length ns.length) ns :=
 ⟨_, _, rfl, Nat.le_refl _, hs, fun _ => ⟨g, 0, rfl, fun i hi => by
  rw [Nat.zero_add, Zab h i]
  simp [List.getD, hi]⟩⟩
theorem Li.shape {w : World} {v : Value} {ns : List Int} (h : Li w v ns) : ∃ p cap, v = .slice p ns.length cap := by
 obtain ⟨p, cap, h1, -⟩ := h
 exact ⟨p, cap, h1⟩
theorem LS.shape {size : Nat} {w : World} {v : Value} {n : Nat} {A : Nat → Array Value} (h : LS size w v n A) : ∃ p cap, v = .slice p n cap := by
 obtain ⟨p, cap, h1, -⟩ := h
 exact ⟨p, cap, h1⟩
theorem Li.lt {w : World} {v : Value} {ns : List Int} (h : Li w v ns) : ns.length < short := by
 obtain ⟨p, cap, -, -, h, -⟩ := h
 exact h
end Go.Proofs.YtffemeicclhioaaGreatDoor
namespace Go.Proofs.YtffemeicclhioaaGreatDoor
open Go.RowKit

def Zaj : FuncE := ⟨[], 0, [], [], []⟩
def noIns : InsE := ⟨0, 0, 0, 0, 0, 0, [], []⟩
def inB (n lo hi : Int) : Bool := decide (lo ≤ n ∧ n ≤ hi)
/-- All of 0 to n - 1. -/
def upB (n : Nat) (q : Nat → Bool) : Bool := (List.range n).all q
theorem upB_true {n : Nat} {q : Nat → Bool} (h : ∀ k, k < n → q k = true) : upB n q = true := by
 unfold upB
 rw [List.all_eq_true]
 exact fun k hk => h k (List.mem_range.1 hk)
theorem upB_false {n : Nat} {q : Nat → Bool} {k : Nat} (hk : k < n) (h : q k = false) : upB n q = false := by
 unfold upB
 rw [List.all_eq_false]
 exact ⟨k, List.mem_range.2 hk, by simp [h]⟩
theorem upB_get {n : Nat} {q : Nat → Bool} (h : upB n q = true) {k : Nat} (hk : k < n) : q k = true := by
 unfold upB at h
 rw [List.all_eq_true] at h
 exact h k (List.mem_range.2 hk)
theorem Zal {q : Nat → Bool} {k : Nat} (h : ∀ j, j < k → q j = true) (hk : q k = true) : ∀ j, j < k + 1 → q j = true := fun j hj => by
 rcases Nat.lt_succ_iff_lt_or_eq.1 hj with h' | h'
 ·
  exact h j h'
 ·
  subst h'; exact hk
def numsIn (ns : List Int) (lo hi : Int) : Bool := upB ns.length fun k => inB (ns.getD k 0) lo hi
def sigB (s : List Int × Int) : Bool := decide (s.1.length ≤ 8) && (inB s.2 0 4 && numsIn s.1 0 8)
def sigE (f : FuncE) : List Int × Int := (f.params.map (·.1), f.results)
def homeB (regs : Int) (own hs : List Int) (k : Nat) : Bool := decide (hs.getD k 0 = -1) || (inB (hs.getD k 0) 0 (regs - 1) && (!decide (hs.getD k 0 ∈ own) && !decide (hs.getD k 0 ∈ hs.take k)))
def homesB (regs : Int) (own hs : List Int) : Bool := upB hs.length (homeB regs own hs)
def blocksB (bs : List (List InsE)) : Bool := upB bs.length fun k => inB ((bs.getD k []).length) 1 24
/-- A local, or a slot of so many words. -/
def spotB (f : FuncE) (x : Int × Int) : Bool := if x.1 = 0 then inB x.2 0 (f.homes.length - 1) else inB x.2 0 (f.slots.length - 1) && decide (f.slots.getD x.2.toNat 0 = x.1)
def meetsB (x y : Int × Int) : Bool := decide (x.2 = y.2) && (decide (x.1 = 0) == decide (y.1 = 0))
def paramB (f : FuncE) (k : Nat) : Bool := spotB f (f.params.getD k (0, 0)) && upB k fun j => !meetsB (f.params.getD k (0, 0)) (f.params.getD j (0, 0))
def paramsB (f : FuncE) : Bool := upB f.params.length (paramB f)
def headB (regs : Int) (own : List Int) (f : FuncE) : Bool :=
 decide (f.params.length ≤ 8) && (sigB (sigE f) && (decide (f.homes.length ≤ 12) && (homesB regs own f.homes && (decide (f.slots.length ≤ 6) && (numsIn f.slots 1 8 && (inB f.blocks.length 1 12 && (blocksB f.blocks && paramsB f)))))))
def countsB (p : ProgE) : Bool := inB p.funcs.length 1 8 && (decide (p.externs.length ≤ 4) && upB p.externs.length fun k => sigB (p.externs.getD k ([], 0)))
def localB (f : FuncE) (n : Int) : Bool := inB n 0 (f.homes.length - 1)
def localsB (f : FuncE) (l : List Int) : Bool := upB l.length fun k => localB f (l.getD k 0)
def argsB (f : FuncE) (gs : List (Int × Int)) (ps : List Int) : Bool := decide (gs.length = ps.length) && upB gs.length fun k => decide ((gs.getD k (0, 0)).1 = ps.getD k 0) && spotB f (gs.getD k (0, 0))
def apartB (l : List Int) : Bool := upB l.length fun k => !decide (l.getD k 0 ∈ l.take k)
def callB (f : FuncE) (i : InsE) (s : List Int × Int) : Bool := argsB f i.args s.1 && (decide ((i.outs.length : Int) = s.2) && (localsB f i.outs && apartB i.outs))
def tailB (f : FuncE) (i : InsE) (s : List Int × Int) : Bool := argsB f i.args s.1 && decide (s.2 = f.results)
def widthB (n : Int) : Bool := decide (n = 1 ∨ n = 2 ∨ n = 4 ∨ n = 8)
def slotB (f : FuncE) (i : InsE) : Bool := inB i.a 0 (f.slots.length - 1) && (widthB i.n && (inB i.bb 0 (8 * f.slots.getD i.a.toNat 0 - i.n) && decide (i.bb % i.n = 0)))
def Zai (p : ProgE) (f : FuncE) (i : InsE) : Bool :=
 if i.op = 1 then localB f i.d
 else if i.op = 2 then localB f i.d && localB f i.a
 else if i.op = 10 ∨ i.op = 11 then localB f i.d && slotB f i
 else if i.op = 12 then inB i.f 0 (p.funcs.length - 1) && callB f i (sigE (p.funcs.getD i.f.toNat Zaj))
 else if i.op = 13 then inB i.f 0 (p.externs.length - 1) && callB f i (p.externs.getD i.f.toNat ([], 0))
 else if i.op = 14 then inB i.a 0 (f.blocks.length - 1)
 else if i.op = 15 then localB f i.d && (inB i.a 0 (f.blocks.length - 1) && inB i.bb 0 (f.blocks.length - 1))
 else if i.op = 16 then decide ((i.outs.length : Int) = f.results) && localsB f i.outs
 else if i.op = 17 then inB i.f 0 (p.funcs.length - 1) && tailB f i (sigE (p.funcs.getD i.f.toNat Zaj))
 else if i.op = 18 then true
 else localB f i.d && (localB f i.a && localB f i.bb)
def insB (p : ProgE) (f : FuncE) (i : InsE) (last : Bool) : Bool := inB i.op 1 18 && ((decide (14 ≤ i.op) == last) && (!i.spare && Zai p f i))
/-- The first one that is not. -/
def firstN (n : Nat) (ok : Nat → Bool) : Option Nat := (List.range n).find? fun k => !ok k
theorem firstN_some {n : Nat} {ok : Nat → Bool} {k : Nat} (h : ∀ j, j < k → ok j = true) (hk : k < n) (hb : ok k = false) : firstN n ok = some k := by
 unfold firstN
 rw [List.find?_range_eq_some]
 exact ⟨by simp [hb], List.mem_range.2 hk, fun j hj => by simp [h j hj]⟩
theorem firstN_none {n : Nat} {ok : Nat → Bool} (h : ∀ j, j < n → ok j = true) : firstN n ok = none := by
 unfold firstN
 rw [List.find?_eq_none]
 intro j hj
 simp [h j (List.mem_range.1 hj)]
def okAt (p : ProgE) (f : FuncE) (k j : Nat) : Bool := insB p f ((f.blocks.getD k []).getD j noIns) (decide (j + 1 = (f.blocks.getD k []).length))
def blkB (p : ProgE) (f : FuncE) (k : Nat) : Bool := upB (f.blocks.getD k []).length (okAt p f k)
def bodyB (p : ProgE) (f : FuncE) : Bool := upB f.blocks.length (blkB p f)
/-- The block and the place of the first instruction that is wrong. -/
def wrongB (p : ProgE) (f : FuncE) : Int × Int := match firstN f.blocks.length (blkB p f) with
 | none => (-1, -1)
 | some k => (k, ((firstN (f.blocks.getD k []).length (okAt p f k)).getD 0 : Nat))
structure FltE where
 e : Int
 f : Int
 b : Int
 a : Int
def chkB (tab : Bool) (regs : Int) (own : List Int) (p : ProgE) : FltE :=
 if tab = false then ⟨2, -1, -1, -1⟩ else if countsB p = false then ⟨5, -1, -1, -1⟩ else match firstN p.funcs.length (fun k => headB regs own (p.funcs.getD k Zaj)) with
  | some k => ⟨5, k, -1, -1⟩
  | none => match firstN p.funcs.length (fun k => bodyB p (p.funcs.getD k Zaj)) with
   | some k => ⟨5, k, (wrongB p (p.funcs.getD k Zaj)).1, (wrongB p (p.funcs.getD k Zaj)).2⟩
   | none => ⟨0, -1, -1, -1⟩
end Go.Proofs.YtffemeicclhioaaGreatDoor
namespace Go.Proofs.YtffemeicclhioaaGreatDoor
open Go.RowKit

set_option maxHeartbeats 1000000 in
theorem isWithin_c (n lo hi : Int) (w : World) : Calls Tryz.prog 54 #[.int .i64 n, .int .i64 lo, .int .i64 hi] w fun e w' => e = .returned (.bool (inB n lo hi)) ∧ w' = w := by
 unfold inB
 by_cases h1 : lo ≤ n
 ·
  by_cases h2 : n ≤ hi
  ·
   have hd : decide (lo ≤ n ∧ n ≤ hi) = true := by simp; omega
   rw [hd]
   clear hd
   go_enter Tryz.func54, Tryz.ntmps54
   go_wp2
   go_ret
   exact ⟨rfl, rfl⟩
  ·
   have hd : decide (lo ≤ n ∧ n ≤ hi) = false := by simp; omega
   rw [hd]
   clear hd
   go_enter Tryz.func54, Tryz.ntmps54
   go_wp2
   go_ret
   exact ⟨rfl, rfl⟩
 ·
  have hd : decide (lo ≤ n ∧ n ≤ hi) = false := by simp; omega
  rw [hd]
  clear hd
  go_enter Tryz.func54, Tryz.ntmps54
  go_wp2
  go_ret
  exact ⟨rfl, rfl⟩
set_option maxHeartbeats 1000000 in
set_option maxRecDepth 100000 in
theorem slotsFit_c (v : Value) (ns : List Int) (w : World) (h : Li w v ns) : Calls Tryz.prog 58 #[v] w fun e w' => e = .returned (.bool (numsIn ns 1 8)) ∧ w' = w := by
 obtain ⟨p, cap, rfl, hcap, hlt, hc⟩ := h
 have hlt : ns.length < 9223372036854775808 := hlt
 have HC := Zac hc
 clear hc
 go_enter Tryz.func58, Tryz.ntmps58
 go_wp2_with fail
 go_loopw [7] (fun j w' => ∃ k : Nat, j = .int .i64 k ∧ k ≤ ns.length ∧ w' = w ∧ ∀ q, q < k → inB (ns.getD q 0) 1 8 = true) (fun j _ => ns.length - (intOf j).toNat)
 case atStart => exact ⟨0, rfl, by omega, rfl, fun q hq => by omega⟩
 case round =>
  obtain ⟨k, rfl, hk, rfl, hno⟩ := hrel
  have HN := Zac hno
  clear hno
  by_cases hk2 : k < ns.length
  ·
   obtain ⟨sb, so, rfl, hcc⟩ := Zaa HC (by omega)
   have c := hcc k hk2
   have HW := Zac (isWithin_c (ns.getD k 0) 1 8 wr)
   have HBAD := Zac (fun hb : inB (ns.getD k 0) 1 8 = false => show numsIn ns 1 8 = false from upB_false hk2 hb)
   have HNX := Zac (fun hb : inB (ns.getD k 0) 1 8 = true => Zal (q := fun q => inB (ns.getD q 0) 1 8) (Zaa HN) hb)
   clear hcc HC
   generalize inB (ns.getD k 0) 1 8 = yes at HW HBAD HNX
   generalize ns.getD k 0 = y at c HW
   go_wp2_with fail
   refine (Zaa HW).mono ?_
   rintro e w2 ⟨rfl, h2⟩
   subst w2
   cases yes with
   | false =>
    have hx := Zac (Zaa HBAD rfl)
    go_wp2
    go_ret
    exact ⟨by rw [Zaa hx]; rfl, rfl⟩
   | true =>
    have hx := Zac (Zaa HNX rfl)
    go_wp2
    go_roundw
    case rel => exact ⟨k + 1, by go_num, by omega, trivial, Zaa hx⟩
    case measure => simp [intOf]; omega
  ·
   have HT := Zac (show numsIn ns 1 8 = true from upB_true (fun q hq => Zaa HN q (by omega)))
   obtain rfl : k = ns.length := by omega
   go_wp2
   go_ret
   exact ⟨by rw [Zaa HT]; rfl, rfl⟩
theorem al0 (w : World) (X : Obj) : (w.alloc X).heap[w.heap.size]? = some X ∧ Below w.heap.size w (w.alloc X) ∧ (w.alloc X).heap.size = w.heap.size + 1 :=
 ⟨heap_alloc_new w _, (Below.refl w.heap.size w).alloc (Nat.le_refl _) _, by simp⟩
theorem Zah {a w : World} {n : Nat} (h : Below n a w) (m : Nat) : Below n a (w.drewN m) := ⟨h.os, h.tape, h.output, h.size, h.block⟩
theorem Zad {a c d : World} {n : Nat} (h : Below n a c) (k : Below c.heap.size c d) (hn : n ≤ c.heap.size) : Below n a d := h.trans (k.mono hn)
theorem LS.pairs {w : World} {v : Value} {xs : List (Int × Int)} (h : LS 2 w v xs.length (fun k => pairA (xs.getD k (0, 0)))) : ∃ p cap, v = .slice p xs.length cap ∧ xs.length ≤ cap ∧ xs.length < 9223372036854775808 ∧ (0 < xs.length → ∃ sb so, p = some ⟨sb, so, none⟩ ∧ ∀ k, k < xs.length → w.cell? ⟨sb, so + k * 2, none⟩ = some (.int .i64 (xs.getD k (0, 0)).1) ∧ w.cell? ⟨sb, so + k * 2 + 1, none⟩ = some (.int .i64 (xs.getD k (0, 0)).2)) := by
 obtain ⟨p, cap, h1, h2, h3, h4⟩ := h
 refine ⟨p, cap, h1, h2, h3, fun h0 => ?_⟩
 obtain ⟨sb, so, e, -, hc⟩ := h4 h0
 exact ⟨sb, so, e, fun k hk => ⟨hc k hk 0 _ rfl, hc k hk 1 _ rfl⟩⟩
set_option maxHeartbeats 1000000 in
set_option maxRecDepth 100000 in
theorem sigFits_c (v : Value) (ns : List Int) (r : Int) (w : World) (h : Li w v ns) : Calls Tryz.prog 55 #[.agg #[v, .int .i64 r]] w fun e w' => e = .returned (.bool (sigB (ns, r))) ∧ Below w.heap.size w w' := by
 have hx := al0 w (.cells #[v, .int .i64 r] 79 (0, 0))
 have h' := h.below hx.2.1
 obtain ⟨p, cap, rfl, hcap, hlt, hc⟩ := h'
 have hlt : ns.length < 9223372036854775808 := hlt
 have HC := Zac hc
 have HX := Zac hx
 clear hc hx h
 by_cases h8 : ns.length ≤ 8
 ·
  have HS := Zac (show sigB (ns, r) = (inB r 0 4 && numsIn ns 0 8) by unfold sigB; simp [h8])
  go_enter Tryz.func55, Tryz.ntmps55
  go_wp2_with fail
  refine (isWithin_c r 0 4 _).mono ?_
  rintro e w2 ⟨rfl, h2⟩
  subst w2
  cases hr : inB r 0 4 with
  | false =>
   have HR := Zac hr
   clear hr
   go_wp2
   go_ret
   exact ⟨by rw [Zaa HS, Zaa HR]; rfl, (Zaa HX).2.1⟩
  | true =>
   have HR := Zac hr
   clear hr
   go_wp2_with fail
   generalize World.alloc w _ = W at HC HX ⊢
   go_loopw [18] (fun j w' => ∃ k : Nat, j = .int .i64 k ∧ k ≤ ns.length ∧ w' = W ∧ ∀ q, q < k → inB (ns.getD q 0) 0 8 = true) (fun j _ => ns.length - (intOf j).toNat)
   case atStart => exact ⟨0, rfl, by omega, rfl, fun q hq => by omega⟩
   case round =>
    obtain ⟨k, rfl, hk, rfl, hno⟩ := hrel
    have HN := Zac hno
    clear hno
    by_cases hk2 : k < ns.length
    ·
     obtain ⟨sb, so, rfl, hcc⟩ := Zaa HC (by omega)
     have c := hcc k hk2
     have HW := Zac (isWithin_c (ns.getD k 0) 0 8 wr)
     have HBAD := Zac (fun hb : inB (ns.getD k 0) 0 8 = false => show numsIn ns 0 8 = false from upB_false hk2 hb)
     have HNX := Zac (fun hb : inB (ns.getD k 0) 0 8 = true => Zal (q := fun q => inB (ns.getD q 0) 0 8) (Zaa HN) hb)
     clear hcc HC
     generalize inB (ns.getD k 0) 0 8 = yes at HW HBAD HNX
     generalize ns.getD k 0 = y at c HW
     go_wp2_with fail
     refine (Zaa HW).mono ?_
     rintro e w2 ⟨rfl, h2⟩
     subst w2
     cases yes with
     | false =>
      have hx := Zac (Zaa HBAD rfl)
      go_wp2
      go_ret
      exact ⟨by rw [Zaa HS, Zaa HR, Zaa hx]; rfl, (Zaa HX).2.1⟩
     | true =>
      have hx := Zac (Zaa HNX rfl)
      go_wp2
      go_roundw
      case rel => exact ⟨k + 1, by go_num, by omega, trivial, Zaa hx⟩
      case measure => simp [intOf]; omega
    ·
     have HT := Zac (show numsIn ns 0 8 = true from upB_true (fun q hq => Zaa HN q (by omega)))
     obtain rfl : k = ns.length := by omega
     go_wp2
     go_ret
     exact ⟨by rw [Zaa HS, Zaa HR, Zaa HT]; rfl, (Zaa HX).2.1⟩
 ·
  have HS := Zac (show sigB (ns, r) = false by unfold sigB; simp [h8])
  go_enter Tryz.func55, Tryz.ntmps55
  go_wp2
  go_ret
  exact ⟨by rw [Zaa HS]; rfl, (Zaa HX).2.1⟩
set_option maxHeartbeats 1000000 in
set_option maxRecDepth 100000 in
theorem comesInto_c (f : FuncE) (a v u c : Value) (r : Int) (x : Int × Int) (w : World) (hh : Li w v f.homes) (hs : Li w u f.slots) : Calls Tryz.prog 72 #[.agg #[a, .int .i64 r, v, u, c], .agg #[.int .i64 x.1, .int .i64 x.2]] w fun e w' => e = .returned (.bool (spotB f x)) ∧ Below w.heap.size w w' := by
 obtain ⟨x, y⟩ := x
 obtain ⟨p, cap, rfl, hcap, hlt, hc⟩ := hh
 have hlt : f.homes.length < 9223372036854775808 := hlt
 have hx := al0 w (.cells #[a, .int .i64 r, .slice p f.homes.length cap, u, c] 70 (0, 0))
 have hs' := hs.below hx.2.1
 have hs1 := hx.2.2
 have HX := Zac hx.2.1
 generalize hW : World.alloc w (.cells #[a, .int .i64 r, .slice p f.homes.length cap, u, c] 70 (0, 0)) = W at hs' HX hs1
 have hy := al0 W (.cells #[.int .i64 x, .int .i64 y] 105 (0, 0))
 have hs'' := hs'.below hy.2.1
 have HB := Zac (Zad (Zaa HX) hy.2.1 (by omega))
 obtain ⟨p2, cap2, rfl, hcap2, hlt2, hc2⟩ := hs''
 have hlt2 : f.slots.length < 9223372036854775808 := hlt2
 have HC2 := Zac hc2
 clear hc hc2 hs hs' hx hy
 subst hW
 by_cases h0 : x = 0
 ·
  have HS := Zac (show spotB f (x, y) = inB y 0 (f.homes.length - 1) by unfold spotB; simp [h0])
  have HW := Zac (fun V => isWithin_c y 0 (f.homes.length - 1) V)
  generalize inB y 0 (f.homes.length - 1) = yes at HS HW
  subst h0
  go_enter Tryz.func72, Tryz.ntmps72
  go_wp2_with fail
  refine (Zaa HW _).mono ?_
  rintro e w2 ⟨rfl, h2⟩
  subst w2
  go_wp2
  go_ret
  exact ⟨by rw [Zaa HS]; rfl, Zaa HB⟩
 ·
  have hz : (x == 0) = false := by simpa using h0
  have HS := Zac (show spotB f (x, y) = (inB y 0 (f.slots.length - 1) && decide (f.slots.getD y.toNat 0 = x)) by unfold spotB; simp [h0])
  have HW := Zac (fun V => isWithin_c y 0 (f.slots.length - 1) V)
  go_enter Tryz.func72, Tryz.ntmps72
  go_wp2_with fail
  cases hr : inB y 0 (f.slots.length - 1) with
  | false =>
   rw [hr] at HW HS
   go_quiet ((go_at_call 54; exact Calls.quiet_of_same (Zaa HW _)))
   go_wp2
   go_ret
   exact ⟨by rw [Zaa HS]; rfl, Zah (Zaa HB) _⟩
  | true =>
   rw [hr] at HW HS
   have hr2 := hr
   unfold inB at hr2
   have hr3 := of_decide_eq_true hr2
   obtain ⟨g0, g1⟩ := hr3
   obtain ⟨sb, so, rfl, hcc⟩ := Zaa HC2 (by omega)
   obtain ⟨n, rfl⟩ : ∃ n : Nat, y = n := ⟨y.toNat, by omega⟩
   have hn : n < f.slots.length := by omega
   have cc := hcc n hn
   rw [Int.toNat_natCast] at HS
   clear hr hr2 hcc HC2 g0 g1
   generalize f.slots.getD n 0 = z at cc HS
   go_quiet ((go_at_call 54; exact Calls.quiet_of_same (Zaa HW _)))
   go_wp2
   go_ret
   exact ⟨by rw [Zaa HS]; rfl, Zah (Zaa HB) _⟩
end Go.Proofs.YtffemeicclhioaaGreatDoor
namespace Go.Proofs.YtffemeicclhioaaGreatDoor
open Go.RowKit

theorem LS.ones {w : World} {v : Value} {n : Nat} {B : Nat → Value} (h : LS 1 w v n (fun k => #[B k])) : ∃ p cap, v = .slice p n cap ∧ n ≤ cap ∧ n < 9223372036854775808 ∧ (0 < n → ∃ sb so, p = some ⟨sb, so, none⟩ ∧ ∀ k, k < n → w.cell? ⟨sb, so + k, none⟩ = some (B k)) := by
 obtain ⟨p, cap, h1, h2, h3, h4⟩ := h
 refine ⟨p, cap, h1, h2, h3, fun h0 => ?_⟩
 obtain ⟨sb, so, e, -, hc⟩ := h4 h0
 refine ⟨sb, so, e, fun k hk => ?_⟩
 have := hc k hk 0 _ rfl
 rwa [Nat.mul_one, Nat.add_zero] at this
theorem row_al {w : World} {T : Nat} {cs : Array Value} {t : TypeId} {fr : Nat × Nat} (h : w.heap[T]? = some (.cells cs t fr)) (j : Nat) (X : Obj) : (w.alloc X).cell? ⟨T, j, none⟩ = cs[j]? := by
 have hlt : T < w.heap.size := by
  rcases Nat.lt_or_ge T w.heap.size with y | y
  ·
   exact y
  ·
   simp [Array.getElem?_eq_none y] at h
 exact (World.cell?_of_block (a := ⟨T, j, none⟩) ((al0 w X).2.1.block T hlt)).trans (Zab h j)
theorem Li.rs {w : World} {v : Value} {ns : List Int} (h : Li w v ns) : Rs w v ns := by
 obtain ⟨p, cap, h1, h2, h3, h4⟩ := h
 rcases Nat.eq_zero_or_pos ns.length with h0 | h0
 ·
  exact Or.inl ⟨List.eq_nil_of_length_eq_zero h0, p, cap, by rw [h1, h0]⟩
 ·
  obtain ⟨sb, so, e, hc⟩ := h4 h0
  exact Or.inr ⟨sb, so, cap, by rw [h1, e], hc⟩
set_option maxHeartbeats 1000000 in
set_option maxRecDepth 100000 in
theorem blocksFit_c (v : Value) (bs : List (List InsE)) (B : Nat → Value) (w : World) (h : LS 1 w v bs.length (fun k => #[B k])) (hB : ∀ k, k < bs.length → ∃ q c, B k = .slice q (bs.getD k []).length c ∧ (bs.getD k []).length < 9223372036854775808) : Calls Tryz.prog 59 #[v] w fun e w' => e = .returned (.bool (blocksB bs)) ∧ w' = w := by
 obtain ⟨p, cap, rfl, hcap, hlt, hc⟩ := h.ones
 have HC := Zac hc
 have HB := Zac hB
 clear hc h hB
 go_enter Tryz.func59, Tryz.ntmps59
 go_wp2_with fail
 go_loopw [7] (fun j w' => ∃ k : Nat, j = .int .i64 k ∧ k ≤ bs.length ∧ w' = w ∧ ∀ q, q < k → inB ((bs.getD q []).length) 1 24 = true) (fun j _ => bs.length - (intOf j).toNat)
 case atStart => exact ⟨0, rfl, by omega, rfl, fun q hq => by omega⟩
 case round =>
  obtain ⟨k, rfl, hk, rfl, hno⟩ := hrel
  have HN := Zac hno
  clear hno
  by_cases hk2 : k < bs.length
  ·
   obtain ⟨sb, so, rfl, hcc⟩ := Zaa HC (by omega)
   have c := hcc k hk2
   obtain ⟨q, cp, hq, hql⟩ := Zaa HB k hk2
   rw [hq] at c
   have HW := Zac (isWithin_c ((bs.getD k []).length) 1 24 wr)
   have HBAD := Zac (fun hb : inB ((bs.getD k []).length) 1 24 = false => show blocksB bs = false from upB_false hk2 hb)
   have HNX := Zac (fun hb : inB ((bs.getD k []).length) 1 24 = true => Zal (q := fun q => inB ((bs.getD q []).length) 1 24) (Zaa HN) hb)
   clear hcc HC hq HB
   generalize inB ((bs.getD k []).length) 1 24 = yes at HW HBAD HNX
   generalize (bs.getD k []).length = y at c HW hql
   go_wp2_with fail
   refine (Zaa HW).mono ?_
   rintro e w2 ⟨rfl, h2⟩
   subst w2
   cases yes with
   | false =>
    have hx := Zac (Zaa HBAD rfl)
    go_wp2
    go_ret
    exact ⟨by rw [Zaa hx]; rfl, rfl⟩
   | true =>
    have hx := Zac (Zaa HNX rfl)
    go_wp2
    go_roundw
    case rel => exact ⟨k + 1, by go_num, by omega, trivial, Zaa hx⟩
    case measure => simp [intOf]; omega
  ·
   have HT := Zac (show blocksB bs = true from upB_true (fun q hq => Zaa HN q (by omega)))
   obtain rfl : k = bs.length := by omega
   go_wp2
   go_ret
   exact ⟨by rw [Zaa HT]; rfl, rfl⟩
set_option maxHeartbeats 4000000 in
set_option maxRecDepth 100000 in
theorem paramsFit_c (f : FuncE) (pv hv sv bv : Value) (w : World) (hp : LS 2 w pv f.params.length (fun k => pairA (f.params.getD k (0, 0)))) (hh : Li w hv f.homes) (hs : Li w sv f.slots) : Calls Tryz.prog 60 #[.agg #[pv, .int .i64 f.results, hv, sv, bv]] w fun e w' => e = .returned (.bool (paramsB f)) ∧ Below w.heap.size w w' := by
 have hx := al0 w (.cells #[pv, .int .i64 f.results, hv, sv, bv] 70 (0, 0))
 have HH := Zac (hh.below hx.2.1)
 have HS := Zac (hs.below hx.2.1)
 obtain ⟨p, cap, rfl, hcap, hlt, hc⟩ := (hp.below hx.2.1).pairs
 obtain ⟨ph, ch, rfl⟩ := hh.shape
 obtain ⟨ps, cs, rfl⟩ := hs.shape
 have HC := Zac hc
 have HX := Zac hx
 clear hc hx hp hh hs
 go_enter Tryz.func60, Tryz.ntmps60
 go_wp2_with fail
 generalize World.alloc w _ = W at HH HS HC HX ⊢
 go_loopw [10] (fun j w' => ∃ k : Nat, j = .int .i64 k ∧ k ≤ f.params.length ∧ Below W.heap.size W w' ∧ ∀ q, q < k → paramB f q = true) (fun j _ => f.params.length - (intOf j).toNat)
 case atStart => exact ⟨0, rfl, by omega, Below.refl _ _, fun q hq => by omega⟩
 case round =>
  obtain ⟨k, rfl, hk, hbw, hno⟩ := hrel
  have HN := Zac hno
  clear hno
  by_cases hk2 : k < f.params.length
  ·
   obtain ⟨sb, so, rfl, hcc⟩ := Zaa HC (by omega)
   have hWs := (Zaa HX).2.2
   have hws := hbw.size
   have hsb : sb < W.heap.size := World.block_lt_of_cell? W _ (hcc k hk2).1
   have c1 := (hbw.cell (p := ⟨sb, so + k * 2, none⟩) hsb).trans (hcc k hk2).1
   have c2 := (hbw.cell (p := ⟨sb, so + k * 2 + 1, none⟩) hsb).trans (hcc k hk2).2
   have hrow := (hbw.block w.heap.size (by omega)).trans (Zaa HX).1
   have HROW := Zac hrow
   have r0 := fun X : Obj => (row_al hrow 0 X).trans rfl
   have r1 := fun X : Obj => (row_al hrow 1 X).trans rfl
   have r2 := fun X : Obj => (row_al hrow 2 X).trans rfl
   have r3 := fun X : Obj => (row_al hrow 3 X).trans rfl
   have r4 := fun X : Obj => (row_al hrow 4 X).trans rfl
   have HCC := Zac hcc
   have HBW := Zac hbw
   clear hcc hrow
   generalize hxy : f.params.getD k (0, 0) = xy at c1 c2
   have HXY := Zac hxy
   clear hxy
   obtain ⟨x, y⟩ := xy
   simp only at c1 c2
   go_wp2_with fail
   have hy := al0 wr (.cells #[.int .i64 x, .int .i64 y] 105 (0, 0))
   have hbY : Below W.heap.size W (wr.alloc (.cells #[.int .i64 x, .int .i64 y] 105 (0, 0))) := Zad hbw hy.2.1 hws
   refine (comesInto_c f _ _ _ _ _ (x, y) _ ((Zaa HH).below hbY) ((Zaa HS).below hbY)).mono ?_
   rintro e w2 ⟨rfl, hb2⟩
   have hb2s := hb2.size
   have hrx := (hb2.block wr.heap.size (by omega)).trans hy.1
   have hrf := (hb2.block w.heap.size (by omega)).trans ((hy.2.1.block w.heap.size (by omega)).trans (Zaa HROW))
   have hys := hy.2.2
   have hbZ : Below W.heap.size W w2 := Zad hbY hb2 (by omega)
   have HBZ := Zac hbZ
   have HRX := Zac hrx
   have HB2 := Zac hb2
   clear hb2 hy hbY r0 r1 r2 r3 r4 c1 c2 hbw hbZ
   have f0 := (Zab hrf 0).trans rfl
   clear hrf hrx
   cases hsp : spotB f (x, y) with
   | false =>
    have HT := Zac (show paramsB f = false from upB_false hk2 (by unfold paramB; rw [Zaa HXY, hsp]; rfl))
    clear hsp
    go_wp2
    go_ret
    exact ⟨by rw [Zaa HT]; rfl, Zad (Zaa HX).2.1 (Zaa HBZ) (by omega)⟩
   | true =>
    have HSP := Zac hsp
    clear hsp
    go_wp2_with fail
    clear f0
    generalize hg : wr.heap.size = Tx at HRX hys hws ⊢
    have hTx : Tx < w2.heap.size := by omega
    clear hg hb2s hys
    go_loopw [24] (fun j w' => ∃ m : Nat, j = .int .i64 m ∧ m ≤ k ∧ Below w2.heap.size w2 w' ∧ ∀ q, q < m → (!meetsB (x, y) (f.params.getD q (0, 0))) = true) (fun j _ => k - (intOf j).toNat)
    case atStart => exact ⟨0, rfl, by omega, Below.refl _ _, fun q hq => by omega⟩
    case round =>
     obtain ⟨m, rfl, hm, hbm, hmo⟩ := hrel
     have HM := Zac hmo
     clear hmo
     have hms := hbm.size
     by_cases hm2 : m < k
     ·
      have hq := (Zaa HCC) m (by omega)
      have hwm : Below W.heap.size W wr := Zad (Zaa HBZ) hbm (by have := (Zaa HBZ).size; omega)
      have c1 := (hwm.cell (p := ⟨sb, so + m * 2, none⟩) hsb).trans hq.1
      have c2 := (hwm.cell (p := ⟨sb, so + m * 2 + 1, none⟩) hsb).trans hq.2
      have hrow := (hbm.block Tx hTx).trans (Zaa HRX)
      have r0 := fun X : Obj => (row_al hrow 0 X).trans rfl
      have r1 := fun X : Obj => (row_al hrow 1 X).trans rfl
      have HBM := Zac hbm
      clear hrow hq hwm hbm
      generalize hxy : f.params.getD m (0, 0) = xy at c1 c2
      have HXZ := Zac hxy
      clear hxy
      obtain ⟨x2, y2⟩ := xy
      simp only at c1 c2
      have hme : meetsB (x, y) (x2, y2) = (decide (y = y2) && (decide (x = 0) == decide (x2 = 0))) := rfl
      have HBAD := Zac (fun hb : (decide (y = y2) && (decide (x = 0) == decide (x2 = 0))) = true => show paramsB f = false from upB_false hk2 (by unfold paramB; rw [Zaa HXY]; simp only [Bool.and_eq_false_iff]; exact Or.inr (upB_false hm2 (by rw [Zaa HXZ, hme, hb]; rfl))))
      have HNX := Zac (fun hb : (decide (y = y2) && (decide (x = 0) == decide (x2 = 0))) = false => Zal (q := fun q => !meetsB (x, y) (f.params.getD q (0, 0))) (Zaa HM) (by show (!meetsB (x, y) (f.params.getD m (0, 0))) = true; rw [Zaa HXZ, hme, hb]; rfl))
      have HBA := Zac (Zad (Zaa HBM) (al0 wr (.cells #[.int .i64 x2, .int .i64 y2] 105 (0, 0))).2.1 hms)
      clear hme
      by_cases e1 : y = y2
      ·
       subst e1
       by_cases e2 : x = 0
       ·
        by_cases e3 : x2 = 0
        ·
         subst e2 e3
         have hx := Zac (Zaa HBAD (by simp))
         go_wp2
         go_ret
         exact ⟨by rw [Zaa hx]; rfl, Zad (Zaa HX).2.1 (Zad (Zaa HBZ) (Zaa HBA) (by have := (Zaa HBZ).size; omega)) (by omega)⟩
        ·
         subst e2
         have z3 : (x2 == 0) = false := by simpa using e3
         have hx := Zac (Zaa HNX (by simp [e3]))
         go_wp2
         go_roundw
         case rel => exact ⟨m + 1, by go_num, by omega, Zaa HBA, Zaa hx⟩
         case measure => simp [intOf]; omega
       ·
        have z2 : (x == 0) = false := by simpa using e2
        by_cases e3 : x2 = 0
        ·
         subst e3
         have hx := Zac (Zaa HNX (by simp [e2]))
         go_wp2
         go_roundw
         case rel => exact ⟨m + 1, by go_num, by omega, Zaa HBA, Zaa hx⟩
         case measure => simp [intOf]; omega
        ·
         have z3 : (x2 == 0) = false := by simpa using e3
         have hx := Zac (Zaa HBAD (by simp [e2, e3]))
         go_wp2
         go_ret
         exact ⟨by rw [Zaa hx]; rfl, Zad (Zaa HX).2.1 (Zad (Zaa HBZ) (Zaa HBA) (by have := (Zaa HBZ).size; omega)) (by omega)⟩
      ·
       have z1 : (y == y2) = false := by simpa using e1
       have hx := Zac (Zaa HNX (by simp [e1]))
       go_wp2
       go_roundw
       case rel => exact ⟨m + 1, by go_num, by omega, Zaa HBA, Zaa hx⟩
       case measure => simp [intOf]; omega
     ·
      obtain rfl : m = k := by omega
      have hx := Zac (Zal (q := paramB f) (Zaa HN) (by unfold paramB; rw [Zaa HXY, Zaa HSP, upB_true (Zaa HM)]; rfl))
      have HBM := Zac (Zad (Zaa HBZ) hbm (by have := (Zaa HBZ).size; omega))
      clear hbm
      go_wp2
      go_roundw
      case rel => exact ⟨m + 1, by go_num, by omega, Zaa HBM, Zaa hx⟩
      case measure => simp [intOf]; omega
  ·
   have HT := Zac (show paramsB f = true from upB_true (fun q hq => Zaa HN q (by omega)))
   obtain rfl : k = f.params.length := by omega
   have HBW := Zac hbw
   have hWs := (Zaa HX).2.2
   clear hbw
   go_wp2
   go_ret
   exact ⟨by rw [Zaa HT]; rfl, Zad (Zaa HX).2.1 (Zaa HBW) (by omega)⟩
end Go.Proofs.YtffemeicclhioaaGreatDoor
namespace Go.Proofs.YtffemeicclhioaaGreatDoor
open Go.RowKit

set_option maxHeartbeats 4000000 in
set_option maxRecDepth 100000 in
theorem homesFit_c (r sp lk t0 t1 : Int) (va vr vs : Value) (al sh by_ : Int) (pr : Bool) (v : Value) (hs : List Int) (w : World) (hr : 4 ≤ r ∧ r ≤ 16) (h : Li w v hs) (hn : hs.length ≤ 1000000) : Calls Tryz.prog 57 #[.agg (boxOf r sp lk t0 t1 va vr vs al sh by_ pr), v] w fun e w' => e = .returned (.bool (homesB r (ownL sp lk t0 t1) hs)) ∧ Below w.heap.size w w' := by
 have hx := al0 w (.cells (boxOf r sp lk t0 t1 va vr vs al sh by_ pr) 25 (0, 0))
 have HL := Zac (h.below hx.2.1)
 obtain ⟨p, cap, rfl, hcap, hlt, -⟩ := h
 have HX := Zac hx
 have HRES := Zac (fun V => reserved_c r sp lk t0 t1 va vr vs al sh by_ pr V)
 have hr1 := hr.1
 have hr2 := hr.2
 clear hx hr
 unfold boxOf at HX HL HRES ⊢
 go_enter Tryz.func57, Tryz.ntmps57
 go_wp2_with fail
 generalize World.alloc w _ = W at HL HX ⊢
 refine (Zaa HRES W).mono ?_
 rintro e w2 ⟨vo, rfl, hro, hco, hb2⟩
 obtain ⟨po, co, rfl⟩ := hro.shape
 have HRO := Zac hro
 have HB2 := Zac hb2
 have HW2 := Zac (Zad (Zaa HX).2.1 hb2 (by have := (Zaa HX).2.2; omega))
 have HL2 := Zac ((Zaa HL).below hb2)
 have hrow := (hb2.block w.heap.size (by have := (Zaa HX).2.2; omega)).trans (Zaa HX).1
 have r0 := (Zab hrow 0).trans rfl
 have hol : (ownL sp lk t0 t1).length ≤ 1000000 := by unfold ownL; split <;> simp
 clear hro hco hb2 hrow
 generalize hO : ownL sp lk t0 t1 = own at HRO hol
 have HOW := Zac hO
 clear hO
 go_wp2_with fail
 go_loopw [12] (fun j w' => ∃ k : Nat, j = .int .i64 k ∧ k ≤ hs.length ∧ w' = w2 ∧ ∀ q, q < k → homeB r own hs q = true) (fun j _ => hs.length - (intOf j).toNat)
 case atStart => exact ⟨0, rfl, by omega, rfl, fun q hq => by omega⟩
 case round =>
  obtain ⟨k, rfl, hk, rfl, hno⟩ := hrel
  have HN := Zac hno
  clear hno
  by_cases hk2 : k < hs.length
  ·
   have HCT := Zac (fun x => contains_c (hs.take k) x (.slice p k cap) wr ((Zaa HL2).take k (by omega)).rs (by simp; omega))
   have HCO := Zac (fun x => contains_c own x (.slice po own.length co) wr (Zaa HRO) hol)
   obtain ⟨p', cap', he, -, -, hcc⟩ := Zaa HL2
   injection he with e1 e2 e3
   subst e1 e3
   obtain ⟨sb, so, rfl, hc⟩ := hcc (by omega)
   have c := hc k hk2
   have hho : homeB r own hs k = (decide (hs.getD k 0 = -1) || (inB (hs.getD k 0) 0 (r - 1) && (!decide (hs.getD k 0 ∈ own) && !decide (hs.getD k 0 ∈ hs.take k)))) := rfl
   have HHO := Zac hho
   have HBAD := Zac (fun hb : homeB r own hs k = false => show homesB r own hs = false from upB_false hk2 hb)
   have HNX := Zac (fun hb : homeB r own hs k = true => Zal (Zaa HN) hb)
   clear hho hc hcc e2
   generalize homeB r own hs k = yes at HHO HBAD HNX
   generalize hs.getD k 0 = y at c HHO
   by_cases hm : y = -1
   ·
    subst hm
    have hx := Zac (Zaa HNX (by rw [Zaa HHO]; rfl))
    go_wp2
    go_roundw
    case rel => exact ⟨k + 1, by go_num, by omega, trivial, Zaa hx⟩
    case measure => simp [intOf]; omega
   ·
    have z : (y == -1) = false := by simpa using hm
    have HH2 := Zac (show yes = (inB y 0 (r - 1) && (!decide (y ∈ own) && !decide (y ∈ hs.take k))) by rw [Zaa HHO]; simp [hm])
    clear HHO hm
    go_wp2_with fail
    refine (isWithin_c y 0 (r - 1) _).mono ?_
    rintro e w3 ⟨rfl, h3⟩
    subst w3
    cases hi : inB y 0 (r - 1) with
    | false =>
     have hx := Zac (Zaa HBAD (by rw [Zaa HH2, hi]; rfl))
     clear hi
     go_wp2
     go_ret
     exact ⟨by rw [Zaa HOW, Zaa hx]; rfl, Zaa HW2⟩
    | true =>
     have HI := Zac hi
     clear hi
     go_wp2_with fail
     refine (Zaa HCO y).mono ?_
     rintro e w3 ⟨rfl, h3⟩
     subst w3
     cases hi : decide (y ∈ own) with
     | true =>
      have hx := Zac (Zaa HBAD (by rw [Zaa HH2, hi]; simp))
      clear hi
      go_wp2
      go_ret
      exact ⟨by rw [Zaa HOW, Zaa hx]; rfl, Zaa HW2⟩
     | false =>
      have HI2 := Zac hi
      clear hi
      go_wp2_with fail
      refine (Zaa HCT y).mono ?_
      rintro e w3 ⟨rfl, h3⟩
      subst w3
      cases hi : decide (y ∈ hs.take k) with
      | true =>
       have hx := Zac (Zaa HBAD (by rw [Zaa HH2, hi]; simp))
       clear hi
       go_wp2
       go_ret
       exact ⟨by rw [Zaa HOW, Zaa hx]; rfl, Zaa HW2⟩
      | false =>
       have hx := Zac (Zaa HNX (by rw [Zaa HH2, hi, Zaa HI2, Zaa HI]; rfl))
       clear hi
       go_wp2
       go_roundw
       case rel => exact ⟨k + 1, by go_num, by omega, trivial, Zaa hx⟩
       case measure => simp [intOf]; omega
  ·
   have HT := Zac (show homesB r own hs = true from upB_true (fun q hq => Zaa HN q (by omega)))
   obtain rfl : k = hs.length := by omega
   go_wp2
   go_ret
   exact ⟨by rw [Zaa HOW, Zaa HT]; rfl, Zaa HW2⟩
end Go.Proofs.YtffemeicclhioaaGreatDoor
namespace Go.Proofs.YtffemeicclhioaaGreatDoor
open Go.RowKit

def iC (ns : List Int) : List Value := ns.map fun n => .int .i64 n
def wTk (xs : List (Int × Int)) (k : Nat) : List Value := iC ((xs.take k).map (·.1))
theorem words_take (xs : List (Int × Int)) (k : Nat) (hk : k < xs.length) : wTk xs (k + 1) = wTk xs k ++ [.int .i64 (xs.getD k (0, 0)).1] := by
 unfold wTk
 rw [List.take_succ_eq_append_getElem hk, List.map_append]
 simp [iC, List.getD, hk]
theorem resultsK {P : Program} {fn : Func} {q : Tmp} {uy : TypeId} (h : fn.results = #[.cell q uy]) (tmps : Array Value) (w : World) (g' : Nat) (t' : TypeId) (cs' : Array Value) (fr' : Nat × Nat) (d' : TypeDesc)
 (hp' : tmps.getD q undef = .pointer (some ⟨g', 0, none⟩)) (hg' : w.heap[g']? = some (.cells cs' t' fr')) (hu' : P.underlying uy = some d') (hd' : (match d' with | .struct _ | .array _ _ => true | _ => false) = true) (hi' : (P.info? uy).map (·.size) = some cs'.size) :
 (results fn tmps).run P w = .ok (.agg cs') w := by
 have e2 : tmps[q]?.getD undef = .pointer (some ⟨g', 0, none⟩) := by simpa using hp'
 simp [results, h, e2, asAddr, run_loadVar_row w g' t' uy cs' fr' d' hg' hu' hd' hi']
theorem Tryz.infoInt : (Tryz.prog.info? 3).map (fun i => (i.zero, i.size, i.bytes)) = some (some (.int .i64 0), 1, 8) := by kernel_rfl
theorem Tryz.infSigK : (Tryz.prog.info? 79).map (·.size) = some 2 := by kernel_rfl
theorem info_K {P : Program} {t : TypeId} {z : Value} {n b : Nat} (h : (P.info? t).map (fun i => (i.zero, i.size, i.bytes)) = some (some z, n, b)) : ∃ i, P.info? t = some i ∧ i.zero = some z ∧ i.size = n ∧ i.bytes = b := by
 cases hi : P.info? t with
 | none => simp [hi] at h
 | some i => simp [hi] at h; exact ⟨i, rfl, h.1, h.2.1, h.2.2⟩
theorem Li.of_own {w : World} {base : Nat} {v : Value} {ns : List Int} (h : w.ownsRow base 3 1 v ns.length (iC ns)) (hn : ns.length < 9223372036854775808) : Li w v ns := by
 rcases h.2 with ⟨e, e0⟩ | ⟨g, cap, cur, e, -, -, hc, -⟩
 ·
  exact ⟨none, 0, by rw [e, e0], by omega, hn, fun h0 => by omega⟩
 ·
  refine ⟨_, cap, e, hc, hn, fun h0 => ⟨g, 0, rfl, fun i hi => ?_⟩⟩
  subst e
  have := h.cellAt i (by omega)
  simp only [Nat.zero_add] at this ⊢
  rw [this]
  simp [iC, hi]
theorem own_keepK {w w' : World} {base n size : Nat} {e : TypeId} {v : Value} {xs : List Value} (h : w.ownsRow base e size v n xs) (hk : ∀ g, base ≤ g → w'.heap[g]? = w.heap[g]?) : w'.ownsRow base e size v n xs := by
 obtain ⟨h1, h2 | ⟨g, cap, cur, e1, e2, e3, e4⟩⟩ := h
 ·
  exact ⟨h1, Or.inl h2⟩
 ·
  exact ⟨h1, Or.inr ⟨g, cap, cur, e1, e2, (hk g e2).trans e3, e4⟩⟩
theorem Zag {a w : World} {n T : Nat} {cs : Array Value} (h : Below n a w) (hT : n ≤ T) : Below n a (w.setRow T cs) := ⟨h.os, h.tape, h.output, by have := h.size; simpa [World.setRow] using this, fun k hk => (setRow_other w T k cs (by omega)).trans (h.block k hk)⟩
theorem own_formK {w : World} {base n : Nat} {v : Value} {xs : List Value} (h : w.ownsRow base 3 1 v (n + 1) xs) : ∃ g cap, v = .slice (some ⟨g, 0, none⟩) (n + 1) cap := by
 rcases h.2 with ⟨_, e0⟩ | ⟨g, cap, cur, e, -⟩
 ·
  omega
 ·
  exact ⟨g, cap, e⟩
set_option maxHeartbeats 4000000 in
set_option maxRecDepth 100000 in
theorem sigR2_c (f : FuncE) (pv b c d : Value) (w : World) (hp : LS 2 w pv f.params.length (fun k => pairA (f.params.getD k (0, 0)))) (hn : f.params.length ≤ 8796093022208) :
 Calls Tryz.prog 25 #[.agg #[pv, .int .i64 f.results, b, c, d]] w fun e w' => ∃ v, e = .returned (.agg #[v, .int .i64 f.results]) ∧ Li w' v (sigE f).1 ∧ Below w.heap.size w w' ∧ (∀ sb so n c, v = .slice (some ⟨sb, so, none⟩) n c → w.heap.size ≤ sb) := by
 obtain ⟨ti, hti, hz0, hz1, hz2⟩ := info_K Tryz.infoInt
 have hx := al0 w (.cells #[pv, .int .i64 f.results, b, c, d] 70 (0, 0))
 have hp1 := hp.below hx.2.1
 have hx2 := al0 (w.alloc (.cells #[pv, .int .i64 f.results, b, c, d] 70 (0, 0))) (.cells #[.slice none 0 0, .int .i64 0] 79 (0, 0))
 have hp2 := hp1.below hx2.2.1
 have hW1 := Zad hx.2.1 hx2.2.1 (by omega)
 have hs1 := hx.2.2
 have hs2 := hx2.2.2
 have hrf := (hx2.2.1.block w.heap.size (by omega)).trans hx.1
 have hrr := hx2.1
 rw [hs1] at hs2 hrr
 have HS2 := Zac hs2
 obtain ⟨p, cap, rfl, hcap, hlt, hc⟩ := hp2.pairs
 have HC := Zac hc
 have HW1 := Zac hW1
 have HRF := Zac hrf
 have HRR := Zac hrr
 clear hc hx hp hp1 hx2 hp2 hW1 hrf hrr hs2 hs1
 go_enter Tryz.func25, Tryz.ntmps25
 go_wp2_with fail
 generalize World.alloc (World.alloc w _) _ = W at HC HW1 HRF HRR HS2 ⊢
 go_loopw [3, 9] (fun v j w' => ∃ k : Nat, j = .int .i64 k ∧ k ≤ f.params.length ∧ w'.ownsRow W.heap.size 3 1 v k (wTk f.params k) ∧ Below W.heap.size W w') (fun _ j _ => f.params.length - (intOf j).toNat)
 case atStart => exact ⟨0, rfl, by omega, World.ownsRow_nil _ _ _ _, Below.refl _ _⟩
 case round =>
  obtain ⟨k, rfl, hk, how, hbw⟩ := hrel
  have hws := hbw.size
  by_cases hk2 : k < f.params.length
  ·
   obtain ⟨sb, so, rfl, hcc⟩ := Zaa HC (by omega)
   have hsb : sb < W.heap.size := World.block_lt_of_cell? W _ (hcc k hk2).1
   have c1 := (hbw.cell (p := ⟨sb, so + k * 2, none⟩) hsb).trans (hcc k hk2).1
   have c2 := (hbw.cell (p := ⟨sb, so + k * 2 + 1, none⟩) hsb).trans (hcc k hk2).2
   have HTK := Zac (words_take f.params k hk2)
   have HOW := Zac how
   have HBW := Zac hbw
   clear hcc how hbw
   generalize f.params.getD k (0, 0) = xy at c1 c2 HTK
   obtain ⟨x, y⟩ := xy
   simp only at c1 c2
   go_wp2_with (at_builtin; refine wpList_append_own _ rfl _ _ 23 rfl W.heap.size 3 ti _ 1 8 Tryz.underlying23 hti hz0 hz1 hz2 rfl (by decide) _ _ _ rfl (((Zaa HOW).alloc _).alloc _) ⟨wr.heap.size + 1, 0, none⟩ 1 1 [.int .i64 x] rfl rfl (by intro j u hj; match j, hj with | 0, hj => (simp at hj; subst hj; exact (World.cell?_alloc_at _ _ _ _ (by simp)).trans rfl)) (by intro u hu; simp at hu; subst hu; rfl) ?c3 ?c4 ?c5 ?_)
   case c3 => unfold maxLen; omega
   case c4 => omega
   case c5 => first | omega | (simp; omega)
   intro v' w7 hown hgr _
   have HNW := Zac (show w7.ownsRow W.heap.size 3 1 v' (k + 1) (wTk f.params (k + 1)) by rw [Zaa HTK]; exact hown)
   have HB7 := Zac (show Below W.heap.size W w7 from (((Zaa HBW).alloc (by omega) _).alloc (by simp; omega) _).trans ⟨hgr.os, hgr.tape, hgr.output, hgr.size, fun q hq => hgr.block q (by simp; omega) (fun e => by have := ((Zaa HOW).lt q e.symm).1; omega)⟩)
   obtain ⟨g2, cap2, rfl⟩ := own_formK hown
   clear hown hgr
   go_wp2
   go_roundw
   case rel => exact ⟨k + 1, by go_num, by omega, Zaa HNW, Zaa HB7⟩
   case measure => simp [intOf]; omega
  ·
   obtain rfl : k = f.params.length := by omega
   unfold wTk at how
   rw [List.take_length] at how
   have hs2 := Zaa HS2
   have hll : ((sigE f).1).length = f.params.length := by simp [sigE]
   have hLi := Li.of_own (v := u3) (ns := (sigE f).1) (by rw [hll]; exact how) (by omega)
   obtain ⟨pz, cz, hz⟩ := hLi.shape
   rw [hll] at hz
   clear hll
   subst hz
   have hrow := (hbw.block w.heap.size (by omega)).trans (Zaa HRF)
   have r1 := (Zab hrow 1).trans rfl
   have HRR2 := Zac ((hbw.block (w.heap.size + 1) (by omega)).trans (Zaa HRR))
   have HLI := Zac how
   have HBW := Zac hbw
   clear hrow how hbw hLi hs2
   go_wp2_with (refine wpList_store_row rfl 79 (.tmp 2) (.tmp 22) rfl (w.heap.size + 1) #[.slice pz f.params.length cz, .int .i64 f.results] rfl rfl 79 _ (Zaa HRR2) (Tryz.infSigK.trans rfl) rfl (by simp [Value.oneCell']) ?_)
   refine bodyPost_ret (resultsK (fn := Tryz.f25) (q := 2) (uy := 79) rfl _ _ (w.heap.size + 1) 79 #[.slice pz f.params.length cz, .int .i64 f.results] (0, 0) _ rfl (setRow_heap _ _ _ _ _ _ (Zaa HRR2)) Tryz.underlying79 rfl (Tryz.infSigK.trans rfl)) rfl ?_
   have hs2 := Zaa HS2
   have hs3 := (Zaa HBW).size
   refine ⟨_, rfl, Li.of_own (base := W.heap.size) (by rw [show ((sigE f).1).length = f.params.length by simp [sigE]]; exact own_keepK (Zaa HLI) (fun g hg => setRow_other _ _ _ _ (by omega))) (by simp [sigE]; omega), Zag (Zad (Zaa HW1) (Zaa HBW) (by omega)) (by omega), fun sb so n c e => by have h := ((Zaa HLI).lt sb (by rw [e]; rfl)).1; omega⟩
theorem sigR_c (f : FuncE) (pv b c d : Value) (w : World) (hp : LS 2 w pv f.params.length (fun k => pairA (f.params.getD k (0, 0)))) (hn : f.params.length ≤ 8796093022208) :
 Calls Tryz.prog 25 #[.agg #[pv, .int .i64 f.results, b, c, d]] w fun e w' => ∃ v, e = .returned (.agg #[v, .int .i64 f.results]) ∧ Li w' v (sigE f).1 ∧ Below w.heap.size w w' := by
 refine (sigR2_c f pv b c d w hp hn).mono ?_
 rintro e w' ⟨v, h1, h2, h3, -⟩
 exact ⟨v, h1, h2, h3⟩
set_option maxHeartbeats 4000000 in
set_option maxRecDepth 100000 in
theorem sigP_c (f : FuncE) (pv b c d : Value) (w : World) (hp : LS 2 w pv f.params.length (fun k => pairA (f.params.getD k (0, 0)))) (hn : f.params.length ≤ 8796093022208) :
 Calls Tryz.prog 56 #[.agg #[pv, .int .i64 f.results, b, c, d]] w fun e w' => ∃ v, e = .returned (.agg #[v, .int .i64 f.results]) ∧ Li w' v (sigE f).1 ∧ Below w.heap.size w w' := by
 obtain ⟨ti, hti, hz0, hz1, hz2⟩ := info_K Tryz.infoInt
 have hx := al0 w (.cells #[pv, .int .i64 f.results, b, c, d] 70 (0, 0))
 have hp1 := hp.below hx.2.1
 have hx2 := al0 (w.alloc (.cells #[pv, .int .i64 f.results, b, c, d] 70 (0, 0))) (.cells #[.slice none 0 0, .int .i64 0] 79 (0, 0))
 have hp2 := hp1.below hx2.2.1
 have hx3 := al0 ((w.alloc (.cells #[pv, .int .i64 f.results, b, c, d] 70 (0, 0))).alloc (.cells #[.slice none 0 0, .int .i64 0] 79 (0, 0))) (.cells #[.slice none 0 0, .int .i64 f.results] 79 (0, 0))
 have hp3 := hp2.below hx3.2.1
 have hs1 := hx.2.2
 have hs2 := hx2.2.2
 have hs3 := hx3.2.2
 have hW1 := Zad (Zad hx.2.1 hx2.2.1 (by omega)) hx3.2.1 (by omega)
 have hrr := (hx3.2.1.block (w.heap.size + 1) (by omega)).trans (hs1 ▸ hx2.1)
 have hrs := hx3.1
 rw [hs2, hs1] at hrs hs3
 obtain ⟨p, cap, rfl, hcap, hlt, hc⟩ := hp3.pairs
 have hpb := hp
 have HC := Zac hc
 have HW1 := Zac hW1
 have HRS := Zac hrs
 have HRR := Zac hrr
 have HS3 := Zac hs3
 have HPB := Zac hp.pairs
 clear hc hx hp hp1 hx2 hp2 hW1 hrs hrr hx3 hp3 hs1 hs2 hs3 hpb
 go_enter Tryz.func56, Tryz.ntmps56
 go_wp2_with fail
 generalize World.alloc (World.alloc (World.alloc w _) _) _ = W at HC HW1 HRS HRR HS3 ⊢
 go_loopw [12] (fun j w' => ∃ (k : Nat) (v : Value), j = .int .i64 k ∧ k ≤ f.params.length ∧ w'.heap[w.heap.size + 1 + 1]? = some (.cells #[v, .int .i64 f.results] 79 (0, 0)) ∧ w'.ownsRow W.heap.size 3 1 v k (wTk f.params k) ∧ Below (w.heap.size + 2) W w') (fun j _ => f.params.length - (intOf j).toNat)
 case atStart => exact ⟨0, _, rfl, by omega, Zaa HRS, World.ownsRow_nil _ _ _ _, Below.refl _ _⟩
 case round =>
  obtain ⟨k, v, rfl, hk, hrow, how, hbw⟩ := hrel
  have hws := hbw.size
  have cv := (Zab hrow 0).trans rfl
  have r0 := fun X : Obj => (row_al hrow 0 X).trans rfl
  have fz := fun j => frozen_of_row _ _ j _ _ hrow
  obtain ⟨vp, vn, vc, hvs⟩ : ∃ vp vn vc, v = .slice vp vn vc := by
   rcases how.2 with ⟨e, _⟩ | ⟨g, cap, cur, e, _⟩
   ·
    exact ⟨_, _, _, e⟩
   ·
    exact ⟨_, _, _, e⟩
  subst hvs
  by_cases hk2 : k < f.params.length
  ·
   obtain ⟨p', cap', he, -, -, hcc0⟩ := Zaa HPB
   injection he with e1 e2 e3
   subst e1 e3
   obtain ⟨sb, so, rfl, hcc⟩ := hcc0 (by omega)
   have hsb : sb < w.heap.size := World.block_lt_of_cell? w _ (hcc k hk2).1
   have hbb : Below w.heap.size w wr := (Zaa HW1).trans (hbw.mono (Nat.le_add_right _ _))
   have c1 := (hbb.cell (p := ⟨sb, so + k * 2, none⟩) hsb).trans (hcc k hk2).1
   have c2 := (hbb.cell (p := ⟨sb, so + k * 2 + 1, none⟩) hsb).trans (hcc k hk2).2
   have hT := Zaa HS3
   have hTl : w.heap.size + 1 + 1 < wr.heap.size := by omega
   have HTL := Zac hTl
   have HTK := Zac (words_take f.params k hk2)
   have HOW := Zac how
   have HBW := Zac hbw
   have HROW := Zac hrow
   clear hcc hcc0 how hbw hbb hrow hT hTl e2 fz cv HC
   generalize f.params.getD k (0, 0) = xy at c1 c2 HTK
   obtain ⟨x, y⟩ := xy
   simp only at c1 c2
   go_wp2_with (at_builtin; refine wpList_append_own _ rfl _ _ 23 rfl W.heap.size 3 ti _ 1 8 Tryz.underlying23 hti hz0 hz1 hz2 rfl (by decide) _ _ _ rfl (((Zaa HOW).alloc _).alloc _) ⟨wr.heap.size + 1, 0, none⟩ 1 1 [.int .i64 x] rfl rfl (by intro j u hj; match j, hj with | 0, hj => (simp at hj; subst hj; exact (World.cell?_alloc_at _ _ _ _ (by simp)).trans rfl)) (by intro u hu; simp at hu; subst hu; rfl) ?c3 ?c4 ?c5 ?_)
   case c3 => unfold maxLen; omega
   case c4 => omega
   case c5 => first | omega | (simp; omega)
   intro v' w7 hown hgr _
   obtain ⟨g2, cap2, rfl⟩ := own_formK hown
   have hTl := Zaa HTL
   have hT := Zaa HS3
   have hne : ∀ q, q < W.heap.size → some q ≠ (Value.slice vp vn vc).ownBlock := fun q hq e => by have := ((Zaa HOW).lt q e.symm).1; omega
   have hrow7 := (hgr.block (w.heap.size + 1 + 1) (by simp; omega) (hne _ (by omega))).trans ((((Below.refl wr.heap.size wr).alloc (Nat.le_refl _) _).alloc (by simp) _).block (w.heap.size + 1 + 1) hTl |>.trans (Zaa HROW))
   have c7 := (Zab hrow7 0).trans rfl
   have f7 := frozen_of_row _ _ 0 _ _ hrow7
   have HNR := Zac (heap_setCell_same w7 (w.heap.size + 1 + 1) 0 _ _ (.slice (some ⟨g2, 0, none⟩) (k + 1) cap2) hrow7)
   have HNW := Zac (show w7.ownsRow W.heap.size 3 1 (.slice (some ⟨g2, 0, none⟩) (k + 1) cap2) (k + 1) (wTk f.params (k + 1)) by rw [Zaa HTK]; exact hown)
   have HN2 := Zac (own_keepK (w' := w7.setCell ⟨w.heap.size + 1 + 1, 0, none⟩ (.slice (some ⟨g2, 0, none⟩) (k + 1) cap2)) (Zaa HNW) (fun g hg => heap_setCell_other _ _ _ _ (by show g ≠ w.heap.size + 1 + 1; omega)))
   have HB7 := Zac (show Below (w.heap.size + 2) W (w7.setCell ⟨w.heap.size + 1 + 1, 0, none⟩ (.slice (some ⟨g2, 0, none⟩) (k + 1) cap2)) from
    have hb7 : Below (w.heap.size + 2) W w7 := (((Zaa HBW).alloc (by omega) _).alloc (by simp; omega) _).trans ⟨hgr.os, hgr.tape, hgr.output, hgr.size, fun q hq => hgr.block q (by simp; omega) (hne q (by omega))⟩
    ⟨hb7.os, hb7.tape, hb7.output, by simpa using hb7.size, fun q hq => (heap_setCell_other _ _ _ _ (by show q ≠ w.heap.size + 1 + 1; omega)).trans (hb7.block q hq)⟩)
   clear hown hgr hne hTl hT hrow7 r0 c1 c2
   go_wp2
   go_roundw
   case rel => exact ⟨k + 1, _, by go_num, by omega, Zaa HNR, Zaa HN2, Zaa HB7⟩
   case measure => simp [intOf]; omega
  ·
   obtain rfl : k = f.params.length := by omega
   have hvn : vn = f.params.length := by
    rcases how.2 with ⟨e, e0⟩ | ⟨g, cap, cur, e, _⟩
    ·
     injection e with _ e2 _; omega
    ·
     injection e with _ e2 _
   subst vn
   unfold wTk at how
   rw [List.take_length] at how
   have hT := Zaa HS3
   have HRR2 := Zac ((hbw.block (w.heap.size + 1) (by omega)).trans (Zaa HRR))
   have HRS2 := Zac hrow
   have HOW := Zac how
   have HBW := Zac hbw
   clear hrow how hbw hT r0 fz cv
   go_wp2_with (first | (refine wpList_load_row rfl 79 (.tmp 3) rfl (w.heap.size + 1 + 1) rfl 79 #[.slice vp f.params.length vc, .int .i64 f.results] (0, 0) _ (Zaa HRS2) Tryz.underlying79 rfl (Tryz.infSigK.trans rfl) ?_) | (refine wpList_store_row rfl 79 (.tmp 2) (.tmp 24) rfl (w.heap.size + 1) #[.slice vp f.params.length vc, .int .i64 f.results] rfl rfl 79 _ (Zaa HRR2) (Tryz.infSigK.trans rfl) rfl (by simp [Value.oneCell']) ?_))
   refine bodyPost_ret (resultsK (fn := Tryz.f56) (q := 2) (uy := 79) rfl _ _ (w.heap.size + 1) 79 #[.slice vp f.params.length vc, .int .i64 f.results] (0, 0) _ rfl (setRow_heap _ _ _ _ _ _ (Zaa HRR2)) Tryz.underlying79 rfl (Tryz.infSigK.trans rfl)) rfl ?_
   have hT := Zaa HS3
   refine ⟨_, rfl, Li.of_own (base := W.heap.size) (by rw [show ((sigE f).1).length = f.params.length by simp [sigE]]; exact own_keepK (Zaa HOW) (fun g hg => setRow_other _ _ _ _ (by omega))) (by simp [sigE]; omega), Zag ((Zaa HW1).trans ((Zaa HBW).mono (by omega))) (by omega)⟩
end Go.Proofs.YtffemeicclhioaaGreatDoor
namespace Go.Proofs.YtffemeicclhioaaGreatDoor
open Go.RowKit

theorem BlkC.shape {w : World} {v : Value} {l : List InsE} (h : BlkC w v l) : ∃ q c, v = .slice q l.length c ∧ l.length < 9223372036854775808 := by
 obtain ⟨A, ⟨p, cap, h1, h2, h3, h4⟩, -⟩ := h
 exact ⟨p, cap, h1, h3⟩
theorem FuncD.blk {w : World} {f : FuncE} {pv hv sv bv : Value} {B : Nat → Value} (h : FuncD w f pv hv sv bv B) : ∀ k, k < f.blocks.length → ∃ q c, B k = .slice q (f.blocks.getD k []).length c ∧ (f.blocks.getD k []).length < 9223372036854775808 := fun k hk => by
 have := (h.each k hk).shape
 rwa [show f.blocks[k] = f.blocks.getD k [] by simp [List.getD, hk]] at this
set_option maxHeartbeats 4000000 in
set_option maxRecDepth 100000 in
theorem headFits_c (r sp lk t0 t1 : Int) (va vr vs : Value) (al sh by_ : Int) (pr : Bool) (f : FuncE) (pv hv sv bv : Value) (B : Nat → Value) (w : World) (hr : 4 ≤ r ∧ r ≤ 16) (hF : FuncD w f pv hv sv bv B) :
 Calls Tryz.prog 41 #[.agg (boxOf r sp lk t0 t1 va vr vs al sh by_ pr), .agg #[pv, .int .i64 f.results, hv, sv, bv]] w fun e w' => e = .returned (.bool (headB r (ownL sp lk t0 t1) f)) ∧ Below w.heap.size w w' := by
 have hx := al0 w (.cells (boxOf r sp lk t0 t1 va vr vs al sh by_ pr) 25 (0, 0))
 have hx2 := al0 (w.alloc (.cells (boxOf r sp lk t0 t1 va vr vs al sh by_ pr) 25 (0, 0))) (.cells #[pv, .int .i64 f.results, hv, sv, bv] 70 (0, 0))
 have HFD := Zac ((hF.below hx.2.1).below hx2.2.1)
 have hs1 := hx.2.2
 have hs2 := hx2.2.2
 have HW1 := Zac (Zad hx.2.1 hx2.2.1 (by omega))
 have hrb := (hx2.2.1.block w.heap.size (by omega)).trans hx.1
 have hrf := hx2.1
 rw [hs1] at hrf hs2
 obtain ⟨pp, cp, rfl⟩ := hF.ps.shape
 obtain ⟨ph, ch, rfl⟩ := hF.hs.shape
 obtain ⟨ps, cs, rfl⟩ := hF.ss.shape
 obtain ⟨pb, cb, rfl⟩ := hF.bs.shape
 have hl1 : f.params.length < 9223372036854775808 := by obtain ⟨_, _, _, _, h, _⟩ := hF.ps; exact h
 have hl2 : f.homes.length < 9223372036854775808 := hF.hs.lt
 have hl3 : f.slots.length < 9223372036854775808 := hF.ss.lt
 have hl4 : f.blocks.length < 9223372036854775808 := by obtain ⟨_, _, _, _, h, _⟩ := hF.bs; exact h
 have HRB := Zac hrb
 have HRF := Zac hrf
 have HS2 := Zac hs2
 have HR := Zac hr
 have HX0 := Zac (fun h : ¬ f.params.length ≤ 8 => show headB r (ownL sp lk t0 t1) f = false by unfold headB; simp [h])
 have HX1 := Zac (fun h : sigB (sigE f) = false => show headB r (ownL sp lk t0 t1) f = false by unfold headB; simp [h])
 have HX2 := Zac (fun h : ¬ f.homes.length ≤ 12 => show headB r (ownL sp lk t0 t1) f = false by unfold headB; simp [h])
 have HX3 := Zac (fun h : homesB r (ownL sp lk t0 t1) f.homes = false => show headB r (ownL sp lk t0 t1) f = false by unfold headB; simp [h])
 have HX4 := Zac (fun h : ¬ f.slots.length ≤ 6 => show headB r (ownL sp lk t0 t1) f = false by unfold headB; simp [h])
 have HX5 := Zac (fun h : numsIn f.slots 1 8 = false => show headB r (ownL sp lk t0 t1) f = false by unfold headB; simp [h])
 have HX6 := Zac (fun h : inB f.blocks.length 1 12 = false => show headB r (ownL sp lk t0 t1) f = false by unfold headB; simp [h])
 have HX7 := Zac (fun h : blocksB f.blocks = false => show headB r (ownL sp lk t0 t1) f = false by unfold headB; simp [h])
 have HX8 := Zac (fun h : paramsB f = false => show headB r (ownL sp lk t0 t1) f = false by unfold headB; simp [h])
 have HXT := Zac (fun (h0 : f.params.length ≤ 8) (h1 : sigB (sigE f) = true) (h2 : f.homes.length ≤ 12) (h3 : homesB r (ownL sp lk t0 t1) f.homes = true) (h4 : f.slots.length ≤ 6) (h5 : numsIn f.slots 1 8 = true) (h6 : inB f.blocks.length 1 12 = true) (h7 : blocksB f.blocks = true) (h8 : paramsB f = true) => show headB r (ownL sp lk t0 t1) f = true by unfold headB; simp [h0, h1, h2, h3, h4, h5, h6, h7, h8])
 clear hx hx2 hF hs1 hs2 hrb hrf hr
 go_enter Tryz.func41, Tryz.ntmps41
 by_cases h0 : f.params.length ≤ 8
 ·
  skip
  go_wp2_with fail
  generalize World.alloc (World.alloc w _) _ = W at HFD HW1 HRB HRF HS2 ⊢
  refine (sigP_c f _ _ _ _ W (Zaa HFD).ps (by omega)).mono ?_
  rintro e w2 ⟨vv, rfl, hvv, hb⟩
  have HB2 := Zac hb
  have HVV := Zac hvv
  obtain ⟨vp, vc, rfl⟩ := hvv.shape
  clear hb hvv
  go_wp2_with fail
  refine (sigFits_c _ _ _ _ (Zaa HVV)).mono ?_
  rintro e w3 ⟨rfl, hb⟩
  have HB3 := Zac (Zad (Zaa HB2) hb (Zaa HB2).size)
  clear hb HVV HB2
  have hsz := Zaa HS2
  have hrow := ((Zaa HB3).block (w.heap.size + 1) (by omega)).trans (Zaa HRF)
  have r2 := (Zab hrow 2).trans rfl
  clear hrow hsz
  cases h1 : sigB ((sigE f).1, f.results) with
  | false =>
   have hz := Zac (Zaa HX1 h1)
   go_wp2
   go_ret
   exact ⟨by rw [Zaa hz]; rfl, Zad (Zaa HW1) (Zaa HB3) (by have := Zaa HS2; omega)⟩
  | true =>
   have H1 := Zac h1
   clear h1
   by_cases h2 : f.homes.length ≤ 12
   ·
    skip
    have hsz := Zaa HS2
    have hrow := ((Zaa HB3).block (w.heap.size + 1) (by omega)).trans (Zaa HRF)
    have hrbx := ((Zaa HB3).block w.heap.size (by omega)).trans (Zaa HRB)
    unfold boxOf at hrbx
    have b0 := (Zab hrbx 0).trans rfl
    have b1 := (Zab hrbx 1).trans rfl
    have b2 := (Zab hrbx 2).trans rfl
    have b3 := (Zab hrbx 3).trans rfl
    have b4 := (Zab hrbx 4).trans rfl
    have b5 := (Zab hrbx 5).trans rfl
    have b6 := (Zab hrbx 6).trans rfl
    have b7 := (Zab hrbx 7).trans rfl
    have b8 := (Zab hrbx 8).trans rfl
    have b9 := (Zab hrbx 9).trans rfl
    have b10 := (Zab hrbx 10).trans rfl
    have b11 := (Zab hrbx 11).trans rfl
    clear hrow hsz hrbx
    go_wp2_with fail
    refine (homesFit_c r sp lk t0 t1 va vr vs al sh by_ pr _ f.homes w3 (Zaa HR) ((Zaa HFD).below (Zaa HB3)).hs (by omega)).mono ?_
    rintro e w4 ⟨rfl, hb⟩
    have HB4 := Zac (Zad (Zaa HB3) hb (Zaa HB3).size)
    clear hb r2 b0 b1 b2 b3 b4 b5 b6 b7 b8 b9 b10 b11
    have hsz := Zaa HS2
    have hrow := ((Zaa HB4).block (w.heap.size + 1) (by omega)).trans (Zaa HRF)
    have r3 := (Zab hrow 3).trans rfl
    have r4 := (Zab hrow 4).trans rfl
    clear hrow hsz
    cases h3 : homesB r (ownL sp lk t0 t1) f.homes with
    | false =>
     have hz := Zac (Zaa HX3 h3)
     go_wp2
     go_ret
     exact ⟨by rw [Zaa hz]; rfl, Zad (Zaa HW1) (Zaa HB4) (by have := Zaa HS2; omega)⟩
    | true =>
     have H3 := Zac h3
     clear h3
     by_cases h4 : f.slots.length ≤ 6
     ·
      skip
      go_wp2_with fail
      refine (slotsFit_c _ f.slots w4 ((Zaa HFD).below (Zaa HB4)).ss).mono ?_
      rintro e w5 ⟨rfl, h5'⟩
      subst w5
      cases h5 : numsIn f.slots 1 8 with
      | false =>
       have hz := Zac (Zaa HX5 h5)
       go_wp2
       go_ret
       exact ⟨by rw [Zaa hz]; rfl, Zad (Zaa HW1) (Zaa HB4) (by have := Zaa HS2; omega)⟩
      | true =>
       have H5 := Zac h5
       clear h5
       go_wp2_with fail
       refine (isWithin_c f.blocks.length 1 12 w4).mono ?_
       rintro e w5 ⟨rfl, h5'⟩
       subst w5
       cases h6 : inB f.blocks.length 1 12 with
       | false =>
        have hz := Zac (Zaa HX6 h6)
        go_wp2
        go_ret
        exact ⟨by rw [Zaa hz]; rfl, Zad (Zaa HW1) (Zaa HB4) (by have := Zaa HS2; omega)⟩
       | true =>
        have H6 := Zac h6
        clear h6
        go_wp2_with fail
        refine (blocksFit_c _ f.blocks B w4 ((Zaa HFD).below (Zaa HB4)).bs (Zaa HFD).blk).mono ?_
        rintro e w5 ⟨rfl, h5'⟩
        subst w5
        cases h7 : blocksB f.blocks with
        | false =>
         have hz := Zac (Zaa HX7 h7)
         go_wp2
         go_ret
         exact ⟨by rw [Zaa hz]; rfl, Zad (Zaa HW1) (Zaa HB4) (by have := Zaa HS2; omega)⟩
        | true =>
         have H7 := Zac h7
         clear h7
         have hsz := Zaa HS2
         have hrow := ((Zaa HB4).block (w.heap.size + 1) (by omega)).trans (Zaa HRF)
         have r0 := (Zab hrow 0).trans rfl
         have r1 := (Zab hrow 1).trans rfl
         have r2 := (Zab hrow 2).trans rfl
         clear hrow hsz
         go_wp2_with fail
         refine (paramsFit_c f _ _ _ _ w4 ((Zaa HFD).below (Zaa HB4)).ps ((Zaa HFD).below (Zaa HB4)).hs ((Zaa HFD).below (Zaa HB4)).ss).mono ?_
         rintro e w5 ⟨rfl, hb⟩
         have HB5 := Zac (Zad (Zaa HB4) hb (Zaa HB4).size)
         clear hb
         cases h8 : paramsB f with
         | false =>
          have hz := Zac (Zaa HX8 h8)
          go_wp2
          go_ret
          exact ⟨by rw [Zaa hz]; rfl, Zad (Zaa HW1) (Zaa HB5) (by have := Zaa HS2; omega)⟩
         | true =>
          have hz := Zac (Zaa HXT h0 (Zaa H1) h2 (Zaa H3) h4 (Zaa H5) (Zaa H6) (Zaa H7) h8)
          go_wp2
          go_ret
          exact ⟨by rw [Zaa hz]; rfl, Zad (Zaa HW1) (Zaa HB5) (by have := Zaa HS2; omega)⟩
     ·
      have hz := Zac (Zaa HX4 h4)
      go_wp2
      go_ret
      exact ⟨by rw [Zaa hz]; rfl, Zad (Zaa HW1) (Zaa HB4) (by have := Zaa HS2; omega)⟩
   ·
    have hz := Zac (Zaa HX2 h2)
    go_wp2
    go_ret
    exact ⟨by rw [Zaa hz]; rfl, Zad (Zaa HW1) (Zaa HB3) (by have := Zaa HS2; omega)⟩
 ·
  have hz := Zac (Zaa HX0 h0)
  go_wp2
  go_ret
  exact ⟨by rw [Zaa hz]; rfl, Zaa HW1⟩
end Go.Proofs.YtffemeicclhioaaGreatDoor
