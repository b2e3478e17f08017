/-
  Own work of the verifier: CkRep, CkPure, as one text.
-/
import Derived.Test.YtffemeicclhioaaDoorM1
import Derived.WalkKit
import Derived.Handy
import Derived.Deep.MidRow
import Derived.Laws.Tables
import Derived.Laws.Rows
import Derived.Deep.RegionWith
import Derived.Deep.Onto
namespace Go.Proofs.YtffemeicclhioaaDoor
open Go.RowKit

/-- A list of numbers. -/
def Li (w : World) (v : Value) (ns : List Int) : Prop := ∃ p cap, v = .slice p ns.length cap ∧ ns.length ≤ cap ∧ ns.length < short ∧ (0 < ns.length → ∃ sb so, p = some ⟨sb, so, none⟩ ∧ ∀ i, i < ns.length → w.cell? ⟨sb, so + i, none⟩ = some (.int .i64 (ns.getD i 0)))
/-- A list of n structs of so many cells. -/
def LS (size : Nat) (w : World) (v : Value) (n : Nat) (A : Nat → Array Value) : Prop := ∃ p cap, v = .slice p n cap ∧ n ≤ cap ∧ n < short ∧ (0 < n → ∃ sb so, p = some ⟨sb, so, none⟩ ∧ sb < w.heap.size ∧ ∀ i, i < n → w.rangeAt sb (so + i * size) (A i).toList)
theorem Li.below {w w' : World} {v : Value} {ns : List Int} (h : Li w v ns) (hb : Below w.heap.size w w') : Li w' v ns := by
  obtain ⟨p, cap, h1, h2, h3, h4⟩ := h
  refine ⟨p, cap, h1, h2, h3, fun h0 => ?_⟩
  obtain ⟨sb, so, e, hc⟩ := h4 h0
  exact ⟨sb, so, e, fun i hi => (hb.cell (p := ⟨sb, so + i, none⟩) (World.block_lt_of_cell? w _ (hc i hi))).trans (hc i hi)⟩
theorem LS.below {size : Nat} {w w' : World} {v : Value} {n : Nat} {A : Nat → Array Value} (h : LS size w v n A) (hb : Below w.heap.size w w') : LS size w' v n A := by
  obtain ⟨p, cap, h1, h2, h3, h4⟩ := h
  refine ⟨p, cap, h1, h2, h3, fun h0 => ?_⟩
  obtain ⟨sb, so, e, hlt, hc⟩ := h4 h0
  exact ⟨sb, so, e, Nat.lt_of_lt_of_le hlt hb.size, fun i hi j x hx => (hb.cell (p := ⟨sb, so + i * size + j, none⟩) hlt).trans (hc i hi j x hx)⟩
def pairA (x : Int × Int) : Array Value := #[.int .i64 x.1, .int .i64 x.2]
theorem Li.nil (w : World) : Li w (.slice none 0 0) [] := ⟨none, 0, rfl, Nat.le_refl _, by decide, fun h => absurd h (by decide)⟩
/-- The first k of a list. -/
theorem Li.take {w : World} {p : Option Addr} {cap : Nat} {ns : List Int} (h : Li w (.slice p ns.length cap) ns) (k : Nat) (hk : k ≤ ns.length) : Li w (.slice p k cap) (ns.take k) := by
  obtain ⟨p', cap', h1, h2, h3, h4⟩ := h
  injection h1 with e1 e2 e3
  subst e1 e3
  have hl : (ns.take k).length = k := by simp; omega
  refine ⟨p, cap, by rw [hl], by omega, by omega, fun h0 => ?_⟩
  obtain ⟨sb, so, e, hc⟩ := h4 (by omega)
  refine ⟨sb, so, e, fun i hi => ?_⟩
  rw [hl] at hi
  rw [hc i (by omega)]
  simp [List.getD, hi]
theorem Li.new {w : World} {g : Nat} {ns : List Int} {t : TypeId} {fr : Nat × Nat} (h : w.heap[g]? = some (.cells (ns.map fun n => Value.int .i64 n).toArray t fr)) (hs : ns.length < short) : Li w (.slice (some ⟨g, 0, none⟩) ns.length ns.length) ns :=
  ⟨_, _, rfl, Nat.le_refl _, hs, fun _ => ⟨g, 0, rfl, fun i hi => by
    rw [Nat.zero_add, cells_of_row h i]
    simp [List.getD, hi]⟩⟩
theorem Li.shape {w : World} {v : Value} {ns : List Int} (h : Li w v ns) : ∃ p cap, v = .slice p ns.length cap := by
  obtain ⟨p, cap, h1, -⟩ := h
  exact ⟨p, cap, h1⟩
theorem LS.shape {size : Nat} {w : World} {v : Value} {n : Nat} {A : Nat → Array Value} (h : LS size w v n A) : ∃ p cap, v = .slice p n cap := by
  obtain ⟨p, cap, h1, -⟩ := h
  exact ⟨p, cap, h1⟩
theorem Li.lt {w : World} {v : Value} {ns : List Int} (h : Li w v ns) : ns.length < short := by
  obtain ⟨p, cap, -, -, h, -⟩ := h
  exact h
end Go.Proofs.YtffemeicclhioaaDoor
namespace Go.Proofs.YtffemeicclhioaaDoor
open Go.RowKit

def inB (n lo hi : Int) : Bool := decide (lo ≤ n ∧ n ≤ hi)
/-- All of 0 to n - 1. -/
def upB (n : Nat) (q : Nat → Bool) : Bool := (List.range n).all q
theorem upB_true {n : Nat} {q : Nat → Bool} (h : ∀ k, k < n → q k = true) : upB n q = true := by
  unfold upB
  rw [List.all_eq_true]
  exact fun k hk => h k (List.mem_range.1 hk)
theorem upB_false {n : Nat} {q : Nat → Bool} {k : Nat} (hk : k < n) (h : q k = false) : upB n q = false := by
  unfold upB
  rw [List.all_eq_false]
  exact ⟨k, List.mem_range.2 hk, by simp [h]⟩
theorem upB_get {n : Nat} {q : Nat → Bool} (h : upB n q = true) {k : Nat} (hk : k < n) : q k = true := by
  unfold upB at h
  rw [List.all_eq_true] at h
  exact h k (List.mem_range.2 hk)
theorem upTo_next {q : Nat → Bool} {k : Nat} (h : ∀ j, j < k → q j = true) (hk : q k = true) : ∀ j, j < k + 1 → q j = true := fun j hj => by
  rcases Nat.lt_succ_iff_lt_or_eq.1 hj with h' | h'
  · exact h j h'
  · subst h'; exact hk
def numsIn (ns : List Int) (lo hi : Int) : Bool := upB ns.length fun k => inB (ns.getD k 0) lo hi
def sigB (s : List Int × Int) : Bool := decide (s.1.length ≤ 8) && (inB s.2 0 4 && numsIn s.1 0 8)
structure FltE where
  e : Int
  f : Int
  b : Int
  a : Int
end Go.Proofs.YtffemeicclhioaaDoor
