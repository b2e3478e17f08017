/-
  Own work of the verifier: PrtPlain, PrtItem, PrtPrint, PsPlain, PsAdd, PsTok, PsNums, PsTab2, PrtRef2, as one text.
-/
import Derived.Test.YtffemeicclhioaaDoorProg
import Derived.WalkKit
import Derived.Handy
import Derived.Lib.OthersKept
import Derived.Lib.ItoaNum
import Derived.Lib.LaidTab
import Derived.Lib.AppendIntMem
import Derived.Test.YtffemeicclhioaaDoorShelf
import Derived.WalkSmall
import Derived.Lib.DecodeN
import Derived.Shelf.Unicode.DecodeAny
import Derived.Laws.OwnMore
import Derived.Laws.Strings2
import Derived.Deep.RegionLaw
import Derived.Orders
import Derived.Laws.CopyRow
import Derived.Laws.CopyOwn
import Derived.Test.YtffemeicclhioaaDoorM3
import Derived.Laws.ResultCell
namespace Go.Proofs.YtffemeicclhioaaDoor
open Go.RowKit

def numText (k : Nat) (n : Int) : List UInt8 := if k = 2 ∧ n = -1 then [45] else Lib.itoa n
def numsText (k : Nat) (ns : List Int) : List UInt8 := ns.flatMap fun n => 32 :: numText k n
def nm (k : Nat) : List UInt8 := ([[114, 101, 103, 115], [115, 112], [108, 105, 110, 107], [116, 101, 109, 112, 115], [97, 114, 103, 115], [114, 101, 115, 117, 108, 116, 115], [115, 97, 118, 101, 115], [97, 108, 105, 103, 110], [115, 104, 97, 100, 111, 119], [98, 121, 114, 101, 102], [112, 97, 105, 114, 115]] : List (List UInt8)).getD k []
def itemText (k : Nat) (ns : List Int) : List UInt8 := nm k ++ numsText k ns ++ [59, 10]
end Go.Proofs.YtffemeicclhioaaDoor
namespace Go.Proofs.YtffemeicclhioaaDoor
open Go.RowKit

theorem ltc {w : World} {b o : Nat} {v : Value} (h : w.cell? ⟨b, o, none⟩ = some v) : b < w.heap.size := by
  rcases Nat.lt_or_ge b w.heap.size with h' | h'
  · exact h'
  · simp [World.cell?, Array.getElem?_eq_none h'] at h
end Go.Proofs.YtffemeicclhioaaDoor
namespace Go.Proofs.YtffemeicclhioaaDoor
open Go.RowKit

def boxOf (r sp lk t0 t1 : Int) (va vr vs : Value) (al sh by_ : Int) (pr : Bool) : Array Value :=
  #[.int .i64 r, .int .i64 sp, .int .i64 lk, .int .i64 t0, .int .i64 t1, va, vr, vs, .int .i64 al, .int .i64 sh, .int .i64 by_, .bool pr]
end Go.Proofs.YtffemeicclhioaaDoor
namespace Go.Proofs.YtffemeicclhioaaDoor

def kindN (r : Nat) : Nat :=
  if r = 32 ∨ r = 9 ∨ r = 10 then 1 else if r = 35 then 2 else if 97 ≤ r ∧ r ≤ 122 then 3 else if 48 ≤ r ∧ r ≤ 57 then 4 else if r = 45 then 5 else if r = 59 then 6 else 0
/-- A piece: its kind (3 a word, 4 a number, 5 a dash, 6 a stop), where it begins, where it ends. -/
structure Tk where
  k : Nat
  a : Nat
  e : Nat
def addR (l : List Tk) (k p : Nat) : List Tk :=
  match l.getLast? with
  | some t => if (k = 3 ∨ k = 4) ∧ t.k = k ∧ t.e = p then l.dropLast ++ [⟨t.k, t.a, p + 1⟩] else l ++ [⟨k, p, p + 1⟩]
  | none => l ++ [⟨k, p, p + 1⟩]
/-! ### the text, cut -/
theorem addR_new (l : List Tk) (k p : Nat) (h : ∀ t, l.getLast? = some t → (k = 3 ∨ k = 4) → t.k = k → t.e ≠ p) : addR l k p = l ++ [⟨k, p, p + 1⟩] := by
  unfold addR
  split
  · rename_i t ht
    rw [if_neg]
    rintro ⟨h1, h2, h3⟩
    exact h t ht h1 h2 h3
  · rfl
end Go.Proofs.YtffemeicclhioaaDoor
namespace Go.Proofs.YtffemeicclhioaaDoor
open Go.RowKit

theorem hideQ {p : Prop} (h : p) : Hid p := h
theorem unhideQ {p : Prop} (h : Hid p) : p := h
theorem info_partsP {P : Program} {t : TypeId} {z : Value} {n b : Nat} (h : (P.info? t).map (fun i => (i.zero, i.size, i.bytes)) = some (some z, n, b)) : ∃ i, P.info? t = some i ∧ i.zero = some z ∧ i.size = n ∧ i.bytes = b := by
  obtain ⟨i, hi, e⟩ := Option.map_eq_some_iff.1 h
  simp only [Prod.mk.injEq] at e
  exact ⟨i, hi, e.1, e.2.1, e.2.2⟩
end Go.Proofs.YtffemeicclhioaaDoor
namespace Go.Proofs.YtffemeicclhioaaDoor
open Go.RowKit

/-- The last piece does not go on at pos. -/
def Shut (s : ByteArray) (l : List Tk) (pos : Nat) : Prop := ∀ t, l.getLast? = some t → t.e ≤ pos ∧ (t.e = pos → pos < s.size → (t.k = 3 ∨ t.k = 4) → kindN (s.get! pos).toNat ≠ t.k)
theorem Shut.on {s : ByteArray} {l : List Tk} {pos q : Nat} (h : Shut s l pos) (hq : pos < q) : Shut s l q := fun t ht => ⟨by have := (h t ht).1; omega, fun e => by have := (h t ht).1; omega⟩
theorem Shut.new {s : ByteArray} {l : List Tk} {pos : Nat} (h : Shut s l pos) (hp : pos < s.size) : addR l (kindN (s.get! pos).toNat) pos = l ++ [⟨kindN (s.get! pos).toNat, pos, pos + 1⟩] :=
  addR_new l _ pos (fun t ht h3 hk he => (h t ht).2 he hp (by omega) hk.symm)
end Go.Proofs.YtffemeicclhioaaDoor
namespace Go.Proofs.YtffemeicclhioaaDoor
open Go.RowKit

theorem Tryd.infoI : (Tryd.prog.info? 3).map (fun i => (i.zero, i.size, i.bytes)) = some (some (.int .i64 0), 1, 8) := by kernel_rfl
def iCells (ns : List Int) : List Value := ns.map fun n => .int .i64 n
theorem own1_form {w : World} {base n : Nat} {v : Value} {xs : List Value} (h : w.ownsRow base 3 1 v (n + 1) xs) : ∃ g cap, v = .slice (some ⟨g, 0, none⟩) (n + 1) cap := by
  rcases h.2 with ⟨_, e⟩ | ⟨g, cap, cur, e, -⟩
  · omega
  · exact ⟨g, cap, e⟩
end Go.Proofs.YtffemeicclhioaaDoor
namespace Go.Proofs.YtffemeicclhioaaDoor
open Go.RowKit

theorem BadAt.setRow {w : World} {q T : Nat} {n f b a : Int} (h : BadAt w q n f b a) (hq : q ≠ T) (cs : Array Value) : BadAt (w.setRow T cs) q n f b a :=
  have e := setRow_other w T q cs hq
  ⟨(World.cell?_of_block e).trans h.c0, (World.cell?_of_block e).trans h.c1, (World.cell?_of_block e).trans h.c2, (World.cell?_of_block e).trans h.c3⟩
end Go.Proofs.YtffemeicclhioaaDoor
namespace Go.Proofs.YtffemeicclhioaaDoor
open Go.RowKit

/-- A value that reads as a list of numbers. -/
def Rs (w : World) (v : Value) (ns : List Int) : Prop := (ns = [] ∧ ∃ p cap, v = .slice p 0 cap) ∨ ∃ sb so cap, v = .slice (some ⟨sb, so, none⟩) ns.length cap ∧ ∀ i, i < ns.length → w.cell? ⟨sb, so + i, none⟩ = some (.int .i64 (ns.getD i 0))
theorem Rs.below {w w' : World} {v : Value} {ns : List Int} (h : Rs w v ns) (hb : Below w.heap.size w w') : Rs w' v ns := by
  rcases h with h | ⟨sb, so, cap, e, hc⟩
  · exact Or.inl h
  · exact Or.inr ⟨sb, so, cap, e, fun i hi => (hb.cell (p := ⟨sb, so + i, none⟩) (ltc (hc i hi))).trans (hc i hi)⟩
def nsOf (r sp lk t0 t1 : Int) (ag rs ss : List Int) (al sh by_ : Int) (k : Nat) : List Int := [[r], [sp], [lk], [t0, t1], ag, rs, ss, [al], [sh], [by_]].getD k []
/-- The text of the first k items. -/
def pre (r sp lk t0 t1 : Int) (ag rs ss : List Int) (al sh by_ : Int) : Nat → List UInt8
  | 0 => []
  | k + 1 => pre r sp lk t0 t1 ag rs ss al sh by_ k ++ itemText k (nsOf r sp lk t0 t1 ag rs ss al sh by_ k)
end Go.Proofs.YtffemeicclhioaaDoor
