/-
  Own work of the verifier: EncW, EncL, EncS, EncA, EncG, as one text.
-/
import Derived.Test.YtffemeicclhioaaDoorProg
import Derived.WalkKit
import Derived.Handy
import Derived.Lib.OthersKept
import Derived.Recover
import Derived.WalkLawsBesides
import Derived.Laws.AppendOwn
import Derived.Deep.MidRow
import Derived.Laws.Tables
import Derived.Laws.Rows
import Derived.Deep.RegionWith
import Derived.Deep.Onto
import Derived.Deep.RegionLaw
namespace Go.Proofs.YtffemeicclhioaaDoor
open Go.RowKit

theorem info_partsE {P : Program} {t : TypeId} {z : Value} {n b : Nat} (h : (P.info? t).map (fun i => (i.zero, i.size, i.bytes)) = some (some z, n, b)) : ∃ i, P.info? t = some i ∧ i.zero = some z ∧ i.size = n ∧ i.bytes = b := by
  cases hi : P.info? t with
  | none => simp [hi] at h
  | some i => simp [hi] at h; exact ⟨i, rfl, h.1, h.2.1, h.2.2⟩
theorem Tryd.infoU : (Tryd.prog.info? 5).map (fun i => (i.zero, i.size, i.bytes)) = some (some (.int .u8 0), 1, 1) := by kernel_rfl
end Go.Proofs.YtffemeicclhioaaDoor
namespace Go.Proofs.YtffemeicclhioaaDoor
open Go.RowKit

/-- A list of numbers that lies below the writer. -/
def RsB (w : World) (b : Nat) (v : Value) (ns : List Int) : Prop := (ns = [] ∧ ∃ p cap, v = .slice p 0 cap) ∨ ∃ sb so cap, v = .slice (some ⟨sb, so, none⟩) ns.length cap ∧ sb < b ∧ ∀ i, i < ns.length → w.cell? ⟨sb, so + i, none⟩ = some (.int .i64 (ns.getD i 0))
theorem RsB.shape {w : World} {b : Nat} {v : Value} {ns : List Int} (h : RsB w b v ns) : ∃ p cap, v = .slice p ns.length cap := by
  rcases h with ⟨rfl, p, cap, e⟩ | ⟨sb, so, cap, e, _⟩
  · exact ⟨p, cap, e⟩
  · exact ⟨_, _, e⟩
end Go.Proofs.YtffemeicclhioaaDoor
namespace Go.Proofs.YtffemeicclhioaaDoor
open Go.RowKit

/-- A list of structs that lies below the writer: each one's cells, and what it stands for. -/
def LsB {α : Type} (size : Nat) (w : World) (b : Nat) (v : Value) (ps : List (Array Value × α)) : Prop := (ps = [] ∧ ∃ p cap, v = .slice p 0 cap) ∨ ∃ sb so cap, v = .slice (some ⟨sb, so, none⟩) ps.length cap ∧ sb < b ∧ ∀ i (hi : i < ps.length), w.rangeAt sb (so + i * size) ps[i].1.toList
theorem LsB.shape {α : Type} {size : Nat} {w : World} {b : Nat} {v : Value} {ps : List (Array Value × α)} (h : LsB size w b v ps) : ∃ p cap, v = .slice p ps.length cap := by
  rcases h with ⟨rfl, p, cap, e⟩ | ⟨sb, so, cap, e, _⟩
  · exact ⟨p, cap, e⟩
  · exact ⟨_, _, e⟩
end Go.Proofs.YtffemeicclhioaaDoor
namespace Go.Proofs.YtffemeicclhioaaDoor
open Go.RowKit

theorem cells_of_row {w : World} {T : Nat} {t : TypeId} {cs : Array Value} {fr : Nat × Nat} (h : w.heap[T]? = some (.cells cs t fr)) (j : Nat) : w.cell? ⟨T, j, none⟩ = cs[j]? := cell_of_row w T j cs t fr h
end Go.Proofs.YtffemeicclhioaaDoor
namespace Go.Proofs.YtffemeicclhioaaDoor
open Go.RowKit

abbrev short : Nat := 9223372036854775808
end Go.Proofs.YtffemeicclhioaaDoor
