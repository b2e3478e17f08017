/-
  Own work of the verifier: EncW, EncL, EncS, EncA, EncB, EncC, EncD, EncG, EncH, EncO, PrtPlain, PrtItem, PrtPrint, PsPlain, PsAdd, PsTok, PsNums, as one text.
-/
import Derived.Test.YtffemeicclhioaaGreatDoorProg
import Derived.WalkKit
import Derived.Handy
import Derived.Lib.OthersKept
import Derived.Recover
import Derived.WalkLawsBesides
import Derived.Laws.AppendOwn
import Derived.Deep.MidRow
import Derived.Laws.Tables
import Derived.Laws.Rows
import Derived.Deep.RegionWith
import Derived.Deep.Onto
import Derived.Deep.RegionLaw
import Derived.Test.YtffemeicclhioaaGreatDoorRows
import Derived.WideShapes
import Derived.SizedLaws
import Derived.ChangeSlices
import Derived.Deep.Slices
import Derived.Lib.ItoaNum
import Derived.Lib.LaidTab
import Derived.Lib.AppendIntMem
import Derived.Test.YtffemeicclhioaaGreatDoorShelf
import Derived.WalkSmall
import Derived.Lib.DecodeN
import Derived.Shelf.Unicode.DecodeAny
import Derived.Laws.OwnMore
import Derived.Laws.Strings2
namespace Go.Proofs.YtffemeicclhioaaGreatDoor
open Go.RowKit

theorem Zam {p : Prop} (h : p) : Hid p := h
theorem Zaf {p : Prop} (h : Hid p) : p := h
def byteOf (v : Int) : UInt8 := UInt8.ofNat (v % 256).toNat
theorem info_partsE {P : Program} {t : TypeId} {z : Value} {n b : Nat} (h : (P.info? t).map (fun i => (i.zero, i.size, i.bytes)) = some (some z, n, b)) : ∃ i, P.info? t = some i ∧ i.zero = some z ∧ i.size = n ∧ i.bytes = b := by
 cases hi : P.info? t with
 | none => simp [hi] at h
 | some i => simp [hi] at h; exact ⟨i, rfl, h.1, h.2.1, h.2.2⟩
theorem Tryz.infoU : (Tryz.prog.info? 5).map (fun i => (i.zero, i.size, i.bytes)) = some (some (.int .u8 0), 1, 1) := by kernel_rfl
end Go.Proofs.YtffemeicclhioaaGreatDoor
namespace Go.Proofs.YtffemeicclhioaaGreatDoor
open Go.RowKit

/-- A list of numbers that lies below the writer. -/
def RsB (w : World) (b : Nat) (v : Value) (ns : List Int) : Prop := (ns = [] ∧ ∃ p cap, v = .slice p 0 cap) ∨ ∃ sb so cap, v = .slice (some ⟨sb, so, none⟩) ns.length cap ∧ sb < b ∧ ∀ i, i < ns.length → w.cell? ⟨sb, so + i, none⟩ = some (.int .i64 (ns.getD i 0))
theorem RsB.shape {w : World} {b : Nat} {v : Value} {ns : List Int} (h : RsB w b v ns) : ∃ p cap, v = .slice p ns.length cap := by
 rcases h with ⟨rfl, p, cap, e⟩ | ⟨sb, so, cap, e, _⟩
 ·
  exact ⟨p, cap, e⟩
 ·
  exact ⟨_, _, e⟩
theorem getD_mid {ns : List Int} {k : Nat} (hk : k < ns.length) : ns.take (k + 1) = ns.take k ++ [ns.getD k 0] := by
 rw [List.take_succ_eq_append_getElem hk]
 simp [List.getD, hk]
end Go.Proofs.YtffemeicclhioaaGreatDoor
namespace Go.Proofs.YtffemeicclhioaaGreatDoor
open Go.RowKit

/-- A list of structs that lies below the writer: each one's cells, and what it stands for. -/
def LsB {α : Type} (size : Nat) (w : World) (b : Nat) (v : Value) (ps : List (Array Value × α)) : Prop := (ps = [] ∧ ∃ p cap, v = .slice p 0 cap) ∨ ∃ sb so cap, v = .slice (some ⟨sb, so, none⟩) ps.length cap ∧ sb < b ∧ ∀ i (hi : i < ps.length), w.rangeAt sb (so + i * size) ps[i].1.toList
theorem LsB.shape {α : Type} {size : Nat} {w : World} {b : Nat} {v : Value} {ps : List (Array Value × α)} (h : LsB size w b v ps) : ∃ p cap, v = .slice p ps.length cap := by
 rcases h with ⟨rfl, p, cap, e⟩ | ⟨sb, so, cap, e, _⟩
 ·
  exact ⟨p, cap, e⟩
 ·
  exact ⟨_, _, e⟩
theorem take_mid {α : Type} {ps : List α} {k : Nat} (hk : k < ps.length) : ps.take (k + 1) = ps.take k ++ [ps[k]] := List.take_succ_eq_append_getElem hk
theorem Tryz.infArgs : (Tryz.prog.info? 116).map (·.size) = some 2 := by kernel_rfl
theorem Tryz.infInss : (Tryz.prog.info? 76).map (·.size) = some 8 := by kernel_rfl
end Go.Proofs.YtffemeicclhioaaGreatDoor
namespace Go.Proofs.YtffemeicclhioaaGreatDoor
open Go.RowKit

theorem Zab {w : World} {T : Nat} {t : TypeId} {cs : Array Value} {fr : Nat × Nat} (h : w.heap[T]? = some (.cells cs t fr)) (j : Nat) : w.cell? ⟨T, j, none⟩ = cs[j]? := cell_of_row w T j cs t fr h
end Go.Proofs.YtffemeicclhioaaGreatDoor
namespace Go.Proofs.YtffemeicclhioaaGreatDoor
open Go.RowKit

def needL : List Int := [0, 9, 3, 7, 7, 7, 7, 7, 7, 7, 15, 15, 112, 112, 2, 7, 64, 48, 8]
def needOf (op : Int) : Int := needL.getD op.toNat 0
/-- What each instruction needs lies in its global. -/
def NeedsAt (w : World) : Prop := ∀ k : Nat, k < 19 → w.cell? ⟨1, k, none⟩ = some (.int .u8 (needL.getD k 0))
set_option maxRecDepth 100000 in
theorem needs_c (op : Int) (h : 1 ≤ op) (h2 : op ≤ 18) (w : World) (hg : NeedsAt w) : Calls Tryz.prog 73 #[.int .i64 op] w fun e w' => e = .returned (.int .u8 (needOf op)) ∧ w' = w := by
 have cc : w.cell? ⟨1, op.toNat, none⟩ = some (.int .u8 (needOf op)) := hg op.toNat (by omega)
 clear hg
 go_enter Tryz.func73, Tryz.ntmps73
 go_wp2
 go_ret
 exact ⟨rfl, rfl⟩
def fillU (bs : List Bool) : Nat → Int
 | 0 => 0
 | k + 1 => if bs.getD k false then bits .or .u8 (fillU bs k) ((2 : Int) ^ k) else fillU bs k
theorem Tryz.idx0 (v0 v1 v2 v3 v4 v5 v6 : Value) (w : World) : Sem.run Tryz.prog (Instr.index 174 (.agg #[v0, v1, v2, v3, v4, v5, v6]) (.int .i64 0)) w = .ok v0 w := by kernel_rfl
theorem Tryz.idx1 (v0 v1 v2 v3 v4 v5 v6 : Value) (w : World) : Sem.run Tryz.prog (Instr.index 174 (.agg #[v0, v1, v2, v3, v4, v5, v6]) (.int .i64 1)) w = .ok v1 w := by kernel_rfl
theorem Tryz.idx2 (v0 v1 v2 v3 v4 v5 v6 : Value) (w : World) : Sem.run Tryz.prog (Instr.index 174 (.agg #[v0, v1, v2, v3, v4, v5, v6]) (.int .i64 2)) w = .ok v2 w := by kernel_rfl
theorem Tryz.idx3 (v0 v1 v2 v3 v4 v5 v6 : Value) (w : World) : Sem.run Tryz.prog (Instr.index 174 (.agg #[v0, v1, v2, v3, v4, v5, v6]) (.int .i64 3)) w = .ok v3 w := by kernel_rfl
theorem Tryz.idx4 (v0 v1 v2 v3 v4 v5 v6 : Value) (w : World) : Sem.run Tryz.prog (Instr.index 174 (.agg #[v0, v1, v2, v3, v4, v5, v6]) (.int .i64 4)) w = .ok v4 w := by kernel_rfl
theorem Tryz.idx5 (v0 v1 v2 v3 v4 v5 v6 : Value) (w : World) : Sem.run Tryz.prog (Instr.index 174 (.agg #[v0, v1, v2, v3, v4, v5, v6]) (.int .i64 5)) w = .ok v5 w := by kernel_rfl
theorem Tryz.idx6 (v0 v1 v2 v3 v4 v5 v6 : Value) (w : World) : Sem.run Tryz.prog (Instr.index 174 (.agg #[v0, v1, v2, v3, v4, v5, v6]) (.int .i64 6)) w = .ok v6 w := by kernel_rfl
set_option maxHeartbeats 2000000 in
set_option maxRecDepth 100000 in
theorem filled_c (op d a bb n f : Int) (pa po : Option Addr) (na no ca co : Nat) (w : World) (b0 b1 b2 b3 b4 b5 b6 : Bool) (h0 : (d != 0) = b0) (h1 : (a != 0) = b1) (h2 : (bb != 0) = b2) (h3 : (n != 0) = b3) (h4 : (f != 0) = b4) (h5 : ((na : Int) != 0) = b5) (h6 : ((no : Int) != 0) = b6) : Calls Tryz.prog 80 #[.agg #[.int .i64 op, .int .i64 d, .int .i64 a, .int .i64 bb, .int .u64 n, .int .i64 f, .slice pa na ca, .slice po no co]] w fun e w' => e = .returned (.int .u8 (fillU [b0, b1, b2, b3, b4, b5, b6] 7)) ∧ ∃ X Y, w' = (w.alloc X).alloc Y := by
 go_enter Tryz.func80, Tryz.ntmps80
 go_wp2
 generalize hW : (w.alloc _).alloc _ = W
 have HW := Zam (show ∃ X Y, W = (w.alloc X).alloc Y from ⟨_, _, hW.symm⟩)
 clear hW
 try simp only [h0, h1, h2, h3, h4, h5, h6]
 clear h0 h1 h2 h3 h4 h5 h6
 go_loopw [32, 4] (fun j s w' => ∃ k : Nat, j = .int .i64 k ∧ k ≤ 7 ∧ s = .int .u8 (fillU [b0, b1, b2, b3, b4, b5, b6] k) ∧ w' = W) (fun j _ _ => 7 - (intOf j).toNat)
 case atStart => exact ⟨0, rfl, by omega, rfl, rfl⟩
 case round =>
  obtain ⟨k, rfl, hk, rfl, rfl⟩ := hrel
  match k, hk with
  | 0, _ =>
   cases h0 : b0 with
   | true =>
    have HF := Zam (show fillU [b0, b1, b2, b3, b4, b5, b6] 1 = bits .or .u8 (fillU [b0, b1, b2, b3, b4, b5, b6] 0) 1 from by rw [h0]; rfl)
    rw [h0] at HF
    generalize fillU [b0, b1, b2, b3, b4, b5, b6] 0 = z at HF
    go_wp2
    rw [Tryz.idx0]
    go_wp2
    go_roundw
    case rel => exact ⟨1, rfl, by omega, by rw [Zaf HF], trivial⟩
    case measure => simp [intOf]
   | false =>
    go_wp2
    rw [Tryz.idx0]
    go_wp2
    go_roundw
    case rel => exact ⟨1, rfl, by omega, rfl, trivial⟩
    case measure => simp [intOf]
  | 1, _ =>
   cases h1 : b1 with
   | true =>
    have HF := Zam (show fillU [b0, b1, b2, b3, b4, b5, b6] 2 = bits .or .u8 (fillU [b0, b1, b2, b3, b4, b5, b6] 1) 2 from by rw [h1]; rfl)
    rw [h1] at HF
    generalize fillU [b0, b1, b2, b3, b4, b5, b6] 1 = z at HF
    go_wp2
    rw [Tryz.idx1]
    go_wp2
    go_roundw
    case rel => exact ⟨2, rfl, by omega, by rw [Zaf HF], trivial⟩
    case measure => simp [intOf]
   | false =>
    go_wp2
    rw [Tryz.idx1]
    go_wp2
    go_roundw
    case rel => exact ⟨2, rfl, by omega, rfl, trivial⟩
    case measure => simp [intOf]
  | 2, _ =>
   cases h2 : b2 with
   | true =>
    have HF := Zam (show fillU [b0, b1, b2, b3, b4, b5, b6] 3 = bits .or .u8 (fillU [b0, b1, b2, b3, b4, b5, b6] 2) 4 from by rw [h2]; rfl)
    rw [h2] at HF
    generalize fillU [b0, b1, b2, b3, b4, b5, b6] 2 = z at HF
    go_wp2
    rw [Tryz.idx2]
    go_wp2
    go_roundw
    case rel => exact ⟨3, rfl, by omega, by rw [Zaf HF], trivial⟩
    case measure => simp [intOf]
   | false =>
    go_wp2
    rw [Tryz.idx2]
    go_wp2
    go_roundw
    case rel => exact ⟨3, rfl, by omega, rfl, trivial⟩
    case measure => simp [intOf]
  | 3, _ =>
   cases h3 : b3 with
   | true =>
    have HF := Zam (show fillU [b0, b1, b2, b3, b4, b5, b6] 4 = bits .or .u8 (fillU [b0, b1, b2, b3, b4, b5, b6] 3) 8 from by rw [h3]; rfl)
    rw [h3] at HF
    generalize fillU [b0, b1, b2, b3, b4, b5, b6] 3 = z at HF
    go_wp2
    rw [Tryz.idx3]
    go_wp2
    go_roundw
    case rel => exact ⟨4, rfl, by omega, by rw [Zaf HF], trivial⟩
    case measure => simp [intOf]
   | false =>
    go_wp2
    rw [Tryz.idx3]
    go_wp2
    go_roundw
    case rel => exact ⟨4, rfl, by omega, rfl, trivial⟩
    case measure => simp [intOf]
  | 4, _ =>
   cases h4 : b4 with
   | true =>
    have HF := Zam (show fillU [b0, b1, b2, b3, b4, b5, b6] 5 = bits .or .u8 (fillU [b0, b1, b2, b3, b4, b5, b6] 4) 16 from by rw [h4]; rfl)
    rw [h4] at HF
    generalize fillU [b0, b1, b2, b3, b4, b5, b6] 4 = z at HF
    go_wp2
    rw [Tryz.idx4]
    go_wp2
    go_roundw
    case rel => exact ⟨5, rfl, by omega, by rw [Zaf HF], trivial⟩
    case measure => simp [intOf]
   | false =>
    go_wp2
    rw [Tryz.idx4]
    go_wp2
    go_roundw
    case rel => exact ⟨5, rfl, by omega, rfl, trivial⟩
    case measure => simp [intOf]
  | 5, _ =>
   cases h5 : b5 with
   | true =>
    have HF := Zam (show fillU [b0, b1, b2, b3, b4, b5, b6] 6 = bits .or .u8 (fillU [b0, b1, b2, b3, b4, b5, b6] 5) 32 from by rw [h5]; rfl)
    rw [h5] at HF
    generalize fillU [b0, b1, b2, b3, b4, b5, b6] 5 = z at HF
    go_wp2
    rw [Tryz.idx5]
    go_wp2
    go_roundw
    case rel => exact ⟨6, rfl, by omega, by rw [Zaf HF], trivial⟩
    case measure => simp [intOf]
   | false =>
    go_wp2
    rw [Tryz.idx5]
    go_wp2
    go_roundw
    case rel => exact ⟨6, rfl, by omega, rfl, trivial⟩
    case measure => simp [intOf]
  | 6, _ =>
   cases h6 : b6 with
   | true =>
    have HF := Zam (show fillU [b0, b1, b2, b3, b4, b5, b6] 7 = bits .or .u8 (fillU [b0, b1, b2, b3, b4, b5, b6] 6) 64 from by rw [h6]; rfl)
    rw [h6] at HF
    generalize fillU [b0, b1, b2, b3, b4, b5, b6] 6 = z at HF
    go_wp2
    rw [Tryz.idx6]
    go_wp2
    go_roundw
    case rel => exact ⟨7, rfl, by omega, by rw [Zaf HF], trivial⟩
    case measure => simp [intOf]
   | false =>
    go_wp2
    rw [Tryz.idx6]
    go_wp2
    go_roundw
    case rel => exact ⟨7, rfl, by omega, rfl, trivial⟩
    case measure => simp [intOf]
  | 7, _ =>
   go_wp2
   go_ret
   exact ⟨rfl, Zaf HW⟩
  | k + 8, hk => omega
def spareOf (op d a bb n f : Int) (na no : Nat) : Bool := bits .andNot .u8 (fillU [d != 0, a != 0, bb != 0, n != 0, f != 0, (na : Int) != 0, (no : Int) != 0] 7) (needOf op) != 0
theorem NeedsAt.below {w w' : World} (h : NeedsAt w) (hb : 1 < w.heap.size) (hw : Below w.heap.size w w') : NeedsAt w' := fun k hk => (hw.cell (p := ⟨1, k, none⟩) hb).trans (h k hk)
set_option maxHeartbeats 4000000 in
set_option maxRecDepth 100000 in
theorem hasSpare_c (op d a bb n f : Int) (pa po : Option Addr) (na no ca co : Nat) (w : World) (h : 1 ≤ op) (h2 : op ≤ 18) (hg : NeedsAt w) (hb : 1 < w.heap.size) : Calls Tryz.prog 75 #[.agg #[.int .i64 op, .int .i64 d, .int .i64 a, .int .i64 bb, .int .u64 n, .int .i64 f, .slice pa na ca, .slice po no co]] w fun e w' => e = .returned (.bool (spareOf op d a bb n f na no)) ∧ Below w.heap.size w w' := by
 have HG := Zam hg
 clear hg
 unfold spareOf
 go_enter Tryz.func75, Tryz.ntmps75
 go_wp2_with fail
 go_region_with (first
  | (go_at_call 80; refine (filled_c _ _ _ _ _ _ _ _ _ _ _ _ _ _ _ _ _ _ _ _ rfl rfl rfl rfl rfl rfl rfl).mono ?_; rintro e w' ⟨rfl, X, Y, rfl⟩)
  | (go_at_call 73; refine (needs_c op h h2 _ ((Zaf HG).below hb (by go_grown))).mono ?_; rintro e w' ⟨rfl, rfl⟩))
 all_goals go_wp2
 all_goals go_ret
 all_goals exact ⟨rfl, by go_grown⟩
end Go.Proofs.YtffemeicclhioaaGreatDoor
namespace Go.Proofs.YtffemeicclhioaaGreatDoor
open Go.RowKit

def opB (n : Int) : Nat → List UInt8
 | 0 => []
 | c + 1 => byteOf (n / 2 ^ (8 * c)) :: opB n c
theorem opB_len (n : Int) : ∀ c, (opB n c).length = c
 | 0 => rfl
 | c + 1 => by simp [opB, opB_len n c]
end Go.Proofs.YtffemeicclhioaaGreatDoor
namespace Go.Proofs.YtffemeicclhioaaGreatDoor
open Go.RowKit

/-- An instruction as the writer sees it. -/
structure InsE where
 op : Int
 d : Int
 a : Int
 bb : Int
 n : Int
 f : Int
 args : List (Int × Int)
 outs : List Int
def InsE.spare (i : InsE) : Bool := spareOf i.op i.d i.a i.bb i.n i.f i.args.length i.outs.length
end Go.Proofs.YtffemeicclhioaaGreatDoor
namespace Go.Proofs.YtffemeicclhioaaGreatDoor
open Go.RowKit

abbrev short : Nat := 9223372036854775808
structure FuncE where
 params : List (Int × Int)
 results : Int
 homes : List Int
 slots : List Int
 blocks : List (List InsE)
end Go.Proofs.YtffemeicclhioaaGreatDoor
namespace Go.Proofs.YtffemeicclhioaaGreatDoor
open Go.RowKit

structure ProgE where
 funcs : List FuncE
 externs : List (List Int × Int)
end Go.Proofs.YtffemeicclhioaaGreatDoor
namespace Go.Proofs.YtffemeicclhioaaGreatDoor
open Go.ChangeShapes Go.WideShapes Go.ChangeAt Go.RowKit Go.Deep

def i64Ok (n : Int) : Prop := -9223372036854775808 ≤ n ∧ n ≤ 9223372036854775807
/-- How much is in it. -/
def mIns (i : InsE) : Nat := 8 + i.args.length + i.outs.length
namespace bulkE
theorem one_le {H : Type} (d : DataW H) : 1 ≤ Rows.uptoBulk d := by
 cases d with
 | lit l => cases l <;> simp [Rows.uptoBulk]
 | _ => simp [Rows.uptoBulk]
theorem range_le {H : Type} (D : Nat → DataW H) (m : Nat → Nat) : ∀ (len : Nat), (∀ i, i < len → m i ≤ Rows.uptoBulk (D i)) → ((List.range len).map m).sum ≤ Rows.uptoBulkAll ((List.range len).map D)
 | 0, _ => by simp [Rows.uptoBulkAll]
 | n + 1, h => by
  have happ : ∀ (a b : List (DataW H)), Rows.uptoBulkAll (a ++ b) = Rows.uptoBulkAll a + Rows.uptoBulkAll b := by
   intro a b
   induction a with
   | nil => simp [Rows.uptoBulkAll]
   | cons x r ih => simp only [List.cons_append, Rows.uptoBulkAll, ih]; omega
  have h1 := range_le D m n (fun i hi => h i (by omega))
  have h2 := h n (by omega)
  rw [List.range_succ, List.map_append, List.map_append, List.sum_append, happ]
  simp [Rows.uptoBulkAll]
  omega
end bulkE
theorem Tryz.cellsIntE : Tryz.prog.cellsOf 3 = 1 := by kernel_rfl
theorem Tryz.cellsU64E : Tryz.prog.cellsOf 73 = 1 := by kernel_rfl
theorem Tryz.cellsIntsE : Tryz.prog.cellsOf 23 = 1 := by kernel_rfl
theorem Tryz.cellsArgE : Tryz.prog.cellsOf 116 = 2 := by kernel_rfl
theorem Tryz.cellsArgsE : Tryz.prog.cellsOf 74 = 1 := by kernel_rfl
theorem Tryz.cellsParamE : Tryz.prog.cellsOf 105 = 2 := by kernel_rfl
theorem Tryz.cellsParamsE : Tryz.prog.cellsOf 67 = 1 := by kernel_rfl
theorem Tryz.cellsInsE : Tryz.prog.cellsOf 76 = 8 := by kernel_rfl
theorem Tryz.cellsInssE : Tryz.prog.cellsOf 72 = 1 := by kernel_rfl
theorem Tryz.cellsBlocksE : Tryz.prog.cellsOf 68 = 1 := by kernel_rfl
theorem Tryz.cellsSigE : Tryz.prog.cellsOf 79 = 2 := by kernel_rfl
theorem Tryz.cellsSigsE : Tryz.prog.cellsOf 27 = 1 := by kernel_rfl
theorem Tryz.cellsFuncE : Tryz.prog.cellsOf 70 = 5 := by kernel_rfl
theorem Tryz.cellsFuncsE : Tryz.prog.cellsOf 26 = 1 := by kernel_rfl
theorem field_ofE {α : Type} {tr : TypeId → List Value → Option α} {fs : Array Field} {cs : List Value} {xs : List α} {c : Nat} {i : Nat} {f : Field} {y : α}
 (hf : ∀ (i : Nat) (f : Field), fs[i]? = some f → tr f.type ((cs.drop f.offset).take (Tryz.prog.cellsOf f.type)) = xs[i]?) (hi : fs[i]? = some f) (hc : Tryz.prog.cellsOf f.type = c) (hy : xs[i]? = some y) : tr f.type ((cs.drop f.offset).take c) = some y := by
 rw [← hy, ← hf i f hi, hc]
theorem list2E {α : Type} {l : List α} (h : l.length = 2) : ∃ a0 a1, l = [a0, a1] := by
 match l, h with
 | [a0, a1], _ => exact ⟨_, _, rfl⟩
theorem list5E {α : Type} {l : List α} (h : l.length = 5) : ∃ a0 a1 a2 a3 a4, l = [a0, a1, a2, a3, a4] := by
 match l, h with
 | [a0, a1, a2, a3, a4], _ => exact ⟨_, _, _, _, _, rfl⟩
theorem list8E {α : Type} {l : List α} (h : l.length = 8) : ∃ a0 a1 a2 a3 a4 a5 a6 a7, l = [a0, a1, a2, a3, a4, a5, a6, a7] := by
 match l, h with
 | [a0, a1, a2, a3, a4, a5, a6, a7], _ => exact ⟨_, _, _, _, _, _, _, _, rfl⟩
theorem maxLen_short {n : Nat} (h : n ≤ maxLen) : n < short := by unfold maxLen at h; unfold short; omega
section
variable {H : Type} {enc : TypeId × Value → H} {w : World} {held : Bool}
abbrev TrE (enc : TypeId × Value → H) (w : World) (held : Bool) (n : Nat) (t : TypeId) (cs : List Value) (y : DataW H × List MemPlace) : Prop := DataW.trod enc Tryz.prog w 0 (fun _ => true) held n t cs = some y
theorem int_openE {n : Nat} {v : Value} {y : DataW H × List MemPlace} (h : TrE enc w held n 3 [v] y) : ∃ x : Int, v = .int .i64 x ∧ i64Ok x := by
 obtain ⟨x, e, -, hw⟩ := DataW.trod_int Tryz.underlying3 h
 have hb := bounds_i64 hw
 exact ⟨x, List.head_eq_of_cons_eq e, by unfold i64Ok; omega⟩
theorem u64_openE {n : Nat} {v : Value} {y : DataW H × List MemPlace} (h : TrE enc w held n 73 [v] y) : ∃ x : Int, v = .int .u64 x ∧ 0 ≤ x ∧ x < 18446744073709551616 := by
 obtain ⟨x, e, -, hw⟩ := DataW.trod_int Tryz.underlying73 h
 refine ⟨x, List.head_eq_of_cons_eq e, ?_⟩
 have hb := bounds_u64 hw
 omega
/-- A list of structs, opened: whatever its elements are. -/
theorem list_openE {t e : TypeId} {α : Type} [Inhabited α] {size : Nat} {msr : α → Nat} {One : Array Value × α → Prop} (ht : Tryz.prog.underlying t = some (.slice e)) (hc : Tryz.prog.cellsOf e = size) (hs : 0 < size)
 (elem : ∀ n cs y, cs.length = size → TrE enc w held n e cs y → ∃ x : α, One (cs.toArray, x) ∧ msr x ≤ Rows.uptoBulk y.1)
 {n : Nat} {v : Value} {y : DataW H × List MemPlace} (h : TrE enc w held n t [v] y) :
 ∃ ps : List (Array Value × α), LsB size w w.heap.size v ps ∧ (∀ q ∈ ps, One q) ∧ (ps.map fun q => msr q.2).sum + 1 ≤ Rows.uptoBulk y.1 ∧ ps.length < short ∧ ∃ a c, v = .slice a ps.length c ∧ ps.length ≤ c := by
 rcases open_slice ht h with ⟨h0, h1⟩ | ⟨a, len, cap, m, k, D, Pl, h0, -, hl, hm, hmm, h1, hx⟩
 ·
  simp at h0
  subst h0 h1
  exact ⟨[], Or.inl ⟨rfl, _, _, rfl⟩, fun q hq => (by cases hq), (by simp [Rows.uptoBulk]), (by simp), _, _, rfl, (by simp)⟩
 ·
  simp at h0
  subst h0 h1
  simp at hmm
  subst hmm
  have each : ∀ i, i < len → ∃ q : Array Value × α, One q ∧ w.cells? 0 (a.add (i * size)) size = some q.1.toList ∧ msr q.2 ≤ Rows.uptoBulk (D i) := by
   intro i hi
   obtain ⟨cs', g1, g2⟩ := hx i (by omega)
   rw [hc] at g1
   obtain ⟨-, hlen, -⟩ := World.cells?_some g1
   obtain ⟨x, g3, g4⟩ := elem k cs' _ hlen g2
   exact ⟨(cs'.toArray, x), g3, by simpa using g1, g4⟩
  haveI : Inhabited (Array Value × α) := ⟨(#[], default)⟩
  obtain ⟨f, hf⟩ := choose_lt each
  have hlenp : ((List.range len).map f).length = len := by simp
  refine ⟨(List.range len).map f, ?_, ?_, ?_, ?_, ?_⟩
  ·
   rcases Nat.eq_zero_or_pos len with rfl | hpos
   ·
    exact Or.inl ⟨rfl, _, _, rfl⟩
   ·
    obtain ⟨sb, so, spot⟩ := a
    have g := World.cells?_some (hf 0 hpos).2.1
    have hcell := g.2.2 0 hs
    have hlt : 0 < (f 0).1.toList.length := by rw [g.2.1]; exact hs
    have hsp : spot = none := by
     rw [List.getElem?_eq_getElem hlt] at hcell
     simpa [Addr.add] using World.cell?_spot hcell
    subst hsp
    have hbk : sb < w.heap.size := by
     rw [List.getElem?_eq_getElem hlt] at hcell
     have := World.block_lt_of_cell? w _ hcell
     simpa [Addr.add] using this
    refine Or.inr ⟨sb, so, _, by rw [hlenp], hbk, fun i hi => ?_⟩
    have hi' : i < len := by simpa using hi
    have g := World.cells?_some (hf i hi').2.1
    intro j x hx'
    have hj : j < size := by
     have := (List.getElem?_eq_some_iff.1 hx').1
     rw [List.getElem_map, List.getElem_range, g.2.1] at this
     exact this
    have := g.2.2 j hj
    rw [List.getElem_map, List.getElem_range] at hx'
    rw [hx'] at this
    rw [Go.WideShapes.add_plain, Go.WideShapes.add_plain] at this
    exact this
  ·
   intro q hq
   obtain ⟨i, hi, rfl⟩ := List.mem_map.1 hq
   exact (hf i (List.mem_range.1 hi)).1
  ·
   rw [List.map_map]
   have := bulkE.range_le D (fun i => msr (f i).2) len (fun i hi => (hf i hi).2.2)
   simp only [Rows.uptoBulk]
   have e : (fun q : Array Value × α => msr q.2) ∘ f = fun i => msr (f i).2 := rfl
   rw [e]
   omega
  ·
   rw [hlenp]; exact maxLen_short (by omega)
  ·
   exact ⟨_, _, by rw [hlenp], by rw [hlenp]; exact hl⟩
theorem nums_openE {n : Nat} {v : Value} {y : DataW H × List MemPlace} (h : TrE enc w held n 23 [v] y) :
 ∃ ns : List Int, RsB w w.heap.size v ns ∧ (∀ x ∈ ns, i64Ok x) ∧ ns.length + 1 ≤ Rows.uptoBulk y.1 ∧ ns.length < short ∧ ∃ a c, v = .slice a ns.length c ∧ ns.length ≤ c := by
 obtain ⟨ps, h1, h2, h3, h4, a, c, h5, h6⟩ := list_openE (msr := fun _ => 1) (One := fun q : Array Value × Int => q.1 = #[.int .i64 q.2] ∧ i64Ok q.2) Tryz.underlying23 Tryz.cellsIntE (by decide) (fun n cs y hl hy => by
  match cs, hl with
  | [v], _ =>
   obtain ⟨x, rfl, hx⟩ := int_openE hy
   exact ⟨x, ⟨rfl, hx⟩, bulkE.one_le _⟩) h
 have hl : (ps.map (·.2)).length = ps.length := by simp
 refine ⟨ps.map (·.2), ?_, ?_, ?_, by omega, a, c, by rw [hl]; exact h5, by rw [hl]; exact h6⟩
 ·
  rcases h1 with ⟨e, p, cap, hv⟩ | ⟨sb, so, cap, hv, hb, hc⟩
  ·
   exact Or.inl ⟨by rw [e]; rfl, p, cap, hv⟩
  ·
   refine Or.inr ⟨sb, so, cap, by rw [hl]; exact hv, hb, fun i hi => ?_⟩
   rw [hl] at hi
   have h0 := (h2 ps[i] (List.getElem_mem hi)).1
   have := hc i hi 0 (.int .i64 ps[i].2) (by rw [h0]; rfl)
   rw [Nat.mul_one, Nat.add_zero] at this
   rw [this]
   simp [List.getD, hi]
 ·
  intro x hx
  obtain ⟨q, hq, rfl⟩ := List.mem_map.1 hx
  exact (h2 q hq).2
 ·
  have e : (ps.map fun _ => 1).sum = ps.length := by
   clear h1 h2 h3 h4 h5 h6 hl
   induction ps with
   | nil => rfl
   | cons a r ih => simp [ih]; omega
  rw [hl]
  rw [e] at h3
  exact h3
theorem two_openE {t : TypeId} {fs : Array Field} {f0 f1 : Field} (ht : Tryz.prog.underlying t = some (.struct fs)) (hf : fs = #[f0, f1]) (t0 : f0.type = 3) (t1 : f1.type = 3) (o0 : f0.offset = 0) (o1 : f1.offset = 1)
 {n : Nat} {cs : List Value} {y : DataW H × List MemPlace} (hl : cs.length = 2) (h : TrE enc w held n t cs y) : ∃ x : Int × Int, (cs.toArray = #[.int .i64 x.1, .int .i64 x.2] ∧ i64Ok x.1 ∧ i64Ok x.2) ∧ 3 ≤ Rows.uptoBulk y.1 := by
 obtain ⟨c0, c1, rfl⟩ := list2E hl
 obtain ⟨xs, k, -, hx, -, hxl, hall⟩ := DataW.trod_struct ht h
 subst hf
 obtain ⟨y0, y1, rfl⟩ := list2E hxl
 have g0 := hall 0 f0 rfl
 have g1 := hall 1 f1 rfl
 rw [t0, o0, Tryz.cellsIntE] at g0
 rw [t1, o1, Tryz.cellsIntE] at g1
 obtain ⟨x0, rfl, b0⟩ := int_openE (v := c0) (y := y0) g0
 obtain ⟨x1, rfl, b1⟩ := int_openE (v := c1) (y := y1) g1
 refine ⟨(x0, x1), ⟨rfl, b0, b1⟩, ?_⟩
 rw [congrArg Prod.fst hx]
 have := bulkE.one_le y0.1
 have := bulkE.one_le y1.1
 simp only [List.map_cons, List.map_nil, Rows.uptoBulk, Rows.uptoBulkAll]
 omega
end
end Go.Proofs.YtffemeicclhioaaGreatDoor
namespace Go.Proofs.YtffemeicclhioaaGreatDoor
open Go.RowKit

def numText (k : Nat) (n : Int) : List UInt8 := if k = 2 ∧ n = -1 then [45] else Lib.itoa n
def numsText (k : Nat) (ns : List Int) : List UInt8 := ns.flatMap fun n => 32 :: numText k n
def nm (k : Nat) : List UInt8 := ([[114, 101, 103, 115], [115, 112], [108, 105, 110, 107], [116, 101, 109, 112, 115], [97, 114, 103, 115], [114, 101, 115, 117, 108, 116, 115], [115, 97, 118, 101, 115], [97, 108, 105, 103, 110], [115, 104, 97, 100, 111, 119], [98, 121, 114, 101, 102], [112, 97, 105, 114, 115]] : List (List UInt8)).getD k []
def itemText (k : Nat) (ns : List Int) : List UInt8 := nm k ++ numsText k ns ++ [59, 10]
end Go.Proofs.YtffemeicclhioaaGreatDoor
namespace Go.Proofs.YtffemeicclhioaaGreatDoor
open Go.RowKit

theorem ltc {w : World} {b o : Nat} {v : Value} (h : w.cell? ⟨b, o, none⟩ = some v) : b < w.heap.size := by
 rcases Nat.lt_or_ge b w.heap.size with h' | h'
 ·
  exact h'
 ·
  simp [World.cell?, Array.getElem?_eq_none h'] at h
end Go.Proofs.YtffemeicclhioaaGreatDoor
namespace Go.Proofs.YtffemeicclhioaaGreatDoor
open Go.RowKit

def boxOf (r sp lk t0 t1 : Int) (va vr vs : Value) (al sh by_ : Int) (pr : Bool) : Array Value :=
 #[.int .i64 r, .int .i64 sp, .int .i64 lk, .int .i64 t0, .int .i64 t1, va, vr, vs, .int .i64 al, .int .i64 sh, .int .i64 by_, .bool pr]
end Go.Proofs.YtffemeicclhioaaGreatDoor
namespace Go.Proofs.YtffemeicclhioaaGreatDoor

def kindN (r : Nat) : Nat :=
 if r = 32 ∨ r = 9 ∨ r = 10 then 1 else if r = 35 then 2 else if 97 ≤ r ∧ r ≤ 122 then 3 else if 48 ≤ r ∧ r ≤ 57 then 4 else if r = 45 then 5 else if r = 59 then 6 else 0
/-- A piece: its kind (3 a word, 4 a number, 5 a dash, 6 a stop), where it begins, where it ends. -/
structure Tk where
 k : Nat
 a : Nat
 e : Nat
def addR (l : List Tk) (k p : Nat) : List Tk :=
 match l.getLast? with
 | some t => if (k = 3 ∨ k = 4) ∧ t.k = k ∧ t.e = p then l.dropLast ++ [⟨t.k, t.a, p + 1⟩] else l ++ [⟨k, p, p + 1⟩]
 | none => l ++ [⟨k, p, p + 1⟩]
/-! ### the text, cut -/
theorem addR_new (l : List Tk) (k p : Nat) (h : ∀ t, l.getLast? = some t → (k = 3 ∨ k = 4) → t.k = k → t.e ≠ p) : addR l k p = l ++ [⟨k, p, p + 1⟩] := by
 unfold addR
 split
 ·
  rename_i t ht
  rw [if_neg]
  rintro ⟨h1, h2, h3⟩
  exact h t ht h1 h2 h3
 ·
  rfl
end Go.Proofs.YtffemeicclhioaaGreatDoor
namespace Go.Proofs.YtffemeicclhioaaGreatDoor
open Go.RowKit

theorem Zak {p : Prop} (h : p) : Hid p := h
theorem Zae {p : Prop} (h : Hid p) : p := h
theorem info_partsP {P : Program} {t : TypeId} {z : Value} {n b : Nat} (h : (P.info? t).map (fun i => (i.zero, i.size, i.bytes)) = some (some z, n, b)) : ∃ i, P.info? t = some i ∧ i.zero = some z ∧ i.size = n ∧ i.bytes = b := by
 obtain ⟨i, hi, e⟩ := Option.map_eq_some_iff.1 h
 simp only [Prod.mk.injEq] at e
 exact ⟨i, hi, e.1, e.2.1, e.2.2⟩
end Go.Proofs.YtffemeicclhioaaGreatDoor
namespace Go.Proofs.YtffemeicclhioaaGreatDoor
open Go.RowKit

/-- The letter of a kind. -/
def kb (k : Nat) : Nat := if k = 3 then 119 else if k = 4 then 110 else if k = 5 then 45 else 59
/-- The last piece does not go on at pos. -/
def Shut (s : ByteArray) (l : List Tk) (pos : Nat) : Prop := ∀ t, l.getLast? = some t → t.e ≤ pos ∧ (t.e = pos → pos < s.size → (t.k = 3 ∨ t.k = 4) → kindN (s.get! pos).toNat ≠ t.k)
theorem Shut.on {s : ByteArray} {l : List Tk} {pos q : Nat} (h : Shut s l pos) (hq : pos < q) : Shut s l q := fun t ht => ⟨by have := (h t ht).1; omega, fun e => by have := (h t ht).1; omega⟩
theorem Shut.new {s : ByteArray} {l : List Tk} {pos : Nat} (h : Shut s l pos) (hp : pos < s.size) : addR l (kindN (s.get! pos).toNat) pos = l ++ [⟨kindN (s.get! pos).toNat, pos, pos + 1⟩] :=
 addR_new l _ pos (fun t ht h3 hk he => (h t ht).2 he hp (by omega) hk.symm)
end Go.Proofs.YtffemeicclhioaaGreatDoor
namespace Go.Proofs.YtffemeicclhioaaGreatDoor
open Go.RowKit

theorem Tryz.infoI : (Tryz.prog.info? 3).map (fun i => (i.zero, i.size, i.bytes)) = some (some (.int .i64 0), 1, 8) := by kernel_rfl
def iCells (ns : List Int) : List Value := ns.map fun n => .int .i64 n
theorem own1_form {w : World} {base n : Nat} {v : Value} {xs : List Value} (h : w.ownsRow base 3 1 v (n + 1) xs) : ∃ g cap, v = .slice (some ⟨g, 0, none⟩) (n + 1) cap := by
 rcases h.2 with ⟨_, e⟩ | ⟨g, cap, cur, e, -⟩
 ·
  omega
 ·
  exact ⟨g, cap, e⟩
end Go.Proofs.YtffemeicclhioaaGreatDoor
