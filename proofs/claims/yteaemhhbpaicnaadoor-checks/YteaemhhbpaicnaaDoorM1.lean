/-
  Own work of the verifier: EncW, EncL, EncS, EncA, EncB, EncC, EncD, EncF, EncG, EncH, as one text.
-/
import Derived.Test.YteaemhhbpaicnaaDoorProg
import Derived.WalkKit
import Derived.Handy
import Derived.Lib.OthersKept
import Derived.Recover
import Derived.WalkLawsBesides
import Derived.Laws.AppendOwn
import Derived.Deep.MidRow
import Derived.Laws.Tables
import Derived.Laws.Rows
import Derived.Deep.RegionWith
import Derived.Deep.Onto
import Derived.Deep.RegionLaw
namespace Go.Proofs.YteaemhhbpaicnaaDoor
open Go.RowKit

theorem hideE {p : Prop} (h : p) : Hid p := h
theorem unhideE {p : Prop} (h : Hid p) : p := h
def byteOf (v : Int) : UInt8 := UInt8.ofNat (v % 256).toNat
theorem info_partsE {P : Program} {t : TypeId} {z : Value} {n b : Nat} (h : (P.info? t).map (fun i => (i.zero, i.size, i.bytes)) = some (some z, n, b)) : ∃ i, P.info? t = some i ∧ i.zero = some z ∧ i.size = n ∧ i.bytes = b := by
  cases hi : P.info? t with
  | none => simp [hi] at h
  | some i => simp [hi] at h; exact ⟨i, rfl, h.1, h.2.1, h.2.2⟩
theorem Tryd.infoU : (Tryd.prog.info? 5).map (fun i => (i.zero, i.size, i.bytes)) = some (some (.int .u8 0), 1, 1) := by kernel_rfl
end Go.Proofs.YteaemhhbpaicnaaDoor
namespace Go.Proofs.YteaemhhbpaicnaaDoor
open Go.RowKit

/-- A list of numbers that lies below the writer. -/
def RsB (w : World) (b : Nat) (v : Value) (ns : List Int) : Prop := (ns = [] ∧ ∃ p cap, v = .slice p 0 cap) ∨ ∃ sb so cap, v = .slice (some ⟨sb, so, none⟩) ns.length cap ∧ sb < b ∧ ∀ i, i < ns.length → w.cell? ⟨sb, so + i, none⟩ = some (.int .i64 (ns.getD i 0))
theorem RsB.shape {w : World} {b : Nat} {v : Value} {ns : List Int} (h : RsB w b v ns) : ∃ p cap, v = .slice p ns.length cap := by
  rcases h with ⟨rfl, p, cap, e⟩ | ⟨sb, so, cap, e, _⟩
  · exact ⟨p, cap, e⟩
  · exact ⟨_, _, e⟩
theorem getD_mid {ns : List Int} {k : Nat} (hk : k < ns.length) : ns.take (k + 1) = ns.take k ++ [ns.getD k 0] := by
  rw [List.take_succ_eq_append_getElem hk]
  simp [List.getD, hk]
end Go.Proofs.YteaemhhbpaicnaaDoor
namespace Go.Proofs.YteaemhhbpaicnaaDoor
open Go.RowKit

/-- A list of structs that lies below the writer: each one's cells, and what it stands for. -/
def LsB {α : Type} (size : Nat) (w : World) (b : Nat) (v : Value) (ps : List (Array Value × α)) : Prop := (ps = [] ∧ ∃ p cap, v = .slice p 0 cap) ∨ ∃ sb so cap, v = .slice (some ⟨sb, so, none⟩) ps.length cap ∧ sb < b ∧ ∀ i (hi : i < ps.length), w.rangeAt sb (so + i * size) ps[i].1.toList
theorem LsB.shape {α : Type} {size : Nat} {w : World} {b : Nat} {v : Value} {ps : List (Array Value × α)} (h : LsB size w b v ps) : ∃ p cap, v = .slice p ps.length cap := by
  rcases h with ⟨rfl, p, cap, e⟩ | ⟨sb, so, cap, e, _⟩
  · exact ⟨p, cap, e⟩
  · exact ⟨_, _, e⟩
theorem take_mid {α : Type} {ps : List α} {k : Nat} (hk : k < ps.length) : ps.take (k + 1) = ps.take k ++ [ps[k]] := List.take_succ_eq_append_getElem hk
theorem Tryd.infArgs : (Tryd.prog.info? 82).map (·.size) = some 2 := by kernel_rfl
theorem Tryd.infInss : (Tryd.prog.info? 54).map (·.size) = some 8 := by kernel_rfl
end Go.Proofs.YteaemhhbpaicnaaDoor
namespace Go.Proofs.YteaemhhbpaicnaaDoor
open Go.RowKit

theorem cells_of_row {w : World} {T : Nat} {t : TypeId} {cs : Array Value} {fr : Nat × Nat} (h : w.heap[T]? = some (.cells cs t fr)) (j : Nat) : w.cell? ⟨T, j, none⟩ = cs[j]? := cell_of_row w T j cs t fr h
end Go.Proofs.YteaemhhbpaicnaaDoor
namespace Go.Proofs.YteaemhhbpaicnaaDoor
open Go.RowKit

def needL : List Int := [0, 9, 3, 7, 7, 7, 7, 7, 7, 7, 15, 15, 112, 112, 2, 7, 64, 48, 8]
def needOf (op : Int) : Int := needL.getD op.toNat 0
/-- What each instruction needs lies in its global. -/
def NeedsAt (w : World) : Prop := ∀ k : Nat, k < 19 → w.cell? ⟨1, k, none⟩ = some (.int .u8 (needL.getD k 0))
set_option maxRecDepth 100000 in
theorem needs_c (op : Int) (h : 1 ≤ op) (h2 : op ≤ 18) (w : World) (hg : NeedsAt w) : Calls Tryd.prog 55 #[.int .i64 op] w fun e w' => e = .returned (.int .u8 (needOf op)) ∧ w' = w := by
  have cc : w.cell? ⟨1, op.toNat, none⟩ = some (.int .u8 (needOf op)) := hg op.toNat (by omega)
  clear hg
  go_enter Tryd.func55, Tryd.ntmps55
  go_wp2
  go_ret
  exact ⟨rfl, rfl⟩
def fillU (bs : List Bool) : Nat → Int
  | 0 => 0
  | k + 1 => if bs.getD k false then bits .or .u8 (fillU bs k) ((2 : Int) ^ k) else fillU bs k
theorem Tryd.idx0 (v0 v1 v2 v3 v4 v5 v6 : Value) (w : World) : Sem.run Tryd.prog (Instr.index 136 (.agg #[v0, v1, v2, v3, v4, v5, v6]) (.int .i64 0)) w = .ok v0 w := by kernel_rfl
theorem Tryd.idx1 (v0 v1 v2 v3 v4 v5 v6 : Value) (w : World) : Sem.run Tryd.prog (Instr.index 136 (.agg #[v0, v1, v2, v3, v4, v5, v6]) (.int .i64 1)) w = .ok v1 w := by kernel_rfl
theorem Tryd.idx2 (v0 v1 v2 v3 v4 v5 v6 : Value) (w : World) : Sem.run Tryd.prog (Instr.index 136 (.agg #[v0, v1, v2, v3, v4, v5, v6]) (.int .i64 2)) w = .ok v2 w := by kernel_rfl
theorem Tryd.idx3 (v0 v1 v2 v3 v4 v5 v6 : Value) (w : World) : Sem.run Tryd.prog (Instr.index 136 (.agg #[v0, v1, v2, v3, v4, v5, v6]) (.int .i64 3)) w = .ok v3 w := by kernel_rfl
theorem Tryd.idx4 (v0 v1 v2 v3 v4 v5 v6 : Value) (w : World) : Sem.run Tryd.prog (Instr.index 136 (.agg #[v0, v1, v2, v3, v4, v5, v6]) (.int .i64 4)) w = .ok v4 w := by kernel_rfl
theorem Tryd.idx5 (v0 v1 v2 v3 v4 v5 v6 : Value) (w : World) : Sem.run Tryd.prog (Instr.index 136 (.agg #[v0, v1, v2, v3, v4, v5, v6]) (.int .i64 5)) w = .ok v5 w := by kernel_rfl
theorem Tryd.idx6 (v0 v1 v2 v3 v4 v5 v6 : Value) (w : World) : Sem.run Tryd.prog (Instr.index 136 (.agg #[v0, v1, v2, v3, v4, v5, v6]) (.int .i64 6)) w = .ok v6 w := by kernel_rfl
set_option maxHeartbeats 2000000 in
set_option maxRecDepth 100000 in
theorem filled_c (op d a bb n f : Int) (pa po : Option Addr) (na no ca co : Nat) (w : World) (b0 b1 b2 b3 b4 b5 b6 : Bool) (h0 : (d != 0) = b0) (h1 : (a != 0) = b1) (h2 : (bb != 0) = b2) (h3 : (n != 0) = b3) (h4 : (f != 0) = b4) (h5 : ((na : Int) != 0) = b5) (h6 : ((no : Int) != 0) = b6) : Calls Tryd.prog 60 #[.agg #[.int .i64 op, .int .i64 d, .int .i64 a, .int .i64 bb, .int .u64 n, .int .i64 f, .slice pa na ca, .slice po no co]] w fun e w' => e = .returned (.int .u8 (fillU [b0, b1, b2, b3, b4, b5, b6] 7)) ∧ ∃ X Y, w' = (w.alloc X).alloc Y := by
  go_enter Tryd.func60, Tryd.ntmps60
  go_wp2
  generalize hW : (w.alloc _).alloc _ = W
  have HW := hideE (show ∃ X Y, W = (w.alloc X).alloc Y from ⟨_, _, hW.symm⟩)
  clear hW
  try simp only [h0, h1, h2, h3, h4, h5, h6]
  clear h0 h1 h2 h3 h4 h5 h6
  go_loopw [32, 4] (fun j s w' => ∃ k : Nat, j = .int .i64 k ∧ k ≤ 7 ∧ s = .int .u8 (fillU [b0, b1, b2, b3, b4, b5, b6] k) ∧ w' = W) (fun j _ _ => 7 - (intOf j).toNat)
  case atStart => exact ⟨0, rfl, by omega, rfl, rfl⟩
  case round =>
    obtain ⟨k, rfl, hk, rfl, rfl⟩ := hrel
    match k, hk with
    | 0, _ =>
      cases h0 : b0 with
      | true =>
        have HF := hideE (show fillU [b0, b1, b2, b3, b4, b5, b6] 1 = bits .or .u8 (fillU [b0, b1, b2, b3, b4, b5, b6] 0) 1 from by rw [h0]; rfl)
        rw [h0] at HF
        generalize fillU [b0, b1, b2, b3, b4, b5, b6] 0 = z at HF
        go_wp2
        rw [Tryd.idx0]
        go_wp2
        go_roundw
        case rel => exact ⟨1, rfl, by omega, by rw [unhideE HF], trivial⟩
        case measure => simp [intOf]
      | false =>
        go_wp2
        rw [Tryd.idx0]
        go_wp2
        go_roundw
        case rel => exact ⟨1, rfl, by omega, rfl, trivial⟩
        case measure => simp [intOf]
    | 1, _ =>
      cases h1 : b1 with
      | true =>
        have HF := hideE (show fillU [b0, b1, b2, b3, b4, b5, b6] 2 = bits .or .u8 (fillU [b0, b1, b2, b3, b4, b5, b6] 1) 2 from by rw [h1]; rfl)
        rw [h1] at HF
        generalize fillU [b0, b1, b2, b3, b4, b5, b6] 1 = z at HF
        go_wp2
        rw [Tryd.idx1]
        go_wp2
        go_roundw
        case rel => exact ⟨2, rfl, by omega, by rw [unhideE HF], trivial⟩
        case measure => simp [intOf]
      | false =>
        go_wp2
        rw [Tryd.idx1]
        go_wp2
        go_roundw
        case rel => exact ⟨2, rfl, by omega, rfl, trivial⟩
        case measure => simp [intOf]
    | 2, _ =>
      cases h2 : b2 with
      | true =>
        have HF := hideE (show fillU [b0, b1, b2, b3, b4, b5, b6] 3 = bits .or .u8 (fillU [b0, b1, b2, b3, b4, b5, b6] 2) 4 from by rw [h2]; rfl)
        rw [h2] at HF
        generalize fillU [b0, b1, b2, b3, b4, b5, b6] 2 = z at HF
        go_wp2
        rw [Tryd.idx2]
        go_wp2
        go_roundw
        case rel => exact ⟨3, rfl, by omega, by rw [unhideE HF], trivial⟩
        case measure => simp [intOf]
      | false =>
        go_wp2
        rw [Tryd.idx2]
        go_wp2
        go_roundw
        case rel => exact ⟨3, rfl, by omega, rfl, trivial⟩
        case measure => simp [intOf]
    | 3, _ =>
      cases h3 : b3 with
      | true =>
        have HF := hideE (show fillU [b0, b1, b2, b3, b4, b5, b6] 4 = bits .or .u8 (fillU [b0, b1, b2, b3, b4, b5, b6] 3) 8 from by rw [h3]; rfl)
        rw [h3] at HF
        generalize fillU [b0, b1, b2, b3, b4, b5, b6] 3 = z at HF
        go_wp2
        rw [Tryd.idx3]
        go_wp2
        go_roundw
        case rel => exact ⟨4, rfl, by omega, by rw [unhideE HF], trivial⟩
        case measure => simp [intOf]
      | false =>
        go_wp2
        rw [Tryd.idx3]
        go_wp2
        go_roundw
        case rel => exact ⟨4, rfl, by omega, rfl, trivial⟩
        case measure => simp [intOf]
    | 4, _ =>
      cases h4 : b4 with
      | true =>
        have HF := hideE (show fillU [b0, b1, b2, b3, b4, b5, b6] 5 = bits .or .u8 (fillU [b0, b1, b2, b3, b4, b5, b6] 4) 16 from by rw [h4]; rfl)
        rw [h4] at HF
        generalize fillU [b0, b1, b2, b3, b4, b5, b6] 4 = z at HF
        go_wp2
        rw [Tryd.idx4]
        go_wp2
        go_roundw
        case rel => exact ⟨5, rfl, by omega, by rw [unhideE HF], trivial⟩
        case measure => simp [intOf]
      | false =>
        go_wp2
        rw [Tryd.idx4]
        go_wp2
        go_roundw
        case rel => exact ⟨5, rfl, by omega, rfl, trivial⟩
        case measure => simp [intOf]
    | 5, _ =>
      cases h5 : b5 with
      | true =>
        have HF := hideE (show fillU [b0, b1, b2, b3, b4, b5, b6] 6 = bits .or .u8 (fillU [b0, b1, b2, b3, b4, b5, b6] 5) 32 from by rw [h5]; rfl)
        rw [h5] at HF
        generalize fillU [b0, b1, b2, b3, b4, b5, b6] 5 = z at HF
        go_wp2
        rw [Tryd.idx5]
        go_wp2
        go_roundw
        case rel => exact ⟨6, rfl, by omega, by rw [unhideE HF], trivial⟩
        case measure => simp [intOf]
      | false =>
        go_wp2
        rw [Tryd.idx5]
        go_wp2
        go_roundw
        case rel => exact ⟨6, rfl, by omega, rfl, trivial⟩
        case measure => simp [intOf]
    | 6, _ =>
      cases h6 : b6 with
      | true =>
        have HF := hideE (show fillU [b0, b1, b2, b3, b4, b5, b6] 7 = bits .or .u8 (fillU [b0, b1, b2, b3, b4, b5, b6] 6) 64 from by rw [h6]; rfl)
        rw [h6] at HF
        generalize fillU [b0, b1, b2, b3, b4, b5, b6] 6 = z at HF
        go_wp2
        rw [Tryd.idx6]
        go_wp2
        go_roundw
        case rel => exact ⟨7, rfl, by omega, by rw [unhideE HF], trivial⟩
        case measure => simp [intOf]
      | false =>
        go_wp2
        rw [Tryd.idx6]
        go_wp2
        go_roundw
        case rel => exact ⟨7, rfl, by omega, rfl, trivial⟩
        case measure => simp [intOf]
    | 7, _ =>
      go_wp2
      go_ret
      exact ⟨rfl, unhideE HW⟩
    | k + 8, hk => omega
def spareOf (op d a bb n f : Int) (na no : Nat) : Bool := bits .andNot .u8 (fillU [d != 0, a != 0, bb != 0, n != 0, f != 0, (na : Int) != 0, (no : Int) != 0] 7) (needOf op) != 0
theorem NeedsAt.below {w w' : World} (h : NeedsAt w) (hb : 1 < w.heap.size) (hw : Below w.heap.size w w') : NeedsAt w' := fun k hk => (hw.cell (p := ⟨1, k, none⟩) hb).trans (h k hk)
set_option maxHeartbeats 4000000 in
set_option maxRecDepth 100000 in
theorem hasSpare_c (op d a bb n f : Int) (pa po : Option Addr) (na no ca co : Nat) (w : World) (h : 1 ≤ op) (h2 : op ≤ 18) (hg : NeedsAt w) (hb : 1 < w.heap.size) : Calls Tryd.prog 57 #[.agg #[.int .i64 op, .int .i64 d, .int .i64 a, .int .i64 bb, .int .u64 n, .int .i64 f, .slice pa na ca, .slice po no co]] w fun e w' => e = .returned (.bool (spareOf op d a bb n f na no)) ∧ Below w.heap.size w w' := by
  have HG := hideE hg
  clear hg
  unfold spareOf
  go_enter Tryd.func57, Tryd.ntmps57
  go_wp2_with fail
  go_region_with (first
    | (go_at_call 60; refine (filled_c _ _ _ _ _ _ _ _ _ _ _ _ _ _ _ _ _ _ _ _ rfl rfl rfl rfl rfl rfl rfl).mono ?_; rintro e w' ⟨rfl, X, Y, rfl⟩)
    | (go_at_call 55; refine (needs_c op h h2 _ ((unhideE HG).below hb (by go_grown))).mono ?_; rintro e w' ⟨rfl, rfl⟩))
  all_goals go_wp2
  all_goals go_ret
  all_goals exact ⟨rfl, by go_grown⟩
end Go.Proofs.YteaemhhbpaicnaaDoor
namespace Go.Proofs.YteaemhhbpaicnaaDoor
open Go.RowKit

def opB (n : Int) : Nat → List UInt8
  | 0 => []
  | c + 1 => byteOf (n / 2 ^ (8 * c)) :: opB n c
theorem opB_len (n : Int) : ∀ c, (opB n c).length = c
  | 0 => rfl
  | c + 1 => by simp [opB, opB_len n c]
end Go.Proofs.YteaemhhbpaicnaaDoor
namespace Go.Proofs.YteaemhhbpaicnaaDoor
open Go.RowKit

/-- An instruction as the writer sees it. -/
structure InsE where
  op : Int
  d : Int
  a : Int
  bb : Int
  n : Int
  f : Int
  args : List (Int × Int)
  outs : List Int
def InsE.spare (i : InsE) : Bool := spareOf i.op i.d i.a i.bb i.n i.f i.args.length i.outs.length
end Go.Proofs.YteaemhhbpaicnaaDoor
namespace Go.Proofs.YteaemhhbpaicnaaDoor
open Go.RowKit

/-- A list of one-cell values that lies below the writer. -/
def VsB {α : Type} (w : World) (b : Nat) (v : Value) (ps : List (Value × α)) : Prop := (ps = [] ∧ ∃ p cap, v = .slice p 0 cap) ∨ ∃ sb so cap, v = .slice (some ⟨sb, so, none⟩) ps.length cap ∧ sb < b ∧ ∀ i (hi : i < ps.length), w.cell? ⟨sb, so + i, none⟩ = some ps[i].1
theorem VsB.shape {α : Type} {w : World} {b : Nat} {v : Value} {ps : List (Value × α)} (h : VsB w b v ps) : ∃ p cap, v = .slice p ps.length cap := by
  rcases h with ⟨rfl, p, cap, e⟩ | ⟨sb, so, cap, e, _⟩
  · exact ⟨p, cap, e⟩
  · exact ⟨_, _, e⟩
end Go.Proofs.YteaemhhbpaicnaaDoor
namespace Go.Proofs.YteaemhhbpaicnaaDoor
open Go.RowKit

abbrev short : Nat := 9223372036854775808
/-- An instruction's cells, and what it stands for. -/
def InsAt (w : World) (b : Nat) (p : Array Value × InsE) : Prop := ∃ (av ov : Value) (pa : List (Array Value × (Int × Int))), p.1 = #[.int .i64 p.2.op, .int .i64 p.2.d, .int .i64 p.2.a, .int .i64 p.2.bb, .int .u64 p.2.n, .int .i64 p.2.f, av, ov] ∧ pa.map (·.2) = p.2.args ∧ (∀ q ∈ pa, q.1 = #[.int .i64 q.2.1, .int .i64 q.2.2]) ∧ LsB 2 w b av pa ∧ RsB w b ov p.2.outs ∧ p.2.args.length < short ∧ p.2.outs.length < short
theorem InsAt.size {w : World} {b : Nat} {p : Array Value × InsE} (h : InsAt w b p) : p.1.size = 8 ∧ p.1.all (·.oneCell') = true := by
  obtain ⟨av, ov, pa, h1, h2, h3, h4, h5, h6⟩ := h
  obtain ⟨q, c, e⟩ := h4.shape
  obtain ⟨q', c', e'⟩ := h5.shape
  rw [h1, e, e']
  exact ⟨rfl, by simp [Value.oneCell']⟩
def BlkAt (w : World) (b : Nat) (p : Value × List InsE) : Prop := ∃ ps : List (Array Value × InsE), ps.map (·.2) = p.2 ∧ LsB 8 w b p.1 ps ∧ (∀ q ∈ ps, InsAt w b q) ∧ ps.length < short
theorem BlkAt.shape {w : World} {b : Nat} {p : Value × List InsE} (h : BlkAt w b p) : ∃ q n cap, p.1 = .slice q n cap := by
  obtain ⟨ps, h1, h2, h3, h4⟩ := h
  obtain ⟨q, c, e⟩ := h2.shape
  exact ⟨q, _, c, e⟩
structure FuncE where
  params : List (Int × Int)
  results : Int
  homes : List Int
  slots : List Int
  blocks : List (List InsE)
structure FuncV (w : World) (b : Nat) (f : FuncE) (pv hv sv bv : Value) (pp : List (Array Value × (Int × Int))) (pb : List (Value × List InsE)) : Prop where
  params : pp.map (·.2) = f.params
  vals : ∀ q ∈ pp, q.1 = #[.int .i64 q.2.1, .int .i64 q.2.2]
  pls : LsB 2 w b pv pp
  hls : RsB w b hv f.homes
  sls : RsB w b sv f.slots
  bls : VsB w b bv pb
  blocks : pb.map (·.2) = f.blocks
  each : ∀ q ∈ pb, BlkAt w b q
  lens : pp.length < short ∧ f.homes.length < short ∧ f.slots.length < short ∧ pb.length < short
end Go.Proofs.YteaemhhbpaicnaaDoor
namespace Go.Proofs.YteaemhhbpaicnaaDoor
open Go.RowKit

def SigAt (w : World) (b : Nat) (p : Array Value × (List Int × Int)) : Prop := ∃ lv, p.1 = #[lv, .int .i64 p.2.2] ∧ RsB w b lv p.2.1 ∧ p.2.1.length < short
theorem SigAt.size {w : World} {b : Nat} {p : Array Value × (List Int × Int)} (h : SigAt w b p) : p.1.size = 2 ∧ p.1.all (·.oneCell') = true := by
  obtain ⟨lv, h1, h2, h3⟩ := h
  obtain ⟨q, c, e⟩ := h2.shape
  rw [h1, e]
  exact ⟨rfl, by simp [Value.oneCell']⟩
def FuncAt (w : World) (b : Nat) (p : Array Value × FuncE) : Prop := ∃ pv hv sv bv pp pb, p.1 = #[pv, .int .i64 p.2.results, hv, sv, bv] ∧ FuncV w b p.2 pv hv sv bv pp pb
theorem FuncAt.size {w : World} {b : Nat} {p : Array Value × FuncE} (h : FuncAt w b p) : p.1.size = 5 ∧ p.1.all (·.oneCell') = true := by
  obtain ⟨pv, hv, sv, bv, pp, pb, h1, h2⟩ := h
  obtain ⟨q, c, e⟩ := h2.pls.shape
  obtain ⟨q2, c2, e2⟩ := h2.hls.shape
  obtain ⟨q3, c3, e3⟩ := h2.sls.shape
  obtain ⟨q4, c4, e4⟩ := h2.bls.shape
  rw [h1, e, e2, e3, e4]
  exact ⟨rfl, by simp [Value.oneCell']⟩
structure ProgE where
  funcs : List FuncE
  externs : List (List Int × Int)
structure ProgV (w : World) (b : Nat) (p : ProgE) (fv ev : Value) (pf : List (Array Value × FuncE)) (pe : List (Array Value × (List Int × Int))) : Prop where
  fls : LsB 5 w b fv pf
  els : LsB 2 w b ev pe
  funcs : pf.map (·.2) = p.funcs
  externs : pe.map (·.2) = p.externs
  feach : ∀ q ∈ pf, FuncAt w b q
  eeach : ∀ q ∈ pe, SigAt w b q
  lens : pf.length < short ∧ pe.length < short
end Go.Proofs.YteaemhhbpaicnaaDoor
