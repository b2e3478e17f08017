/-
  Encodes: signatures, operands, what an instruction needs. Own work of the verifier.
-/
import Derived.Test.YthnmdbddfmgdlaaDoorEncA
import Derived.Deep.RegionWith
import Derived.Deep.Onto
namespace Go.Proofs.YthnmdbddfmgdlaaDoor
open Go.RowKit

def encSig (s : List Int × Int) : Option (List UInt8) := seqE (encL 0 8 (encNum 0 8) s.1) (encNum 0 4 s.2)
theorem encSig_len (s : List Int × Int) (bs : List UInt8) (h : encSig s = some bs) : bs.length ≤ 1000 := by
  have := seqE_len (A := 1 + 1 * 8) (C := 1) (fun x hx => encL_len (encNum 0 8) 1 (fun _ _ h => Nat.le_of_eq (encNum_len h)) 0 8 s.1 x hx) (fun x hx => Nat.le_of_eq (encNum_len hx)) h
  omega
/-- What the writer leaves of a row that it does not own. -/
theorem ws_row {w w1 : World} {b : Nat} {z : Array Value} {t : TypeId} {fr : Nat × Nat} (hb : b < w.heap.size) (ht : t ≠ 5) (hws : Ws (w.alloc (.cells z t fr)) w1 b) : w1.heap[w.heap.size]? = some (.cells z t fr) :=
  hws.oth w.heap.size _ (heap_alloc_new w _) (by intro e; injection e with e; omega) (by intro c fz e; injection e with e1 e2 e3; exact ht e2)
set_option maxHeartbeats 1000000 in
set_option maxRecDepth 100000 in
theorem sig_c (b : Nat) (v : Value) (l : List UInt8) (lv : Value) (ns : List Int) (r : Int) (w : World) (h : Wt w b v l) (hl : l.length ≤ 89000000000) (hns : RsB w b lv ns) (hlen : ns.length < 9223372036854775808) : Calls Tryd.prog 47 #[.pointer (some ⟨b, 0, none⟩), .agg #[lv, .int .i64 r]] w (EncE b l (encSig (ns, r)) w) := by
  have hbl := h.lt
  have HN := hideE (fun X : Obj => writeInts_c 60 (fun _ _ => rfl) (encNum 0 8) 1 (fun _ _ h => Nat.le_of_eq (encNum_len h)) (by omega) b 89000000000 (by omega) (fun x v l w hw hl => words_c b v l x w hw (by omega)) 0 8 (by omega) v l lv ns (w.alloc X) (h.alloc X) hl (hns.ws (ws_alloc w X b (by omega))) hlen)
  have HA := hideE (fun X : Obj => ws_alloc w X b (by omega))
  obtain ⟨pp, cap, hlv⟩ := hns.shape
  subst hlv
  clear h hns
  go_enter Tryd.func47, Tryd.ntmps47
  go_wp2_with fail
  refine (unhideE HN _).mono ?_
  rintro e w1 ⟨hws, hm⟩
  have q := (cells_of_row (ws_row hbl (by decide) hws))
  have c1 := q 1
  simp at c1
  have HWS := hideE ((unhideE HA _).trans hws)
  clear hws q
  cases hr : encL 0 8 (encNum 0 8) ns with
  | none =>
    rw [hr] at hm
    subst hm
    exact ⟨rfl, unhideE HWS, by unfold encSig; simp only [hr, seqE]⟩
  | some bs =>
    rw [hr] at hm
    obtain ⟨rfl, v1, hw1⟩ := hm
    have hb1 := encL_len (encNum 0 8) 1 (fun _ _ h => Nat.le_of_eq (encNum_len h)) 0 8 _ _ hr
    have HR := hideE hr
    have HM := hideE (number_c b v1 (l ++ bs) r 0 4 w1 hw1 (by simp; omega))
    clear hr hw1
    go_wp2_with fail
    refine (unhideE HM).mono ?_
    rintro e w2 ⟨hws2, hm⟩
    cases hr2 : encNum 0 4 r with
    | none =>
      rw [hr2] at hm
      subst hm
      exact ⟨rfl, (unhideE HWS).trans hws2, by unfold encSig; simp only [unhideE HR, hr2, seqE]⟩
    | some cs =>
      rw [hr2] at hm
      obtain ⟨rfl, v2, hw2⟩ := hm
      have HR2 := hideE hr2
      clear hr2
      go_wp2
      refine bodyPost_end (results_none (fn := Tryd.f47) rfl _ _ _) rfl ?_
      refine ⟨(unhideE HWS).trans hws2, ?_⟩
      unfold encSig
      simp only [unhideE HR, unhideE HR2, seqE]
      exact ⟨trivial, v2, by rw [← List.append_assoc]; exact hw2⟩
def encWidth (op : Int) : Nat := if op = 10 ∨ op = 11 then 1 else 8
set_option maxRecDepth 100000 in
theorem widthOf_c (op : Int) (w : World) : Calls Tryd.prog 93 #[.int .i64 op] w fun e w' => e = .returned (.int .i64 (encWidth op)) ∧ w' = w := by
  by_cases h1 : op = 10
  · subst h1
    go_enter Tryd.func93, Tryd.ntmps93
    go_wp2
    go_ret
    exact ⟨rfl, rfl⟩
  · by_cases h2 : op = 11
    · subst h2
      go_enter Tryd.func93, Tryd.ntmps93
      go_wp2
      go_ret
      exact ⟨rfl, rfl⟩
    · have HR := hideE (show encWidth op = 8 by unfold encWidth; simp [h1, h2])
      have e1 : (op == 10) = false := by simp [h1]
      have e2 : (op == 11) = false := by simp [h2]
      go_enter Tryd.func93, Tryd.ntmps93
      go_wp2
      all_goals first | (rename_i hh; rw [e1, e2] at hh; simp at hh; done) | (go_ret; exact ⟨by rw [unhideE HR]; rfl, rfl⟩)
theorem has_c (s one : Int) (w : World) : Calls Tryd.prog 85 #[.int .u8 s, .int .u8 one] w fun e w' => e = .returned (.bool (bits .and .u8 s one != 0)) ∧ w' = w := by
  go_enter Tryd.func85, Tryd.ntmps85
  go_wp2
  go_ret
  exact ⟨rfl, rfl⟩
def needL : List Int := [0, 9, 3, 7, 7, 7, 7, 7, 7, 7, 15, 15, 112, 112, 2, 7, 64, 48, 8]
def needOf (op : Int) : Int := needL.getD op.toNat 0
/-- What each instruction needs lies in its global. -/
def NeedsAt (w : World) : Prop := ∀ k : Nat, k < 19 → w.cell? ⟨1, k, none⟩ = some (.int .u8 (needL.getD k 0))
theorem NeedsAt.ws {w w' : World} {b : Nat} (h : NeedsAt w) (hb : 1 < b) (hw : Ws w w' b) : NeedsAt w' := fun k hk => (hw.low.cell (p := ⟨1, k, none⟩) hb).trans (h k hk)
set_option maxRecDepth 100000 in
theorem needs_c (op : Int) (h : 1 ≤ op) (h2 : op ≤ 18) (w : World) (hg : NeedsAt w) : Calls Tryd.prog 84 #[.int .i64 op] w fun e w' => e = .returned (.int .u8 (needOf op)) ∧ w' = w := by
  have cc : w.cell? ⟨1, op.toNat, none⟩ = some (.int .u8 (needOf op)) := hg op.toNat (by omega)
  clear hg
  go_enter Tryd.func84, Tryd.ntmps84
  go_wp2
  go_ret
  exact ⟨rfl, rfl⟩
def fillU (bs : List Bool) : Nat → Int
  | 0 => 0
  | k + 1 => if bs.getD k false then bits .or .u8 (fillU bs k) ((2 : Int) ^ k) else fillU bs k
theorem Tryd.idx0 (v0 v1 v2 v3 v4 v5 v6 : Value) (w : World) : Sem.run Tryd.prog (Instr.index 170 (.agg #[v0, v1, v2, v3, v4, v5, v6]) (.int .i64 0)) w = .ok v0 w := by kernel_rfl
theorem Tryd.idx1 (v0 v1 v2 v3 v4 v5 v6 : Value) (w : World) : Sem.run Tryd.prog (Instr.index 170 (.agg #[v0, v1, v2, v3, v4, v5, v6]) (.int .i64 1)) w = .ok v1 w := by kernel_rfl
theorem Tryd.idx2 (v0 v1 v2 v3 v4 v5 v6 : Value) (w : World) : Sem.run Tryd.prog (Instr.index 170 (.agg #[v0, v1, v2, v3, v4, v5, v6]) (.int .i64 2)) w = .ok v2 w := by kernel_rfl
theorem Tryd.idx3 (v0 v1 v2 v3 v4 v5 v6 : Value) (w : World) : Sem.run Tryd.prog (Instr.index 170 (.agg #[v0, v1, v2, v3, v4, v5, v6]) (.int .i64 3)) w = .ok v3 w := by kernel_rfl
theorem Tryd.idx4 (v0 v1 v2 v3 v4 v5 v6 : Value) (w : World) : Sem.run Tryd.prog (Instr.index 170 (.agg #[v0, v1, v2, v3, v4, v5, v6]) (.int .i64 4)) w = .ok v4 w := by kernel_rfl
theorem Tryd.idx5 (v0 v1 v2 v3 v4 v5 v6 : Value) (w : World) : Sem.run Tryd.prog (Instr.index 170 (.agg #[v0, v1, v2, v3, v4, v5, v6]) (.int .i64 5)) w = .ok v5 w := by kernel_rfl
theorem Tryd.idx6 (v0 v1 v2 v3 v4 v5 v6 : Value) (w : World) : Sem.run Tryd.prog (Instr.index 170 (.agg #[v0, v1, v2, v3, v4, v5, v6]) (.int .i64 6)) w = .ok v6 w := by kernel_rfl
set_option maxHeartbeats 2000000 in
set_option maxRecDepth 100000 in
theorem filled_c (op d a bb n f : Int) (pa po : Option Addr) (na no ca co : Nat) (w : World) (b0 b1 b2 b3 b4 b5 b6 : Bool) (h0 : (d != 0) = b0) (h1 : (a != 0) = b1) (h2 : (bb != 0) = b2) (h3 : (n != 0) = b3) (h4 : (f != 0) = b4) (h5 : ((na : Int) != 0) = b5) (h6 : ((no : Int) != 0) = b6) : Calls Tryd.prog 92 #[.agg #[.int .i64 op, .int .i64 d, .int .i64 a, .int .i64 bb, .int .u64 n, .int .i64 f, .slice pa na ca, .slice po no co]] w fun e w' => e = .returned (.int .u8 (fillU [b0, b1, b2, b3, b4, b5, b6] 7)) ∧ ∃ X Y, w' = (w.alloc X).alloc Y := by
  go_enter Tryd.func92, Tryd.ntmps92
  go_wp2
  generalize hW : (w.alloc _).alloc _ = W
  have HW := hideE (show ∃ X Y, W = (w.alloc X).alloc Y from ⟨_, _, hW.symm⟩)
  clear hW
  try simp only [h0, h1, h2, h3, h4, h5, h6]
  clear h0 h1 h2 h3 h4 h5 h6
  go_loopw [32, 4] (fun j s w' => ∃ k : Nat, j = .int .i64 k ∧ k ≤ 7 ∧ s = .int .u8 (fillU [b0, b1, b2, b3, b4, b5, b6] k) ∧ w' = W) (fun j _ _ => 7 - (intOf j).toNat)
  case atStart => exact ⟨0, rfl, by omega, rfl, rfl⟩
  case round =>
    obtain ⟨k, rfl, hk, rfl, rfl⟩ := hrel
    match k, hk with
    | 0, _ =>
      cases h0 : b0 with
      | true =>
        have HF := hideE (show fillU [b0, b1, b2, b3, b4, b5, b6] 1 = bits .or .u8 (fillU [b0, b1, b2, b3, b4, b5, b6] 0) 1 from by rw [h0]; rfl)
        rw [h0] at HF
        generalize fillU [b0, b1, b2, b3, b4, b5, b6] 0 = z at HF
        go_wp2
        rw [Tryd.idx0]
        go_wp2
        go_roundw
        case rel => exact ⟨1, rfl, by omega, by rw [unhideE HF], trivial⟩
        case measure => simp [intOf]
      | false =>
        go_wp2
        rw [Tryd.idx0]
        go_wp2
        go_roundw
        case rel => exact ⟨1, rfl, by omega, rfl, trivial⟩
        case measure => simp [intOf]
    | 1, _ =>
      cases h1 : b1 with
      | true =>
        have HF := hideE (show fillU [b0, b1, b2, b3, b4, b5, b6] 2 = bits .or .u8 (fillU [b0, b1, b2, b3, b4, b5, b6] 1) 2 from by rw [h1]; rfl)
        rw [h1] at HF
        generalize fillU [b0, b1, b2, b3, b4, b5, b6] 1 = z at HF
        go_wp2
        rw [Tryd.idx1]
        go_wp2
        go_roundw
        case rel => exact ⟨2, rfl, by omega, by rw [unhideE HF], trivial⟩
        case measure => simp [intOf]
      | false =>
        go_wp2
        rw [Tryd.idx1]
        go_wp2
        go_roundw
        case rel => exact ⟨2, rfl, by omega, rfl, trivial⟩
        case measure => simp [intOf]
    | 2, _ =>
      cases h2 : b2 with
      | true =>
        have HF := hideE (show fillU [b0, b1, b2, b3, b4, b5, b6] 3 = bits .or .u8 (fillU [b0, b1, b2, b3, b4, b5, b6] 2) 4 from by rw [h2]; rfl)
        rw [h2] at HF
        generalize fillU [b0, b1, b2, b3, b4, b5, b6] 2 = z at HF
        go_wp2
        rw [Tryd.idx2]
        go_wp2
        go_roundw
        case rel => exact ⟨3, rfl, by omega, by rw [unhideE HF], trivial⟩
        case measure => simp [intOf]
      | false =>
        go_wp2
        rw [Tryd.idx2]
        go_wp2
        go_roundw
        case rel => exact ⟨3, rfl, by omega, rfl, trivial⟩
        case measure => simp [intOf]
    | 3, _ =>
      cases h3 : b3 with
      | true =>
        have HF := hideE (show fillU [b0, b1, b2, b3, b4, b5, b6] 4 = bits .or .u8 (fillU [b0, b1, b2, b3, b4, b5, b6] 3) 8 from by rw [h3]; rfl)
        rw [h3] at HF
        generalize fillU [b0, b1, b2, b3, b4, b5, b6] 3 = z at HF
        go_wp2
        rw [Tryd.idx3]
        go_wp2
        go_roundw
        case rel => exact ⟨4, rfl, by omega, by rw [unhideE HF], trivial⟩
        case measure => simp [intOf]
      | false =>
        go_wp2
        rw [Tryd.idx3]
        go_wp2
        go_roundw
        case rel => exact ⟨4, rfl, by omega, rfl, trivial⟩
        case measure => simp [intOf]
    | 4, _ =>
      cases h4 : b4 with
      | true =>
        have HF := hideE (show fillU [b0, b1, b2, b3, b4, b5, b6] 5 = bits .or .u8 (fillU [b0, b1, b2, b3, b4, b5, b6] 4) 16 from by rw [h4]; rfl)
        rw [h4] at HF
        generalize fillU [b0, b1, b2, b3, b4, b5, b6] 4 = z at HF
        go_wp2
        rw [Tryd.idx4]
        go_wp2
        go_roundw
        case rel => exact ⟨5, rfl, by omega, by rw [unhideE HF], trivial⟩
        case measure => simp [intOf]
      | false =>
        go_wp2
        rw [Tryd.idx4]
        go_wp2
        go_roundw
        case rel => exact ⟨5, rfl, by omega, rfl, trivial⟩
        case measure => simp [intOf]
    | 5, _ =>
      cases h5 : b5 with
      | true =>
        have HF := hideE (show fillU [b0, b1, b2, b3, b4, b5, b6] 6 = bits .or .u8 (fillU [b0, b1, b2, b3, b4, b5, b6] 5) 32 from by rw [h5]; rfl)
        rw [h5] at HF
        generalize fillU [b0, b1, b2, b3, b4, b5, b6] 5 = z at HF
        go_wp2
        rw [Tryd.idx5]
        go_wp2
        go_roundw
        case rel => exact ⟨6, rfl, by omega, by rw [unhideE HF], trivial⟩
        case measure => simp [intOf]
      | false =>
        go_wp2
        rw [Tryd.idx5]
        go_wp2
        go_roundw
        case rel => exact ⟨6, rfl, by omega, rfl, trivial⟩
        case measure => simp [intOf]
    | 6, _ =>
      cases h6 : b6 with
      | true =>
        have HF := hideE (show fillU [b0, b1, b2, b3, b4, b5, b6] 7 = bits .or .u8 (fillU [b0, b1, b2, b3, b4, b5, b6] 6) 64 from by rw [h6]; rfl)
        rw [h6] at HF
        generalize fillU [b0, b1, b2, b3, b4, b5, b6] 6 = z at HF
        go_wp2
        rw [Tryd.idx6]
        go_wp2
        go_roundw
        case rel => exact ⟨7, rfl, by omega, by rw [unhideE HF], trivial⟩
        case measure => simp [intOf]
      | false =>
        go_wp2
        rw [Tryd.idx6]
        go_wp2
        go_roundw
        case rel => exact ⟨7, rfl, by omega, rfl, trivial⟩
        case measure => simp [intOf]
    | 7, _ =>
      go_wp2
      go_ret
      exact ⟨rfl, unhideE HW⟩
    | k + 8, hk => omega
def spareOf (op d a bb n f : Int) (na no : Nat) : Bool := bits .andNot .u8 (fillU [d != 0, a != 0, bb != 0, n != 0, f != 0, (na : Int) != 0, (no : Int) != 0] 7) (needOf op) != 0
theorem NeedsAt.below {w w' : World} (h : NeedsAt w) (hb : 1 < w.heap.size) (hw : Below w.heap.size w w') : NeedsAt w' := fun k hk => (hw.cell (p := ⟨1, k, none⟩) hb).trans (h k hk)
set_option maxHeartbeats 4000000 in
set_option maxRecDepth 100000 in
theorem hasSpare_c (op d a bb n f : Int) (pa po : Option Addr) (na no ca co : Nat) (w : World) (h : 1 ≤ op) (h2 : op ≤ 18) (hg : NeedsAt w) (hb : 1 < w.heap.size) : Calls Tryd.prog 83 #[.agg #[.int .i64 op, .int .i64 d, .int .i64 a, .int .i64 bb, .int .u64 n, .int .i64 f, .slice pa na ca, .slice po no co]] w fun e w' => e = .returned (.bool (spareOf op d a bb n f na no)) ∧ Below w.heap.size w w' := by
  have HG := hideE hg
  clear hg
  unfold spareOf
  go_enter Tryd.func83, Tryd.ntmps83
  go_wp2_with fail
  go_region_with (first
    | (go_at_call 92; refine (filled_c _ _ _ _ _ _ _ _ _ _ _ _ _ _ _ _ _ _ _ _ rfl rfl rfl rfl rfl rfl rfl).mono ?_; rintro e w' ⟨rfl, X, Y, rfl⟩)
    | (go_at_call 84; refine (needs_c op h h2 _ ((unhideE HG).below hb (by go_grown))).mono ?_; rintro e w' ⟨rfl, rfl⟩))
  all_goals go_wp2
  all_goals go_ret
  all_goals exact ⟨rfl, by go_grown⟩
end Go.Proofs.YthnmdbddfmgdlaaDoor
