/-
  Own work of the verifier: EncQ, EncR, EncT, EncU, EncV, as one text.
-/
import Derived.Test.YteaemhhbpaicnaaDoorM1
import Derived.Deep.QuietTactic
import Derived.BigQuiet
namespace Go.Proofs.YteaemhhbpaicnaaDoor
open Go.RowKit

set_option maxHeartbeats 1000000 in
theorem in_c (n lo hi : Int) (w : World) : Calls Tryd.prog 11 #[.int .i64 n, .int .i64 lo, .int .i64 hi] w fun e w' => e = .returned (.bool (decide (lo ≤ n ∧ n ≤ hi))) ∧ w' = w := by
  by_cases h1 : lo ≤ n
  · by_cases h2 : n ≤ hi
    · have hd : decide (lo ≤ n ∧ n ≤ hi) = true := by simp; omega
      rw [hd]
      clear hd
      go_enter Tryd.func11, Tryd.ntmps11
      go_wp2
      go_ret
      exact ⟨rfl, rfl⟩
    · have hd : decide (lo ≤ n ∧ n ≤ hi) = false := by simp; omega
      rw [hd]
      clear hd
      go_enter Tryd.func11, Tryd.ntmps11
      go_wp2
      go_ret
      exact ⟨rfl, rfl⟩
  · have hd : decide (lo ≤ n ∧ n ≤ hi) = false := by simp; omega
    rw [hd]
    clear hd
    go_enter Tryd.func11, Tryd.ntmps11
    go_wp2
    go_ret
    exact ⟨rfl, rfl⟩
/-- The pen at block b: its bytes, and whether something is wrong. -/
structure Pn (w : World) (b : Nat) (l : List UInt8) (bad : Bool) : Prop where
  c0 : w.cell? ⟨b, 0, none⟩ = some (.string ⟨l.toArray⟩)
  c1 : w.cell? ⟨b, 1, none⟩ = some (.bool bad)
  f0 : w.frozen? ⟨b, 0, none⟩ = false
  f1 : w.frozen? ⟨b, 1, none⟩ = false
theorem conv1 (g : Nat) (x : Int) (u : World) (hc : u.cell? ⟨g, 0, none⟩ = some (.int .u8 (x % 256))) : (convert 124 9 (.slice (some ⟨g, 0, none⟩) 1 1)).run Tryd.prog u = .ok (.string ⟨#[byteOf x]⟩) u :=
  run_convert_bytes_back u 124 9 5 ⟨g, 0, none⟩ 1 [byteOf x] Tryd.underlying124 Tryd.underlying5 Tryd.underlying9 (fun j hj => by
    have : j = 0 := by simp at hj; exact hj
    subst this
    rw [show (⟨g, 0, none⟩ : Addr).add 0 = ⟨g, 0, none⟩ by unfold Addr.add; simp, hc]
    have : ((byteOf x).toNat : Int) = x % 256 := by unfold byteOf; simp; omega
    simp [this])
theorem str_app (l : List UInt8) (y : UInt8) : ((⟨l.toArray⟩ : ByteArray) ++ ⟨#[y]⟩) = ⟨(l ++ [y]).toArray⟩ := by
  apply ByteArray.ext
  simp
theorem pn_after {w : World} {b : Nat} {l : List UInt8} {bad : Bool} (h : Pn w b l bad) (t : Bool) (y : UInt8) (X : Obj) : Pn (((w.setCell ⟨b, 1, none⟩ (.bool t)).setCell ⟨b, 0, none⟩ (.string (⟨l.toArray⟩ ++ ⟨#[y]⟩))).alloc X).drew b (l ++ [y]) t ∧ w.grownBy (((w.setCell ⟨b, 1, none⟩ (.bool t)).setCell ⟨b, 0, none⟩ (.string (⟨l.toArray⟩ ++ ⟨#[y]⟩))).alloc X).drew (some b) := by
  have hbl : b < w.heap.size := World.block_lt_of_cell? w _ h.c0
  rw [str_app]
  have e1 : (w.setCell ⟨b, 1, none⟩ (.bool t)).cell? ⟨b, 0, none⟩ = some (.string ⟨l.toArray⟩) := (World.cell?_setCell_other _ _ _ _ (by simp)).trans h.c0
  have e2 : (w.setCell ⟨b, 1, none⟩ (.bool t)).cell? ⟨b, 1, none⟩ = some (.bool t) := World.cell?_setCell_same _ _ _ h.c1
  refine ⟨⟨?_, ?_, ?_, ?_⟩, ?_⟩
  · exact (World.cell?_alloc_past _ _ _ (by simpa using hbl)).trans (World.cell?_setCell_same _ _ _ e1)
  · exact (World.cell?_alloc_past _ _ _ (by simpa using hbl)).trans ((World.cell?_setCell_other _ _ _ _ (by simp)).trans e2)
  · exact (World.frozen?_alloc_past _ _ _ (by simpa using hbl)).trans (by rw [World.frozen?_setCell, World.frozen?_setCell]; exact h.f0)
  · exact (World.frozen?_alloc_past _ _ _ (by simpa using hbl)).trans (by rw [World.frozen?_setCell, World.frozen?_setCell]; exact h.f1)
  · have q := (Below.refl ((w.setCell ⟨b, 1, none⟩ (.bool t)).setCell ⟨b, 0, none⟩ (.string ⟨(l ++ [y]).toArray⟩)).heap.size ((w.setCell ⟨b, 1, none⟩ (.bool t)).setCell ⟨b, 0, none⟩ (.string ⟨(l ++ [y]).toArray⟩))).alloc (Nat.le_refl _) X
    refine ⟨rfl, rfl, rfl, ?_, fun k hk hne => ?_⟩
    · exact Nat.le_trans (by simp) q.size
    · have hkb : k ≠ b := fun e => hne (by rw [e])
      refine (q.block k (by simpa using hk)).trans ?_
      exact (heap_setCell_other _ ⟨b, 0, none⟩ k _ hkb).trans (heap_setCell_other _ ⟨b, 1, none⟩ k _ hkb)
set_option maxHeartbeats 2000000 in
set_option maxRecDepth 100000 in
theorem pnum_c (b : Nat) (l : List UInt8) (bad : Bool) (x lo hi : Int) (w : World) (h : Pn w b l bad) (hl : l.length < 9223372036854775807) :
    Calls Tryd.prog 34 #[.pointer (some ⟨b, 0, none⟩), .int .i64 x, .int .i64 lo, .int .i64 hi] w fun e w' => e = .returned (.tuple #[]) ∧ Pn w' b (l ++ [byteOf x]) (bad || !decide (lo ≤ x ∧ x ≤ hi)) ∧ w.grownBy w' (some b) := by
  have c0 := h.c0
  have c1 := h.c1
  have f0 := h.f0
  have f1 := h.f1
  have hbl : b < w.heap.size := World.block_lt_of_cell? w _ c0
  cases bad with
  | true =>
    go_enter Tryd.func34, Tryd.ntmps34
    go_wp2_with fail
    have HCV := hideE (fun u h => conv1 w.heap.size x u h)
    have hcv := unhideE HCV
    have hcw : ∀ u : World, u.cell? ⟨w.heap.size, 0, none⟩ = some (.int .u8 (IntKind.u8.wrap x)) → (convert 124 9 (.slice (some ⟨w.heap.size, 0, none⟩) 1 1)).run Tryd.prog u = .ok (.string ⟨#[byteOf x]⟩) u := fun u h => conv1 w.heap.size x u h
    have hnl : ¬ 9223372036854775807 < l.length + 1 := by omega
    have cA : ∀ X, ((w.setCell ⟨b, 1, none⟩ (.bool true)).alloc X).cell? ⟨b, 0, none⟩ = some (.string ⟨l.toArray⟩) := fun X => (World.cell?_alloc_past _ _ _ (by simpa using hbl)).trans ((World.cell?_setCell_other _ _ _ _ (by simp)).trans c0)
    have fA : ∀ X, ((w.setCell ⟨b, 1, none⟩ (.bool true)).alloc X).frozen? ⟨b, 0, none⟩ = false := fun X => (World.frozen?_alloc_past _ _ _ (by simpa using hbl)).trans (by rw [World.frozen?_setCell]; exact f0)
    go_region
    refine bodyPost_end (results_none (fn := Tryd.f34) rfl _ _ _) rfl ?_
    exact ⟨rfl, pn_after h true (byteOf x) _⟩
  | false =>
    have HIN := hideE (in_c x lo hi w)
    cases hd : decide (lo ≤ x ∧ x ≤ hi) with
    | true =>
      rw [hd] at HIN
      go_enter Tryd.func34, Tryd.ntmps34
      go_wp2_with fail
      refine (unhideE HIN).mono ?_
      rintro e wx ⟨rfl, hwx⟩
      subst wx
      go_wp2_with fail
      have HCV := hideE (fun u h => conv1 w.heap.size x u h)
      have hcv := unhideE HCV
      have hcw : ∀ u : World, u.cell? ⟨w.heap.size, 0, none⟩ = some (.int .u8 (IntKind.u8.wrap x)) → (convert 124 9 (.slice (some ⟨w.heap.size, 0, none⟩) 1 1)).run Tryd.prog u = .ok (.string ⟨#[byteOf x]⟩) u := fun u h => conv1 w.heap.size x u h
      have hnl : ¬ 9223372036854775807 < l.length + 1 := by omega
      have cA : ∀ X, ((w.setCell ⟨b, 1, none⟩ (.bool false)).alloc X).cell? ⟨b, 0, none⟩ = some (.string ⟨l.toArray⟩) := fun X => (World.cell?_alloc_past _ _ _ (by simpa using hbl)).trans ((World.cell?_setCell_other _ _ _ _ (by simp)).trans c0)
      have fA : ∀ X, ((w.setCell ⟨b, 1, none⟩ (.bool false)).alloc X).frozen? ⟨b, 0, none⟩ = false := fun X => (World.frozen?_alloc_past _ _ _ (by simpa using hbl)).trans (by rw [World.frozen?_setCell]; exact f0)
      go_region
      refine bodyPost_end (results_none (fn := Tryd.f34) rfl _ _ _) rfl ?_
      exact ⟨rfl, pn_after h false (byteOf x) _⟩
    | false =>
      rw [hd] at HIN
      go_enter Tryd.func34, Tryd.ntmps34
      go_wp2_with fail
      refine (unhideE HIN).mono ?_
      rintro e wx ⟨rfl, hwx⟩
      subst wx
      go_wp2_with fail
      have HCV := hideE (fun u h => conv1 w.heap.size x u h)
      have hcv := unhideE HCV
      have hcw : ∀ u : World, u.cell? ⟨w.heap.size, 0, none⟩ = some (.int .u8 (IntKind.u8.wrap x)) → (convert 124 9 (.slice (some ⟨w.heap.size, 0, none⟩) 1 1)).run Tryd.prog u = .ok (.string ⟨#[byteOf x]⟩) u := fun u h => conv1 w.heap.size x u h
      have hnl : ¬ 9223372036854775807 < l.length + 1 := by omega
      have cA : ∀ X, ((w.setCell ⟨b, 1, none⟩ (.bool true)).alloc X).cell? ⟨b, 0, none⟩ = some (.string ⟨l.toArray⟩) := fun X => (World.cell?_alloc_past _ _ _ (by simpa using hbl)).trans ((World.cell?_setCell_other _ _ _ _ (by simp)).trans c0)
      have fA : ∀ X, ((w.setCell ⟨b, 1, none⟩ (.bool true)).alloc X).frozen? ⟨b, 0, none⟩ = false := fun X => (World.frozen?_alloc_past _ _ _ (by simpa using hbl)).trans (by rw [World.frozen?_setCell]; exact f0)
      go_region
      refine bodyPost_end (results_none (fn := Tryd.f34) rfl _ _ _) rfl ?_
      exact ⟨rfl, pn_after h true (byteOf x) _⟩
end Go.Proofs.YteaemhhbpaicnaaDoor
namespace Go.Proofs.YteaemhhbpaicnaaDoor
open Go.RowKit

/-- What the pen writes: its bytes, and whether something was wrong. -/
abbrev Pr := List UInt8 × Bool
def penNum (lo hi x : Int) : Pr := ([byteOf x], !decide (lo ≤ x ∧ x ≤ hi))
def penSeq (a c : Pr) : Pr := (a.1 ++ c.1, a.2 || c.2)
def penAll {α : Type} (one : α → Pr) : List α → Pr
  | [] => ([], false)
  | x :: xs => penSeq (one x) (penAll one xs)
def penL {α : Type} (lo hi : Int) (one : α → Pr) (xs : List α) : Pr := penSeq (penNum lo hi xs.length) (penAll one xs)
theorem penAll_snoc {α : Type} (one : α → Pr) : ∀ (xs : List α) (x : α), penAll one (xs ++ [x]) = penSeq (penAll one xs) (one x)
  | [], x => by simp [penAll, penSeq]
  | y :: xs, x => by
    simp only [List.cons_append, penAll, penAll_snoc one xs x, penSeq, List.append_assoc, Bool.or_assoc]
/-- What becomes of a call of the pen's. -/
def PenE (b : Nat) (l : List UInt8) (bad : Bool) (r : Pr) (w : World) (e : Ending) (w' : World) : Prop := e = .returned (.tuple #[]) ∧ Pn w' b (l ++ r.1) (bad || r.2) ∧ w.grownBy w' (some b)
end Go.Proofs.YteaemhhbpaicnaaDoor
namespace Go.Proofs.YteaemhhbpaicnaaDoor
open Go.RowKit

theorem RsB.gb {w w' : World} {b : Nat} {v : Value} {ns : List Int} (h : RsB w b v ns) (hw : w.grownBy w' (some b)) (hb : b < w.heap.size) : RsB w' b v ns := by
  rcases h with h | ⟨sb, so, cap, h1, h2, h3⟩
  · exact Or.inl h
  · exact Or.inr ⟨sb, so, cap, h1, h2, fun i hi => (World.cell?_of_block (hw.block sb (by omega) (by intro e; injection e with e; omega))).trans (h3 i hi)⟩
theorem gb_tr {a c d : World} {row : Option Nat} (h : a.grownBy c row) (k : c.grownBy d row) : a.grownBy d row :=
  ⟨k.os.trans h.os, k.tape.trans h.tape, k.output.trans h.output, Nat.le_trans h.size k.size, fun q hq hr => (k.block q (Nat.lt_of_lt_of_le hq h.size) hr).trans (h.block q hq hr)⟩
theorem gb_alloc (w : World) (o : Obj) (row : Option Nat) : w.grownBy (w.alloc o) row :=
  have q := (Below.refl w.heap.size w).alloc (Nat.le_refl _) o
  ⟨q.os, q.tape, q.output, q.size, fun k hk _ => q.block k hk⟩
theorem Pn.lt {w : World} {b : Nat} {l : List UInt8} {bad : Bool} (h : Pn w b l bad) : b < w.heap.size := World.block_lt_of_cell? w _ h.c0
theorem Pn.alloc {w : World} {b : Nat} {l : List UInt8} {bad : Bool} (h : Pn w b l bad) (o : Obj) : Pn (w.alloc o) b l bad :=
  have e := ((Below.refl w.heap.size w).alloc (Nat.le_refl _) o).block b h.lt
  ⟨(World.cell?_of_block e).trans h.c0, (World.cell?_of_block e).trans h.c1, (World.frozen?_of_block (a := ⟨b, 0, none⟩) e).trans h.f0, (World.frozen?_of_block (a := ⟨b, 1, none⟩) e).trans h.f1⟩
end Go.Proofs.YteaemhhbpaicnaaDoor
namespace Go.Proofs.YteaemhhbpaicnaaDoor
open Go.RowKit

def shapeL : List (Array UInt8) := [#[63], #[68, 78], #[68, 65], #[68, 65, 66], #[68, 65, 66], #[68, 65, 66], #[68, 65, 66], #[68, 65, 66], #[68, 65, 66], #[68, 65, 66], #[68, 65, 66, 110], #[68, 65, 66, 110], #[70, 82, 79], #[70, 82, 79], #[65], #[68, 65, 66], #[79], #[70, 82], #[78]]
def shapeB (op : Int) : ByteArray := if 0 ≤ op then ⟨shapeL.getD op.toNat #[63]⟩ else ⟨#[63]⟩
set_option maxHeartbeats 4000000 in
set_option maxRecDepth 100000 in
theorem shape_c (op : Int) (w : World) : Calls Tryd.prog 21 #[.int .i64 op] w fun e w' => e = .returned (.string (shapeB op)) ∧ w' = w := by
  by_cases hop : 1 ≤ op ∧ op ≤ 18
  · have hs : op = 1 ∨ op = 2 ∨ op = 3 ∨ op = 4 ∨ op = 5 ∨ op = 6 ∨ op = 7 ∨ op = 8 ∨ op = 9 ∨ op = 10 ∨ op = 11 ∨ op = 12 ∨ op = 13 ∨ op = 14 ∨ op = 15 ∨ op = 16 ∨ op = 17 ∨ op = 18 := by omega
    rcases hs with rfl | rfl | rfl | rfl | rfl | rfl | rfl | rfl | rfl | rfl | rfl | rfl | rfl | rfl | rfl | rfl | rfl | rfl
    all_goals
      go_enter Tryd.func21, Tryd.ntmps21
      go_wp2
      go_ret
      exact ⟨rfl, rfl⟩
  · have HR := hideE (show shapeB op = ⟨#[63]⟩ by
      unfold shapeB
      split
      · rename_i h0
        by_cases h1 : op = 0
        · subst h1; rfl
        · have h2 : 19 ≤ op.toNat := by omega
          have h3 : shapeL.length ≤ op.toNat := h2
          simp [List.getD, List.getElem?_eq_none h3]
      · rfl)
    have e1 : (op == 1) = false := by simp; omega
    have e2 : (op == 2) = false := by simp; omega
    have e10 : (op == 10) = false := by simp; omega
    have e11 : (op == 11) = false := by simp; omega
    have e12 : (op == 12) = false := by simp; omega
    have e13 : (op == 13) = false := by simp; omega
    have e14 : (op == 14) = false := by simp; omega
    have e15 : (op == 15) = false := by simp; omega
    have e16 : (op == 16) = false := by simp; omega
    have e17 : (op == 17) = false := by simp; omega
    have e18 : (op == 18) = false := by simp; omega
    have hb : (decide (3 ≤ op) && decide (op ≤ 9)) = false := by simp; omega
    go_enter Tryd.func21, Tryd.ntmps21
    go_wp2
    all_goals
      go_ret
      exact ⟨by rw [unhideE HR]; rfl, rfl⟩
def nothingB (d a bb n f : Int) (na no : Nat) : Bool := d == 0 && a == 0 && bb == 0 && n == 0 && f == 0 && (na : Int) == 0 && (no : Int) == 0
set_option maxHeartbeats 4000000 in
set_option maxRecDepth 100000 in
theorem nothing_c (op d a bb n f : Int) (pa po : Option Addr) (na no ca co : Nat) (w : World) : Calls Tryd.prog 35 #[.agg #[.int .i64 op, .int .i64 d, .int .i64 a, .int .i64 bb, .int .u64 n, .int .i64 f, .slice pa na ca, .slice po no co]] w fun e w' => e = .returned (.bool (nothingB d a bb n f na no)) ∧ Below w.heap.size w w' := by
  unfold nothingB
  go_enter Tryd.func35, Tryd.ntmps35
  go_wp2
  all_goals
    go_ret
    refine ⟨?_, by go_grown⟩
    simp_all
end Go.Proofs.YteaemhhbpaicnaaDoor
namespace Go.Proofs.YteaemhhbpaicnaaDoor
open Go.RowKit

def penArg (p : Int × Int) : Pr := penSeq (penNum 0 8 p.1) (penNum 0 255 p.2)
/-- What one letter of the shape makes the pen write. -/
def penPart (i : InsE) (c : UInt8) : Pr :=
  if c = 68 then penNum 0 255 i.d else if c = 65 then penNum 0 255 i.a else if c = 66 then penNum 0 255 i.bb
  else if c = 110 then ([byteOf i.n], decide (255 < i.n)) else if c = 78 then (opB i.n 8, false)
  else if c = 70 then penNum 0 255 i.f else if c = 82 then penL 0 8 penArg i.args else if c = 79 then penL 0 4 (penNum 0 255) i.outs else ([], false)
def zap (ls : List UInt8) (c : UInt8) (x : Int) : Int := if ls.contains c then 0 else x
def zapN (ls : List UInt8) (x : Int) : Int := if ls.contains 110 || ls.contains 78 then 0 else x
def zapL (ls : List UInt8) (c : UInt8) (x : Nat) : Nat := if ls.contains c then 0 else x
def zapV (ls : List UInt8) (c : UInt8) (v : Value) : Value := if ls.contains c then .slice none 0 0 else v
/-- What is left of the instruction behind these letters. -/
def restA (i : InsE) (av ov : Value) (ls : List UInt8) : Array Value := #[.int .i64 0, .int .i64 (zap ls 68 i.d), .int .i64 (zap ls 65 i.a), .int .i64 (zap ls 66 i.bb), .int .u64 (zapN ls i.n), .int .i64 (zap ls 70 i.f), zapV ls 82 av, zapV ls 79 ov]
theorem zapV_slice (ls : List UInt8) (c : UInt8) (p : Option Addr) (n k : Nat) : ∃ p' k', zapV ls c (.slice p n k) = .slice p' (zapL ls c n) k' := by
  unfold zapV zapL
  cases ls.contains c
  · exact ⟨p, k, rfl⟩
  · exact ⟨none, 0, rfl⟩
def restB (i : InsE) (ls : List UInt8) : Bool := nothingB (zap ls 68 i.d) (zap ls 65 i.a) (zap ls 66 i.bb) (zapN ls i.n) (zap ls 70 i.f) (zapL ls 82 i.args.length) (zapL ls 79 i.outs.length)
def shapeLs (op : Int) : List UInt8 := (shapeB op).data.toList
def penIns (i : InsE) : Pr := penSeq (penNum 1 18 i.op) (penSeq (penAll (penPart i) (shapeLs i.op)) ([], !restB i (shapeLs i.op)))
theorem rest_68 (i : InsE) (av ov : Value) (ls : List UInt8) : restA i av ov (ls ++ [68]) = (restA i av ov ls).setIfInBounds 1 (.int .i64 0) := by
  simp [restA, zap, zapN, zapV]
theorem rest_65 (i : InsE) (av ov : Value) (ls : List UInt8) : restA i av ov (ls ++ [65]) = (restA i av ov ls).setIfInBounds 2 (.int .i64 0) := by
  simp [restA, zap, zapN, zapV]
theorem rest_66 (i : InsE) (av ov : Value) (ls : List UInt8) : restA i av ov (ls ++ [66]) = (restA i av ov ls).setIfInBounds 3 (.int .i64 0) := by
  simp [restA, zap, zapN, zapV]
theorem rest_110 (i : InsE) (av ov : Value) (ls : List UInt8) : restA i av ov (ls ++ [110]) = (restA i av ov ls).setIfInBounds 4 (.int .u64 0) := by
  simp [restA, zap, zapN, zapV]
theorem rest_78 (i : InsE) (av ov : Value) (ls : List UInt8) : restA i av ov (ls ++ [78]) = (restA i av ov ls).setIfInBounds 4 (.int .u64 0) := by
  simp [restA, zap, zapN, zapV]
theorem rest_70 (i : InsE) (av ov : Value) (ls : List UInt8) : restA i av ov (ls ++ [70]) = (restA i av ov ls).setIfInBounds 5 (.int .i64 0) := by
  simp [restA, zap, zapN, zapV]
theorem rest_82 (i : InsE) (av ov : Value) (ls : List UInt8) : restA i av ov (ls ++ [82]) = (restA i av ov ls).setIfInBounds 6 (.slice none 0 0) := by
  simp [restA, zap, zapN, zapV]
theorem rest_79 (i : InsE) (av ov : Value) (ls : List UInt8) : restA i av ov (ls ++ [79]) = (restA i av ov ls).setIfInBounds 7 (.slice none 0 0) := by
  simp [restA, zap, zapN, zapV]
theorem rest_63 (i : InsE) (av ov : Value) (ls : List UInt8) : restA i av ov (ls ++ [63]) = restA i av ov ls := by
  simp [restA, zap, zapN, zapV]
theorem penAll_append {α : Type} (one : α → Pr) : ∀ (xs ys : List α), penAll one (xs ++ ys) = penSeq (penAll one xs) (penAll one ys)
  | [], ys => by simp [penAll, penSeq]
  | x :: xs, ys => by
    simp only [List.cons_append, penAll, penAll_append one xs ys, penSeq, List.append_assoc, Bool.or_assoc]
theorem penAll_take_len {α : Type} (one : α → Pr) (xs : List α) (q : Nat) : (penAll one (xs.take q)).1.length ≤ (penAll one xs).1.length := by
  have h : penAll one xs = penSeq (penAll one (xs.take q)) (penAll one (xs.drop q)) := by rw [← penAll_append, List.take_append_drop]
  rw [h]
  simp [penSeq]
theorem shape_letters (op : Int) : ∀ c ∈ shapeLs op, c = 63 ∨ c = 68 ∨ c = 65 ∨ c = 66 ∨ c = 110 ∨ c = 78 ∨ c = 70 ∨ c = 82 ∨ c = 79 := by
  unfold shapeLs shapeB
  split
  · rename_i h0
    by_cases h : op.toNat < 19
    · generalize op.toNat = k at h
      have : ∀ k, k < 19 → ∀ c ∈ (shapeL.getD k #[63]).toList, c = 63 ∨ c = 68 ∨ c = 65 ∨ c = 66 ∨ c = 110 ∨ c = 78 ∨ c = 70 ∨ c = 82 ∨ c = 79 := by decide
      exact this k h
    · have h3 : shapeL.length ≤ op.toNat := by simp [shapeL]; omega
      intro c hc
      simp [List.getD, List.getElem?_eq_none h3] at hc
      exact Or.inl hc
  · intro c hc
    simp at hc
    exact Or.inl hc
theorem part_68 (i : InsE) : penPart i 68 = penNum 0 255 i.d := rfl
theorem part_65 (i : InsE) : penPart i 65 = penNum 0 255 i.a := rfl
theorem part_66 (i : InsE) : penPart i 66 = penNum 0 255 i.bb := rfl
theorem part_110 (i : InsE) : penPart i 110 = ([byteOf i.n], decide (255 < i.n)) := rfl
theorem part_78 (i : InsE) : penPart i 78 = (opB i.n 8, false) := rfl
theorem part_70 (i : InsE) : penPart i 70 = penNum 0 255 i.f := rfl
theorem part_82 (i : InsE) : penPart i 82 = penL 0 8 penArg i.args := rfl
theorem part_79 (i : InsE) : penPart i 79 = penL 0 4 (penNum 0 255) i.outs := rfl
theorem part_63 (i : InsE) : penPart i 63 = ([], false) := rfl
end Go.Proofs.YteaemhhbpaicnaaDoor
