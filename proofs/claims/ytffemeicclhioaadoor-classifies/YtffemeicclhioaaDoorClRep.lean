/-
  Layouts of calls: tables and layouts as a world holds them. Own work of the verifier.
-/
import Derived.Test.YtffemeicclhioaaDoorClPure
import Derived.Test.YtffemeicclhioaaDoorCkX
import Derived.Test.YtffemeicclhioaaDoorCkU
import Derived.Test.YtffemeicclhioaaDoorCkR
import Derived.Test.YtffemeicclhioaaDoorTblRef
import Derived.Test.YtffemeicclhioaaDoorM7
import Derived.Laws.AppendOwn
import Derived.Laws.OwnMore
namespace Go.Proofs.YtffemeicclhioaaDoor
open Go.RowKit

/-- A table, with its lists. -/
structure TbE where
  r : Int
  sp : Int
  lk : Int
  t0 : Int
  t1 : Int
  pa : Option Addr
  ag : List Int
  ca : Nat
  pr : Option Addr
  rs : List Int
  cr : Nat
  ps : Option Addr
  ss : List Int
  cs : Nat
  al : Int
  sh : Int
  br : Int
  pairs : Bool
def TbE.box (T : TbE) : Array Value := #[.int .i64 T.r, .int .i64 T.sp, .int .i64 T.lk, .int .i64 T.t0, .int .i64 T.t1, .slice T.pa T.ag.length T.ca, .slice T.pr T.rs.length T.cr, .slice T.ps T.ss.length T.cs, .int .i64 T.al, .int .i64 T.sh, .int .i64 T.br, .bool T.pairs]
/-- Its lists lie below b. -/
structure TbR (w : World) (b : Nat) (T : TbE) : Prop where
  a : RsB w b (.slice T.pa T.ag.length T.ca) T.ag
  r : RsB w b (.slice T.pr T.rs.length T.cr) T.rs
  s : RsB w b (.slice T.ps T.ss.length T.cs) T.ss
theorem RsB.at {w : World} {b : Nat} {p : Option Addr} {c : Nat} {ns : List Int} (h : RsB w b (.slice p ns.length c) ns) {k : Nat} (hk : k < ns.length) : ∃ sb so, p = some ⟨sb, so, none⟩ ∧ sb < b ∧ ∀ i, i < ns.length → w.cell? ⟨sb, so + i, none⟩ = some (.int .i64 (ns.getD i 0)) := by
  rcases h with ⟨e, -⟩ | ⟨sb, so, cap, hv, hb, hc⟩
  · rw [e] at hk; simp at hk
  · injection hv with h1 h2 h3
    exact ⟨sb, so, h1, hb, hc⟩
theorem TbR.gb {w w' : World} {b : Nat} {T : TbE} (h : TbR w b T) (hw : w.grownBy w' (some b)) (hb : b < w.heap.size) : TbR w' b T := ⟨h.a.gb hw hb, h.r.gb hw hb, h.s.gb hw hb⟩
/-- What is giving places. -/
def givA (T : TbE) (s : GivS) : Array Value := #[.int .i64 T.r, .int .i64 T.sp, .int .i64 T.lk, .int .i64 T.t0, .int .i64 T.t1, .slice T.pa T.ag.length T.ca, .slice T.pr T.rs.length T.cr, .slice T.ps T.ss.length T.cs, .int .i64 T.al, .int .i64 T.sh, .int .i64 T.br, .bool T.pairs, .int .i64 s.u, .int .i64 s.c, .int .i64 s.p]
def GivR (w : World) (G : Nat) (T : TbE) (s : GivS) : Prop := w.heap[G]? = some (.cells (givA T s) 89 (0, 0))
def PlO (w : World) (B : Nat) (v : Value) (xs : List (Int × Int)) : Prop := w.ownsRow B 62 2 v xs.length (plC xs)
def noSpt : SptE := ⟨[], false, 0⟩
def spsC (pvs : List Value) (sps : List SptE) : List Value := (pvs.zip sps).flatMap fun x => [x.1, .bool x.2.ref, .int .i64 x.2.at_]
structure LayO (w : World) (B : Nat) (av rv : Value) (l : LayE) (pvs : List Value) : Prop where
  len : pvs.length = l.args.length
  args : w.ownsRow B 60 3 av l.args.length (spsC pvs l.args)
  each : ∀ k, k < l.args.length → PlO w B (pvs.getD k undef) (l.args.getD k noSpt).pl
  res : PlO w B rv l.res
theorem spsC_snoc (pvs : List Value) (sps : List SptE) (pv : Value) (sp : SptE) (h : pvs.length = sps.length) : spsC (pvs ++ [pv]) (sps ++ [sp]) = spsC pvs sps ++ [pv, .bool sp.ref, .int .i64 sp.at_] := by
  unfold spsC
  rw [List.zip_append h]
  simp
/-- What a world keeps of its rows, all but one. -/
theorem own_gb {w w' : World} {B n size : Nat} {e : TypeId} {v : Value} {xs : List Value} {o : Option Nat} (h : w.ownsRow B e size v n xs) (hg : w.grownBy w' o) (hne : ∀ g, v.ownBlock = some g → o ≠ some g) : w'.ownsRow B e size v n xs :=
  h.kept hg (by
    cases hv : v.ownBlock with
    | none => exact Or.inl rfl
    | some g => exact Or.inr (fun e => hne g hv e.symm))
theorem gbc_set {w u : World} {b j : Nat} {v : Value} (h : w.grownBy u (some b)) : w.grownBy (u.setCell ⟨b, j, none⟩ v) (some b) :=
  ⟨h.os, h.tape, h.output, by simpa using h.size, fun q hq hne => (heap_setCell_other _ _ _ _ (by intro e; exact hne (by rw [e]))).trans (h.block q hq hne)⟩
theorem gbc_new {w u : World} {b : Nat} (X : Obj) (h : w.grownBy u (some b)) : w.grownBy (u.alloc X) (some b) :=
  ⟨h.os, h.tape, h.output, by have := h.size; simp; omega, fun q hq hne => ((al0 u X).2.1.block q (Nat.lt_of_lt_of_le hq h.size)).trans (h.block q hq hne)⟩
theorem gbc_self (w : World) (o : Option Nat) : w.grownBy w o := ⟨rfl, rfl, rfl, Nat.le_refl _, fun _ _ _ => rfl⟩
theorem GivR.lt {w : World} {G : Nat} {T : TbE} {s : GivS} (h : GivR w G T s) : G < w.heap.size := row_lt h
theorem GivR.new {w : World} {G : Nat} {T : TbE} {s : GivS} (h : GivR w G T s) (X : Obj) : GivR (w.alloc X) G T s := ((al0 w X).2.1.block G h.lt).trans h
theorem GivR.gb {w w' : World} {G : Nat} {T : TbE} {s : GivS} (h : GivR w G T s) (hg : w.grownBy w' none) : GivR w' G T s := (hg.block G h.lt (by simp)).trans h
theorem GivR.u {w : World} {G : Nat} {T : TbE} {s : GivS} (h : GivR w G T s) (n : Nat) : GivR (w.setCell ⟨G, 12, none⟩ (.int .i64 n)) G T ⟨n, s.c, s.p⟩ := heap_setCell_same _ _ _ _ _ _ h
theorem GivR.c {w : World} {G : Nat} {T : TbE} {s : GivS} (h : GivR w G T s) (n : Int) : GivR (w.setCell ⟨G, 13, none⟩ (.int .i64 n)) G T ⟨s.u, n, s.p⟩ := heap_setCell_same _ _ _ _ _ _ h
theorem GivR.p {w : World} {G : Nat} {T : TbE} {s : GivS} (h : GivR w G T s) (n : Int) : GivR (w.setCell ⟨G, 14, none⟩ (.int .i64 n)) G T ⟨s.u, s.c, n⟩ := heap_setCell_same _ _ _ _ _ _ h
theorem GivR.cell {w : World} {G : Nat} {T : TbE} {s : GivS} (h : GivR w G T s) (j : Nat) : w.cell? ⟨G, j, none⟩ = (givA T s)[j]? := cells_of_row h j
theorem GivR.oth {w : World} {G b j : Nat} {v : Value} {T : TbE} {s : GivS} (h : GivR w G T s) (hne : G ≠ b) : GivR (w.setCell ⟨b, j, none⟩ v) G T s := (heap_setCell_other _ _ _ _ hne).trans h
theorem gbc_oth {w u : World} {b j : Nat} {v : Value} {o : Option Nat} (h : w.grownBy u o) (hb : w.heap.size ≤ b) : w.grownBy (u.setCell ⟨b, j, none⟩ v) o :=
  ⟨h.os, h.tape, h.output, by simpa using h.size, fun q hq hne => (heap_setCell_other _ _ _ _ (by show q ≠ b; omega)).trans (h.block q hq hne)⟩
theorem gbc_row {w u : World} {T : Nat} {cs : Array Value} {o : Option Nat} (h : w.grownBy u o) (hb : w.heap.size ≤ T) : w.grownBy (u.setRow T cs) o :=
  ⟨h.os, h.tape, h.output, by have := h.size; simpa [World.setRow] using this, fun q hq hne => (setRow_other u T q cs (by omega)).trans (h.block q hq hne)⟩
theorem gbc_drew {w u : World} {o : Option Nat} (h : w.grownBy u o) (k : Nat) : w.grownBy (u.drewN k) o := ⟨h.os, h.tape, h.output, h.size, h.block⟩
theorem GivR.k5 {w : World} {G : Nat} {T : TbE} {s : GivS} (h : GivR w G T s) : w.cell? ⟨G, 5, none⟩ = some (.slice T.pa T.ag.length T.ca) := cells_of_row h 5
theorem GivR.k6 {w : World} {G : Nat} {T : TbE} {s : GivS} (h : GivR w G T s) : w.cell? ⟨G, 6, none⟩ = some (.slice T.pr T.rs.length T.cr) := cells_of_row h 6
theorem GivR.k10 {w : World} {G : Nat} {T : TbE} {s : GivS} (h : GivR w G T s) : w.cell? ⟨G, 10, none⟩ = some (.int .i64 T.br) := cells_of_row h 10
theorem GivR.k11 {w : World} {G : Nat} {T : TbE} {s : GivS} (h : GivR w G T s) : w.cell? ⟨G, 11, none⟩ = some (.bool T.pairs) := cells_of_row h 11
theorem GivR.k12 {w : World} {G : Nat} {T : TbE} {s : GivS} (h : GivR w G T s) : w.cell? ⟨G, 12, none⟩ = some (.int .i64 s.u) := cells_of_row h 12
theorem GivR.k13 {w : World} {G : Nat} {T : TbE} {s : GivS} (h : GivR w G T s) : w.cell? ⟨G, 13, none⟩ = some (.int .i64 s.c) := cells_of_row h 13
theorem GivR.k14 {w : World} {G : Nat} {T : TbE} {s : GivS} (h : GivR w G T s) : w.cell? ⟨G, 14, none⟩ = some (.int .i64 s.p) := cells_of_row h 14
theorem GivR.fz {w : World} {G : Nat} {T : TbE} {s : GivS} (h : GivR w G T s) (j : Nat) : w.frozen? ⟨G, j, none⟩ = false := frozen_of_row _ _ j _ _ h
theorem gbc_trans {a b c : World} {o : Option Nat} (h : a.grownBy b o) (k : b.grownBy c o) : a.grownBy c o :=
  ⟨k.os.trans h.os, k.tape.trans h.tape, k.output.trans h.output, Nat.le_trans h.size k.size, fun q hq hne => (k.block q (Nat.lt_of_lt_of_le hq h.size) hne).trans (h.block q hq hne)⟩
theorem gb_ofB {a b : World} {o : Option Nat} (h : Below a.heap.size a b) : a.grownBy b o := ⟨h.os, h.tape, h.output, h.size, fun q hq _ => h.block q hq⟩
end Go.Proofs.YtffemeicclhioaaDoor
