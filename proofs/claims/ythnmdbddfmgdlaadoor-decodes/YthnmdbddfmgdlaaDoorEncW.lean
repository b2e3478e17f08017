/-
  Encodes: the writer's numbers by their contracts. Own work of the verifier.
-/
import Derived.Test.YthnmdbddfmgdlaaDoorProg
import Derived.WalkKit
import Derived.Handy
import Derived.Lib.OthersKept
import Derived.Recover
import Derived.WalkLawsBesides
import Derived.Laws.AppendOwn
namespace Go.Proofs.YthnmdbddfmgdlaaDoor
open Go.RowKit

theorem hideE {p : Prop} (h : p) : Hid p := h
theorem unhideE {p : Prop} (h : Hid p) : p := h
def bCells (l : List UInt8) : List Value := l.map fun x => .int .u8 x.toNat
/-- The writer at block b, which holds the bytes l. -/
structure Wt (w : World) (b : Nat) (v : Value) (l : List UInt8) : Prop where
  cell : w.cell? ⟨b, 0, none⟩ = some v
  fz : w.frozen? ⟨b, 0, none⟩ = false
  row : w.ownsRow (b + 1) 5 1 v l.length (bCells l)
/-- What stays behind a write by the writer at b. -/
structure Ws (w w' : World) (b : Nat) : Prop where
  low : Below b w w'
  oth : Lib.OthersKept 5 (some b) w w'
theorem Ws.refl (w : World) (b : Nat) : Ws w w b := ⟨Below.refl _ _, Lib.OthersKept.refl _ _ _⟩
theorem Ws.trans {a c d : World} {b : Nat} (h : Ws a c b) (k : Ws c d b) : Ws a d b := ⟨h.low.trans k.low, h.oth.trans k.oth⟩
/-- What is thrown where something can't be written. -/
def thrown : List PanicEntry := [{ v := .iface 97 (.agg #[.iface 83 (.int .i64 4)]), recovered := false }]
def byteOf (v : Int) : UInt8 := UInt8.ofNat (v % 256).toNat
def encNum (lo hi v : Int) : Option (List UInt8) := if lo ≤ v ∧ v ≤ hi then some [byteOf v] else none
/-- What becomes of a call of the writer's: its bytes are there, or it is thrown. -/
def EncE (b : Nat) (l : List UInt8) (r : Option (List UInt8)) (w : World) (e : Ending) (w' : World) : Prop :=
  Ws w w' b ∧ match r with
    | some bs => e = .returned (.tuple #[]) ∧ ∃ v, Wt w' b v (l ++ bs)
    | none => e = .panicked thrown
set_option maxRecDepth 100000 in
theorem refuse_c (p : Value) (w : World) : Calls Tryd.prog 37 #[p] w fun e w' => e = .panicked thrown ∧ w' = w := by
  go_enter Tryd.func37, Tryd.ntmps37
  go_wp2
  exact ⟨rfl, rfl, rfl⟩
theorem info_partsE {P : Program} {t : TypeId} {z : Value} {n b : Nat} (h : (P.info? t).map (fun i => (i.zero, i.size, i.bytes)) = some (some z, n, b)) : ∃ i, P.info? t = some i ∧ i.zero = some z ∧ i.size = n ∧ i.bytes = b := by
  cases hi : P.info? t with
  | none => simp [hi] at h
  | some i => simp [hi] at h; exact ⟨i, rfl, h.1, h.2.1, h.2.2⟩
theorem Tryd.infoU : (Tryd.prog.info? 5).map (fun i => (i.zero, i.size, i.bytes)) = some (some (.int .u8 0), 1, 1) := by kernel_rfl
theorem oth_of_row {w w' : World} {b n : Nat} {v : Value} {xs : List Value} {B : Nat} (h : w.ownsRow B 5 1 v n xs) (hg : w.grownBy w' v.ownBlock) : Lib.OthersKept 5 (some b) w w' := by
  intro k o hk _ hne
  have hlt : k < w.heap.size := by
    rcases Nat.lt_or_ge k w.heap.size with x | x
    · exact x
    · simp [Array.getElem?_eq_none x] at hk
  rw [hg.block k hlt ?_]
  · exact hk
  · intro e
    rcases h.2 with ⟨h1, _⟩ | ⟨g, cap, cur, h1, h2, h3, _⟩
    · rw [h1] at e; simp [Value.ownBlock] at e
    · rw [h1] at e
      simp [Value.ownBlock] at e
      subst e
      rw [hk] at h3
      exact hne _ _ (Option.some.inj h3)
theorem oth_alloc (w : World) (o : Obj) (b : Nat) : Lib.OthersKept 5 (some b) w (w.alloc o) := fun k x hk _ _ => by
  have hlt : k < w.heap.size := by
    rcases Nat.lt_or_ge k w.heap.size with y | y
    · exact y
    · simp [Array.getElem?_eq_none y] at hk
  exact (((Below.refl w.heap.size w).alloc (Nat.le_refl _) o).block k hlt).trans hk
theorem oth_set (w : World) (b j : Nat) (v : Value) : Lib.OthersKept 5 (some b) w (w.setCell ⟨b, j, none⟩ v) := fun k x hk hne _ => by
  have hkb : k ≠ b := fun e => hne (by rw [e])
  rw [← hk]
  exact heap_setCell_other w ⟨b, j, none⟩ k v hkb
theorem ownU_form {w : World} {base n : Nat} {v : Value} {xs : List Value} (h : w.ownsRow base 5 1 v (n + 1) xs) : ∃ g cap, v = .slice (some ⟨g, 0, none⟩) (n + 1) cap := by
  rcases h.2 with ⟨_, e0⟩ | ⟨g, cap, cur, e, -⟩
  · omega
  · exact ⟨g, cap, e⟩
theorem below_set (w : World) (b j : Nat) (v : Value) : Below b w (w.setCell ⟨b, j, none⟩ v) := ⟨rfl, rfl, rfl, by simp, fun q hq => heap_setCell_other w ⟨b, j, none⟩ q v (Nat.ne_of_lt hq)⟩
set_option maxHeartbeats 2000000 in
set_option maxRecDepth 100000 in
theorem number_c (b : Nat) (v : Value) (l : List UInt8) (x lo hi : Int) (w : World) (h : Wt w b v l) (hl : l.length ≤ 100000000000) :
    Calls Tryd.prog 58 #[.pointer (some ⟨b, 0, none⟩), .int .i64 x, .int .i64 lo, .int .i64 hi] w (EncE b l (encNum lo hi x) w) := by
  obtain ⟨ti, hti, hz0, hz1, hz2⟩ := info_partsE Tryd.infoU
  have hbl := World.block_lt_of_cell? w _ h.cell
  by_cases h1 : lo ≤ x
  · by_cases h2 : x ≤ hi
    · have hr : encNum lo hi x = some [byteOf x] := if_pos ⟨h1, h2⟩
      have HR := hideE hr
      have HW := hideE h
      have cc := h.cell
      have cf := h.fz
      clear hr h
      go_enter Tryd.func58, Tryd.ntmps58
      go_wp2_with (at_builtin; refine wpList_append_own _ rfl _ _ 91 rfl (b + 1) 5 ti _ 1 1 Tryd.underlying91 hti hz0 hz1 hz2 rfl (by decide) _ _ _ rfl ((unhideE HW).row.alloc _) ⟨w.heap.size, 0, none⟩ 1 1 [.int .u8 (x % 256)] rfl rfl (by intro j u hj; match j, hj with | 0, hj => (simp at hj; subst hj; exact (World.cell?_alloc_at _ _ _ _ (by simp)).trans rfl)) (by intro u hu; simp at hu; subst hu; rfl) ?c3 ?c4 ?c5 ?_)
      case c3 => unfold maxLen; omega
      case c4 => omega
      case c5 => first | omega | (simp; omega)
      intro v' w7 hown hgr _
      obtain ⟨g2, cap2, rfl⟩ := ownU_form hown
      have hb0 := hgr.block b (by simp; omega) (by intro e; have := ((unhideE HW).row.lt b e.symm).1; omega)
      have hb1 : w7.heap[b]? = w.heap[b]? := hb0.trans (((Below.refl w.heap.size w).alloc (Nat.le_refl _) _).block b hbl)
      have c7 : w7.cell? ⟨b, 0, none⟩ = some v := (World.cell?_of_block hb1).trans (unhideE HW).cell
      have f7 : w7.frozen? ⟨b, 0, none⟩ = false := (World.frozen?_of_block (a := ⟨b, 0, none⟩) hb1).trans (unhideE HW).fz
      have HC7 := hideE c7
      have HOW := hideE hown
      have HWS := hideE (show Ws w (w7.setCell ⟨b, 0, none⟩ (.slice (some ⟨g2, 0, none⟩) (l.length + 1) cap2)) b from ⟨(((Below.refl b w).alloc (by omega) _).trans ⟨hgr.os, hgr.tape, hgr.output, hgr.size, fun q hq => hgr.block q (by simp; omega) (by intro e; have := ((unhideE HW).row.lt q e.symm).1; omega)⟩).trans (below_set w7 b 0 _), ((oth_alloc w _ b).trans (oth_of_row ((unhideE HW).row.alloc _) hgr)).trans (oth_set w7 b 0 _)⟩)
      clear hown hgr hb0 hb1 cc cf
      have HWT := hideE (show Wt (w7.setCell ⟨b, 0, none⟩ (.slice (some ⟨g2, 0, none⟩) (l.length + 1) cap2)) b (.slice (some ⟨g2, 0, none⟩) (l.length + 1) cap2) (l ++ [byteOf x]) from by
        refine ⟨World.cell?_setCell_same _ _ _ c7, by rw [World.frozen?_setCell]; exact f7, ?_⟩
        have h1 := ownsRow_setCell_below (unhideE HOW) (a := ⟨b, 0, none⟩) (show b < b + 1 by omega) (.slice (some ⟨g2, 0, none⟩) (l.length + 1) cap2)
        have e1 : bCells (l ++ [byteOf x]) = bCells l ++ [.int .u8 (x % 256)] := by
          have : ((byteOf x).toNat : Int) = x % 256 := by unfold byteOf; simp; omega
          simp [bCells, this]
        rw [e1, show (l ++ [byteOf x]).length = l.length + 1 by simp]
        exact h1)
      go_wp2
      refine bodyPost_end (results_none (fn := Tryd.f58) rfl _ _ _) rfl ?_
      refine ⟨unhideE HWS, ?_⟩
      rw [unhideE HR]
      exact ⟨rfl, _, unhideE HWT⟩
    · have hr : encNum lo hi x = none := if_neg (fun c => h2 c.2)
      have HR := hideE hr
      clear hr h
      go_enter Tryd.func58, Tryd.ntmps58
      go_wp2_with fail
      refine (refuse_c _ _).mono ?_
      rintro e w' ⟨rfl, hw⟩
      subst w'
      refine ⟨rfl, Ws.refl _ _, ?_⟩
      rw [unhideE HR]
  · have hr : encNum lo hi x = none := if_neg (fun c => h1 c.1)
    have HR := hideE hr
    clear hr h
    go_enter Tryd.func58, Tryd.ntmps58
    go_wp2_with fail
    refine (refuse_c _ _).mono ?_
    rintro e w' ⟨rfl, hw⟩
    subst w'
    refine ⟨rfl, Ws.refl _ _, ?_⟩
    rw [unhideE HR]
end Go.Proofs.YthnmdbddfmgdlaaDoor
