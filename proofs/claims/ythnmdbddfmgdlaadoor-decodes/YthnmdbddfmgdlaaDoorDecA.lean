/-
  Decodes: what is read, as plain mathematics; how it lies in memory; the reader's small parts. Own work of the verifier.
-/
import Derived.Test.YthnmdbddfmgdlaaDoorEncY
import Derived.Deep.OwnRows
namespace Go.Proofs.YthnmdbddfmgdlaaDoor
open Go.RowKit

abbrev Dec (α : Type) := Nat → Except Nat (α × Nat)
def dBind {α β : Type} (m : Except Nat (α × Nat)) (k : α → Nat → Except Nat (β × Nat)) : Except Nat (β × Nat) := match m with
  | .ok (x, a) => k x a
  | .error q => .error q
def bAt (s : ByteArray) (a : Nat) : Int := ((s.data[a]?.getD 0).toNat : Int)
theorem bAt_bd (s : ByteArray) (a : Nat) : 0 ≤ bAt s a ∧ bAt s a ≤ 255 := by
  unfold bAt
  have := (s.data[a]?.getD 0).toNat_lt
  omega
def signed (lo n : Int) : Int := if lo = -1 ∧ n = 255 then -1 else n
def dTake (lo hi v : Int) (a : Nat) : Except Nat (Int × Nat) := if lo ≤ v ∧ v ≤ hi then .ok (v, a + 1) else .error a
section
variable (s : ByteArray)
def dNum (lo hi : Int) : Dec Int := fun a => if a < s.size then dTake lo hi (signed lo (bAt s a)) a else .error a
def dRep {α : Type} (one : Dec α) : Nat → Dec (List α)
  | 0 => fun a => .ok ([], a)
  | n + 1 => fun a => dBind (dRep one n a) fun xs a1 => dBind (one a1) fun x a2 => .ok (xs ++ [x], a2)
def dList {α : Type} (lo hi : Int) (one : Dec α) : Dec (List α) := fun a => dBind (dNum s lo hi a) fun n a1 => dRep one n.toNat a1
def dPair : Dec (Int × Int) := fun a => dBind (dNum s 0 8 a) fun x a1 => dBind (dNum s 0 255 a1) fun y a2 => .ok ((x, y), a2)
def dSig : Dec (List Int × Int) := fun a => dBind (dList s 0 8 (dNum s 0 8) a) fun l a1 => dBind (dNum s 0 4 a1) fun r a2 => .ok ((l, r), a2)
def dOp : Nat → Dec Int
  | 0 => fun a => .ok (0, a)
  | n + 1 => fun a => dBind (dOp n a) fun x a1 => dBind (dNum s 0 255 a1) fun y a2 => .ok (256 * x + y, a2)
def dPart (c : UInt8) (i : InsE) : Dec InsE := fun a =>
  if c = 68 then dBind (dNum s 0 255 a) fun x a1 => .ok ({ i with d := x }, a1)
  else if c = 65 then dBind (dNum s 0 255 a) fun x a1 => .ok ({ i with a := x }, a1)
  else if c = 66 then dBind (dNum s 0 255 a) fun x a1 => .ok ({ i with bb := x }, a1)
  else if c = 110 then dBind (dOp s 1 a) fun x a1 => .ok ({ i with n := x }, a1)
  else if c = 78 then dBind (dOp s 8 a) fun x a1 => .ok ({ i with n := x }, a1)
  else if c = 70 then dBind (dNum s 0 255 a) fun x a1 => .ok ({ i with f := x }, a1)
  else if c = 82 then dBind (dList s 0 8 (dPair s) a) fun x a1 => .ok ({ i with args := x }, a1)
  else if c = 79 then dBind (dList s 0 4 (dNum s 0 255) a) fun x a1 => .ok ({ i with outs := x }, a1)
  else .ok (i, a)
def dParts : List UInt8 → InsE → Dec InsE
  | [], i => fun a => .ok (i, a)
  | c :: cs, i => fun a => dBind (dPart s c i a) fun j a1 => dParts cs j a1
def ins0 (op : Int) : InsE := ⟨op, 0, 0, 0, 0, 0, [], []⟩
def dIns : Dec InsE := fun a => dBind (dNum s 1 18 a) fun op a1 => dParts s (shapeLs op) (ins0 op) a1
def dBlock : Dec (List InsE) := dList s 1 24 (dIns s)
def dFunc : Dec FuncE := fun a => dBind (dList s 0 8 (dPair s) a) fun ps a1 => dBind (dNum s 0 4 a1) fun r a2 => dBind (dList s 0 12 (dNum s (-1) 15) a2) fun hs a3 => dBind (dList s 0 6 (dNum s 1 8) a3) fun ss a4 => dBind (dList s 1 12 (dBlock s) a4) fun bs a5 => .ok (⟨ps, r, hs, ss, bs⟩, a5)
def dProg : Dec ProgE := fun a => dBind (dNum s 70 70 a) fun _ a1 => dBind (dNum s 49 49 a1) fun _ a2 => dBind (dList s 0 4 (dSig s) a2) fun es a3 => dBind (dList s 1 8 (dFunc s) a3) fun fs a4 => .ok (⟨fs, es⟩, a4)
def decOut : Except (Int × Nat) ProgE := if s.size ≤ 4000 then (match dProg s 0 with
  | .error q => .error (3, q)
  | .ok (p, a) => if a < s.size then .error (3, a) else .ok p) else .error (4, 0)
end
/-- The reader at block b: its bytes, and where it is. -/
structure Rd (w : World) (b : Nat) (s : ByteArray) (a : Nat) : Prop where
  c0 : w.cell? ⟨b, 0, none⟩ = some (.string s)
  c1 : w.cell? ⟨b, 1, none⟩ = some (.int .i64 a)
  f1 : w.frozen? ⟨b, 1, none⟩ = false
  bd : a ≤ s.size
  small : s.size ≤ 4000
section
variable {w w' : World} {b : Nat} {s : ByteArray} {a : Nat}
theorem Rd.lt (h : Rd w b s a) : b < w.heap.size := World.block_lt_of_cell? w _ h.c0
theorem Rd.blk (h : Rd w b s a) (e : w'.heap[b]? = w.heap[b]?) : Rd w' b s a := ⟨(World.cell?_of_block e).trans h.c0, (World.cell?_of_block e).trans h.c1, (World.frozen?_of_block (a := ⟨b, 1, none⟩) e).trans h.f1, h.bd, h.small⟩
theorem Rd.alloc (h : Rd w b s a) (o : Obj) : Rd (w.alloc o) b s a := h.blk (((Below.refl w.heap.size w).alloc (Nat.le_refl _) o).block b h.lt)
theorem Rd.drew (h : Rd w b s a) : Rd w.drew b s a := h.blk rfl
theorem Rd.next (h : Rd w b s a) (hb : a < s.size) : Rd (w.setCell ⟨b, 1, none⟩ (.int .i64 ((a + 1 : Nat) : Int))) b s (a + 1) :=
  ⟨(World.cell?_setCell_other _ _ _ _ (by simp)).trans h.c0, World.cell?_setCell_same _ _ _ h.c1, by rw [World.frozen?_setCell]; exact h.f1, hb, h.small⟩
theorem gb_refl (w : World) (r : Option Nat) : w.grownBy w r := ⟨rfl, rfl, rfl, Nat.le_refl _, fun _ _ _ => rfl⟩
theorem gb_drew (w : World) (r : Option Nat) : w.grownBy w.drew r := ⟨rfl, rfl, rfl, Nat.le_refl _, fun _ _ _ => rfl⟩
theorem gb_setB (w : World) (b j : Nat) (v : Value) : w.grownBy (w.setCell ⟨b, j, none⟩ v) (some b) := gb_setAt (gb_refl w (some b)) (Or.inr rfl)
end
def badCells (q : Int) : Array Value := #[.iface 83 (.int .i64 3), .int .i64 (-1), .int .i64 (-1), .int .i64 q]
def thrownAt (g : Nat) : List PanicEntry := [{ v := .iface 97 (.agg #[.iface 86 (.pointer (some ⟨g, 0, none⟩))]), recovered := false }]
/-- What becomes of a call of the reader's: what is read lies there, or it is thrown. -/
def DecE {α : Type} (b : Nat) (s : ByteArray) (RV : World → Nat → Value → α → Prop) (r : Except Nat (α × Nat)) (w : World) (e : Ending) (w' : World) : Prop :=
  w.grownBy w' (some b) ∧ match r with
    | .ok (x, a) => ∃ v, e = .returned v ∧ RV w' w.heap.size v x ∧ Rd w' b s a
    | .error q => ∃ g, e = .panicked (thrownAt g) ∧ w'.heap[g]? = some (.cells (badCells q) 89 (0, 0)) ∧ w.heap.size ≤ g
def RInt (_ : World) (_ : Nat) (v : Value) (x : Int) : Prop := v = .int .i64 x
theorem DecE.err {α β : Type} {b : Nat} {s : ByteArray} {RV : World → Nat → Value → α → Prop} {RW : World → Nat → Value → β → Prop} {q : Nat} {w w1 w2 : World} {e : Ending} (h : DecE b s RV (.error q) w1 e w2) (hg : w.grownBy w1 (some b)) : DecE b s RW (.error q) w e w2 := by
  obtain ⟨g1, g, he, hr, hl⟩ := h
  exact ⟨gb_tr hg g1, g, he, hr, Nat.le_trans hg.size hl⟩
theorem badAt_d (n q : Int) (w : World) : Calls Tryd.prog 42 #[.int .i64 n, .int .i64 q] w fun e w' => e = .returned (.iface 86 (.pointer (some ⟨w.heap.size, 0, none⟩))) ∧ w' = w.alloc (.cells #[.iface 83 (.int .i64 n), .int .i64 (-1), .int .i64 (-1), .int .i64 q] 89 (0, 0)) := by
  go_enter Tryd.func42, Tryd.ntmps42
  go_wp2
  go_ret
  exact ⟨rfl, rfl⟩
set_option maxRecDepth 100000 in
theorem refuse_d {α : Type} (RV : World → Nat → Value → α → Prop) (b : Nat) (s : ByteArray) (a : Nat) (w : World) (h : Rd w b s a) : Calls Tryd.prog 45 #[.pointer (some ⟨b, 0, none⟩)] w (DecE b s RV (.error a) w) := by
  have c1 := h.c1
  clear h
  go_enter Tryd.func45, Tryd.ntmps45
  go_wp2_with fail
  refine (badAt_d 3 a w).mono ?_
  rintro e w1 ⟨rfl, hw⟩
  subst w1
  go_wp2
  exact ⟨rfl, gb_alloc _ _ _, w.heap.size, rfl, heap_alloc_new _ _, Nat.le_refl _⟩
theorem bAt_eq (s : ByteArray) (a : Nat) (h : a < s.size) : ((s[a].toNat : Nat) : Int) = bAt s a := by
  unfold bAt
  rw [Array.getElem?_eq_getElem (show a < s.data.size from h)]
  rfl
set_option maxHeartbeats 2000000 in
set_option maxRecDepth 100000 in
theorem peek_ok (b : Nat) (s : ByteArray) (a : Nat) (w : World) (h : Rd w b s a) (hlt : a < s.size) : Calls Tryd.prog 68 #[.pointer (some ⟨b, 0, none⟩)] w fun e w' => e = .returned (.int .u8 (bAt s a)) ∧ w.grownBy w' (some b) ∧ Rd w' b s a := by
  have c0 := h.c0
  have c1 := h.c1
  have hsm := h.small
  have HR := hideE h
  have HB := hideE (bAt_eq s a hlt)
  clear h
  have hlt' : ¬ ((s.size : Int) ≤ a) := by omega
  go_enter Tryd.func68, Tryd.ntmps68
  go_wp2
  go_region
  go_wp2
  go_region
  go_wp2
  go_ret
  refine ⟨by rw [← unhideE HB]; rfl, ?_, ?_⟩
  · exact gb_tr (gb_drew _ _) (gb_drew _ _)
  · exact (unhideE HR).drew.drew
set_option maxHeartbeats 2000000 in
set_option maxRecDepth 100000 in
theorem peek_no {α : Type} (RV : World → Nat → Value → α → Prop) (b : Nat) (s : ByteArray) (a : Nat) (w : World) (h : Rd w b s a) (hlt : s.size ≤ a) : Calls Tryd.prog 68 #[.pointer (some ⟨b, 0, none⟩)] w (DecE b s RV (.error a) w) := by
  have c0 := h.c0
  have c1 := h.c1
  have hsm := h.small
  have hbd := h.bd
  have hle : (s.size : Int) ≤ a := by omega
  have HC := hideE (refuse_d RV b s a w.drew h.drew)
  clear h
  go_enter Tryd.func68, Tryd.ntmps68
  go_wp2
  go_region
  go_wp2_with fail
  refine (unhideE HC).mono ?_
  intro e w2 h2
  have h3 := DecE.err (RW := RV) h2 (gb_drew w (some b))
  obtain ⟨g1, g, rfl, g2, g3⟩ := h2
  exact ⟨rfl, h3⟩
set_option maxRecDepth 100000 in
theorem take_d (b : Nat) (s : ByteArray) (a : Nat) (x lo hi : Int) (w : World) (h : Rd w b s a) (hlt : a < s.size) : Calls Tryd.prog 67 #[.pointer (some ⟨b, 0, none⟩), .int .i64 x, .int .i64 lo, .int .i64 hi] w (DecE b s RInt (dTake lo hi x a) w) := by
  have c1 := h.c1
  have f1 := h.f1
  have hsm := h.small
  have HC := hideE (refuse_d RInt b s a w h)
  have HR := hideE h
  clear h
  by_cases h1 : lo ≤ x
  · by_cases h2 : x ≤ hi
    · have HD := hideE (show dTake lo hi x a = .ok (x, a + 1) from if_pos ⟨h1, h2⟩)
      go_enter Tryd.func67, Tryd.ntmps67
      go_wp2
      go_ret
      rw [unhideE HD]
      exact ⟨gb_setB w b 1 _, _, rfl, rfl, (unhideE HR).next hlt⟩
    · have HD := hideE (show dTake lo hi x a = .error a from if_neg (fun c => h2 c.2))
      go_enter Tryd.func67, Tryd.ntmps67
      go_wp2_with fail
      refine (unhideE HC).mono ?_
      intro e w2 h2
      have h3 := h2
      obtain ⟨g1, g, rfl, g2, g3⟩ := h2
      refine ⟨rfl, ?_⟩
      rw [unhideE HD]
      exact h3
  · have HD := hideE (show dTake lo hi x a = .error a from if_neg (fun c => h1 c.1))
    go_enter Tryd.func67, Tryd.ntmps67
    go_wp2_with fail
    refine (unhideE HC).mono ?_
    intro e w2 h2
    have h3 := h2
    obtain ⟨g1, g, rfl, g2, g3⟩ := h2
    refine ⟨rfl, ?_⟩
    rw [unhideE HD]
    exact h3
end Go.Proofs.YthnmdbddfmgdlaaDoor
