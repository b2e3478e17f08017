/-
  The text of a table: plain mathematics; a builder in memory. Own work of the verifier.
-/
import Derived.Test.YtobempobmokkcaaGreatDoorProg
import Derived.WalkKit
import Derived.Handy
import Derived.Lib.OthersKept
import Derived.Lib.ItoaNum
import Derived.Lib.LaidTab
import Derived.Lib.AppendIntMem
namespace Go.Proofs.YtobempobmokkcaaGreatDoor
open Go.RowKit

theorem hideP {p : Prop} (h : p) : Hid p := h
theorem unhideP {p : Prop} (h : Hid p) : p := h
def numText (k : Nat) (n : Int) : List UInt8 := if k = 2 ∧ n = -1 then [45] else Lib.itoa n
def numsText (k : Nat) (ns : List Int) : List UInt8 := ns.flatMap fun n => 32 :: numText k n
def nm (k : Nat) : List UInt8 := ([[114, 101, 103, 115], [115, 112], [108, 105, 110, 107], [116, 101, 109, 112, 115], [97, 114, 103, 115], [114, 101, 115, 117, 108, 116, 115], [115, 97, 118, 101, 115], [97, 108, 105, 103, 110], [115, 104, 97, 100, 111, 119], [98, 121, 114, 101, 102], [112, 97, 105, 114, 115]] : List (List UInt8)).getD k []
def itemText (k : Nat) (ns : List Int) : List UInt8 := nm k ++ numsText k ns ++ [59, 10]
theorem nm_len (k : Nat) : (nm k).length ≤ 7 := by
  unfold nm
  match k with
  | 0 | 1 | 2 | 3 | 4 | 5 | 6 | 7 | 8 | 9 | 10 => decide
  | k + 11 => simp
theorem dec_len : ∀ (d u : Nat), u < 10 ^ (d + 1) → (Lib.decDigits u).length ≤ d + 1
  | 0, u, h => by rw [Lib.decDigits, dif_pos (by omega)]; simp
  | d + 1, u, h => by
    rw [Lib.decDigits]
    split
    · simp
    · have := dec_len d (u / 10) (by rw [Nat.pow_succ] at h; omega)
      simp; omega
theorem itoa_len {n : Int} (h0 : -9223372036854775808 ≤ n) (h1 : n ≤ 9223372036854775807) : (Lib.itoa n).length ≤ 20 := by
  unfold Lib.itoa
  split
  · have := dec_len 18 n.natAbs (by rw [show (10 : Nat) ^ (18 + 1) = 10000000000000000000 by decide]; omega)
    simp; omega
  · have := dec_len 18 n.toNat (by rw [show (10 : Nat) ^ (18 + 1) = 10000000000000000000 by decide]; omega)
    omega
theorem numText_len (k : Nat) {n : Int} (h0 : -9223372036854775808 ≤ n) (h1 : n ≤ 9223372036854775807) : (numText k n).length ≤ 20 := by
  unfold numText; split
  · simp
  · exact itoa_len h0 h1
theorem numsText_len (k : Nat) : ∀ (ns : List Int), (∀ n ∈ ns, -9223372036854775808 ≤ n ∧ n ≤ 9223372036854775807) → (numsText k ns).length ≤ 21 * ns.length
  | [], _ => by simp [numsText]
  | n :: r, h => by
    have h1 := numsText_len k r (fun x hx => h x (List.mem_cons_of_mem _ hx))
    have h2 := numText_len k (h n (by simp)).1 (h n (by simp)).2
    simp only [numsText, List.flatMap_cons, List.length_append, List.length_cons] at h1 ⊢
    omega
theorem numsText_snoc (k : Nat) (ns : List Int) (n : Int) : numsText k (ns ++ [n]) = numsText k ns ++ 32 :: numText k n := by
  simp [numsText, List.flatMap_append]

/-- A builder of the call's own at block b, which holds the bytes l. -/
def Bd (w : World) (b : Nat) (l : List UInt8) : Prop := Lib.IsBuilderF 149 5 b b (Lib.byteCells l) w
theorem Bd.lt {w : World} {b : Nat} {l : List UInt8} (h : Bd w b l) : b < w.heap.size := by
  rcases h with h | h
  · exact h.lt
  · exact h.lt
theorem Bd.below {w w' : World} {b : Nat} {l : List UInt8} (h : Bd w b l) (hb : Below w.heap.size w w') : Bd w' b l := by
  have hlt := h.lt
  have hg : w.grownBy w' none := ⟨hb.os, hb.tape, hb.output, hb.size, fun k hk _ => hb.block k hk⟩
  have each : ∀ p, Lib.BuilderAtF 149 5 b b p (Lib.byteCells l) w → Lib.BuilderAtF 149 5 b b p (Lib.byteCells l) w' := by
    rintro p ⟨h1, v, h2, h3, h4⟩
    refine ⟨h1, v, (hb.block b hlt).trans h2, h3.kept hg ?_, h4⟩
    cases hv : v.ownBlock with
    | none => exact Or.inl rfl
    | some k => exact Or.inr (by simp)
  exact h.elim (fun x => Or.inl (each _ x)) (fun x => Or.inr (each _ x))
theorem Bd.fresh (w : World) : Bd (w.alloc (.cells #[.pointer none, .slice none 0 0] 149)) w.heap.size [] :=
  Lib.IsBuilderF.of (Lib.fresh_isBuilder _ _ _)
/-- What stays behind a write into the builder at b. -/
structure Wr (w w' : World) (b : Nat) : Prop where
  low : Below b w w'
  oth : Lib.OthersKept 5 (some b) w w'
theorem Wr.refl (w : World) (b : Nat) : Wr w w b := ⟨Below.refl _ _, Lib.OthersKept.refl _ _ _⟩
theorem Wr.trans {a c d : World} {b : Nat} (h : Wr a c b) (k : Wr c d b) : Wr a d b := ⟨h.low.trans k.low, h.oth.trans k.oth⟩
theorem Wr.of_below {w w' : World} {b : Nat} (h : Below w.heap.size w w') (hb : b ≤ w.heap.size) : Wr w w' b :=
  ⟨h.mono hb, fun k o hk _ _ => (h.block k (by rcases Nat.lt_or_ge k w.heap.size with x | x; exact x; simp [Array.getElem?_eq_none x] at hk)).trans hk⟩
/-- A list of numbers that a call may read while the builder is written: old memory, or a row of ints. -/
structure Rd (w : World) (b sb so : Nat) (ns : List Int) : Prop where
  cell : ∀ i, i < ns.length → w.cell? ⟨sb, so + i, none⟩ = some (.int .i64 (ns.getD i 0))
  keep : sb < b ∨ (sb ≠ b ∧ ∃ c fz, w.heap[sb]? = some (.cells c 3 fz))
theorem Rd.wr {w w' : World} {b sb so : Nat} {ns : List Int} (h : Rd w b sb so ns) (hw : Wr w w' b) : Rd w' b sb so ns := by
  have e : w'.heap[sb]? = w.heap[sb]? := by
    rcases h.keep with h1 | ⟨h1, c, fz, h2⟩
    · exact hw.low.block sb h1
    · rw [h2]; exact hw.oth sb _ h2 (by simpa using h1) (by intro c' fz' e; cases e)
  refine ⟨fun i hi => (World.cell?_of_block e).trans (h.cell i hi), ?_⟩
  rcases h.keep with h1 | ⟨h1, c, fz, h2⟩
  · exact Or.inl h1
  · exact Or.inr ⟨h1, c, fz, e.trans h2⟩
end Go.Proofs.YtobempobmokkcaaGreatDoor
