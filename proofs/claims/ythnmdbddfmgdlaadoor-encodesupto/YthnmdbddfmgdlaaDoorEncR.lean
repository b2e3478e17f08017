/-
  Encodes: the reference's signatures. Own work of the verifier.
-/
import Derived.Test.YthnmdbddfmgdlaaDoorEncQ
namespace Go.Proofs.YthnmdbddfmgdlaaDoor
open Go.RowKit

/-- What the pen writes: its bytes, and whether something was wrong. -/
abbrev Pr := List UInt8 × Bool
def penNum (lo hi x : Int) : Pr := ([byteOf x], !decide (lo ≤ x ∧ x ≤ hi))
def penSeq (a c : Pr) : Pr := (a.1 ++ c.1, a.2 || c.2)
def penAll {α : Type} (one : α → Pr) : List α → Pr
  | [] => ([], false)
  | x :: xs => penSeq (one x) (penAll one xs)
def penL {α : Type} (lo hi : Int) (one : α → Pr) (xs : List α) : Pr := penSeq (penNum lo hi xs.length) (penAll one xs)
def encOf (r : Pr) : Option (List UInt8) := if r.2 then none else some r.1
theorem encOf_num (lo hi x : Int) : encOf (penNum lo hi x) = encNum lo hi x := by
  unfold encOf penNum encNum
  by_cases h : lo ≤ x ∧ x ≤ hi <;> simp [h]
theorem encOf_seq (a c : Pr) : encOf (penSeq a c) = seqE (encOf a) (encOf c) := by
  obtain ⟨a1, a2⟩ := a
  obtain ⟨c1, c2⟩ := c
  cases a2 <;> cases c2 <;> rfl
theorem encOf_all {α : Type} (one : α → Pr) : ∀ xs : List α, encOf (penAll one xs) = encAll (fun x => encOf (one x)) xs
  | [] => rfl
  | x :: xs => by simp only [penAll, encAll]; rw [encOf_seq, encOf_all one xs]
theorem encOf_L {α : Type} (lo hi : Int) (one : α → Pr) (xs : List α) : encOf (penL lo hi one xs) = encL lo hi (fun x => encOf (one x)) xs := by
  unfold penL encL
  rw [encOf_seq, encOf_num, encOf_all]
theorem penAll_snoc {α : Type} (one : α → Pr) : ∀ (xs : List α) (x : α), penAll one (xs ++ [x]) = penSeq (penAll one xs) (one x)
  | [], x => by simp [penAll, penSeq]
  | y :: xs, x => by
    simp only [List.cons_append, penAll, penAll_snoc one xs x, penSeq, List.append_assoc, Bool.or_assoc]
def penSig (s : List Int × Int) : Pr := penSeq (penL 0 8 (penNum 0 8) s.1) (penNum 0 4 s.2)
theorem encOf_sig (s : List Int × Int) : encOf (penSig s) = seqE (encL 0 8 (encNum 0 8) s.1) (encNum 0 4 s.2) := by
  unfold penSig
  rw [encOf_seq, encOf_L, encOf_num]
  congr 2
  funext x
  exact encOf_num 0 8 x
/-- What becomes of a call of the pen's. -/
def PenE (b : Nat) (l : List UInt8) (bad : Bool) (r : Pr) (w : World) (e : Ending) (w' : World) : Prop := e = .returned (.tuple #[]) ∧ Pn w' b (l ++ r.1) (bad || r.2) ∧ w.grownBy w' (some b)
end Go.Proofs.YthnmdbddfmgdlaaDoor
