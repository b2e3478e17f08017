/-
  Parses: prologueref.tokens by its contract. Own work of the verifier.
-/
import Derived.Test.YtobempobmokkcaaGreatDoorPsCut2
import Derived.Test.YtobempobmokkcaaGreatDoorPsScal
import Derived.Laws.Strings2
namespace Go.Proofs.YtobempobmokkcaaGreatDoor
open Go.RowKit

/-- The letter of a kind. -/
def kb (k : Nat) : Nat := if k = 3 then 119 else if k = 4 then 110 else if k = 5 then 45 else 59
def toCells (s : ByteArray) (l : List Tk) : List Value := l.flatMap fun t => [.int .u8 (kb t.k), .string (s.extract t.a t.e), .int .i64 t.a]
theorem toCells_snoc (s : ByteArray) (l : List Tk) (t : Tk) : toCells s (l ++ [t]) = toCells s l ++ [.int .u8 (kb t.k), .string (s.extract t.a t.e), .int .i64 t.a] := by simp [toCells]
theorem toCells_len (s : ByteArray) : ∀ (l : List Tk), (toCells s l).length = l.length * 3
  | [] => rfl
  | t :: r => by have := toCells_len s r; simp only [toCells, List.flatMap_cons, List.length_append, List.length_cons, List.length_nil] at this ⊢; omega
theorem dec_fit (s : ByteArray) (p : Nat) (hp : p < s.size) : p + (Utf8.decode s p).2 ≤ s.size := by
  rw [Lib.decode_at]
  unfold Lib.decodeN
  repeat' split
  all_goals first | omega | (simp; omega)
theorem scal_fit (s : ByteArray) (p : Nat) (hp : p < s.size) : p + scalAt s p ≤ s.size := by
  rw [scalAt_eq]
  split
  · omega
  · exact dec_fit s p hp
/-- The last piece does not go on at pos. -/
def Shut (s : ByteArray) (l : List Tk) (pos : Nat) : Prop := ∀ t, l.getLast? = some t → t.e ≤ pos ∧ (t.e = pos → pos < s.size → (t.k = 3 ∨ t.k = 4) → kindN (s.get! pos).toNat ≠ t.k)
theorem Shut.on {s : ByteArray} {l : List Tk} {pos q : Nat} (h : Shut s l pos) (hq : pos < q) : Shut s l q := fun t ht => ⟨by have := (h t ht).1; omega, fun e => by have := (h t ht).1; omega⟩
theorem Shut.new {s : ByteArray} {l : List Tk} {pos : Nat} (h : Shut s l pos) (hp : pos < s.size) : addR l (kindN (s.get! pos).toNat) pos = l ++ [⟨kindN (s.get! pos).toNat, pos, pos + 1⟩] :=
  addR_new l _ pos (fun t ht h3 hk he => (h t ht).2 he hp (by omega) hk.symm)
theorem kind0 {b : Nat} (k1 : ¬ (b = 32 ∨ b = 9 ∨ b = 10)) (k2 : ¬ b = 35) (k3 : ¬ (b = 59 ∨ b = 45)) (k4 : ¬ (97 ≤ b ∧ b ≤ 122)) (k5 : ¬ (48 ≤ b ∧ b ≤ 57)) : kindN b = 0 := by
  unfold kindN
  repeat' split
  all_goals omega
theorem kind3 {b : Nat} (k : 97 ≤ b ∧ b ≤ 122) : kindN b = 3 := by
  unfold kindN
  repeat' split
  all_goals omega
theorem kind4 {b : Nat} (k : 48 ≤ b ∧ b ≤ 57) : kindN b = 4 := by
  unfold kindN
  repeat' split
  all_goals omega
theorem neqB {b : UInt8} {n : Nat} (h : ¬ b.toNat = n) : ((b.toNat : Int) == (n : Int)) = false := by
  rw [beq_eq_false_iff_ne]; omega
theorem slice_run (s : ByteArray) (i j : Nat) (h1 : i ≤ j) (h2 : j ≤ s.size) (w : World) : (Instr.slice 9 (.string s) (some (.int .i64 (i : Int))) (some (.int .i64 (j : Int))) none).run Tryz.prog w = .ok (.string (s.extract i j)) w := by
  have := run_slice_string (P := Tryz.prog) (w := w) 9 s .i64 .i64 i j Tryz.underlying9 (by omega) (by omega) (by omega)
  simpa using this
theorem slice_run1 (s : ByteArray) (i : Nat) (h2 : i + 1 ≤ s.size) (w : World) : (Instr.slice 9 (.string s) (some (.int .i64 (i : Int))) (some (.int .i64 ((i : Int) + 1))) none).run Tryz.prog w = .ok (.string (s.extract i (i + 1))) w := by
  have := slice_run s i (i + 1) (by omega) h2 w
  simpa using this
theorem shut_new {s : ByteArray} {l : List Tk} {k a p : Nat} (h : k = 0 ∨ k = 5 ∨ k = 6) : Shut s (l ++ [⟨k, a, p⟩]) p := fun t ht => by
  simp at ht
  subst ht
  exact ⟨Nat.le_refl _, fun _ _ h' => by simp at h'; omega⟩
theorem shut_at {s : ByteArray} {l : List Tk} {k a p : Nat} (h : p < s.size → ¬ kindN (s.get! p).toNat = k) : Shut s (l ++ [⟨k, a, p⟩]) p := fun t ht => by
  simp at ht
  subst ht
  exact ⟨Nat.le_refl _, fun _ hp _ => h hp⟩
theorem of_kind3 {b : Nat} (h : kindN b = 3) : 97 ≤ b ∧ b ≤ 122 := by
  unfold kindN at h
  repeat' split at h
  all_goals omega
theorem of_kind4 {b : Nat} (h : kindN b = 4) : 48 ≤ b ∧ b ≤ 57 := by
  unfold kindN at h
  repeat' split at h
  all_goals omega
end Go.Proofs.YtobempobmokkcaaGreatDoor
