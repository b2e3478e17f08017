/-
  Parses: what becomes of a text, as one plain function. Own work of the verifier.
-/
import Derived.Test.YtobempobmokkcaaGreatDoorPsItems
namespace Go.Proofs.YtobempobmokkcaaGreatDoor
open Go.RowKit

/-- Where the i-th piece stands, or the text's length. -/
def atAt (s : ByteArray) (l : List Tk) (i : Nat) : Nat := match l[i]? with | some t => t.a | none => s.size
def S00 : RSt := ⟨0, fun _ => false, fun _ => []⟩
def parseL (s : ByteArray) (l : List Tk) : (Nat × Nat) ⊕ RSt :=
  if (itemsF s l l.length S00).1 = true ∧ allB (itemsF s l l.length S00).2.sn = true then .inr (itemsF s l l.length S00).2 else .inl (1, atAt s l (itemsF s l l.length S00).2.i)
/-- An error's number and place, or the numbers that were read. -/
def parseF (s : ByteArray) : (Nat × Nat) ⊕ RSt :=
  if 400 < s.size then .inl (4, 0) else
    match cutF s s.size 0 false [] with
    | .inl p => .inl (1, p)
    | .inr l => parseL s l
/-- What is read has as many numbers as it must. -/
def Good (S : RSt) : Prop := ∀ k, k < 11 → S.sn k = true → loK k ≤ (S.vals k).length ∧ (S.vals k).length ≤ hiK k
theorem numsF_len (s : ByteArray) (l : List Tk) (k : Nat) : ∀ (f i : Nat) (ns : List Int), ns.length ≤ hiK k → (numsF s l k f i ns).2.length ≤ hiK k
  | 0, i, ns, h => h
  | f + 1, i, ns, h => by
    unfold numsF
    split
    · split
      · exact numsF_len s l k f (i + 1) _ (by simp; omega)
      · exact h
    · exact h
theorem itemF_good {s : ByteArray} {l : List Tk} {S : RSt} (h : (itemF s l S).1 = true) (hg : Good S) : Good (itemF s l S).2 ∧ (itemF s l S).2.i ≤ l.length := by
  unfold itemF at h ⊢
  split at h
  · simp at h
  · rename_i k hk
    have hn := numsF_len s l k 13 (S.i + 1) [] (by simp)
    split at h
    · split at h
      · rename_i h1 h2
        simp only [h1, h2, if_true]
        refine ⟨fun j hj hs => ?_, by have := kAt6 h2; omega⟩
        by_cases hjk : j = k
        · subst hjk
          simp only [updL, if_true]
          exact ⟨h1, hn⟩
        · simp only [updL, updS, hjk, if_false] at hs ⊢
          exact hg j hj hs
      · simp at h
    · simp at h
theorem itemsF_good {s : ByteArray} {l : List Tk} : ∀ (f : Nat) (S S' : RSt), itemsF s l f S = (true, S') → S.i ≤ l.length → l.length ≤ S.i + f → Good S → S'.i = l.length ∧ Good S'
  | 0, S, S', h, h1, h2, hg => by
    unfold itemsF at h
    injection h with _ h
    subst h
    exact ⟨by omega, hg⟩
  | f + 1, S, S', h, h1, h2, hg => by
    unfold itemsF at h
    split at h
    · split at h
      · rename_i hok
        have := itemF_on hok
        obtain ⟨g1, g2⟩ := itemF_good hok hg
        exact itemsF_good f _ S' h g2 (by omega) g1
      · cases h
    · injection h with _ h
      subst h
      exact ⟨by omega, hg⟩
theorem good0 : Good S00 := fun k _ h => by simp [S00] at h
theorem allB_get {sn : Nat → Bool} (h : allB sn = true) (k : Nat) (hk : k < 10) : sn k = true := by
  unfold allB at h
  rw [List.all_eq_true] at h
  exact h k (List.mem_range.2 hk)
theorem one_of {α : Type} {l : List α} (h : 1 ≤ l.length ∧ l.length ≤ 1) : ∃ x, l = [x] := by
  match l, h with
  | [x], _ => exact ⟨x, rfl⟩
theorem two_of {α : Type} {l : List α} (h : 2 ≤ l.length ∧ l.length ≤ 2) : ∃ x y, l = [x, y] := by
  match l, h with
  | [x, y], _ => exact ⟨x, y, rfl⟩
/-- What a whole table's text gives. -/
theorem parseL_some {s : ByteArray} {l : List Tk} {S : RSt} (h : parseL s l = .inr S) :
    itemsF s l l.length S00 = (true, S) ∧ S.i = l.length ∧ (∃ x, S.vals 0 = [x]) ∧ (∃ x, S.vals 1 = [x]) ∧ (∃ x, S.vals 2 = [x]) ∧ (∃ x y, S.vals 3 = [x, y]) ∧ (S.vals 4).length ≤ 8 ∧ (S.vals 5).length ≤ 4 ∧ (S.vals 6).length ≤ 12 ∧ (∃ x, S.vals 7 = [x]) ∧ (∃ x, S.vals 8 = [x]) ∧ (∃ x, S.vals 9 = [x]) := by
  unfold parseL at h
  split at h
  · rename_i hc
    injection h with h
    have he : itemsF s l l.length S00 = (true, S) := by
      rw [← h]
      generalize itemsF s l l.length S00 = r at *
      obtain ⟨a, b⟩ := r
      simp at hc ⊢
      exact hc.1
    obtain ⟨h1, h2⟩ := itemsF_good l.length S00 S he (by simp [S00]) (by simp [S00]) good0
    have ha : allB S.sn = true := by rw [← h]; exact hc.2
    have g := fun k (hk : k < 10) => h2 k (by omega) (allB_get ha k hk)
    exact ⟨he, h1, one_of (g 0 (by decide)), one_of (g 1 (by decide)), one_of (g 2 (by decide)), two_of (g 3 (by decide)), (g 4 (by decide)).2, (g 5 (by decide)).2, (g 6 (by decide)).2, one_of (g 7 (by decide)), one_of (g 8 (by decide)), one_of (g 9 (by decide))⟩
  · cases h
end Go.Proofs.YtobempobmokkcaaGreatDoor
