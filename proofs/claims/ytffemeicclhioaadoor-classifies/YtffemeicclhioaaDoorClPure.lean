/-
  Layouts of calls: what both sides come to. Own work of the verifier.
-/
import Derived.Test.YtffemeicclhioaaDoorM8
namespace Go.Proofs.YtffemeicclhioaaDoor
open Go.RowKit

/-- How far the giving of places is: registers, cells, copies. -/
structure GivS where
  u : Nat
  c : Int
  p : Int
structure SptE where
  pl : List (Int × Int)
  ref : Bool
  at_ : Int
structure LayE where
  args : List SptE
  res : List (Int × Int)
  size : Int
  copies : Int
def wdS (br n : Int) : Nat := if n = 0 ∨ br < n then 1 else n.toNat
def u1S (pr : Bool) (w u : Nat) : Nat := if (decide (1 < w) && (pr && decide (u % 2 = 1))) = true then u + 1 else u
def rgS (L w u1 : Nat) : Bool := decide (u1 + w ≤ L)
def plS (ag : List Int) (rg : Bool) (u1 : Nat) (c : Int) (i : Nat) : Int × Int := if rg = true then (ag.getD (u1 + i) 0, 0) else (-1, c + 8 * i)
def stepS (L : Nat) (br : Int) (pr : Bool) (n : Int) (s : GivS) : GivS :=
  ⟨if rgS L (wdS br n) (u1S pr (wdS br n) s.u) = true then u1S pr (wdS br n) s.u + wdS br n else if 1 < wdS br n then L else u1S pr (wdS br n) s.u,
   if rgS L (wdS br n) (u1S pr (wdS br n) s.u) = true then s.c else s.c + 8 * wdS br n, if br < n then s.p + 8 * n else s.p⟩
def spotS (ag : List Int) (br : Int) (pr : Bool) (n : Int) (s : GivS) : SptE :=
  ⟨(List.range (wdS br n)).map (plS ag (rgS ag.length (wdS br n) (u1S pr (wdS br n) s.u)) (u1S pr (wdS br n) s.u) s.c), decide (br < n), if br < n then s.p else 0⟩
/-- Behind the first k parameters. -/
def stA (L : Nat) (br : Int) (pr : Bool) (ps : List Int) (sh : Int) : Nat → GivS
  | 0 => ⟨0, sh, 0⟩
  | k + 1 => stepS L br pr (ps.getD k 0) (stA L br pr ps sh k)
def sptA (ag : List Int) (br : Int) (pr : Bool) (ps : List Int) (sh : Int) (k : Nat) : SptE := spotS ag br pr (ps.getD k 0) (stA ag.length br pr ps sh k)
def resS (rs : List Int) (c : Int) (k : Nat) : Int × Int := if k < rs.length then (rs.getD k 0, 0) else (-1, c + 8 * ((k - rs.length : Nat) : Int))
def resC (rs : List Int) (c : Int) (k : Nat) : Int := c + 8 * ((k - rs.length : Nat) : Int)
def layE (ag rs : List Int) (br : Int) (pr : Bool) (sh : Int) (ps : List Int) (n : Int) : LayE :=
  ⟨(List.range ps.length).map (sptA ag br pr ps sh), (List.range n.toNat).map (resS rs (stA ag.length br pr ps sh ps.length).c), resC rs (stA ag.length br pr ps sh ps.length).c n.toNat, (stA ag.length br pr ps sh ps.length).p⟩
theorem wdS_pos (br n : Int) (h : 0 ≤ n) : 1 ≤ wdS br n := by unfold wdS; split <;> omega
theorem wdS_le (br n : Int) (h : n ≤ 8) : wdS br n ≤ 8 := by unfold wdS; split <;> omega
theorem u1S_one (pr : Bool) (u : Nat) : u1S pr 1 u = u := by unfold u1S; simp
theorem stepS_u {L : Nat} {br : Int} {pr : Bool} {n : Int} {s : GivS} (hn : 0 ≤ n) (hu : s.u ≤ L) : (stepS L br pr n s).u ≤ L := by
  unfold stepS
  simp only
  split
  · rename_i h
    unfold rgS at h
    exact of_decide_eq_true h
  · split
    · exact Nat.le_refl _
    · have h1 : wdS br n = 1 := by have := wdS_pos br n hn; omega
      rw [h1, u1S_one]
      exact hu
theorem stepS_c {L : Nat} {br : Int} {pr : Bool} {n : Int} {s : GivS} (hn : n ≤ 8) : s.c ≤ (stepS L br pr n s).c ∧ (stepS L br pr n s).c ≤ s.c + 64 := by
  have := wdS_le br n hn
  unfold stepS
  simp only
  split <;> omega
theorem stepS_p {L : Nat} {br : Int} {pr : Bool} {n : Int} {s : GivS} (h0 : 0 ≤ n) (hn : n ≤ 8) : s.p ≤ (stepS L br pr n s).p ∧ (stepS L br pr n s).p ≤ s.p + 64 := by
  unfold stepS
  simp only
  split <;> omega
structure StOk (L : Nat) (sh : Int) (k : Nat) (s : GivS) : Prop where
  u : s.u ≤ L
  c0 : sh ≤ s.c
  c1 : s.c ≤ sh + 64 * k
  p0 : 0 ≤ s.p
  p1 : s.p ≤ 64 * k
theorem stA_ok {L : Nat} {br : Int} {pr : Bool} {ps : List Int} {sh : Int} (hps : numsIn ps 0 8 = true) : ∀ k, k ≤ ps.length → StOk L sh k (stA L br pr ps sh k)
  | 0, _ => ⟨Nat.zero_le _, Int.le_refl _, by show sh ≤ sh + 64 * ((0 : Nat) : Int); omega, Int.le_refl _, by show (0 : Int) ≤ 64 * ((0 : Nat) : Int); omega⟩
  | k + 1, h => by
    have ih := stA_ok (L := L) (br := br) (pr := pr) (sh := sh) hps k (by omega)
    have hk := upB_get hps (k := k) (by omega)
    unfold inB at hk
    obtain ⟨h0, h8⟩ := of_decide_eq_true hk
    have hc := stepS_c (L := L) (br := br) (pr := pr) (s := stA L br pr ps sh k) h8
    have hp := stepS_p (L := L) (br := br) (pr := pr) (s := stA L br pr ps sh k) h0 h8
    have i1 := ih.c0
    have i2 := ih.c1
    have i3 := ih.p0
    have i4 := ih.p1
    refine ⟨stepS_u h0 ih.u, ?_, ?_, ?_, ?_⟩ <;> simp only [stA] <;> omega
theorem map_range_snoc {α : Type} (f : Nat → α) (k : Nat) : (List.range (k + 1)).map f = (List.range k).map f ++ [f k] := by rw [List.range_succ, List.map_append]; rfl
/-- Places, cell by cell. -/
def plC (xs : List (Int × Int)) : List Value := xs.flatMap fun x => [.int .i64 x.1, .int .i64 x.2]
theorem plC_snoc (xs : List (Int × Int)) (x : Int × Int) : plC (xs ++ [x]) = plC xs ++ [.int .i64 x.1, .int .i64 x.2] := by simp [plC]
theorem plC_len (xs : List (Int × Int)) : (plC xs).length = xs.length * 2 := by
  induction xs with
  | nil => rfl
  | cons a r ih => simp only [plC, List.flatMap_cons, List.length_append, List.length_cons, List.length_nil] at ih ⊢; omega
theorem plC_get : ∀ (xs : List (Int × Int)) (k : Nat), k < xs.length → (plC xs)[k * 2]? = some (.int .i64 (xs.getD k (0, 0)).1) ∧ (plC xs)[k * 2 + 1]? = some (.int .i64 (xs.getD k (0, 0)).2)
  | a :: r, 0, _ => ⟨rfl, rfl⟩
  | a :: r, k + 1, h => by
    have ih := plC_get r k (by simpa using h)
    have e : plC (a :: r) = [.int .i64 a.1, .int .i64 a.2] ++ plC r := rfl
    rw [e]
    refine ⟨?_, ?_⟩
    · rw [List.getElem?_append_right (by simp; omega)]
      rw [show (k + 1) * 2 - [Value.int .i64 a.1, .int .i64 a.2].length = k * 2 by simp; omega, ih.1]
      simp [List.getD]
    · rw [List.getElem?_append_right (by simp; omega)]
      rw [show (k + 1) * 2 + 1 - [Value.int .i64 a.1, .int .i64 a.2].length = k * 2 + 1 by simp; omega, ih.2]
      simp [List.getD]
end Go.Proofs.YtffemeicclhioaaDoor
