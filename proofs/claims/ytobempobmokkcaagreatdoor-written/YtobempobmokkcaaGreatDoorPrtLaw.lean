/-
  prologuelaw.Prints: its walk. Own work of the verifier.
-/
import Derived.Test.YtobempobmokkcaaGreatDoorPrtRef3
namespace Go.Proofs.YtobempobmokkcaaGreatDoor
open Go.RowKit

theorem Lst_of_Rs {w : World} {v : Value} {ns : List Int} (h : Rs w v ns) : ∀ w' b, Below w.heap.size w w' → w.heap.size ≤ b → Lst w' b v ns := by
  intro w' b hb hle
  rcases h with h | ⟨sb, so, cap, e, hc⟩
  · exact Or.inl h
  · cases ns with
    | nil => exact Or.inl ⟨rfl, _, _, e⟩
    | cons n r =>
      have h0 := ltc (hc 0 (by simp))
      exact Or.inr ⟨sb, so, cap, e, ⟨fun i hi => (hb.cell (p := ⟨sb, so + i, none⟩) h0).trans (hc i hi), Or.inl (Nat.lt_of_lt_of_le h0 hle)⟩⟩
/-- What a table's value must be like. -/
structure Tb (w : World) (r sp lk t0 t1 : Int) (va vr vs : Value) (al sh by_ : Int) (ag rs ss : List Int) : Prop where
  tabs : Tabs w
  o : okN r ∧ okN sp ∧ okN lk ∧ okN t0 ∧ okN t1 ∧ okN al ∧ okN sh ∧ okN by_
  a : okI ag ∧ okI rs ∧ okI ss
  l : Rs w va ag ∧ Rs w vr rs ∧ Rs w vs ss
  n : ag.length + rs.length + ss.length ≤ 4000000
theorem Tb.below {w w' : World} {r sp lk t0 t1 : Int} {va vr vs : Value} {al sh by_ : Int} {ag rs ss : List Int} (h : Tb w r sp lk t0 t1 va vr vs al sh by_ ag rs ss) (hb : Below w.heap.size w w') : Tb w' r sp lk t0 t1 va vr vs al sh by_ ag rs ss :=
  ⟨h.tabs.below hb h.tabs.gb, h.o, h.a, ⟨h.l.1.below hb, h.l.2.1.below hb, h.l.2.2.below hb⟩, h.n⟩
theorem Tb.alloc {w : World} {r sp lk t0 t1 : Int} {va vr vs : Value} {al sh by_ : Int} {ag rs ss : List Int} (h : Tb w r sp lk t0 t1 va vr vs al sh by_ ag rs ss) (o : Obj) : Tb (w.alloc o) r sp lk t0 t1 va vr vs al sh by_ ag rs ss :=
  h.below ((Below.refl _ _).alloc (Nat.le_refl _) o)
theorem pr46 {w : World} {r sp lk t0 t1 : Int} {va vr vs : Value} {al sh by_ : Int} {ag rs ss : List Int} (pr : Bool) (h : Tb w r sp lk t0 t1 va vr vs al sh by_ ag rs ss) :
    Calls Tryz.prog 36 #[.agg (boxOf r sp lk t0 t1 va vr vs al sh by_ pr)] w fun e w' => e = .returned (.string ⟨(printText r sp lk t0 t1 ag rs ss al sh by_ pr).toArray⟩) ∧ Below w.heap.size w w' :=
  tprint r sp lk t0 t1 va vr vs al sh by_ pr ag rs ss w h.tabs h.o.1 h.o.2.1 h.o.2.2.1 h.o.2.2.2.1 h.o.2.2.2.2.1 h.o.2.2.2.2.2.1 h.o.2.2.2.2.2.2.1 h.o.2.2.2.2.2.2.2 h.a.1 h.a.2.1 h.a.2.2 (Lst_of_Rs h.l.1) (Lst_of_Rs h.l.2.1) (Lst_of_Rs h.l.2.2) h.n
set_option maxHeartbeats 1000000 in
theorem pr32 {w : World} {r sp lk t0 t1 : Int} {va vr vs : Value} {al sh by_ : Int} {ag rs ss : List Int} (pr : Bool) (h : Tb w r sp lk t0 t1 va vr vs al sh by_ ag rs ss) :
    Calls Tryz.prog 21 #[.agg (boxOf r sp lk t0 t1 va vr vs al sh by_ pr)] w fun e w' => e = .returned (.string ⟨(printText r sp lk t0 t1 ag rs ss al sh by_ pr).toArray⟩) ∧ Below w.heap.size w w' := by
  have HH := hideP h
  clear h
  have HC := hideP (pr46 pr ((unhideP HH).alloc (.cells (boxOf r sp lk t0 t1 va vr vs al sh by_ pr) 25)))
  unfold boxOf at HC ⊢
  go_enter Tryz.func21, Tryz.ntmps21
  go_wp2_with fail
  refine (unhideP HC).mono ?_
  rintro e w' ⟨rfl, hb⟩
  have HB := hideP (((Below.refl w.heap.size w).alloc (Nat.le_refl _) _).trans (hb.mono (by simp)))
  clear hb
  go_wp2
  go_ret
  exact ⟨rfl, unhideP HB⟩
set_option maxHeartbeats 1000000 in
theorem pr17 {w : World} {r sp lk t0 t1 : Int} {va vr vs : Value} {al sh by_ : Int} {ag rs ss : List Int} (pr : Bool) (h : Tb w r sp lk t0 t1 va vr vs al sh by_ ag rs ss) :
    Calls Tryz.prog 7 #[.agg (boxOf r sp lk t0 t1 va vr vs al sh by_ pr)] w fun e w' => e = .returned (.string ⟨(printText r sp lk t0 t1 ag rs ss al sh by_ pr).toArray⟩) ∧ Below w.heap.size w w' := by
  have HH := hideP h
  clear h
  have HC := hideP (pr32 pr ((unhideP HH).alloc (.cells (boxOf r sp lk t0 t1 va vr vs al sh by_ pr) 25)))
  unfold boxOf at HC ⊢
  go_enter Tryz.func7, Tryz.ntmps7
  go_wp2_with fail
  refine (unhideP HC).mono ?_
  rintro e w' ⟨rfl, hb⟩
  have HB := hideP (((Below.refl w.heap.size w).alloc (Nat.le_refl _) _).trans (hb.mono (by simp)))
  clear hb
  go_wp2
  go_ret
  exact ⟨rfl, unhideP HB⟩
theorem okI_nsOf {r sp lk t0 t1 al sh by_ : Int} {ag rs ss : List Int} (o : okN r ∧ okN sp ∧ okN lk ∧ okN t0 ∧ okN t1 ∧ okN al ∧ okN sh ∧ okN by_) (a : okI ag ∧ okI rs ∧ okI ss) (k : Nat) (hk : k < 10) : okI (nsOf r sp lk t0 t1 ag rs ss al sh by_ k) := by
  match k, hk with
  | 0, _ => exact okI1 o.1
  | 1, _ => exact okI1 o.2.1
  | 2, _ => exact okI1 o.2.2.1
  | 3, _ => exact okI2 o.2.2.2.1 o.2.2.2.2.1
  | 4, _ => exact a.1
  | 5, _ => exact a.2.1
  | 6, _ => exact a.2.2
  | 7, _ => exact okI1 o.2.2.2.2.2.1
  | 8, _ => exact okI1 o.2.2.2.2.2.2.1
  | 9, _ => exact okI1 o.2.2.2.2.2.2.2
theorem nsOf_len (r sp lk t0 t1 al sh by_ : Int) (ag rs ss : List Int) (n : ag.length + rs.length + ss.length ≤ 4000000) (k : Nat) (hk : k < 10) : (nsOf r sp lk t0 t1 ag rs ss al sh by_ k).length ≤ 4000000 := by
  match k, hk with
  | 0, _ | 1, _ | 2, _ | 3, _ | 7, _ | 8, _ | 9, _ => simp [nsOf]
  | 4, _ | 5, _ | 6, _ => simp [nsOf]; omega
theorem pre_len {r sp lk t0 t1 al sh by_ : Int} {ag rs ss : List Int} (o : okN r ∧ okN sp ∧ okN lk ∧ okN t0 ∧ okN t1 ∧ okN al ∧ okN sh ∧ okN by_) (a : okI ag ∧ okI rs ∧ okI ss) (n : ag.length + rs.length + ss.length ≤ 4000000) :
    ∀ k, k ≤ 10 → (pre r sp lk t0 t1 ag rs ss al sh by_ k).length ≤ 84000009 * k
  | 0, _ => by simp [pre]
  | k + 1, hk => by
    have h1 := pre_len o a n k (by omega)
    have h2 := item_len k (okI_nsOf o a k (by omega))
    have h3 := nsOf_len r sp lk t0 t1 al sh by_ ag rs ss n k (by omega)
    rw [pre_succ, List.length_append]
    omega
end Go.Proofs.YtobempobmokkcaaGreatDoor
