/-
  prologuelaw.Prints: its walk. Own work of the verifier.
-/
import Derived.Test.YtidhncoecfkbfaaDoorPrtRef3
namespace Go.Proofs.YtidhncoecfkbfaaDoor
open Go.RowKit

theorem Lst_of_Rs {w : World} {v : Value} {ns : List Int} (h : Rs w v ns) : ∀ w' b, Below w.heap.size w w' → w.heap.size ≤ b → Lst w' b v ns := by
  intro w' b hb hle
  rcases h with h | ⟨sb, so, cap, e, hc⟩
  · exact Or.inl h
  · cases ns with
    | nil => exact Or.inl ⟨rfl, _, _, e⟩
    | cons n r =>
      have h0 := ltc (hc 0 (by simp))
      exact Or.inr ⟨sb, so, cap, e, ⟨fun i hi => (hb.cell (p := ⟨sb, so + i, none⟩) h0).trans (hc i hi), Or.inl (Nat.lt_of_lt_of_le h0 hle)⟩⟩
/-- What a table's value must be like. -/
structure Tb (w : World) (r sp lk t0 t1 : Int) (va vr vs : Value) (al sh by_ : Int) (ag rs ss : List Int) : Prop where
  tabs : Tabs w
  o : okN r ∧ okN sp ∧ okN lk ∧ okN t0 ∧ okN t1 ∧ okN al ∧ okN sh ∧ okN by_
  a : okI ag ∧ okI rs ∧ okI ss
  l : Rs w va ag ∧ Rs w vr rs ∧ Rs w vs ss
  n : ag.length + rs.length + ss.length ≤ 4000000
theorem Tb.below {w w' : World} {r sp lk t0 t1 : Int} {va vr vs : Value} {al sh by_ : Int} {ag rs ss : List Int} (h : Tb w r sp lk t0 t1 va vr vs al sh by_ ag rs ss) (hb : Below w.heap.size w w') : Tb w' r sp lk t0 t1 va vr vs al sh by_ ag rs ss :=
  ⟨h.tabs.below hb h.tabs.gb, h.o, h.a, ⟨h.l.1.below hb, h.l.2.1.below hb, h.l.2.2.below hb⟩, h.n⟩
theorem Tb.alloc {w : World} {r sp lk t0 t1 : Int} {va vr vs : Value} {al sh by_ : Int} {ag rs ss : List Int} (h : Tb w r sp lk t0 t1 va vr vs al sh by_ ag rs ss) (o : Obj) : Tb (w.alloc o) r sp lk t0 t1 va vr vs al sh by_ ag rs ss :=
  h.below ((Below.refl _ _).alloc (Nat.le_refl _) o)
theorem pr46 {w : World} {r sp lk t0 t1 : Int} {va vr vs : Value} {al sh by_ : Int} {ag rs ss : List Int} (pr : Bool) (h : Tb w r sp lk t0 t1 va vr vs al sh by_ ag rs ss) :
    Calls Tryd.prog 54 #[.agg (boxOf r sp lk t0 t1 va vr vs al sh by_ pr)] w fun e w' => e = .returned (.string ⟨(printText r sp lk t0 t1 ag rs ss al sh by_ pr).toArray⟩) ∧ Below w.heap.size w w' :=
  tprint r sp lk t0 t1 va vr vs al sh by_ pr ag rs ss w h.tabs h.o.1 h.o.2.1 h.o.2.2.1 h.o.2.2.2.1 h.o.2.2.2.2.1 h.o.2.2.2.2.2.1 h.o.2.2.2.2.2.2.1 h.o.2.2.2.2.2.2.2 h.a.1 h.a.2.1 h.a.2.2 (Lst_of_Rs h.l.1) (Lst_of_Rs h.l.2.1) (Lst_of_Rs h.l.2.2) h.n
set_option maxHeartbeats 1000000 in
theorem pr32 {w : World} {r sp lk t0 t1 : Int} {va vr vs : Value} {al sh by_ : Int} {ag rs ss : List Int} (pr : Bool) (h : Tb w r sp lk t0 t1 va vr vs al sh by_ ag rs ss) :
    Calls Tryd.prog 37 #[.agg (boxOf r sp lk t0 t1 va vr vs al sh by_ pr)] w fun e w' => e = .returned (.string ⟨(printText r sp lk t0 t1 ag rs ss al sh by_ pr).toArray⟩) ∧ Below w.heap.size w w' := by
  have HH := hideP h
  clear h
  have HC := hideP (pr46 pr ((unhideP HH).alloc (.cells (boxOf r sp lk t0 t1 va vr vs al sh by_ pr) 45)))
  unfold boxOf at HC ⊢
  go_enter Tryd.func37, Tryd.ntmps37
  go_wp2_with fail
  refine (unhideP HC).mono ?_
  rintro e w' ⟨rfl, hb⟩
  have HB := hideP (((Below.refl w.heap.size w).alloc (Nat.le_refl _) _).trans (hb.mono (by simp)))
  clear hb
  go_wp2
  go_ret
  exact ⟨rfl, unhideP HB⟩
set_option maxHeartbeats 1000000 in
theorem pr17 {w : World} {r sp lk t0 t1 : Int} {va vr vs : Value} {al sh by_ : Int} {ag rs ss : List Int} (pr : Bool) (h : Tb w r sp lk t0 t1 va vr vs al sh by_ ag rs ss) :
    Calls Tryd.prog 18 #[.agg (boxOf r sp lk t0 t1 va vr vs al sh by_ pr)] w fun e w' => e = .returned (.string ⟨(printText r sp lk t0 t1 ag rs ss al sh by_ pr).toArray⟩) ∧ Below w.heap.size w w' := by
  have HH := hideP h
  clear h
  have HC := hideP (pr32 pr ((unhideP HH).alloc (.cells (boxOf r sp lk t0 t1 va vr vs al sh by_ pr) 45)))
  unfold boxOf at HC ⊢
  go_enter Tryd.func18, Tryd.ntmps18
  go_wp2_with fail
  refine (unhideP HC).mono ?_
  rintro e w' ⟨rfl, hb⟩
  have HB := hideP (((Below.refl w.heap.size w).alloc (Nat.le_refl _) _).trans (hb.mono (by simp)))
  clear hb
  go_wp2
  go_ret
  exact ⟨rfl, unhideP HB⟩
theorem okI_nsOf {r sp lk t0 t1 al sh by_ : Int} {ag rs ss : List Int} (o : okN r ∧ okN sp ∧ okN lk ∧ okN t0 ∧ okN t1 ∧ okN al ∧ okN sh ∧ okN by_) (a : okI ag ∧ okI rs ∧ okI ss) (k : Nat) (hk : k < 10) : okI (nsOf r sp lk t0 t1 ag rs ss al sh by_ k) := by
  match k, hk with
  | 0, _ => exact okI1 o.1
  | 1, _ => exact okI1 o.2.1
  | 2, _ => exact okI1 o.2.2.1
  | 3, _ => exact okI2 o.2.2.2.1 o.2.2.2.2.1
  | 4, _ => exact a.1
  | 5, _ => exact a.2.1
  | 6, _ => exact a.2.2
  | 7, _ => exact okI1 o.2.2.2.2.2.1
  | 8, _ => exact okI1 o.2.2.2.2.2.2.1
  | 9, _ => exact okI1 o.2.2.2.2.2.2.2
theorem nsOf_len (r sp lk t0 t1 al sh by_ : Int) (ag rs ss : List Int) (n : ag.length + rs.length + ss.length ≤ 4000000) (k : Nat) (hk : k < 10) : (nsOf r sp lk t0 t1 ag rs ss al sh by_ k).length ≤ 4000000 := by
  match k, hk with
  | 0, _ | 1, _ | 2, _ | 3, _ | 7, _ | 8, _ | 9, _ => simp [nsOf]
  | 4, _ | 5, _ | 6, _ => simp [nsOf]; omega
theorem pre_len {r sp lk t0 t1 al sh by_ : Int} {ag rs ss : List Int} (o : okN r ∧ okN sp ∧ okN lk ∧ okN t0 ∧ okN t1 ∧ okN al ∧ okN sh ∧ okN by_) (a : okI ag ∧ okI rs ∧ okI ss) (n : ag.length + rs.length + ss.length ≤ 4000000) :
    ∀ k, k ≤ 10 → (pre r sp lk t0 t1 ag rs ss al sh by_ k).length ≤ 84000009 * k
  | 0, _ => by simp [pre]
  | k + 1, hk => by
    have h1 := pre_len o a n k (by omega)
    have h2 := item_len k (okI_nsOf o a k (by omega))
    have h3 := nsOf_len r sp lk t0 t1 al sh by_ ag rs ss n k (by omega)
    rw [pre_succ, List.length_append]
    omega
set_option maxHeartbeats 1000000 in
theorem prints_walk {w : World} {r sp lk t0 t1 : Int} {va vr vs : Value} {al sh by_ : Int} {ag rs ss : List Int} (pr : Bool) (h : Tb w r sp lk t0 t1 va vr vs al sh by_ ag rs ss) :
    Calls Tryd.prog 5 #[.agg (boxOf r sp lk t0 t1 va vr vs al sh by_ pr)] w fun e w' => e = .returned (.bool true) ∧ Below w.heap.size w w' := by
  have HH := hideP h
  clear h
  have h1 := (unhideP HH).alloc (.cells (boxOf r sp lk t0 t1 va vr vs al sh by_ pr) 45)
  have HC := hideP (pr17 pr h1)
  have H1 := hideP h1
  clear h1
  have HX := hideP (show ∀ i, (w.alloc (.cells (boxOf r sp lk t0 t1 va vr vs al sh by_ pr) 45)).cell? ⟨w.heap.size, i, none⟩ = (boxOf r sp lk t0 t1 va vr vs al sh by_ pr)[i]? from fun i => World.cell?_alloc_at _ _ _ _ rfl)
  have HR := hideP (fun (w' : World) (h : Tb w' r sp lk t0 t1 va vr vs al sh by_ ag rs ss) => rprint r sp lk t0 t1 va vr vs al sh by_ pr ag rs ss w' h.tabs h.l.1 h.l.2.1 h.l.2.2 (fun k hk => by have := pre_len h.o h.a h.n k hk; omega) (fun k hk => okI_nsOf h.o h.a k hk) (fun k hk => nsOf_len r sp lk t0 t1 al sh by_ ag rs ss h.n k hk))
  generalize printText r sp lk t0 t1 ag rs ss al sh by_ pr = txt at HC HR
  unfold boxOf at HC HX HR ⊢
  go_enter Tryd.func5, Tryd.ntmps5
  go_wp2_with fail
  refine (unhideP HC).mono ?_
  rintro e w1 ⟨rfl, hb⟩
  have hbx := fun i => (hb.cell (p := ⟨w.heap.size, i, none⟩) (by simp)).trans (unhideP HX i)
  have HB := hideP (((Below.refl w.heap.size w).alloc (Nat.le_refl _) _).trans (hb.mono (by simp)))
  have H2 := hideP ((unhideP H1).below hb)
  clear hb
  go_wp2_with fail
  refine (unhideP HR _ (unhideP H2)).mono ?_
  rintro e w2 ⟨rfl, hb⟩
  have HB2 := hideP ((unhideP HB).trans (hb.mono (unhideP HB).size))
  clear hb
  go_wp2
  go_ret
  exact ⟨rfl, unhideP HB2⟩
end Go.Proofs.YtidhncoecfkbfaaDoor
