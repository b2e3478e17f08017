/-
  prologueref.Print: the ten lists that it goes through, in whatever order they are made. Own work of the verifier.
-/
import Derived.Test.YtobempobmokkcaaGreatDoorPrtOrd
namespace Go.Proofs.YtobempobmokkcaaGreatDoor
open Go.RowKit

/-- A value that reads as a list of numbers. -/
def Rs (w : World) (v : Value) (ns : List Int) : Prop := (ns = [] ∧ ∃ p cap, v = .slice p 0 cap) ∨ ∃ sb so cap, v = .slice (some ⟨sb, so, none⟩) ns.length cap ∧ ∀ i, i < ns.length → w.cell? ⟨sb, so + i, none⟩ = some (.int .i64 (ns.getD i 0))
theorem Rs.below {w w' : World} {v : Value} {ns : List Int} (h : Rs w v ns) (hb : Below w.heap.size w w') : Rs w' v ns := by
  rcases h with h | ⟨sb, so, cap, e, hc⟩
  · exact Or.inl h
  · exact Or.inr ⟨sb, so, cap, e, fun i hi => (hb.cell (p := ⟨sb, so + i, none⟩) (ltc (hc i hi))).trans (hc i hi)⟩
def nsOf (r sp lk t0 t1 : Int) (ag rs ss : List Int) (al sh by_ : Int) (k : Nat) : List Int := [[r], [sp], [lk], [t0, t1], ag, rs, ss, [al], [sh], [by_]].getD k []
/-- The text of the first k items. -/
def pre (r sp lk t0 t1 : Int) (ag rs ss : List Int) (al sh by_ : Int) : Nat → List UInt8
  | 0 => []
  | k + 1 => pre r sp lk t0 t1 ag rs ss al sh by_ k ++ itemText k (nsOf r sp lk t0 t1 ag rs ss al sh by_ k)
theorem pre_succ (r sp lk t0 t1 : Int) (ag rs ss : List Int) (al sh by_ : Int) (k : Nat) : pre r sp lk t0 t1 ag rs ss al sh by_ (k + 1) = pre r sp lk t0 t1 ag rs ss al sh by_ k ++ itemText k (nsOf r sp lk t0 t1 ag rs ss al sh by_ k) := rfl
theorem pre_ten (r sp lk t0 t1 : Int) (ag rs ss : List Int) (al sh by_ : Int) (pr : Bool) : printText r sp lk t0 t1 ag rs ss al sh by_ pr = pre r sp lk t0 t1 ag rs ss al sh by_ 10 ++ (if pr then itemText 10 [] else []) := by
  simp [printText, pre, nsOf]
/-- What each operation of the region leaves. -/
def OkP (r sp lk t0 t1 : Int) (ag rs ss : List Int) (al sh by_ : Int) (X : Nat) (i : Nat) (v : Value) (w : World) : Prop :=
  match i with
  | 0 => v = .pointer (some ⟨X, 0, none⟩)
  | 1 => v = .int .i64 r
  | 2 => Rs w v [r]
  | 3 => v = .pointer (some ⟨X, 1, none⟩)
  | 4 => v = .int .i64 sp
  | 5 => Rs w v [sp]
  | 6 => v = .pointer (some ⟨X, 2, none⟩)
  | 7 => v = .int .i64 lk
  | 8 => Rs w v [lk]
  | 9 => v = .pointer (some ⟨X, 3, none⟩)
  | 10 => Rs w v [t0, t1]
  | 11 => v = .pointer (some ⟨X, 5, none⟩)
  | 12 => Rs w v ag
  | 13 => v = .pointer (some ⟨X, 6, none⟩)
  | 14 => Rs w v rs
  | 15 => v = .pointer (some ⟨X, 7, none⟩)
  | 16 => Rs w v ss
  | 17 => v = .pointer (some ⟨X, 8, none⟩)
  | 18 => v = .int .i64 al
  | 19 => Rs w v [al]
  | 20 => v = .pointer (some ⟨X, 9, none⟩)
  | 21 => v = .int .i64 sh
  | 22 => Rs w v [sh]
  | 23 => v = .pointer (some ⟨X, 10, none⟩)
  | 24 => v = .int .i64 by_
  | 25 => Rs w v [by_]
  | 26 => ∃ b, v = .slice (some ⟨b, 0, none⟩) 10 10 ∧ ∀ k, k < 10 → ∃ u, w.cell? ⟨b, k, none⟩ = some u ∧ Rs w u (nsOf r sp lk t0 t1 ag rs ss al sh by_ k)
  | 27 => v = .int .i64 10
  | 28 => v = .int .i64 0
  | _ => True
theorem OkP.below (r sp lk t0 t1 : Int) (ag rs ss : List Int) (al sh by_ : Int) (X : Nat) (i : Nat) (v : Value) (w w' : World) (h : OkP r sp lk t0 t1 ag rs ss al sh by_ X i v w) (hb : Below w.heap.size w w') : OkP r sp lk t0 t1 ag rs ss al sh by_ X i v w' := by
  unfold OkP at *
  split at h <;> first
    | exact h
    | exact Rs.below h hb
    | (obtain ⟨b, e, hk⟩ := h
       refine ⟨b, e, fun k hk' => ?_⟩
       obtain ⟨u, h1, h2⟩ := hk k hk'
       exact ⟨u, (hb.cell (p := ⟨b, k, none⟩) (ltc h1)).trans h1, h2.below hb⟩)
theorem Rs.form {w : World} {v : Value} {ns : List Int} (h : Rs w v ns) : ∃ p n cap, v = .slice p n cap := by
  rcases h with ⟨_, p, cap, e⟩ | ⟨sb, so, cap, e, _⟩
  · exact ⟨_, _, _, e⟩
  · exact ⟨_, _, _, e⟩
theorem cat_mk (a b : List UInt8) : (⟨a.toArray⟩ : ByteArray) ++ ⟨b.toArray⟩ = ⟨(a ++ b).toArray⟩ := by
  apply ByteArray.ext
  simp
theorem cat_lit2 (a : List UInt8) (x y : UInt8) : (⟨a.toArray⟩ : ByteArray) ++ ⟨#[x, y]⟩ = ⟨(a ++ [x, y]).toArray⟩ := cat_mk a [x, y]
theorem cat_lit1 (x : UInt8) (b : List UInt8) : (⟨#[x]⟩ : ByteArray) ++ ⟨b.toArray⟩ = ⟨(x :: b).toArray⟩ := cat_mk [x] b
theorem cat_lit7 (a : List UInt8) (x1 x2 x3 x4 x5 x6 x7 : UInt8) : (⟨a.toArray⟩ : ByteArray) ++ ⟨#[x1, x2, x3, x4, x5, x6, x7]⟩ = ⟨(a ++ [x1, x2, x3, x4, x5, x6, x7]).toArray⟩ := cat_mk a [x1, x2, x3, x4, x5, x6, x7]
theorem Rs_one (w : World) (x : Int) : Rs (w.alloc (.cells #[.int .i64 x] 3)) (.slice (some ⟨w.heap.size, 0, none⟩) 1 1) [x] :=
  Or.inr ⟨_, _, _, rfl, fun i hi => by
    obtain rfl : i = 0 := by simpa using hi
    rw [World.cell?_alloc_at _ _ _ _ rfl]; rfl⟩
theorem act_of (a a0 : Act) (base : Nat) (vs : List Value) (hd : a.defers = a0.defers) (hs : a.tmps.size = a0.tmps.size) (hb : base + vs.length ≤ a0.tmps.size)
    (hout : ∀ t, t < base ∨ base + vs.length ≤ t → a.eval (.tmp t) = a0.eval (.tmp t)) (hin : ∀ i, i < vs.length → a.eval (.tmp (base + i)) = vs.getD i undef) :
    a = ⟨(a0.tmps.toList.take base ++ (vs ++ a0.tmps.toList.drop (base + vs.length))).toArray, a0.defers⟩ := by
  obtain ⟨ts, df⟩ := a
  simp only at hd hs
  subst hd
  congr 1
  apply Array.ext
  · simp; omega
  · intro t h1 h2
    have hmin : min base a0.tmps.size = base := by omega
    have e0 : ts[t] = (⟨ts, a0.defers⟩ : Act).eval (.tmp t) := by simp [Act.eval, h1]
    rw [e0]
    by_cases c1 : t < base
    · rw [hout t (Or.inl c1)]
      simp [Act.eval, hmin, c1, show t < a0.tmps.size by omega]
    · by_cases c2 : t < base + vs.length
      · have := hin (t - base) (by omega)
        rw [show base + (t - base) = t by omega] at this
        rw [this]
        simp [List.getElem_append, c1, hmin, show t - base < vs.length by omega, List.getD]
      · rw [hout t (Or.inr (by omega))]
        simp [Act.eval, List.getElem_append, c1, hmin, show ¬ t - base < vs.length by omega, show t < a0.tmps.size by omega]
        congr 1
        omega
end Go.Proofs.YtobempobmokkcaaGreatDoor
