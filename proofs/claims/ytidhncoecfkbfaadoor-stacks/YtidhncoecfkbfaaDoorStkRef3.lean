/-
  The statement's own stack (prologueref.bytes): what a world holds of it; Bytes, Load. Own work of the verifier.
-/
import Derived.Test.YtidhncoecfkbfaaDoorStkRef2
namespace Go.Proofs.YtidhncoecfkbfaaDoor
open Go.RowKit Go.Maps

theorem keyLaw : Keyed Tryd.prog 3 := int_keyed Tryd.underlying3
theorem zeroU (w : World) : (zeroValue 32).run Tryd.prog w = .ok (.int .u64 0) w := by kernel_rfl

/-- The map of bytes. -/
def Mem (w : World) (q k : Nat) (m : Nat → Int) : Prop :=
  ∃ D : DataW Unit, w.ownsMap Tryd.prog 3 (plainElem Tryd.prog 32) q k D ∧ IsMap D ∧ ∀ i : Nat, D.atKey (.int .i64 i) (.lit (.int .u64 0)) = .lit (.int .u64 (m i))
theorem Mem.blk {w w' : World} {q k : Nat} {m : Nat → Int} (h : Mem w q k m) (hb : w'.heap[q]? = w.heap[q]?) : Mem w' q k m := by
  obtain ⟨D, ⟨es, cl, h1, h2⟩, h3, h4⟩ := h
  exact ⟨D, ⟨es, cl, hb.trans h1, h2⟩, h3, h4⟩
theorem Mem.lt {w : World} {q k : Nat} {m : Nat → Int} (h : Mem w q k m) : q < w.heap.size := by
  obtain ⟨D, h1, _⟩ := h
  exact h1.lt
theorem Mem.mono {w : World} {q k k' : Nat} {m : Nat → Int} (h : Mem w q k m) (hk : k ≤ k') : Mem w q k' m := by
  obtain ⟨D, h1, h2⟩ := h
  exact ⟨D, h1.mono hk, h2⟩
theorem lit_inj {H : Type} {a b : Int} (h : (DataW.lit (.int .u64 a) : DataW H) = .lit (.int .u64 b)) : a = b := by cases h; rfl
theorem at_bd {D : DataW Unit} {m : Nat → Int} {i : Nat} {x c : Int} (hx : x = (i : Int)) (hD : ∀ i : Nat, D.atKey (.int .i64 i) (.lit (.int .u64 0)) = .lit (.int .u64 (m i))) (hm : ∀ i, 0 ≤ m i ∧ m i < 256)
    (hat : D.atKey (.int .i64 x) (.lit (.int .u64 0)) = .lit (.int .u64 c)) : 0 ≤ c ∧ c < 256 ∧ Hid (c = m i) := by
  subst hx
  have e := lit_inj (hat.symm.trans (hD i))
  have := hm i
  exact ⟨by omega, by omega, e⟩
structure Ref (w : World) (r q n k : Nat) (m : Nat → Int) : Prop where
  c0 : w.cell? ⟨r, 0, none⟩ = some (.int .i64 n)
  c1 : w.cell? ⟨r, 1, none⟩ = some (.map (some q))
  mem : Mem w q k m
theorem Ref.blk {w w' : World} {r q n k : Nat} {m : Nat → Int} (h : Ref w r q n k m) (hr : w'.heap[r]? = w.heap[r]?) (hq : w'.heap[q]? = w.heap[q]?) : Ref w' r q n k m :=
  ⟨(World.cell?_of_block hr).trans h.c0, (World.cell?_of_block hr).trans h.c1, h.mem.blk hq⟩
theorem Ref.ne {w : World} {r q n k : Nat} {m : Nat → Int} (h : Ref w r q n k m) : r ≠ q := by
  rintro rfl
  obtain ⟨D, ⟨es, cl, h1, _⟩, _⟩ := h.mem
  have := h.c0
  simp [World.cell?, h1] at this
theorem Ref.below {w w' : World} {r q n k B : Nat} {m : Nat → Int} (h : Ref w r q n k m) (hb : Below B w w') (h1 : r < B) (h2 : q < B) : Ref w' r q n k m := h.blk (hb.block r h1) (hb.block q h2)
theorem Ref.alloc {w : World} {r q n k : Nat} {m : Nat → Int} (h : Ref w r q n k m) (o : Obj) : Ref (w.alloc o) r q n k m :=
  h.blk (Below.heap_alloc _ _ _ (lt_of_cell h.c0)) (Below.heap_alloc _ _ _ h.mem.lt)
theorem Ref.setCell {w : World} {r q n k : Nat} {m : Nat → Int} (h : Ref w r q n k m) {p : Addr} {v : Value} (h1 : r ≠ p.block) (h2 : q ≠ p.block) : Ref (w.setCell p v) r q n k m :=
  h.blk (Below.heap_setCell _ _ _ _ h1) (Below.heap_setCell _ _ _ _ h2)

set_option maxHeartbeats 400000 in
theorem rbytes_any (n : Nat) (w : World) : Calls Tryd.prog 9 #[.int .i64 n] w fun e w' => e = .returned (.pointer (some ⟨w.heap.size + 1, 0, none⟩)) ∧ Ref w' (w.heap.size + 1) w.heap.size n 0 (fun _ => 0) ∧ Below w.heap.size w w' := by
  have hmm := @run_makeMap Tryd.prog
  go_enter Tryd.func9, Tryd.ntmps9
  go_wp2
  go_ret
  refine ⟨rfl, ⟨?_, ?_, ?_⟩, by go_grown⟩
  · rw [World.cell?_alloc_at _ _ _ _ (by simp)]; rfl
  · rw [World.cell?_alloc_at _ _ _ _ (by simp)]; rfl
  · exact ⟨.map [], (World.ownsMap_made _ _ _ _).alloc _, isMap_empty, fun i => rfl⟩
end Go.Proofs.YtidhncoecfkbfaaDoor
