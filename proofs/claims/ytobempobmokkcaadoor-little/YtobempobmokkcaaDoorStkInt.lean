/-
  The stack's contracts at integer arguments, with what is kept. Own work of the verifier.
-/
import Derived.Test.YtobempobmokkcaaDoorStkTop
namespace Go.Proofs.YtobempobmokkcaaDoor
open Go.RowKit

/-- What a law knows of its stack, over the world w0 in which it began. -/
structure Inv (w0 w : World) (b c d n : Nat) (m : Nat → Int) : Prop where
  sk : Stk w b c d n m
  low : Below w0.heap.size w0 w
  b1 : b < w.heap.size
  c1 : c < w.heap.size
  d1 : d < w.heap.size
  b0 : w0.heap.size ≤ b
  c0 : w0.heap.size ≤ c
  d0 : w0.heap.size ≤ d
theorem Inv.alloc {w0 w : World} {b c d n : Nat} {m : Nat → Int} (h : Inv w0 w b c d n m) (o : Obj) : Inv w0 (w.alloc o) b c d n m :=
  ⟨h.sk.alloc o h.b1 h.c1 h.d1, h.low.alloc h.low.size o, by have := h.b1; simp; omega, by have := h.c1; simp; omega, by have := h.d1; simp; omega, h.b0, h.c0, h.d0⟩
theorem Inv.setCell {w0 w : World} {b c d n : Nat} {m : Nat → Int} (h : Inv w0 w b c d n m) {p : Addr} {v : Value} (h1 : p.block ≠ b) (h2 : p.block ≠ c) (h3 : p.block ≠ d) (h0 : w0.heap.size ≤ p.block) : Inv w0 (w.setCell p v) b c d n m :=
  ⟨h.sk.frame ⟨h1, h2, h3⟩, h.low.setCell h0 v, by simpa using h.b1, by simpa using h.c1, by simpa using h.d1, h.b0, h.c0, h.d0⟩
theorem Inv.drew {w0 w : World} {b c d n : Nat} {m : Nat → Int} (h : Inv w0 w b c d n m) : Inv w0 w.drew b c d n m := ⟨⟨h.sk.c1, h.sk.c2, h.sk.c3, h.sk.f3, h.sk.mb, h.sk.n1, h.sk.n2, h.sk.le⟩, h.low.drew, h.b1, h.c1, h.d1, h.b0, h.c0, h.d0⟩
theorem Inv.below {w0 w w' : World} {b c d n : Nat} {m : Nat → Int} (h : Inv w0 w b c d n m) (hb : Below w.heap.size w w') : Inv w0 w' b c d n m :=
  ⟨h.sk.below hb h.b1 h.c1 h.d1, h.low.trans (hb.mono h.low.size), Nat.lt_of_lt_of_le h.b1 hb.size, Nat.lt_of_lt_of_le h.c1 hb.size, Nat.lt_of_lt_of_le h.d1 hb.size, h.b0, h.c0, h.d0⟩
/-- All old memory but the stack's bytes is as it was. -/
structure Kept (w w' : World) (d : Nat) : Prop where
  size : w.heap.size ≤ w'.heap.size
  blk : ∀ x, x ≠ d → x < w.heap.size → w'.heap[x]? = w.heap[x]?
theorem Kept.cell {w w' : World} {d : Nat} (h : Kept w w' d) (x o : Nat) (h1 : x ≠ d) (h2 : x < w.heap.size) : w'.cell? ⟨x, o, none⟩ = w.cell? ⟨x, o, none⟩ := World.cell?_of_block (h.blk x h1 h2)
theorem Kept.frz {w w' : World} {d : Nat} (h : Kept w w' d) (x o : Nat) (h1 : x ≠ d) (h2 : x < w.heap.size) : w'.frozen? ⟨x, o, none⟩ = w.frozen? ⟨x, o, none⟩ := World.frozen?_of_block (h.blk x h1 h2)
theorem Kept.of_below {w w' : World} (hb : Below w.heap.size w w') (d : Nat) : Kept w w' d :=
  ⟨hb.size, fun x _ h => hb.block x h⟩
theorem load_inv {w0 : World} {b c d n : Nat} {m : Nat → Int} (a k : Int) (w : World) (S : Inv w0 w b c d n m) (he : lookE n a k = 0) :
    Calls Tryd.prog 6 #[.pointer (some ⟨b, 0, none⟩), .int .i64 a, .int .i64 k] w fun e w' => e = .returned (.tuple #[.int .u64 (ldv m a.toNat k.toNat), flt 0 (-1) (-1) (-1)]) ∧ Inv w0 w' b c d n m ∧ Kept w w' d := by
  obtain ⟨a', k', rfl, rfl, -, -, -⟩ := lookE_zero he
  exact (load_ok a' k' w S.sk S.b1 S.c1 S.d1 he).mono fun _ _ ⟨h1, h2⟩ => ⟨h1, S.below h2, Kept.of_below h2 d⟩
theorem load_invE {w0 : World} {b c d n : Nat} {m : Nat → Int} (a k : Int) (w : World) (S : Inv w0 w b c d n m) (he : lookE n a k ≠ 0) (hg : ErrTy w0) :
    Calls Tryd.prog 6 #[.pointer (some ⟨b, 0, none⟩), .int .i64 a, .int .i64 k] w fun e w' => e = .returned (.tuple #[.int .u64 0, flt (lookE n a k) (-1) (-1) (-1)]) ∧ Inv w0 w' b c d n m ∧ Kept w w' d :=
  (load_err a k w S.sk S.b1 S.c1 S.d1 he (hg.below S.low (lt_of_cell hg))).mono fun _ _ ⟨h1, h2⟩ => ⟨h1, S.below h2, Kept.of_below h2 d⟩
theorem store_inv {w0 : World} {b c d n : Nat} {m : Nat → Int} (a k v : Int) (w : World) (S : Inv w0 w b c d n m) (he : lookE n a k = 0) :
    Calls Tryd.prog 7 #[.pointer (some ⟨b, 0, none⟩), .int .i64 a, .int .i64 k, .int .u64 v] w fun e w' => e = .returned (flt 0 (-1) (-1) (-1)) ∧ Inv w0 w' b c d n (upd m a.toNat v k.toNat) ∧ Kept w w' d := by
  obtain ⟨a', k', rfl, rfl, -, -, -⟩ := lookE_zero he
  exact (store_ok a' k' v w S.sk S.b1 S.c1 S.d1 he).mono fun _ _ ⟨h1, h2⟩ => ⟨h1,
    ⟨h2.stk, S.low.trans (h2.low.mono S.d0), Nat.lt_of_lt_of_le S.b1 h2.size, Nat.lt_of_lt_of_le S.c1 h2.size, Nat.lt_of_lt_of_le S.d1 h2.size, S.b0, S.c0, S.d0⟩, ⟨h2.size, h2.blk⟩⟩
theorem store_invE {w0 : World} {b c d n : Nat} {m : Nat → Int} (a k v : Int) (w : World) (S : Inv w0 w b c d n m) (he : lookE n a k ≠ 0) (hg : ErrTy w0) :
    Calls Tryd.prog 7 #[.pointer (some ⟨b, 0, none⟩), .int .i64 a, .int .i64 k, .int .u64 v] w fun e w' => e = .returned (flt (lookE n a k) (-1) (-1) (-1)) ∧ Inv w0 w' b c d n m ∧ Kept w w' d :=
  (store_err a k v w S.sk S.b1 S.c1 S.d1 he (hg.below S.low (lt_of_cell hg))).mono fun _ _ ⟨h1, h2⟩ => ⟨h1, S.below h2, Kept.of_below h2 d⟩
theorem new_inv (n : Nat) (w : World) (h : n ≤ 65536) : Calls Tryd.prog 5 #[.int .i64 n] w fun e w' => ∃ b c d, e = .returned (.tuple #[.pointer (some ⟨b, 0, none⟩), flt 0 (-1) (-1) (-1)]) ∧ Inv w w' b c d n (fun _ => 0) ∧ Kept w w' d :=
  (newstack_ok n w h).mono fun _ _ ⟨h1, h2, h3, h4⟩ => ⟨_, _, _, h1, ⟨h4, h2, by omega, by omega, by omega, by omega, by omega, by omega⟩, Kept.of_below h2 _⟩

theorem lookE_ok {n : Nat} {a k : Int} (hk : k = 1 ∨ k = 2 ∨ k = 4 ∨ k = 8) (h0 : 0 ≤ a) (h1 : a + k ≤ n) : lookE n a k = 0 := by
  have hw := (isW_iff k).2 hk
  simp [lookE, hw]; omega
theorem lookE_space {n : Nat} {a k : Int} (hk : k = 1 ∨ k = 2 ∨ k = 4 ∨ k = 8) (h1 : (n : Int) < a + k) : lookE n a k = 9 := by
  have hw := (isW_iff k).2 hk
  simp [lookE, hw]; omega
end Go.Proofs.YtobempobmokkcaaDoor
