/-
  prologuelaw.Stacks: its walk. Own work of the verifier.
-/
import Derived.Test.YtidhncoecfkbfaaDoorStkRef5
namespace Go.Proofs.YtidhncoecfkbfaaDoor
open Go.RowKit Go.Maps

/-- The two stacks side by side. -/
structure Both (w0 w : World) (b c d r q n kk : Nat) (m : Nat → Int) : Prop where
  inv : Inv w0 w b c d n m
  ref : Ref w r q n kk m
  r0 : w0.heap.size ≤ r
  q0 : w0.heap.size ≤ q
  rb : r ≠ b ∧ r ≠ c ∧ r ≠ d
  qb : q ≠ b ∧ q ≠ c ∧ q ≠ d
theorem Both.rlt {w0 w : World} {b c d r q n kk : Nat} {m : Nat → Int} (h : Both w0 w b c d r q n kk m) : r < w.heap.size := lt_of_cell h.ref.c0
theorem Both.qlt {w0 w : World} {b c d r q n kk : Nat} {m : Nat → Int} (h : Both w0 w b c d r q n kk m) : q < w.heap.size := h.ref.mem.lt
theorem Both.below {w0 w w' : World} {b c d r q n kk : Nat} {m : Nat → Int} (h : Both w0 w b c d r q n kk m) (hb : Below w.heap.size w w') : Both w0 w' b c d r q n kk m :=
  ⟨h.inv.below hb, h.ref.below hb h.rlt h.qlt, h.r0, h.q0, h.rb, h.qb⟩
theorem Both.alloc {w0 w : World} {b c d r q n kk : Nat} {m : Nat → Int} (h : Both w0 w b c d r q n kk m) (o : Obj) : Both w0 (w.alloc o) b c d r q n kk m :=
  h.below ((Below.refl _ _).alloc (Nat.le_refl _) o)
/-- The plain stack was stored into, not yet the statement's own. -/
structure Half (w0 w : World) (b c d r q n kk : Nat) (m m' : Nat → Int) : Prop where
  inv : Inv w0 w b c d n m
  ref : Ref w r q n kk m'
  r0 : w0.heap.size ≤ r
  q0 : w0.heap.size ≤ q
  rb : r ≠ b ∧ r ≠ c ∧ r ≠ d
  qb : q ≠ b ∧ q ≠ c ∧ q ≠ d
theorem Half.below {w0 w w' : World} {b c d r q n kk : Nat} {m m' : Nat → Int} (h : Half w0 w b c d r q n kk m m') (hb : Below w.heap.size w w') : Half w0 w' b c d r q n kk m m' :=
  ⟨h.inv.below hb, h.ref.below hb (lt_of_cell h.ref.c0) h.ref.mem.lt, h.r0, h.q0, h.rb, h.qb⟩
theorem Half.alloc {w0 w : World} {b c d r q n kk : Nat} {m m' : Nat → Int} (h : Half w0 w b c d r q n kk m m') (o : Obj) : Half w0 (w.alloc o) b c d r q n kk m m' :=
  h.below ((Below.refl _ _).alloc (Nat.le_refl _) o)

/-! ### The calls, both stacks known -/
theorem bload {w0 : World} {b c d r q n kk : Nat} {m : Nat → Int} (a k : Int) (w : World) (S : Both w0 w b c d r q n kk m) (hg : ErrTy w0) :
    Calls Tryd.prog 10 #[.pointer (some ⟨b, 0, none⟩), .int .i64 a, .int .i64 k] w fun e w' => e = .returned (.tuple #[.int .u64 (if lookE n a k = 0 then ldv m a.toNat k.toNat else 0), flt (lookE n a k) (-1) (-1) (-1)]) ∧ Both w0 w' b c d r q n kk m ∧ Below w.heap.size w w' := by
  by_cases he : lookE n a k = 0
  · obtain ⟨a', k', rfl, rfl, -, -, -⟩ := lookE_zero he
    exact (load_ok a' k' w S.inv.sk S.inv.b1 S.inv.c1 S.inv.d1 he).mono fun _ _ ⟨h1, h2⟩ => ⟨by rw [h1, if_pos he, he]; rfl, S.below h2, h2⟩
  · exact (load_err a k w S.inv.sk S.inv.b1 S.inv.c1 S.inv.d1 he (hg.below S.inv.low (lt_of_cell hg))).mono fun _ _ ⟨h1, h2⟩ => ⟨by rw [h1, if_neg he], S.below h2, h2⟩
theorem brload {w0 : World} {b c d r q n kk : Nat} {m : Nat → Int} (a k : Int) (w : World) (S : Both w0 w b c d r q n kk m) :
    Calls Tryd.prog 11 #[.pointer (some ⟨r, 0, none⟩), .int .i64 a, .int .i64 k] w fun e w' => e = .returned (.tuple #[.int .u64 (if lookE n a k = 0 then ldv m a.toNat k.toNat else 0), flt (lookE n a k) (-1) (-1) (-1)]) ∧ Both w0 w' b c d r q n kk m ∧ Below w.heap.size w w' := by
  by_cases he : lookE n a k = 0
  · obtain ⟨a', k', rfl, rfl, -, -, -⟩ := lookE_zero he
    exact (rload_ok a' k' w S.ref S.inv.sk.mb S.inv.sk.le he).mono fun _ _ ⟨h1, h2⟩ => ⟨by rw [h1, if_pos he, he]; rfl, S.below h2, h2⟩
  · exact (rload_err a k w S.ref S.inv.sk.le he).mono fun _ _ ⟨h1, h2⟩ => ⟨by rw [h1, if_neg he], S.below h2, h2⟩
/-- The bytes behind a step. -/
def after (n : Nat) (m : Nat → Int) (a k v : Int) : Nat → Int := if lookE n a k = 0 then upd m a.toNat v k.toNat else m
theorem bstore {w0 : World} {b c d r q n kk : Nat} {m : Nat → Int} (a k v : Int) (w : World) (S : Both w0 w b c d r q n kk m) (hg : ErrTy w0) :
    Calls Tryd.prog 12 #[.pointer (some ⟨b, 0, none⟩), .int .i64 a, .int .i64 k, .int .u64 v] w fun e w' => e = .returned (flt (lookE n a k) (-1) (-1) (-1)) ∧ Half w0 w' b c d r q n kk (after n m a k v) m ∧ Kept w w' d := by
  by_cases he : lookE n a k = 0
  · obtain ⟨a', k', rfl, rfl, -, -, -⟩ := lookE_zero he
    refine (store_inv a' k' v w S.inv he).mono fun _ _ ⟨h1, h2, h3⟩ => ⟨by rw [h1, he], ⟨by unfold after; rw [if_pos he]; exact h2, S.ref.blk (h3.blk r S.rb.2.2 S.rlt) (h3.blk q S.qb.2.2 S.qlt), S.r0, S.q0, S.rb, S.qb⟩, h3⟩
  · exact (store_err a k v w S.inv.sk S.inv.b1 S.inv.c1 S.inv.d1 he (hg.below S.inv.low (lt_of_cell hg))).mono fun _ _ ⟨h1, h2⟩ => ⟨h1, by
      have h := S.below h2
      exact ⟨by unfold after; rw [if_neg he]; exact h.inv, h.ref, h.r0, h.q0, h.rb, h.qb⟩, Kept.of_below h2 d⟩
theorem brstore {w0 : World} {b c d r q n kk : Nat} {m m' : Nat → Int} (a k v : Int) (w : World) (S : Half w0 w b c d r q n kk m m') (hkk : kk ≤ 100000000000000) (hv0 : 0 ≤ v) (hv1 : v < 18446744073709551616) (hm : m = after n m' a k v) :
    Calls Tryd.prog 13 #[.pointer (some ⟨r, 0, none⟩), .int .i64 a, .int .i64 k, .int .u64 v] w fun e w' => e = .returned (flt (lookE n a k) (-1) (-1) (-1)) ∧ Both w0 w' b c d r q n (kk + 8) m ∧ Kept w w' q := by
  by_cases he : lookE n a k = 0
  · obtain ⟨a', k', rfl, rfl, h1k, h8k, -⟩ := lookE_zero he
    refine (rstore_ok a' k' v w S.ref S.inv.sk.le hkk hv0 hv1 he).mono fun e w' ⟨h1, h2⟩ => ⟨by rw [h1, he], ?_, ⟨h2.size, h2.blk⟩⟩
    have hb : ∀ x, x ≠ q → x < w.heap.size → w'.heap[x]? = w.heap[x]? := h2.blk
    have hs := S.inv.sk
    have e1 : ∀ o, w'.cell? ⟨b, o, none⟩ = w.cell? ⟨b, o, none⟩ := fun o => World.cell?_of_block (hb b (Ne.symm S.qb.1) S.inv.b1)
    have e2 : ∀ o, w'.cell? ⟨c, o, none⟩ = w.cell? ⟨c, o, none⟩ := fun o => World.cell?_of_block (hb c (Ne.symm S.qb.2.1) S.inv.c1)
    have e3 : ∀ o, w'.cell? ⟨d, o, none⟩ = w.cell? ⟨d, o, none⟩ := fun o => World.cell?_of_block (hb d (Ne.symm S.qb.2.2) S.inv.d1)
    have e4 : ∀ o, w'.frozen? ⟨d, o, none⟩ = w.frozen? ⟨d, o, none⟩ := fun o => World.frozen?_of_block (hb d (Ne.symm S.qb.2.2) S.inv.d1)
    have hb1 := S.inv.b1; have hc1 := S.inv.c1; have hd1 := S.inv.d1; have hz := h2.size
    refine ⟨⟨⟨(e1 0).trans hs.c1, (e2 0).trans hs.c2, fun i hi => (e3 i).trans (hs.c3 i hi), fun i hi => (e4 i).trans (hs.f3 i hi), hs.mb, hs.n1, hs.n2, hs.le⟩, S.inv.low.trans (h2.low.mono S.q0), by omega, by omega, by omega, S.inv.b0, S.inv.c0, S.inv.d0⟩, ?_, S.r0, S.q0, S.rb, S.qb⟩
    have hR := h2.ref
    rw [hm]
    unfold after
    rw [if_pos he]
    exact ⟨hR.c0, hR.c1, hR.mem.mono (by omega)⟩
  · refine (rstore_err a k v w S.ref S.inv.sk.le he).mono fun _ _ ⟨h1, h2⟩ => ⟨h1, ?_, Kept.of_below h2 q⟩
    have h := S.below h2
    have hR := h.ref
    refine ⟨h.inv, ?_, h.r0, h.q0, h.rb, h.qb⟩
    rw [hm]
    unfold after
    rw [if_neg he]
    exact ⟨hR.c0, hR.c1, hR.mem.mono (by omega)⟩

set_option maxHeartbeats 1000000 in
theorem stacks_bad (n : Int) (s : Value) (w : World) (h : n < 0 ∨ 65536 < n) (hg : ErrTy w) :
    Calls Tryd.prog 3 #[.int .i64 n, s] w fun e w' => e = .returned (.bool true) ∧ Below w.heap.size w w' := by
  have HG := hide hg
  have HN := hide h
  have hx : (decide (n < 0) || decide (65536 < n)) = true := by simp; omega
  clear hg
  by_cases h0 : n < 0
  · clear h hx
    go_enter Tryd.func3, Tryd.ntmps3
    go_wp2_with fail
    refine (newstack_err n _ (unhide HN) (unhide HG)).mono ?_
    rintro e w2 ⟨rfl, hb⟩
    have HB := hide hb
    clear hb
    go_wp2_with fail
    refine (agrees_same _ _ _ _ _).mono ?_
    rintro e w3 ⟨rfl, hb3⟩
    have HB3 := hide (((unhide HB).alloc (unhide HB).size _).trans (hb3.mono (by have := (unhide HB).size; simp; omega)))
    clear hb3
    go_wp2
    go_ret
    exact ⟨rfl, unhide HB3⟩
  · have h1 : 65536 < n := by omega
    clear h hx
    go_enter Tryd.func3, Tryd.ntmps3
    go_wp2_with fail
    refine (newstack_err n _ (unhide HN) (unhide HG)).mono ?_
    rintro e w2 ⟨rfl, hb⟩
    have HB := hide hb
    clear hb
    go_wp2_with fail
    refine (agrees_same _ _ _ _ _).mono ?_
    rintro e w3 ⟨rfl, hb3⟩
    have HB3 := hide (((unhide HB).alloc (unhide HB).size _).trans (hb3.mono (by have := (unhide HB).size; simp; omega)))
    clear hb3
    go_wp2
    go_ret
    exact ⟨rfl, unhide HB3⟩
end Go.Proofs.YtidhncoecfkbfaaDoor
