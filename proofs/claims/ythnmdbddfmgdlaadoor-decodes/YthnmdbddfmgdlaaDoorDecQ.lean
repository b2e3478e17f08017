/-
  Decodes: the reference's eye: numbers, lists of numbers. Own work of the verifier.
-/
import Derived.Test.YthnmdbddfmgdlaaDoorDecP
import Derived.Deep.RegionLaw
namespace Go.Proofs.YthnmdbddfmgdlaaDoor
open Go.RowKit

/-- The eye at block b. -/
structure Ey (w : World) (b : Nat) (s : ByteArray) (a : Nat) (bad : Int) : Prop where
  c0 : w.cell? ⟨b, 0, none⟩ = some (.string s)
  c1 : w.cell? ⟨b, 1, none⟩ = some (.int .i64 a)
  c2 : w.cell? ⟨b, 2, none⟩ = some (.int .i64 bad)
  f1 : w.frozen? ⟨b, 1, none⟩ = false
  f2 : w.frozen? ⟨b, 2, none⟩ = false
  bd : a ≤ s.size
  small : s.size ≤ 4000
abbrev Stt := Except Nat Nat
def EyS (w : World) (b : Nat) (s : ByteArray) : Stt → Prop
  | .ok a => Ey w b s a (-1)
  | .error q => q ≤ 4000 ∧ ∃ a, Ey w b s a q
def sBind {α : Type} (st : Stt) (m : Nat → Except Nat (α × Nat)) : Except Nat (α × Nat) := match st with
  | .ok a => m a
  | .error q => .error q
def stOf {α : Type} (r : Except Nat (α × Nat)) : Stt := match r with
  | .ok (_, a) => .ok a
  | .error q => .error q
def valOr (r : Except Nat (Int × Nat)) : Int := match r with
  | .ok (x, _) => x
  | .error _ => 0
section
variable {w w' : World} {b : Nat} {s : ByteArray} {a : Nat} {bad : Int} {st : Stt}
theorem Ey.lt (h : Ey w b s a bad) : b < w.heap.size := World.block_lt_of_cell? w _ h.c0
theorem Ey.blk (h : Ey w b s a bad) (e : w'.heap[b]? = w.heap[b]?) : Ey w' b s a bad := ⟨(World.cell?_of_block e).trans h.c0, (World.cell?_of_block e).trans h.c1, (World.cell?_of_block e).trans h.c2, (World.frozen?_of_block (a := ⟨b, 1, none⟩) e).trans h.f1, (World.frozen?_of_block (a := ⟨b, 2, none⟩) e).trans h.f2, h.bd, h.small⟩
theorem EyS.lt (h : EyS w b s st) : b < w.heap.size := by
  cases st with
  | ok a => exact Ey.lt h
  | error q => obtain ⟨-, a, h⟩ := h; exact h.lt
theorem EyS.blk (h : EyS w b s st) (e : w'.heap[b]? = w.heap[b]?) : EyS w' b s st := by
  cases st with
  | ok a => exact Ey.blk h e
  | error q => obtain ⟨h0, a, h⟩ := h; exact ⟨h0, a, h.blk e⟩
theorem EyS.alloc (h : EyS w b s st) (o : Obj) : EyS (w.alloc o) b s st := h.blk (((Below.refl w.heap.size w).alloc (Nat.le_refl _) o).block b h.lt)
theorem EyS.badC (h : EyS w b s st) : ∃ n : Int, w.cell? ⟨b, 2, none⟩ = some (.int .i64 n) ∧ (n < 0 ↔ ∃ a, st = .ok a) := by
  cases st with
  | ok a => exact ⟨-1, Ey.c2 h, by simp⟩
  | error q => obtain ⟨-, a, h⟩ := h; exact ⟨q, h.c2, by simp⟩
theorem Ey.next (h : Ey w b s a bad) (hb : a < s.size) : Ey (w.setCell ⟨b, 1, none⟩ (.int .i64 ((a + 1 : Nat) : Int))) b s (a + 1) bad :=
  ⟨(World.cell?_setCell_other _ _ _ _ (by simp)).trans h.c0, World.cell?_setCell_same _ _ _ h.c1, (World.cell?_setCell_other _ _ _ _ (by simp)).trans h.c2, by rw [World.frozen?_setCell]; exact h.f1, by rw [World.frozen?_setCell]; exact h.f2, hb, h.small⟩
theorem Ey.fault (h : Ey w b s a bad) (q : Int) : Ey (w.setCell ⟨b, 2, none⟩ (.int .i64 q)) b s a q :=
  ⟨(World.cell?_setCell_other _ _ _ _ (by simp)).trans h.c0, (World.cell?_setCell_other _ _ _ _ (by simp)).trans h.c1, World.cell?_setCell_same _ _ _ h.c2, by rw [World.frozen?_setCell]; exact h.f1, by rw [World.frozen?_setCell]; exact h.f2, h.bd, h.small⟩
end
def NumE (b : Nat) (s : ByteArray) (r : Except Nat (Int × Nat)) (w : World) (e : Ending) (w' : World) : Prop := e = .returned (.int .i64 (valOr r)) ∧ w.grownBy w' (some b) ∧ EyS w' b s (stOf r)
set_option maxHeartbeats 4000000 in
set_option maxRecDepth 100000 in
theorem enum_c (b : Nat) (s : ByteArray) (st : Stt) (lo hi : Int) (w : World) (h : EyS w b s st) : Calls Tryd.prog 21 #[.pointer (some ⟨b, 0, none⟩), .int .i64 lo, .int .i64 hi] w (NumE b s (sBind st (dNum s lo hi)) w) := by
  cases st with
  | error q =>
    obtain ⟨h0, a, hE⟩ := h
    have c2 := hE.c2
    have HE := hideE hE
    clear hE
    go_enter Tryd.func21, Tryd.ntmps21
    go_wp2
    go_ret
    exact ⟨rfl, gb_refl _ _, h0, a, unhideE HE⟩
  | ok a =>
    have hE : Ey w b s a (-1) := h
    have c0 := hE.c0
    have c1 := hE.c1
    have c2 := hE.c2
    have f1 := hE.f1
    have f2 := hE.f2
    have hbd := hE.bd
    have hsm := hE.small
    have HE := hideE hE
    clear h hE
    by_cases hlt : a < s.size
    · have hne : ((a : Int) == (s.size : Int)) = false := by simp; omega
      obtain ⟨b0, b1⟩ := bAt_bd s a
      have HB := hideE (bAt_eq s a hlt)
      have HD := hideE (show sBind (.ok a) (dNum s lo hi) = dTake lo hi (signed lo (bAt s a)) a from if_pos hlt)
      go_enter Tryd.func21, Tryd.ntmps21
      go_wp2
      go_region
      go_wp2
      go_region
      have hw : wrap64 ((s[a].toNat : Nat) : Int) = bAt s a := by rw [unhideE HB]; unfold wrap64; omega
      rw [hw]
      generalize bAt s a = n at HD b0 b1 ⊢
      clear HB hw
      by_cases hlo : lo = -1
      · by_cases hn : n = 255
        · subst hlo hn
          have HS := hideE (show signed (-1) 255 = -1 from rfl)
          go_wp2_with fail
          refine (in_c (-1) (-1) hi _).mono ?_
          rintro e wx ⟨rfl, hwx⟩
          subst wx
          cases hd : decide ((-1) ≤ (-1) ∧ (-1) ≤ hi) with
          | true =>
            have HD2 := hideE (show sBind (.ok a) (dNum s (-1) hi) = .ok ((-1), a + 1) by rw [unhideE HD, unhideE HS]; exact if_pos (of_decide_eq_true hd))
            clear hd
            go_wp2
            go_ret
            rw [unhideE HD2]
            exact ⟨rfl, gb_tr (gb_setB w b 1 _) (gb_tr (gb_drew _ _) (gb_drew _ _)), (Ey.next (unhideE HE) hlt).blk rfl⟩
          | false =>
            have HD2 := hideE (show sBind (.ok a) (dNum s (-1) hi) = .error a by rw [unhideE HD, unhideE HS]; exact if_neg (of_decide_eq_false hd))
            clear hd
            go_wp2
            go_ret
            rw [unhideE HD2]
            exact ⟨rfl, gb_tr (gb_setB w b 2 _) (gb_tr (gb_drew _ _) (gb_drew _ _)), by omega, a, (Ey.fault (unhideE HE) _).blk rfl⟩
        · subst hlo
          have hnb : (n == 255) = false := by simpa using hn
          have HS := hideE (show signed (-1) n = n from if_neg (fun c => hn c.2))
          go_wp2_with fail
          refine (in_c n (-1) hi _).mono ?_
          rintro e wx ⟨rfl, hwx⟩
          subst wx
          cases hd : decide ((-1) ≤ n ∧ n ≤ hi) with
          | true =>
            have HD2 := hideE (show sBind (.ok a) (dNum s (-1) hi) = .ok (n, a + 1) by rw [unhideE HD, unhideE HS]; exact if_pos (of_decide_eq_true hd))
            clear hd
            go_wp2
            go_ret
            rw [unhideE HD2]
            exact ⟨rfl, gb_tr (gb_setB w b 1 _) (gb_tr (gb_drew _ _) (gb_drew _ _)), (Ey.next (unhideE HE) hlt).blk rfl⟩
          | false =>
            have HD2 := hideE (show sBind (.ok a) (dNum s (-1) hi) = .error a by rw [unhideE HD, unhideE HS]; exact if_neg (of_decide_eq_false hd))
            clear hd
            go_wp2
            go_ret
            rw [unhideE HD2]
            exact ⟨rfl, gb_tr (gb_setB w b 2 _) (gb_tr (gb_drew _ _) (gb_drew _ _)), by omega, a, (Ey.fault (unhideE HE) _).blk rfl⟩
      · have hlb : (lo == -1) = false := by simpa using hlo
        have HS := hideE (show signed lo n = n from if_neg (fun c => hlo c.1))
        go_wp2_with fail
        refine (in_c n lo hi _).mono ?_
        rintro e wx ⟨rfl, hwx⟩
        subst wx
        cases hd : decide (lo ≤ n ∧ n ≤ hi) with
        | true =>
          have HD2 := hideE (show sBind (.ok a) (dNum s lo hi) = .ok (n, a + 1) by rw [unhideE HD, unhideE HS]; exact if_pos (of_decide_eq_true hd))
          clear hd
          go_wp2
          go_ret
          rw [unhideE HD2]
          exact ⟨rfl, gb_tr (gb_setB w b 1 _) (gb_tr (gb_drew _ _) (gb_drew _ _)), (Ey.next (unhideE HE) hlt).blk rfl⟩
        | false =>
          have HD2 := hideE (show sBind (.ok a) (dNum s lo hi) = .error a by rw [unhideE HD, unhideE HS]; exact if_neg (of_decide_eq_false hd))
          clear hd
          go_wp2
          go_ret
          rw [unhideE HD2]
          exact ⟨rfl, gb_tr (gb_setB w b 2 _) (gb_tr (gb_drew _ _) (gb_drew _ _)), by omega, a, (Ey.fault (unhideE HE) _).blk rfl⟩
    · have hne : ((a : Int) == (s.size : Int)) = true := by simp; omega
      have HD := hideE (show sBind (.ok a) (dNum s lo hi) = .error a from if_neg hlt)
      go_enter Tryd.func21, Tryd.ntmps21
      go_wp2
      go_region
      go_wp2
      go_ret
      rw [unhideE HD]
      exact ⟨rfl, gb_tr (gb_setB _ b 2 _) (gb_drew _ _), by omega, a, (Ey.fault (unhideE HE) _).blk rfl⟩
end Go.Proofs.YthnmdbddfmgdlaaDoor
