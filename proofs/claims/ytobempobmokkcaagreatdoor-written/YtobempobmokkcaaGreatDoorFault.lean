/-
  plain.fault by its contracts: nil, an api.Errno. Own work of the verifier.
-/
import Derived.Test.YtobempobmokkcaaGreatDoorAs
namespace Go.Proofs.YtobempobmokkcaaGreatDoor
open Go.RowKit Go.Extern.Stop Go.Stop Go.Extern

theorem bcell {W w1 : World} (hb : Below W.heap.size W w1) : (∀ b o, b < W.heap.size → w1.cell? ⟨b, o, none⟩ = W.cell? ⟨b, o, none⟩) ∧ (∀ b o, b < W.heap.size → w1.frozen? ⟨b, o, none⟩ = W.frozen? ⟨b, o, none⟩) :=
  ⟨fun b o h => hb.cell (p := ⟨b, o, none⟩) h, fun b o h => hb.frozen (p := ⟨b, o, none⟩) h⟩
theorem lt_of_cell {w : World} {b o : Nat} {v : Value} (h : w.cell? ⟨b, o, none⟩ = some v) : b < w.heap.size := by
  rcases Nat.lt_or_ge b w.heap.size with h' | h'
  · exact h'
  · simp [World.cell?, Array.getElem?_eq_none h'] at h

abbrev flt (e f b a : Int) : Value := .agg #[.int .i64 e, .int .i64 f, .int .i64 b, .int .i64 a]
/-- The variable by which errors.As knows the type 'error'. -/
abbrev ErrTy (w : World) : Prop := w.cell? ⟨0, 0, none⟩ = some (.iface 195 (.agg #[.pointer (some ⟨9, 75, none⟩)]))

set_option maxHeartbeats 400000 in
theorem fault_nil (w : World) : Calls Tryz.prog 18 #[.nilIface] w fun e w' => e = .returned (flt 0 (-1) (-1) (-1)) ∧ Below w.heap.size w w' := by
  go_enter Tryz.func18, Tryz.ntmps18
  go_wp2
  go_returns
  exact ⟨rfl, by go_grown⟩

theorem ErrTy.alloc {w : World} (h : ErrTy w) (o : Obj) : ErrTy (w.alloc o) := by
  show (w.alloc o).cell? _ = _
  rw [World.cell?_alloc_lt _ _ ⟨0, 0, none⟩ (lt_of_cell h)]; exact h
theorem ErrTy.setCell {w : World} (h : ErrTy w) {a : Addr} (ha : 0 < a.block) (v : Value) : ErrTy (w.setCell a v) :=
  ((Below.refl (min a.block w.heap.size) w).setCell (Nat.min_le_left _ _) v).cell (p := ⟨0, 0, none⟩) (by show 0 < min a.block w.heap.size; have := lt_of_cell h; omega) |>.trans h
theorem ErrTy.below {w w' : World} {B : Nat} (h : ErrTy w) (hb : Below B w w') (h0 : 0 < B) : ErrTy w' := (hb.cell (p := ⟨0, 0, none⟩) h0).trans h
theorem ErrTy.drew {w : World} (h : ErrTy w) : ErrTy w.drew := h

set_option maxHeartbeats 1000000 in
theorem fault_errno (n : Int) (w : World) (hg : ErrTy w) : Calls Tryz.prog 18 #[.iface 111 (.int .i64 n)] w fun e w' => e = .returned (flt n (-1) (-1) (-1)) ∧ Below w.heap.size w w' := by
  have hlt := lt_of_cell hg
  have HG : Hid (ErrTy w) := hg
  clear hg
  go_enter Tryz.func18, Tryz.ntmps18
  go_wp2_with fail
  refine (as_hitE n _ (.int .i64 0) _ ?s1 ?s2 ?s3).mono ?_
  case s1 => repeat' (first | exact HG.out | apply ErrTy.alloc | (apply ErrTy.setCell) | (simp; done) | (simp; omega))
  case s2 => rw [World.cell?_alloc_at _ _ _ _ (by simp)]; rfl
  case s3 => rw [World.frozen?_alloc_at _ _ _ _ (by simp)]
  rintro e w' ⟨rfl, rfl⟩
  go_wp2_with fail
  refine (as_missB n _ _ ?s1).mono ?_
  case s1 => repeat' (first | exact HG.out | apply ErrTy.alloc | (apply ErrTy.setCell) | (simp; done) | (simp; omega))
  rintro e w' ⟨rfl, rfl⟩
  go_wp2_with fail
  go_returns
  refine ⟨rfl, ?_⟩
  go_grown
end Go.Proofs.YtobempobmokkcaaGreatDoor
