/-
  Own work of the verifier: Fault, FaultB, as one text.
-/
import Derived.Test.YtffemeicclhioaaDoorAs
namespace Go.Proofs.YtffemeicclhioaaDoor
open Go.RowKit Go.Extern.Stop Go.Stop Go.Extern

theorem lt_of_cell {w : World} {b o : Nat} {v : Value} (h : w.cell? ⟨b, o, none⟩ = some v) : b < w.heap.size := by
  rcases Nat.lt_or_ge b w.heap.size with h' | h'
  · exact h'
  · simp [World.cell?, Array.getElem?_eq_none h'] at h

abbrev flt (e f b a : Int) : Value := .agg #[.int .i64 e, .int .i64 f, .int .i64 b, .int .i64 a]
/-- The variable by which errors.As knows the type 'error'. -/
abbrev ErrTy (w : World) : Prop := w.cell? ⟨0, 0, none⟩ = some (.iface 93 (.agg #[.pointer (some ⟨1, 49, none⟩)]))

set_option maxHeartbeats 400000 in
theorem fault_nil (w : World) : Calls Tryd.prog 15 #[.nilIface] w fun e w' => e = .returned (flt 0 (-1) (-1) (-1)) ∧ Below w.heap.size w w' := by
  go_enter Tryd.func15, Tryd.ntmps15
  go_wp2
  go_returns
  exact ⟨rfl, by go_grown⟩

theorem ErrTy.alloc {w : World} (h : ErrTy w) (o : Obj) : ErrTy (w.alloc o) := by
  show (w.alloc o).cell? _ = _
  rw [World.cell?_alloc_lt _ _ ⟨0, 0, none⟩ (lt_of_cell h)]; exact h
theorem ErrTy.setCell {w : World} (h : ErrTy w) {a : Addr} (ha : 0 < a.block) (v : Value) : ErrTy (w.setCell a v) :=
  ((Below.refl (min a.block w.heap.size) w).setCell (Nat.min_le_left _ _) v).cell (p := ⟨0, 0, none⟩) (by show 0 < min a.block w.heap.size; have := lt_of_cell h; omega) |>.trans h
theorem ErrTy.below {w w' : World} {B : Nat} (h : ErrTy w) (hb : Below B w w') (h0 : 0 < B) : ErrTy w' := (hb.cell (p := ⟨0, 0, none⟩) h0).trans h
theorem ErrTy.drew {w : World} (h : ErrTy w) : ErrTy w.drew := h

set_option maxHeartbeats 1000000 in
theorem fault_errno (n : Int) (w : World) (hg : ErrTy w) : Calls Tryd.prog 15 #[.iface 63 (.int .i64 n)] w fun e w' => e = .returned (flt n (-1) (-1) (-1)) ∧ Below w.heap.size w w' := by
  have hlt := lt_of_cell hg
  have HG : Hid (ErrTy w) := hg
  clear hg
  go_enter Tryd.func15, Tryd.ntmps15
  go_wp2_with fail
  refine (as_hitE n _ (.int .i64 0) _ ?s1 ?s2 ?s3).mono ?_
  case s1 => repeat' (first | exact HG.out | apply ErrTy.alloc | (apply ErrTy.setCell) | (simp; done) | (simp; omega))
  case s2 => rw [World.cell?_alloc_at _ _ _ _ (by simp)]; rfl
  case s3 => rw [World.frozen?_alloc_at _ _ _ _ (by simp)]
  rintro e w' ⟨rfl, rfl⟩
  go_wp2_with fail
  refine (as_missB n _ _ ?s1).mono ?_
  case s1 => repeat' (first | exact HG.out | apply ErrTy.alloc | (apply ErrTy.setCell) | (simp; done) | (simp; omega))
  rintro e w' ⟨rfl, rfl⟩
  go_wp2_with fail
  go_returns
  refine ⟨rfl, ?_⟩
  go_grown
end Go.Proofs.YtffemeicclhioaaDoor
namespace Go.Proofs.YtffemeicclhioaaDoor
open Go.RowKit Go.Extern.Stop Go.Stop Go.Extern

theorem hideF {p : Prop} (h : p) : Hid p := h
theorem unhideF {p : Prop} (h : Hid p) : p := h
/-- An *api.Bad and what stands in it. -/
structure BadAt (w : World) (q : Nat) (n f b a : Int) : Prop where
  c0 : w.cell? ⟨q, 0, none⟩ = some (.iface 63 (.int .i64 n))
  c1 : w.cell? ⟨q, 1, none⟩ = some (.int .i64 f)
  c2 : w.cell? ⟨q, 2, none⟩ = some (.int .i64 b)
  c3 : w.cell? ⟨q, 3, none⟩ = some (.int .i64 a)
theorem BadAt.below {w w' : World} {q : Nat} {n f b a : Int} (h : BadAt w q n f b a) (hb : Below w.heap.size w w') : BadAt w' q n f b a :=
  have hq := lt_of_cell h.c0
  ⟨(hb.cell (p := ⟨q, 0, none⟩) hq).trans h.c0, (hb.cell (p := ⟨q, 1, none⟩) hq).trans h.c1, (hb.cell (p := ⟨q, 2, none⟩) hq).trans h.c2, (hb.cell (p := ⟨q, 3, none⟩) hq).trans h.c3⟩
theorem BadAt.alloc {w : World} {q : Nat} {n f b a : Int} (h : BadAt w q n f b a) (o : Obj) : BadAt (w.alloc o) q n f b a := h.below (((Below.refl _ _).alloc (Nat.le_refl _) _))
theorem BadAt.setCell {w : World} {q : Nat} {n f b a : Int} (h : BadAt w q n f b a) {c : Addr} (hc : c.block ≠ q) (v : Value) : BadAt (w.setCell c v) q n f b a := by
  have e : ∀ o, (w.setCell c v).cell? ⟨q, o, none⟩ = w.cell? ⟨q, o, none⟩ := fun o => World.cell?_of_block (Below.heap_setCell w c v q (fun e => hc e.symm))
  exact ⟨(e _).trans h.c0, (e _).trans h.c1, (e _).trans h.c2, (e _).trans h.c3⟩
/-- What errors.As leaves, if it says yes: its target, and new blocks. -/
structure AsKept (w w' : World) (t : Addr) (v : Value) : Prop where
  same : ∀ x, x < w.heap.size → x ≠ t.block → w'.heap[x]? = w.heap[x]?
  cell : w'.cell? t = some v
  froz : w'.frozen? t = w.frozen? t
  size : w'.heap.size = w.heap.size + 4
  os : w'.os = w.os
  tape : w'.tape = w.tape
  output : w'.output = w.output
theorem asKept (w : World) (a b c d : Obj) (t : Addr) (old v : Value) (h : w.cell? t = some old) : AsKept w ((((w.alloc a).alloc b).alloc c).alloc d |>.setCell t v) t v := by
  have ht : t.block < w.heap.size := World.block_lt_of_cell? w _ h
  have hb : Below w.heap.size w ((((w.alloc a).alloc b).alloc c).alloc d) := ((((Below.refl _ _).alloc (Nat.le_refl _) _).alloc (by simp) _).alloc (by simp; try omega) _).alloc (by simp; try omega) _
  refine ⟨fun x hx hne => (Below.heap_setCell _ _ _ _ hne).trans (hb.block x hx), World.cell?_setCell_same _ _ _ ((hb.cell (p := t) ht).trans h), ?_, by simp, rfl, rfl, rfl⟩
  rw [World.frozen?_setCell]
  exact hb.frozen (p := t) ht
theorem al_old (w : World) (o : Obj) (x : Nat) (h : x < w.heap.size) : (w.alloc o).heap[x]? = w.heap[x]? := ((Below.refl w.heap.size w).alloc (Nat.le_refl _) o).block x h
theorem cells_of {w : World} {T : Nat} {t : TypeId} {cs : Array Value} (h : w.heap[T]? = some (.cells cs t (0, 0))) : (∀ j, w.cell? ⟨T, j, none⟩ = cs[j]?) ∧ ∀ j, w.frozen? ⟨T, j, none⟩ = false :=
  ⟨fun j => by simp [World.cell?, h], fun j => by simp [World.frozen?, h]⟩
theorem AsKept.low {w w' : World} {t : Addr} {v : Value} (h : AsKept w w' t v) {B : Nat} (hB : B ≤ t.block) (hs : B ≤ w.heap.size) : Below B w w' := ⟨h.os, h.tape, h.output, by have := h.size; omega, fun x hx => h.same x (by omega) (by omega)⟩
theorem AsKept.bad {w w' : World} {t : Addr} {v : Value} (h : AsKept w w' t v) {q : Nat} {n f b a : Int} (hq : q ≠ t.block) (hb : BadAt w q n f b a) : BadAt w' q n f b a :=
  have e := h.same q (lt_of_cell hb.c0) hq
  ⟨(World.cell?_of_block e).trans hb.c0, (World.cell?_of_block e).trans hb.c1, (World.cell?_of_block e).trans hb.c2, (World.cell?_of_block e).trans hb.c3⟩
theorem AsKept.err {w w' : World} {t : Addr} {v : Value} (h : AsKept w w' t v) (ht : t.block ≠ 0) (hb : ErrTy w) : ErrTy w' := (World.cell?_of_block (h.same 0 (lt_of_cell hb) (Ne.symm ht))).trans hb
theorem drew_blk {w : World} {T : Nat} {o : Obj} (h : w.heap[T]? = some o) : w.drew.heap[T]? = some o := h
theorem set4 {w : World} {T : Nat} {t : TypeId} {z0 z1 z2 z3 : Value} (h : w.heap[T]? = some (.cells #[z0, z1, z2, z3] t (0, 0))) (a b c d : Value) : ((((w.setCell ⟨T, 0, none⟩ a).setCell ⟨T, 1, none⟩ b).setCell ⟨T, 2, none⟩ c).setCell ⟨T, 3, none⟩ d).heap[T]? = some (.cells #[a, b, c, d] t (0, 0)) :=
  heap_setCell_same _ _ _ _ _ _ (heap_setCell_same _ _ _ _ _ _ (heap_setCell_same _ _ _ _ _ _ (heap_setCell_same _ _ _ _ _ _ h)))
set_option maxHeartbeats 4000000 in
theorem fault_bad (n f b a : Int) (q : Nat) (w : World) (hg : ErrTy w) (h : BadAt w q n f b a) : Calls Tryd.prog 15 #[.iface 66 (.pointer (some ⟨q, 0, none⟩))] w fun e w' => e = .returned (flt n f b a) ∧ Below w.heap.size w w' := by
  have hlt := lt_of_cell hg
  have hq := lt_of_cell h.c0
  have HG : Hid (ErrTy w) := hg
  have HB : Hid (BadAt w q n f b a) := h
  clear hg h
  go_enter Tryd.func15, Tryd.ntmps15
  go_wp2_with fail
  refine (as_wrapE n q 0 _ (.int .i64 0) _ ?s1 ?s2 ?s3 ?s4).mono ?_
  case s1 => repeat' (first | exact HG.out | apply ErrTy.alloc | (apply ErrTy.setCell) | (simp; done) | (simp; omega))
  case s2 => rw [World.cell?_alloc_at _ _ _ _ (by simp)]; rfl
  case s3 => rw [World.frozen?_alloc_at _ _ _ _ (by simp)]
  case s4 =>
    refine BadAt.c0 (n := n) (f := f) (b := b) (a := a) ?_
    repeat' (first | exact HB.out | apply BadAt.alloc | (apply BadAt.setCell) | (simp; done) | (simp; omega))
  rintro e w1 ⟨rfl, hw1⟩
  have K1 := hw1 ▸ asKept _ _ _ _ _ _ (.int .i64 0) (.int .i64 n) (by rw [World.cell?_alloc_at _ _ _ _ (by simp)]; rfl)
  clear hw1
  have rR : w1.heap[w.heap.size]? = some (.cells #[.int .i64 0, .int .i64 0, .int .i64 0, .int .i64 0] 35 (0, 0)) := (K1.same _ (by simp; omega) (by simp; try omega)).trans ((al_old _ _ _ (by simp; omega)).trans ((al_old _ _ _ (by simp)).trans (heap_alloc_new _ _)))
  have rF : w1.heap[w.heap.size + 1]? = some (.cells #[.int .i64 (-1), .int .i64 (-1), .int .i64 (-1), .int .i64 (-1)] 35 (0, 0)) := (K1.same _ (by simp; try omega) (by simp; try omega)).trans ((al_old _ _ _ (by simp)).trans (by simpa using heap_alloc_new (w.alloc _) _))
  have B1 : BadAt w1 q n f b a := K1.bad (by simp; omega) (((HB.out.alloc _).alloc _).alloc _)
  have E1 : ErrTy w1 := K1.err (by simp) (((HG.out.alloc _).alloc _).alloc _)
  have L1 : Below w.heap.size w w1 := ((((Below.refl _ _).alloc (Nat.le_refl _) _).alloc (by simp) _).alloc (by simp; try omega) _).trans (K1.low (by simp; try omega) (by simp; try omega))
  have z1 : w1.heap.size = w.heap.size + 7 := by have := K1.size; simp at this; omega
  have cn : w1.cell? ⟨w.heap.size + 1 + 1, 0, none⟩ = some (.int .i64 n) := K1.cell
  clear K1
  have f0 := (cells_of rF).1 0
  have f1 := (cells_of rF).1 1
  have f2 := (cells_of rF).1 2
  have f3 := (cells_of rF).1 3
  have fz := (cells_of rF).2
  simp at f0 f1 f2 f3
  have HB1 := hideF B1
  have HE1 := hideF E1
  have HL1 := hideF L1
  have HR1 := hideF rR
  have HF1 := hideF rF
  clear B1 E1 L1 rR rF
  go_wp2_with fail
  refine (as_hitB ⟨q, 0, none⟩ _ (.pointer none) _ ?s1 ?s2 ?s3).mono ?_
  case s1 => exact ((unhideF HE1).setCell (by simp) _).alloc _
  case s2 => rw [World.cell?_alloc_at _ _ _ _ (by simp [z1])]; rfl
  case s3 => rw [World.frozen?_alloc_at _ _ _ _ (by simp [z1])]
  rintro e w2 ⟨rfl, hw2⟩
  have K2 := hw2 ▸ asKept _ _ _ _ _ _ (.pointer none) (.pointer (some ⟨q, 0, none⟩)) (by rw [World.cell?_alloc_at _ _ _ _ (by simp [z1])]; rfl)
  clear hw2
  have gR : w2.heap[w.heap.size]? = some (.cells #[.int .i64 0, .int .i64 0, .int .i64 0, .int .i64 0] 35 (0, 0)) := (K2.same _ (by simp; omega) (by simp)).trans ((al_old _ _ _ (by simp; omega)).trans ((Below.heap_setCell _ _ _ _ (by simp)).trans (unhideF HR1)))
  have gF : w2.heap[w.heap.size + 1]? = some (.cells #[.int .i64 n, .int .i64 (-1), .int .i64 (-1), .int .i64 (-1)] 35 (0, 0)) := (K2.same _ (by simp; omega) (by simp)).trans ((al_old _ _ _ (by simp; omega)).trans (heap_setCell_same _ _ _ _ _ _ (unhideF HF1)))
  have B2 : BadAt w2 q n f b a := K2.bad (by simp; omega) (((unhideF HB1).setCell (by simp; omega) _).alloc _)
  have L2 : Below w.heap.size w w2 := (((unhideF HL1).setCell (by simp) _).alloc (by simp; omega) _).trans (K2.low (by simp) (by simp; omega))
  have cb : w2.cell? ⟨w.heap.size + 7, 0, none⟩ = some (.pointer (some ⟨q, 0, none⟩)) := K2.cell
  clear K2 f0 f1 f2 f3 fz cn
  have f0 := (cells_of gF).1 0
  have f1 := (cells_of gF).1 1
  have f2 := (cells_of gF).1 2
  have f3 := (cells_of gF).1 3
  have fz := (cells_of gF).2
  have r0 := (cells_of gR).1 0
  have r1 := (cells_of gR).1 1
  have r2 := (cells_of gR).1 2
  have r3 := (cells_of gR).1 3
  have rz := (cells_of gR).2
  simp at f0 f1 f2 f3 r0 r1 r2 r3
  have d1 := B2.c1
  have d2 := B2.c2
  have d3 := B2.c3
  have HL2 := hideF L2
  have HR2 := hideF gR
  clear B2 L2 gR gF HB1 HE1 HL1 HR1 HF1 HG HB
  generalize hT : w.heap.size = T at *
  go_wp2_with fail
  go_region
  all_goals go_wp2
  all_goals have hblk := set4 ((Below.heap_setCell _ ⟨T + 1, 3, none⟩ (.int .i64 a) T (by simp)).trans ((Below.heap_setCell _ ⟨T + 1, 2, none⟩ (.int .i64 b) T (by simp)).trans ((Below.heap_setCell _ ⟨T + 1, 1, none⟩ (.int .i64 f) T (by simp)).trans (unhideF HR2)))) (.int .i64 n) (.int .i64 f) (.int .i64 b) (.int .i64 a)
  all_goals have hinf : (Tryd.prog.info? 35).map (·.size) = some 4 := by kernel_rfl
  all_goals refine bodyPost_ret (results_cell_row (fn := Tryd.f15) (p := 2) (ty := 35) rfl _ _ T 35 #[.int .i64 n, .int .i64 f, .int .i64 b, .int .i64 a] (0, 0) _ rfl (drew_blk hblk) Tryd.underlying35 rfl hinf) rfl ?_
  all_goals refine ⟨rfl, ?_⟩
  all_goals rw [hT]
  all_goals have L := unhideF HL2
  all_goals exact (((((((L.setCell (by show T ≤ T + 1; omega) _).setCell (by show T ≤ T + 1; omega) _).setCell (by show T ≤ T + 1; omega) _).setCell (Nat.le_refl _) _).setCell (Nat.le_refl _) _).setCell (Nat.le_refl _) _).setCell (Nat.le_refl _) _).drew
end Go.Proofs.YtffemeicclhioaaDoor
