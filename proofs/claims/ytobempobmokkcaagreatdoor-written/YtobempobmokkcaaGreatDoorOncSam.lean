/-
  Tables: table.Sample, prologue.Sample by their contracts. Own work of the verifier.
-/
import Derived.Test.YtobempobmokkcaaGreatDoorOncDo
import Derived.Test.YtobempobmokkcaaGreatDoorTblTxt
import Derived.Test.YtobempobmokkcaaGreatDoorPsPlP
namespace Go.Proofs.YtobempobmokkcaaGreatDoor
open Go.RowKit

theorem raw_new (w : World) (s : ByteArray) : Raw (w.alloc (.cells #[.string s, .int .u32 0, .int .i32 0, .int .u32 0, .int .i64 0, .int .i64 0, .int .i64 0, .int .i64 0, .int .i64 0, .slice none 0 0, .slice none 0 0, .slice none 0 0, .int .i64 0, .int .i64 0, .int .i64 0, .bool false] 166)) w.heap.size s :=
  have h := cells_of (heap_alloc_new w (.cells #[.string s, .int .u32 0, .int .i32 0, .int .u32 0, .int .i64 0, .int .i64 0, .int .i64 0, .int .i64 0, .int .i64 0, .slice none 0 0, .slice none 0 0, .slice none 0 0, .int .i64 0, .int .i64 0, .int .i64 0, .bool false] 166))
  ⟨h.1 0, h.1 1, h.1 2, fun j hj => ⟨by
    rw [h.1]
    match j, hj with
    | 0, _ | 1, _ | 2, _ | 3, _ | 4, _ | 5, _ | 6, _ | 7, _ | 8, _ | 9, _ | 10, _ | 11, _ => rfl, h.2 _⟩, h.2⟩
/-- What Sample leaves, where there is one. -/
def Sampled (S : RSt) (w : World) (e : Ending) (w' : World) : Prop :=
  Below w.heap.size w w' ∧ ∃ arr, e = .returned (.tuple #[.agg arr, .nilIface]) ∧ arr.size = 12 ∧ arr.all (·.oneCell') = true ∧ GT S w.heap.size arr w'
set_option maxHeartbeats 4000000 in
set_option maxRecDepth 100000 in
theorem tsample_0 (S : RSt) (hS : parseF txt0 = .inr S) (w : World) (hU : U8 w) (hI : Itm w) : Calls Tryz.prog 37 #[.int .i64 0] w (Sampled S w) := by
  have hit := hI.lt
  have hut := hU.lt
  have HRD := hideQ (fun (X : Obj) =>
    have hb1 : Below w.heap.size w (w.alloc X) := (Below.refl w.heap.size w).alloc (Nat.le_refl _) X
    have hb : Below w.heap.size w ((w.alloc X).alloc (.cells #[.string txt0, .int .u32 0, .int .i32 0, .int .u32 0, .int .i64 0, .int .i64 0, .int .i64 0, .int .i64 0, .int .i64 0, .slice none 0 0, .slice none 0 0, .slice none 0 0, .int .i64 0, .int .i64 0, .int .i64 0, .bool false] 166)) := hb1.alloc (by simp) _
    have hR := raw_new (w.alloc X) txt0
    have hsz : (w.alloc X).heap.size = w.heap.size + 1 := by simp
    read_c txt0 S hS (w.heap.size + 1) ((w.alloc X).alloc (.cells #[.string txt0, .int .u32 0, .int .i32 0, .int .u32 0, .int .i64 0, .int .i64 0, .int .i64 0, .int .i64 0, .int .i64 0, .slice none 0 0, .slice none 0 0, .slice none 0 0, .int .i64 0, .int .i64 0, .int .i64 0, .bool false] 166)) (by rw [hsz] at hR; exact hR) (hU.below hb hU.lt) (hI.grown (gb_of_below (row := some (w.heap.size + 1)) hb) (by omega)) (by omega) (by omega))
  have HBB := hideQ (fun (X Y : Obj) => ((Below.refl w.heap.size w).alloc (Nat.le_refl _) X).alloc (by simp) Y)
  clear hU hI hS
  go_enter Tryz.func37, Tryz.ntmps37
  go_wp2_with fail
  refine (unhideQ HRD _).mono ?_
  rintro e w1 ⟨arr, rfl, a1, a2, hG, hgb⟩
  have hz := hgb.size
  simp only [World.size_alloc] at hz
  have HR := hideQ ((hgb.block w.heap.size (by simp; omega) (by simp)).trans ((al_old _ _ _ (by simp)).trans (heap_alloc_new w _)))
  have HG := hideQ ((hG.kept (gb_setRow w1 w.heap.size arr) (by simp; omega)).mono (B0 := w.heap.size) (by simp; omega))
  have HB := hideQ (show Below w.heap.size w w1 from (unhideQ HBB _ _).trans ⟨hgb.os, hgb.tape, hgb.output, hgb.size, fun q hq => hgb.block q (by simp; omega) (by simp; omega)⟩)
  clear hG hgb
  go_wp2_with (refine wpList_store_row rfl 25 (.tmp 2) (.tmp 9) rfl w.heap.size arr rfl rfl 25 _ (unhideQ HR) (Tryz.infTab.trans (congrArg some a1.symm)) a1.symm a2 ?_)
  refine bodyPost_ret (results_row_tmp (fn := Tryz.f37) (p := 2) (u := 3) (ty := 25) rfl _ _ w.heap.size 25 arr (0, 0) _ rfl (setRow_heap _ _ _ _ _ _ (unhideQ HR)) Tryz.underlying25 rfl (Tryz.infTab.trans (congrArg some a1.symm))) rfl ?_
  exact ⟨below_setRow (unhideQ HB) (Nat.le_refl _) _, arr, rfl, a1, a2, unhideQ HG⟩
set_option maxHeartbeats 4000000 in
set_option maxRecDepth 100000 in
theorem tsample_1 (S : RSt) (hS : parseF txt1 = .inr S) (w : World) (hU : U8 w) (hI : Itm w) : Calls Tryz.prog 37 #[.int .i64 1] w (Sampled S w) := by
  have hit := hI.lt
  have hut := hU.lt
  have HRD := hideQ (fun (X : Obj) =>
    have hb1 : Below w.heap.size w (w.alloc X) := (Below.refl w.heap.size w).alloc (Nat.le_refl _) X
    have hb : Below w.heap.size w ((w.alloc X).alloc (.cells #[.string txt1, .int .u32 0, .int .i32 0, .int .u32 0, .int .i64 0, .int .i64 0, .int .i64 0, .int .i64 0, .int .i64 0, .slice none 0 0, .slice none 0 0, .slice none 0 0, .int .i64 0, .int .i64 0, .int .i64 0, .bool false] 166)) := hb1.alloc (by simp) _
    have hR := raw_new (w.alloc X) txt1
    have hsz : (w.alloc X).heap.size = w.heap.size + 1 := by simp
    read_c txt1 S hS (w.heap.size + 1) ((w.alloc X).alloc (.cells #[.string txt1, .int .u32 0, .int .i32 0, .int .u32 0, .int .i64 0, .int .i64 0, .int .i64 0, .int .i64 0, .int .i64 0, .slice none 0 0, .slice none 0 0, .slice none 0 0, .int .i64 0, .int .i64 0, .int .i64 0, .bool false] 166)) (by rw [hsz] at hR; exact hR) (hU.below hb hU.lt) (hI.grown (gb_of_below (row := some (w.heap.size + 1)) hb) (by omega)) (by omega) (by omega))
  have HBB := hideQ (fun (X Y : Obj) => ((Below.refl w.heap.size w).alloc (Nat.le_refl _) X).alloc (by simp) Y)
  clear hU hI hS
  go_enter Tryz.func37, Tryz.ntmps37
  go_wp2_with fail
  refine (unhideQ HRD _).mono ?_
  rintro e w1 ⟨arr, rfl, a1, a2, hG, hgb⟩
  have hz := hgb.size
  simp only [World.size_alloc] at hz
  have HR := hideQ ((hgb.block w.heap.size (by simp; omega) (by simp)).trans ((al_old _ _ _ (by simp)).trans (heap_alloc_new w _)))
  have HG := hideQ ((hG.kept (gb_setRow w1 w.heap.size arr) (by simp; omega)).mono (B0 := w.heap.size) (by simp; omega))
  have HB := hideQ (show Below w.heap.size w w1 from (unhideQ HBB _ _).trans ⟨hgb.os, hgb.tape, hgb.output, hgb.size, fun q hq => hgb.block q (by simp; omega) (by simp; omega)⟩)
  clear hG hgb
  go_wp2_with (refine wpList_store_row rfl 25 (.tmp 2) (.tmp 14) rfl w.heap.size arr rfl rfl 25 _ (unhideQ HR) (Tryz.infTab.trans (congrArg some a1.symm)) a1.symm a2 ?_)
  refine bodyPost_ret (results_row_tmp (fn := Tryz.f37) (p := 2) (u := 3) (ty := 25) rfl _ _ w.heap.size 25 arr (0, 0) _ rfl (setRow_heap _ _ _ _ _ _ (unhideQ HR)) Tryz.underlying25 rfl (Tryz.infTab.trans (congrArg some a1.symm))) rfl ?_
  exact ⟨below_setRow (unhideQ HB) (Nat.le_refl _) _, arr, rfl, a1, a2, unhideQ HG⟩
set_option maxHeartbeats 4000000 in
theorem tsample_no (k : Int) (hk : k ≠ 0 ∧ k ≠ 1) (w : World) : Calls Tryz.prog 37 #[.int .i64 k] w fun e w' => e = .returned (.tuple #[zeroT, .iface 111 (.int .i64 6)]) ∧ Below w.heap.size w w' := by
  have k0 : (k == 0) = false := by simpa using hk.1
  have k1 : (k == 1) = false := by simpa using hk.2
  have HR := hideQ (heap_alloc_new w (.cells #[.int .i64 0, .int .i64 0, .int .i64 0, .int .i64 0, .int .i64 0, .slice none 0 0, .slice none 0 0, .slice none 0 0, .int .i64 0, .int .i64 0, .int .i64 0, .bool false] 25))
  have HBL := hideQ ((Below.refl w.heap.size w).alloc (Nat.le_refl _) (.cells #[.int .i64 0, .int .i64 0, .int .i64 0, .int .i64 0, .int .i64 0, .slice none 0 0, .slice none 0 0, .slice none 0 0, .int .i64 0, .int .i64 0, .int .i64 0, .bool false] 25))
  go_enter Tryz.func37, Tryz.ntmps37
  go_wp2_with (refine wpList_store_row rfl 25 (.tmp 2) (.tmp 15) rfl w.heap.size #[.int .i64 0, .int .i64 0, .int .i64 0, .int .i64 0, .int .i64 0, .slice none 0 0, .slice none 0 0, .slice none 0 0, .int .i64 0, .int .i64 0, .int .i64 0, .bool false] rfl rfl 25 _ (unhideQ HR) Tryz.infTab rfl (by simp [Value.oneCell']) ?_)
  refine bodyPost_ret (results_row_tmp (fn := Tryz.f37) (p := 2) (u := 3) (ty := 25) rfl _ _ w.heap.size 25 #[.int .i64 0, .int .i64 0, .int .i64 0, .int .i64 0, .int .i64 0, .slice none 0 0, .slice none 0 0, .slice none 0 0, .int .i64 0, .int .i64 0, .int .i64 0, .bool false] (0, 0) _ rfl (setRow_heap _ _ _ _ _ _ (unhideQ HR)) Tryz.underlying25 rfl Tryz.infTab) rfl ?_
  exact ⟨rfl, below_setRow (unhideQ HBL) (Nat.le_refl _) _⟩
end Go.Proofs.YtobempobmokkcaaGreatDoor
