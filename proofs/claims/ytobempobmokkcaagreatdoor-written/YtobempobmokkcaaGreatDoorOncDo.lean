/-
  Tables: (*reading).read by its contract. Own work of the verifier.
-/
import Derived.Test.YtobempobmokkcaaGreatDoorOncRead
import Derived.Test.YtobempobmokkcaaGreatDoorOncSlow
namespace Go.Proofs.YtobempobmokkcaaGreatDoor
open Go.RowKit

theorem gb_drew (w : World) (r : Option Nat) : w.grownBy w.drew r := ⟨rfl, rfl, rfl, Nat.le_refl _, fun _ _ _ => rfl⟩
theorem GT.mono {S : RSt} {B B0 : Nat} {arr : Array Value} {u : World} (h : GT S B arr u) (hB : B0 ≤ B) : GT S B0 arr u := by
  obtain ⟨v4, v5, v6, h1, h2, h3, h4, h5⟩ := h
  exact ⟨v4, v5, v6, h1, row_mono h2 hB, row_mono h3 hB, row_mono h4 hB, h5⟩
/-- A reading that has not been made: its row. -/
structure Raw (w : World) (b : Nat) (s : ByteArray) : Prop where
  c0 : w.cell? ⟨b, 0, none⟩ = some (.string s)
  c1 : w.cell? ⟨b, 1, none⟩ = some (.int .u32 0)
  c2 : w.cell? ⟨b, 2, none⟩ = some (.int .i32 0)
  th : w.there b 4 12
  fz : ∀ j, w.frozen? ⟨b, j, none⟩ = false
theorem Raw.lt {w : World} {b : Nat} {s : ByteArray} (h : Raw w b s) : b < w.heap.size := World.block_lt_of_cell? w _ h.c0
theorem Raw.below {w w' : World} {b : Nat} {s : ByteArray} (h : Raw w b s) (hb : Below w.heap.size w w') : Raw w' b s :=
  have e : ∀ j, w'.cell? ⟨b, j, none⟩ = w.cell? ⟨b, j, none⟩ := fun j => hb.cell (p := ⟨b, j, none⟩) h.lt
  have f : ∀ j, w'.frozen? ⟨b, j, none⟩ = w.frozen? ⟨b, j, none⟩ := fun j => World.frozen?_of_block (a := ⟨b, j, none⟩) (hb.block b h.lt)
  ⟨(e 0).trans h.c0, (e 1).trans h.c1, (e 2).trans h.c2, fun j hj => ⟨by rw [e]; exact (h.th j hj).1, by rw [f]; exact (h.th j hj).2⟩, fun j => (f j).trans (h.fz j)⟩
/-- What the once leaves. -/
structure Once (w : World) (b : Nat) (S : RSt) (u : World) : Prop where
  grow : w.grownBy u (some b)
  r : ∃ arr, arr.size = 12 ∧ arr.all (·.oneCell') = true ∧ u.rangeAt b 4 arr.toList ∧ GT S w.heap.size arr u
theorem do_c (s : ByteArray) (S : RSt) (hS : parseF s = .inr S) (b : Nat) (pl : Addr) (w : World) (hR : Raw w b s) (hpb : pl.block ≠ b) (hU : U8 w) (hI : Itm w) (hg1 : 1 ≠ b) (hg2 : 3 < b ∧ 4 < b) (hp : w.cell? pl = some (.pointer (some ⟨b, 0, none⟩))) :
    Calls Tryz.prog 101 #[.pointer (some ⟨b, 1, none⟩), .func (.func 102) #[] #[.pointer (some pl)]] w fun e w' => e = .returned (.tuple #[]) ∧ Once w b S w' := by
  have hlt := hR.lt
  have hgs := gb_set w b 2 (.int .i32 1)
  have ho : ∀ j, j ≠ 2 → (w.setCell ⟨b, 2, none⟩ (.int .i32 1)).cell? ⟨b, j, none⟩ = w.cell? ⟨b, j, none⟩ := fun j hj => World.cell?_setCell_other _ _ _ _ (by first | (simp; done) | (simp; omega))
  have hfr : ∀ j, (w.setCell ⟨b, 2, none⟩ (.int .i32 1)).frozen? ⟨b, j, none⟩ = false := fun j => by rw [World.frozen?_setCell]; exact hR.fz j
  have hlow : Below b w (w.setCell ⟨b, 2, none⟩ (.int .i32 1)) := ⟨hgs.os, hgs.tape, hgs.output, hgs.size, fun q hq => hgs.block q (by omega) (by first | (simp; done) | (simp; omega))⟩
  have hsz : (w.setCell ⟨b, 2, none⟩ (.int .i32 1)).heap.size = w.heap.size := by simp
  have key := read1_c s S hS b pl (w.setCell ⟨b, 2, none⟩ (.int .i32 1)) (by rw [hsz]; exact hlt) hpb (hU.below hlow hg2) (hI.grown hgs hg1) hg1 hg2
    ((World.cell?_setCell_other _ _ _ _ (fun e => hpb (by first | exact (congrArg Addr.block e) | exact (congrArg Addr.block e).symm))).trans hp) ((ho 0 (by omega)).trans hR.c0) (fun j hj => ⟨by rw [ho _ (by omega)]; exact (hR.th j hj).1, hfr _⟩) hfr
  refine (do_any b pl w (fun u => Rd1 (w.setCell ⟨b, 2, none⟩ (.int .i32 1)) b S u) hR.c1 hR.c2 (hR.fz 2) (key.mono ?_)).mono ?_
  · rintro e u ⟨rfl, h⟩
    exact ⟨rfl, (h.s.hd 1 (by omega)).trans ((ho 1 (by omega)).trans hR.c1), (h.s.hd 2 (by omega)).trans (World.cell?_setCell_same _ _ _ hR.c2), h.s.fz 1, h.s.fz 2, h⟩
  · rintro e w' ⟨rfl, u, h, rfl⟩
    refine ⟨rfl, ?_, ?_⟩
    · exact gb_trans (gb_trans (gb_trans hgs h.s.grow) (gb_trans (gb_drew u _) (gb_set u.drew b 1 _))) (gb_set _ b 2 _)
    · obtain ⟨arr, a1, a2, a3, a4⟩ := h.r
      refine ⟨arr, a1, a2, fun j v hv => ?_, ?_⟩
      · rw [World.cell?_setCell_other _ _ _ _ (by simp), World.cell?_setCell_other _ _ _ _ (by simp), World.cell?_drew]
        exact a3 j v hv
      · rw [hsz] at a4
        exact (a4.kept (gb_trans (gb_drew u _) (gb_set u.drew b 1 (.int .u32 1))) hlt).kept (gb_set _ b 2 _) hlt
theorem Tryz.infRdg : (Tryz.prog.info? 166).map (·.size) = some 16 := by kernel_rfl
set_option maxHeartbeats 4000000 in
set_option maxRecDepth 100000 in
theorem read_c (s : ByteArray) (S : RSt) (hS : parseF s = .inr S) (b : Nat) (w : World) (hR : Raw w b s) (hU : U8 w) (hI : Itm w) (hg1 : 1 ≠ b) (hg2 : 3 < b ∧ 4 < b) :
    Calls Tryz.prog 63 #[.pointer (some ⟨b, 0, none⟩)] w fun e w' => ∃ arr, e = .returned (.agg arr) ∧ arr.size = 12 ∧ arr.all (·.oneCell') = true ∧ GT S w.heap.size arr w' ∧ w.grownBy w' (some b) := by
  have hlt := hR.lt
  have HDO := hideQ (fun (X Y : Obj) (hp : ((w.alloc X).alloc Y).cell? ⟨w.heap.size, 0, none⟩ = some (.pointer (some ⟨b, 0, none⟩))) =>
    have hb : Below w.heap.size w ((w.alloc X).alloc Y) := ((Below.refl w.heap.size w).alloc (Nat.le_refl _) X).alloc (by simp) Y
    do_c s S hS b ⟨w.heap.size, 0, none⟩ ((w.alloc X).alloc Y) (hR.below hb) (Nat.ne_of_gt hlt) (hU.below hb hU.lt) (hI.grown (gb_of_below (row := some b) hb) hg1) hg1 hg2 hp)
  have HLW := hideQ (fun (X Y : Obj) => ((Below.refl w.heap.size w).alloc (Nat.le_refl _) X).alloc (by simp) Y)
  clear hR hU hI hS
  go_enter Tryz.func63, Tryz.ntmps63
  go_wp2_with fail
  refine (unhideQ HDO _ _ (by rw [World.cell?_alloc_lt _ _ ⟨w.heap.size, 0, none⟩ (by simp), World.cell?_alloc_at _ _ _ _ rfl]; rfl)).mono ?_
  rintro e w1 ⟨rfl, hO⟩
  obtain ⟨arr, a1, a2, a3, a4⟩ := hO.r
  have hz := hO.grow.size
  simp only [World.size_alloc] at hz
  have cp : w1.cell? ⟨w.heap.size, 0, none⟩ = some (.pointer (some ⟨b, 0, none⟩)) := (World.cell?_of_block (hO.grow.block w.heap.size (by simp; omega) (by simp; omega))).trans (by rw [World.cell?_alloc_lt _ _ ⟨w.heap.size, 0, none⟩ (by simp), World.cell?_alloc_at _ _ _ _ rfl]; rfl)
  have HRow := hideQ ((hO.grow.block (w.heap.size + 1) (by simp) (by simp; omega)).trans (heap_alloc2_new w _ _))
  have HG := hideQ ((a4.kept (gb_setRow w1 (w.heap.size + 1) arr) (by simp)).mono (B0 := w.heap.size) (by simp; omega))
  have HGB := hideQ (gb_high (gb_trans (gb_of_below (unhideQ HLW _ _)) hO.grow) (gb_setRow w1 (w.heap.size + 1) arr) (fun q hq => by injection hq with hq; omega))
  have HA3 := hideQ a3
  clear hO a3 a4
  go_wp2_with (first | (refine wpList_load_mid rfl 25 (.tmp 10) rfl b 4 rfl arr.toList _ (unhideQ HA3) Tryz.underlying25 rfl (Tryz.infTab.trans (congrArg some (by simp [a1]))) ?_; simp only [Array.toArray_toList]) | refine wpList_store_row rfl 25 (.tmp 2) (.tmp 11) rfl (w.heap.size + 1) arr rfl rfl 25 _ (unhideQ HRow) (Tryz.infTab.trans (congrArg some a1.symm)) a1.symm a2 ?_)
  refine bodyPost_ret (results_cell_row (fn := Tryz.f63) (p := 2) (ty := 25) rfl _ _ (w.heap.size + 1) 25 arr (0, 0) _ rfl (setRow_heap _ _ _ _ _ _ (unhideQ HRow)) Tryz.underlying25 rfl (Tryz.infTab.trans (congrArg some a1.symm))) rfl ?_
  exact ⟨arr, rfl, a1, a2, unhideQ HG, unhideQ HGB⟩
end Go.Proofs.YtobempobmokkcaaGreatDoor
