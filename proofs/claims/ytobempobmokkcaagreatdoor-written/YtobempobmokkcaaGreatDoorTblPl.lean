/-
  Tables: plain.CheckTable, prologue.Sample, plain.Sample, prologueref.Samples by their contracts. Own work of the verifier.
-/
import Derived.Test.YtobempobmokkcaaGreatDoorOncSam
import Derived.Test.YtobempobmokkcaaGreatDoorTblReg
import Derived.Test.YtobempobmokkcaaGreatDoorPsSame
namespace Go.Proofs.YtobempobmokkcaaGreatDoor
open Go.RowKit

def SamG (o : Option RSt) (B : Nat) (arr : Array Value) (ev : Value) (u : World) : Prop := match o with
  | some S => GT S B arr u ∧ ev = .nilIface
  | none => .agg arr = zeroT ∧ ev = .iface 111 (.int .i64 6)
theorem SamG.setRow {o : Option RSt} {B T : Nat} {arr : Array Value} {ev : Value} {u : World} (h : SamG o B arr ev u) (hT : T < B) (cs : Array Value) : SamG o B arr ev (u.setRow T cs) := by
  cases o with
  | none => exact h
  | some S => exact ⟨h.1.kept (gb_setRow u T cs) hT, h.2⟩
theorem SamG.mono {o : Option RSt} {B B0 : Nat} {arr : Array Value} {ev : Value} {u : World} (h : SamG o B arr ev u) (hB : B0 ≤ B) : SamG o B0 arr ev u := by
  cases o with
  | none => exact h
  | some S => exact ⟨h.1.mono hB, h.2⟩
/-- Which table is the k-th. -/
def SamK (k : Int) (o : Option RSt) : Prop := (k = 0 ∧ ∃ S, o = some S ∧ parseF txt0 = .inr S) ∨ (k = 1 ∧ ∃ S, o = some S ∧ parseF txt1 = .inr S) ∨ (k ≠ 0 ∧ k ≠ 1 ∧ o = none)
def SamE (o : Option RSt) (w : World) (e : Ending) (w' : World) : Prop :=
  Below w.heap.size w w' ∧ ∃ arr ev, e = .returned (.tuple #[.agg arr, ev]) ∧ arr.size = 12 ∧ arr.all (·.oneCell') = true ∧ SamG o w.heap.size arr ev w'
theorem tsample_c (k : Int) (o : Option RSt) (hk : SamK k o) (w : World) (hU : U8 w) (hI : Itm w) : Calls Tryz.prog 37 #[.int .i64 k] w (SamE o w) := by
  rcases hk with ⟨rfl, S, rfl, hS⟩ | ⟨rfl, S, rfl, hS⟩ | ⟨h0, h1, rfl⟩
  · refine (tsample_0 S hS w hU hI).mono ?_
    rintro e w' ⟨hb, arr, rfl, a1, a2, a3⟩
    exact ⟨hb, arr, _, rfl, a1, a2, a3, rfl⟩
  · refine (tsample_1 S hS w hU hI).mono ?_
    rintro e w' ⟨hb, arr, rfl, a1, a2, a3⟩
    exact ⟨hb, arr, _, rfl, a1, a2, a3, rfl⟩
  · refine (tsample_no k ⟨h0, h1⟩ w).mono ?_
    rintro e w' ⟨rfl, hb⟩
    exact ⟨hb, _, _, rfl, rfl, by simp [boxOf, Value.oneCell'], rfl, rfl⟩
set_option maxHeartbeats 4000000 in
set_option maxRecDepth 100000 in
theorem psample_c (k : Int) (o : Option RSt) (hk : SamK k o) (w : World) (hU : U8 w) (hI : Itm w) : Calls Tryz.prog 22 #[.int .i64 k] w (SamE o w) := by
  have hit := hI.lt
  have HU := hideQ hU
  have HI := hideQ hI
  have HK := hideQ hk
  clear hU hI hk
  go_enter Tryz.func22, Tryz.ntmps22
  go_wp2_with fail
  have hlow := fun X => (Below.refl w.heap.size w).alloc (Nat.le_refl _) X
  refine (tsample_c k o (unhideQ HK) _ ((unhideQ HU).below (hlow _) (unhideQ HU).lt) ((unhideQ HI).grown (gb_of_below (row := some w.heap.size) (hlow _)) (Nat.ne_of_lt hit))).mono ?_
  rintro e w1 ⟨hb1, arr, ev, rfl, hA1, hA2, hM⟩
  have HBL := hideQ ((hlow _).trans (hb1.mono (by simp)))
  have HR := hideQ ((hb1.block w.heap.size (by simp)).trans (heap_alloc_new w _))
  have HM := hideQ hM
  clear hb1 hM hlow
  go_wp2_with (refine wpList_store_row rfl 25 (.tmp 2) (.tmp 6) rfl w.heap.size arr rfl rfl 25 _ (unhideQ HR) (Tryz.infTab.trans (congrArg some hA1.symm)) hA1.symm hA2 ?_)
  refine bodyPost_ret (results_row_tmp (fn := Tryz.f22) (p := 2) (u := 3) (ty := 25) rfl _ _ w.heap.size 25 arr (0, 0) _ rfl (setRow_heap _ _ _ _ _ _ (unhideQ HR)) Tryz.underlying25 rfl (Tryz.infTab.trans (congrArg some hA1.symm))) rfl ?_
  exact ⟨below_setRow (unhideQ HBL) (Nat.le_refl _) _, arr, ev, rfl, hA1, hA2, ((unhideQ HM).setRow (by simp) _).mono (by simp)⟩
set_option maxHeartbeats 8000000 in
set_option maxRecDepth 100000 in
theorem plain_sample0 (k : Int) (w : World) (hU : U8 w) (hI : Itm w) (Post : Array Value → Array Value → World → Prop) (G : Array Value → Value → Array Value → World → Prop)
    (hcall : ∀ w0, U8 w0 → Itm w0 → Below w.heap.size w w0 → w0.heap.size = w.heap.size + 2 → Calls Tryz.prog 22 #[.int .i64 k] w0 fun e w1 => Below w0.heap.size w0 w1 ∧ ∃ arr ev fv, e = .returned (.tuple #[.agg arr, ev]) ∧ (arr.size = 12 ∧ arr.all (·.oneCell') = true) ∧ (fv.size = 4 ∧ fv.all (·.oneCell') = true) ∧ G arr ev fv w1)
    (hfault : ∀ arr ev fv w1 u, G arr ev fv w1 → Below w.heap.size w w1 → (∀ q, q < w1.heap.size → q ≠ w.heap.size → q ≠ w.heap.size + 1 → u.heap[q]? = w1.heap[q]?) → Calls Tryz.prog 18 #[ev] u fun e u' => e = .returned (.agg fv) ∧ Below u.heap.size u u')
    (hpost : ∀ arr ev fv w1 u, G arr ev fv w1 → Below w.heap.size w u → (∀ q, q < w1.heap.size → q ≠ w.heap.size → q ≠ w.heap.size + 1 → u.heap[q]? = w1.heap[q]?) → u.os = w1.os → u.tape = w1.tape → u.output = w1.output → w1.heap.size ≤ u.heap.size → Post arr fv u) :
    Calls Tryz.prog 8 #[.int .i64 k] w fun e w' => ∃ arr fv, e = .returned (.tuple #[.agg arr, .agg fv]) ∧ Below w.heap.size w w' ∧ Post arr fv w' := by
  have hit := hI.lt
  have HU := hideQ hU
  have HI := hideQ hI
  have HC := hideQ hcall
  have HFa := hideQ hfault
  have HPo := hideQ hpost
  clear hU hI hcall hfault hpost
  go_enter Tryz.func8, Tryz.ntmps8
  go_wp2_with fail
  have hlow : ∀ X Y, Below w.heap.size w ((w.alloc X).alloc Y) := fun X Y => ((Below.refl w.heap.size w).alloc (Nat.le_refl _) X).alloc (by simp) Y
  refine (unhideQ HC _ ((unhideQ HU).below (hlow _ _) (unhideQ HU).lt) ((unhideQ HI).grown (gb_of_below (row := some w.heap.size) (hlow _ _)) (Nat.ne_of_lt hit)) (hlow _ _) (by simp)).mono ?_
  rintro e w1 ⟨hb1, arr, ev, fv, rfl, ⟨hA1, hA2⟩, ⟨hf1, hf2⟩, hG⟩
  have hz1 := hb1.size
  simp only [World.size_alloc] at hz1
  have HBL := hideQ ((hlow _ _).trans (hb1.mono (by simp; try omega)))
  have HR0 := hideQ ((hb1.block w.heap.size (by simp; try omega)).trans ((al_old _ _ _ (by simp)).trans (heap_alloc_new w _)))
  have HR1 := hideQ ((hb1.block (w.heap.size + 1) (by simp)).trans (heap_alloc2_new w _ _))
  have HG := hideQ hG
  clear hb1 hG hlow
  go_wp2_with (refine wpList_store_row rfl 25 (.tmp 4) (.tmp 9) rfl w1.heap.size arr rfl rfl 25 _ (heap_alloc_new _ _) (Tryz.infTab.trans (congrArg some hA1.symm)) hA1.symm hA2 ?_; rw [alloc_setRow])
  have hS0 : PlS (w1.alloc (.cells arr 25)) w.heap.size (w1.heap.size + 1) (w1.alloc (.cells arr 25)).drew := ⟨by simp, fun _ _ _ _ => rfl, ⟨_, rfl, (al_old _ _ _ (by omega)).trans (unhideQ HR0)⟩, ⟨_, rfl, (al_old _ _ _ (by omega)).trans (unhideQ HR1)⟩, rfl, rfl, rfl⟩
  have hX : (w1.alloc (.cells arr 25)).heap[w1.heap.size]? = some (.cells arr 25 (0, 0)) := heap_alloc_new _ _
  have hk1 : ∀ q, q < w1.heap.size → (w1.alloc (.cells arr 25)).heap[q]? = w1.heap[q]? := fun q hq => al_old _ _ _ hq
  refine flow2 (by kernel_rfl) 11 _ (OkL arr fv ev w.heap.size) (PlS (w1.alloc (.cells arr 25)) w.heap.size (w1.heap.size + 1)) (PlR (w1.alloc (.cells arr 25)) w.heap.size (w1.heap.size + 1) arr fv) ?hd ?hsz ?hle (fun i v u u' h hr => OkL.stab arr fv ev w.heap.size i v u u' h hr) (fun u u' _ hr => hr.s) ?step ?fin hS0
  case hd =>
    intro i o ho
    have hi : i < 5 := (Array.getElem?_eq_some_iff.1 ho).1
    match i, hi with
    | 0, _ => obtain rfl := (Option.some.inj ho).symm; exact ⟨Or.inl rfl, rfl⟩
    | 1, _ => obtain rfl := (Option.some.inj ho).symm; exact ⟨Or.inl rfl, rfl⟩
    | 2, _ => obtain rfl := (Option.some.inj ho).symm; exact ⟨Or.inl rfl, rfl⟩
    | 3, _ => obtain rfl := (Option.some.inj ho).symm; exact ⟨Or.inr rfl, rfl⟩
    | 4, _ => obtain rfl := (Option.some.inj ho).symm; exact ⟨Or.inr rfl, rfl⟩
  case hsz =>
    intro i o ho hdo
    have hi : i < 5 := (Array.getElem?_eq_some_iff.1 ho).1
    match i, hi with
    | 0, _ => show 11 < 14; decide
    | 1, _ => show 12 < 14; decide
    | 2, _ => show 13 < 14; decide
    | 3, _ => obtain rfl := (Option.some.inj ho).symm; cases hdo
    | 4, _ => obtain rfl := (Option.some.inj ho).symm; cases hdo
  case hle =>
    intro i o ho
    have hi : i < 5 := (Array.getElem?_eq_some_iff.1 ho).1
    match i, hi with
    | 0, _ => obtain rfl := (Option.some.inj ho).symm; simp
    | 1, _ => obtain rfl := (Option.some.inj ho).symm; simp
    | 2, _ => obtain rfl := (Option.some.inj ho).symm; simp
    | 3, _ => obtain rfl := (Option.some.inj ho).symm; simp
    | 4, _ => obtain rfl := (Option.some.inj ho).symm; simp
  case step =>
    intro i o ho a u hS hfr hdp
    have hi : i < 5 := (Array.getElem?_eq_some_iff.1 ho).1
    match i, hi with
    | 0, _ =>
      obtain rfl := (Option.some.inj ho).symm
      have f0 : a.eval (.tmp 4) = .pointer (some ⟨w1.heap.size, 0, none⟩) := hfr 4 (by omega)
      exact wp_load_row 25 (.tmp 4) rfl w1.heap.size f0 25 arr (0, 0) _ ((hS.same w1.heap.size (by omega) (by omega) (by omega)).trans hX) Tryz.underlying25 rfl (Tryz.infTab.trans (congrArg some hA1.symm)) ⟨_, rfl, hS.same_refl, rfl⟩
    | 1, _ =>
      obtain rfl := (Option.some.inj ho).symm
      have f0 : a.eval (.tmp 5) = ev := hfr 5 (by omega)
      refine opRun (F := fun v w' => _ ∧ _) (v := ev) (w' := u) ?_ ⟨hS.same_refl, rfl⟩
      rw [← f0]
      rfl
    | 2, _ =>
      obtain rfl := (Option.some.inj ho).symm
      have f0 : a.eval (.tmp 12) = ev := hdp ⟨1, .data⟩ (by simp) rfl ⟨_, rfl, rfl⟩
      refine opEnter (F := fun v w' => _ ∧ _) (f := 18) (args := #[ev]) (w1 := u) ?_ ((unhideQ HFa arr ev fv w1 u (unhideQ HG) (unhideQ HBL) (fun q hq h1 h2 => (hS.same q (by omega) h1 h2).trans (hk1 q hq))).mono ?_)
      · clear hdp hfr ho
        simp [execOp, go_sem]
        simpa [Act.eval] using f0
      · rintro e u' ⟨rfl, hb⟩
        obtain ⟨c0, k0, l0⟩ := hS.b0
        obtain ⟨c1, k1, l1⟩ := hS.b1
        have hz := hS.size
        exact ⟨_, rfl, ⟨⟨Nat.le_trans hz hb.size, fun q hq h1 h2 => (hb.block q (by omega)).trans (hS.same q hq h1 h2), ⟨c0, k0, (hb.block _ (by omega)).trans l0⟩, ⟨c1, k1, (hb.block _ (by omega)).trans l1⟩, hb.os.trans hS.os, hb.tape.trans hS.tape, hb.output.trans hS.output⟩, Or.inl (hb.block _ (by omega)), Or.inl (hb.block _ (by omega))⟩, rfl⟩
    | 3, _ =>
      obtain rfl := (Option.some.inj ho).symm
      have f0 : a.eval (.tmp 2) = .pointer (some ⟨w.heap.size, 0, none⟩) := hfr 2 (by omega)
      have f1 : a.eval (.tmp 11) = .agg arr := hdp ⟨0, .data⟩ (by simp) rfl ⟨_, rfl, rfl⟩
      obtain ⟨c0, k0, l0⟩ := hS.b0
      obtain ⟨c1, k1, l1⟩ := hS.b1
      exact wp_store_row 25 (.tmp 2) (.tmp 11) rfl w.heap.size arr f0 f1 25 c0 l0 (Tryz.infTab.trans (congrArg some hA1.symm)) (k0.trans hA1.symm) hA2 ⟨_, rfl, ⟨⟨by simpa using hS.size, fun q hq h1 h2 => (setRow_other _ _ _ _ h1).trans (hS.same q hq h1 h2), ⟨arr, hA1, setRow_heap _ _ _ _ _ _ l0⟩, ⟨c1, k1, (setRow_other _ _ _ _ (by omega)).trans l1⟩, hS.os, hS.tape, hS.output⟩, Or.inr (setRow_heap _ _ _ _ _ _ l0), Or.inl (setRow_other _ _ _ _ (by omega))⟩, setRow_heap _ _ _ _ _ _ l0⟩
    | 4, _ =>
      obtain rfl := (Option.some.inj ho).symm
      have f0 : a.eval (.tmp 3) = .pointer (some ⟨w.heap.size + 1, 0, none⟩) := hfr 3 (by omega)
      have f1 : a.eval (.tmp 13) = .agg fv := hdp ⟨2, .data⟩ (by simp) rfl ⟨_, rfl, rfl⟩
      obtain ⟨c0, k0, l0⟩ := hS.b0
      obtain ⟨c1, k1, l1⟩ := hS.b1
      exact wp_store_row 28 (.tmp 3) (.tmp 13) rfl (w.heap.size + 1) fv f0 f1 28 c1 l1 (Tryz.infFlt.trans (congrArg some hf1.symm)) (k1.trans hf1.symm) hf2 ⟨_, rfl, ⟨⟨by simpa using hS.size, fun q hq h1 h2 => (setRow_other _ _ _ _ h2).trans (hS.same q hq h1 h2), ⟨c0, k0, (setRow_other _ _ _ _ (by omega)).trans l0⟩, ⟨fv, hf1, setRow_heap _ _ _ _ _ _ l1⟩, hS.os, hS.tape, hS.output⟩, Or.inl (setRow_other _ _ _ _ (by omega)), Or.inr (setRow_heap _ _ _ _ _ _ l1)⟩, setRow_heap _ _ _ _ _ _ l1⟩
  case fin =>
    intro a u hS hdf hts hout hok hno
    have h0 : u.heap[w.heap.size]? = some (.cells arr 25 (0, 0)) := (hno 3 _ rfl rfl).2.elim fun _ h => h
    have h1 : u.heap[w.heap.size + 1]? = some (.cells fv 28 (0, 0)) := (hno 4 _ rfl rfl).2.elim fun _ h => h
    have e2 : a.eval (.tmp 2) = .pointer (some ⟨w.heap.size, 0, none⟩) := hout 2 (Or.inl (by omega))
    have e3 : a.eval (.tmp 3) = .pointer (some ⟨w.heap.size + 1, 0, none⟩) := hout 3 (Or.inl (by omega))
    have hbu : Below w.heap.size w u := ((unhideQ HBL).trans (((Below.refl w1.heap.size w1).alloc (Nat.le_refl _) _).mono (by omega))).trans ⟨hS.os, hS.tape, hS.output, by have := hS.size; simp; omega, fun q hq => hS.same q (by omega) (by omega) (by omega)⟩
    have hpo := unhideQ HPo arr ev fv w1 u (unhideQ HG) hbu (fun q hq k1 k2 => (hS.same q (by omega) k1 k2).trans (hk1 q hq)) hS.os hS.tape hS.output (by have := hS.size; omega)
    clear hok hno hout
    go_wp2
    refine bodyPost_ret (results_row_row (fn := Tryz.f8) (p := 2) (q := 3) (ty := 25) (uy := 28) rfl _ _ w.heap.size 25 arr (0, 0) _ ?g0 h0 Tryz.underlying25 rfl (Tryz.infTab.trans (congrArg some hA1.symm)) (w.heap.size + 1) 28 fv (0, 0) _ ?g1 h1 Tryz.underlying28 rfl (Tryz.infFlt.trans (congrArg some hf1.symm))) hdf ?_
    case g0 => simpa [Act.eval] using e2
    case g1 => simpa [Act.eval] using e3
    exact ⟨arr, fv, rfl, hbu, hpo⟩
def SamP (o : Option RSt) (w : World) (e : Ending) (w' : World) : Prop :=
  Below w.heap.size w w' ∧ ∃ arr fv, e = .returned (.tuple #[.agg arr, .agg fv]) ∧ match o with
    | some S => GT S w.heap.size arr w' ∧ .agg fv = flt 0 (-1) (-1) (-1)
    | none => .agg arr = zeroT ∧ .agg fv = flt 6 (-1) (-1) (-1)
theorem flt_arr (n f b a : Int) : ∃ fv, .agg fv = flt n f b a ∧ fv.size = 4 ∧ fv.all (·.oneCell') = true := ⟨_, rfl, rfl, by simp [Value.oneCell']⟩
theorem plsample_c (k : Int) (o : Option RSt) (hk : SamK k o) (w : World) (hU : U8 w) (hI : Itm w) (hE : ErrTy w) : Calls Tryz.prog 8 #[.int .i64 k] w (SamP o w) := by
  have h0 := lt_of_cell hE
  have key := plain_sample0 k w hU hI
    (fun arr fv u => match o with
      | some S => GT S w.heap.size arr u ∧ .agg fv = flt 0 (-1) (-1) (-1)
      | none => .agg arr = zeroT ∧ .agg fv = flt 6 (-1) (-1) (-1))
    (fun arr ev fv w1 => SamG o (w.heap.size + 2) arr ev w1 ∧ match o with
      | some S => .agg fv = flt 0 (-1) (-1) (-1)
      | none => .agg fv = flt 6 (-1) (-1) (-1))
    ?c1 ?c2 ?c3
  · refine key.mono ?_
    rintro e w' ⟨arr, fv, rfl, hb, hp⟩
    refine ⟨hb, arr, fv, rfl, ?_⟩
    cases o with
    | none => exact hp
    | some S => exact hp
  case c1 =>
    intro w0 hU0 hI0 hb0 hs0
    refine (psample_c k o hk w0 hU0 hI0).mono ?_
    rintro e w1 ⟨hb1, arr, ev, rfl, a1, a2, hM⟩
    rw [hs0] at hM
    cases o with
    | none =>
      obtain ⟨fv, f1, f2, f3⟩ := flt_arr 6 (-1) (-1) (-1)
      exact ⟨hb1, arr, ev, fv, rfl, ⟨a1, a2⟩, ⟨f2, f3⟩, hM, f1⟩
    | some S =>
      obtain ⟨fv, f1, f2, f3⟩ := flt_arr 0 (-1) (-1) (-1)
      exact ⟨hb1, arr, ev, fv, rfl, ⟨a1, a2⟩, ⟨f2, f3⟩, hM, f1⟩
  case c2 =>
    rintro arr ev fv w1 u ⟨hM, hf⟩ hb hs
    have hEu : ErrTy u := by
      have e1 : u.heap[0]? = w1.heap[0]? := hs 0 (Nat.lt_of_lt_of_le h0 hb.size) (by omega) (by omega)
      exact (World.cell?_of_block e1).trans ((hb.cell (p := ⟨0, 0, none⟩) h0).trans hE)
    cases o with
    | none =>
      rw [hM.2]
      refine (fault_errno 6 u hEu).mono ?_
      rintro e u' ⟨rfl, hb'⟩
      exact ⟨by rw [hf], hb'⟩
    | some S =>
      rw [hM.2]
      refine (fault_nil u).mono ?_
      rintro e u' ⟨rfl, hb'⟩
      exact ⟨by rw [hf], hb'⟩
  case c3 =>
    rintro arr ev fv w1 u ⟨hM, hf⟩ hb hs ho ht hu hz
    cases o with
    | none => exact ⟨hM.1, hf⟩
    | some S =>
      refine ⟨?_, hf⟩
      obtain ⟨v4, v5, v6, h1, h2, h3, h4, h5⟩ := hM.1
      have hk : ∀ q, w.heap.size + 2 ≤ q → q < w1.heap.size → u.heap[q]? = w1.heap[q]? := fun q hq hq2 => hs q hq2 (by omega) (by omega)
      exact ⟨v4, v5, v6, h1, row_mono (row_same h2 hk) (by omega), row_mono (row_same h3 hk) (by omega), row_mono (row_same h4 hk) (by omega), h5⟩
end Go.Proofs.YtobempobmokkcaaGreatDoor
