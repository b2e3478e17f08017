/-
  Decodes: prologue.Decode, plain.Decode by their contracts. Own work of the verifier.
-/
import Derived.Test.YthnmdbddfmgdlaaDoorDecI
import Derived.Test.YthnmdbddfmgdlaaDoorFaultB
import Derived.Deep.RegionWith
namespace Go.Proofs.YthnmdbddfmgdlaaDoor
open Go.RowKit

def dErr (s : ByteArray) : Int := match decOut s with
  | .ok _ => 0
  | .error (n, _) => n
def dAt (s : ByteArray) : Int := match decOut s with
  | .ok _ => -1
  | .error (_, q) => q
def dPrg (s : ByteArray) : ProgE := match decOut s with
  | .ok p => p
  | .error _ => ⟨[], []⟩
/-- An error, as it comes of the codec: none, or a *Bad. -/
def ErrV (w : World) (v : Value) (n a : Int) : Prop := (v = .nilIface ∧ n = 0 ∧ a = -1) ∨ ∃ g, v = .iface 86 (.pointer (some ⟨g, 0, none⟩)) ∧ w.heap[g]? = some (.cells #[.iface 83 (.int .i64 n), .int .i64 (-1), .int .i64 (-1), .int .i64 a] 89 (0, 0))
theorem ErrV.keep {w w' : World} {v : Value} {n a : Int} (h : ErrV w v n a) (hk : ∀ k, k < w.heap.size → w'.heap[k]? = w.heap[k]?) : ErrV w' v n a := by
  rcases h with h | ⟨g, h1, h2⟩
  · exact Or.inl h
  · exact Or.inr ⟨g, h1, (hk g (row_lt h2)).trans h2⟩
def DecU (s : ByteArray) (w : World) (e : Ending) (w' : World) : Prop :=
  Below w.heap.size w w' ∧ ∃ fv ev x, e = .returned (.tuple #[.agg #[fv, ev], x]) ∧ RProg w' w.heap.size (.agg #[fv, ev]) (dPrg s) ∧ ErrV w' x (dErr s) (dAt s) ∧ ∀ g, x = .iface 86 (.pointer (some ⟨g, 0, none⟩)) → w.heap.size ≤ g
theorem cdecode_u (s : ByteArray) (w : World) (hN : NeedsAt w) (h1 : 1 < w.heap.size) : Calls Tryd.prog 32 #[.string s] w (DecU s w) := by
  refine (cdecode_d s w hN h1).mono ?_
  rintro e w' ⟨hb, hm⟩
  refine ⟨hb, ?_⟩
  unfold dPrg dErr dAt
  cases ho : decOut s with
  | ok p =>
    rw [ho] at hm
    obtain ⟨v, rfl, fv, ev, rfl, h2, h3⟩ := hm
    exact ⟨fv, ev, _, rfl, ⟨fv, ev, rfl, h2, h3⟩, Or.inl ⟨rfl, rfl, rfl⟩, fun g h => by cases h⟩
  | error r =>
    obtain ⟨n, q⟩ := r
    rw [ho] at hm
    obtain ⟨g, rfl, h2, h3⟩ := hm
    exact ⟨_, _, _, rfl, ⟨_, _, rfl, RepL.nil _ _ _ _ _, RepL.nil _ _ _ _ _⟩, Or.inr ⟨g, rfl, h2⟩, fun g' h => by injection h with _ h; injection h with h; injection h with h; injection h with h; omega⟩
theorem results_cell_tmp {P : Program} {fn : Func} {u q : Tmp} {uy : TypeId} (h : fn.results = #[.cell q uy, .tmp u]) (tmps : Array Value) (w : World) (g' : Nat) (t' : TypeId) (cs' : Array Value) (fr' : Nat × Nat) (d' : TypeDesc)
    (hp' : tmps.getD q undef = .pointer (some ⟨g', 0, none⟩)) (hg' : w.heap[g']? = some (.cells cs' t' fr')) (hu' : P.underlying uy = some d') (hd' : (match d' with | .struct _ | .array _ _ => true | _ => false) = true) (hi' : (P.info? uy).map (·.size) = some cs'.size) :
    (results fn tmps).run P w = .ok (.tuple #[.agg cs', tmps.getD u undef]) w := by
  have e2 : tmps[q]?.getD undef = .pointer (some ⟨g', 0, none⟩) := by simpa using hp'
  simp [results, h, e2, asAddr, run_loadVar_row w g' t' uy cs' fr' d' hg' hu' hd' hi']
theorem results_cells {P : Program} {fn : Func} {p q : Tmp} {px uy : TypeId} (h : fn.results = #[.cell p px, .cell q uy]) (tmps : Array Value) (w : World) (g : Nat) (t : TypeId) (cs : Array Value) (fr : Nat × Nat) (d : TypeDesc) (g' : Nat) (t' : TypeId) (cs' : Array Value) (fr' : Nat × Nat) (d' : TypeDesc)
    (hp : tmps.getD p undef = .pointer (some ⟨g, 0, none⟩)) (hg : w.heap[g]? = some (.cells cs t fr)) (hu : P.underlying px = some d) (hd : (match d with | .struct _ | .array _ _ => true | _ => false) = true) (hi : (P.info? px).map (·.size) = some cs.size)
    (hp' : tmps.getD q undef = .pointer (some ⟨g', 0, none⟩)) (hg' : w.heap[g']? = some (.cells cs' t' fr')) (hu' : P.underlying uy = some d') (hd' : (match d' with | .struct _ | .array _ _ => true | _ => false) = true) (hi' : (P.info? uy).map (·.size) = some cs'.size) :
    (results fn tmps).run P w = .ok (.tuple #[.agg cs, .agg cs']) w := by
  have e1 : tmps[p]?.getD undef = .pointer (some ⟨g, 0, none⟩) := by simpa using hp
  have e2 : tmps[q]?.getD undef = .pointer (some ⟨g', 0, none⟩) := by simpa using hp'
  simp [results, h, e1, e2, asAddr, run_loadVar_row w g t px cs fr d hg hu hd hi, run_loadVar_row w g' t' uy cs' fr' d' hg' hu' hd' hi']
set_option maxHeartbeats 1000000 in
set_option maxRecDepth 100000 in
theorem pdecode_u (s : ByteArray) (w : World) (hN : NeedsAt w) (h1 : 1 < w.heap.size) : Calls Tryd.prog 19 #[.string s] w (DecU s w) := by
  have HN := hideE hN
  clear hN
  go_enter Tryd.func19, Tryd.ntmps19
  go_wp2_with fail
  have hbl : Below w.heap.size w (w.alloc (.cells #[.slice none 0 0, .slice none 0 0] 25)) := by go_grown
  have hr : (w.alloc (.cells #[.slice none 0 0, .slice none 0 0] 25)).heap[w.heap.size]? = some (.cells #[.slice none 0 0, .slice none 0 0] 25 (0, 0)) := heap_alloc_new _ _
  have hsz : (w.alloc (.cells #[.slice none 0 0, .slice none 0 0] 25)).heap.size = w.heap.size + 1 := by simp
  generalize w.alloc _ = W at hbl hr hsz ⊢
  refine (cdecode_u s W ((unhideE HN).below h1 hbl) (by omega)).mono ?_
  rintro e w1 ⟨hb1, fv, ev, x, rfl, hP, hE, hx⟩
  have hz := hb1.size
  have HROW := hideE ((hb1.block _ (by omega)).trans hr)
  have HB := hideE (hbl.trans (⟨hb1.os, hb1.tape, hb1.output, hb1.size, fun q hq => hb1.block q (by omega)⟩ : Below w.heap.size W w1))
  obtain ⟨fv', ev', e0, hf, he⟩ := hP
  injection e0 with e0
  injection e0 with e0
  injection e0 with e1 e2
  injection e2 with e2
  subst e1 e2
  have HP := hideE (show RProg w1 W.heap.size (.agg #[fv, ev]) (dPrg s) from ⟨fv, ev, rfl, hf, he⟩)
  have HE := hideE hE
  have HX := hideE hx
  obtain ⟨p1, c1, s1⟩ := hf.shape
  obtain ⟨p2, c2, s2⟩ := he.shape
  generalize (dPrg s).funcs.length = n1 at s1
  generalize (dPrg s).externs.length = n2 at s2
  subst s1 s2
  clear hE hx hf he hr hbl hb1
  go_wp2_with (refine wpList_store_row rfl 25 (.tmp 2) (.tmp 6) rfl w.heap.size #[.slice p1 n1 c1, .slice p2 n2 c2] rfl rfl 25 _ (unhideE HROW) (Tryd.infProgD.trans rfl) rfl (by simp [Value.oneCell']) ?_)
  refine bodyPost_ret (results_cell_tmp (fn := Tryd.f19) (u := 3) (q := 2) (uy := 25) rfl _ _ w.heap.size 25 #[.slice p1 n1 c1, .slice p2 n2 c2] (0, 0) _ rfl (setRow_heap _ _ _ _ _ _ (unhideE HROW)) Tryd.underlying25 rfl (Tryd.infProgD.trans rfl)) rfl ?_
  refine ⟨below_setRow (unhideE HB) (Nat.le_refl _) _, _, _, _, rfl, (unhideE HP).keep (by omega) (kept_setRow _ _ _ _ (by omega)), ?_, fun g hg => by have := unhideE HX g hg; omega⟩
  rcases unhideE HE with h | ⟨g, h2, h3⟩
  · exact Or.inl h
  · have := unhideE HX g h2
    exact Or.inr ⟨g, h2, (setRow_other _ _ _ _ (by omega)).trans h3⟩
theorem flt_cells (e f b a : Int) : flt e f b a = .agg #[.int .i64 e, .int .i64 f, .int .i64 b, .int .i64 a] := rfl
theorem fault_u (x : Value) (n a : Int) (w : World) (hE : ErrTy w) (h : ErrV w x n a) : Calls Tryd.prog 13 #[x] w fun e w' => e = .returned (.agg #[.int .i64 n, .int .i64 (-1), .int .i64 (-1), .int .i64 a]) ∧ Below w.heap.size w w' := by
  rcases h with ⟨rfl, rfl, rfl⟩ | ⟨g, rfl, h2⟩
  · exact fault_nil w
  · exact fault_bad n (-1) (-1) a g w hE ⟨(cells_of_row h2 0).trans rfl, (cells_of_row h2 1).trans rfl, (cells_of_row h2 2).trans rfl, (cells_of_row h2 3).trans rfl⟩
def DecV (s : ByteArray) (w : World) (e : Ending) (w' : World) : Prop :=
  Below w.heap.size w w' ∧ ∃ fv ev, e = .returned (.tuple #[.agg #[fv, ev], .agg #[.int .i64 (dErr s), .int .i64 (-1), .int .i64 (-1), .int .i64 (dAt s)]]) ∧ RProg w' w.heap.size (.agg #[fv, ev]) (dPrg s)
set_option maxHeartbeats 4000000 in
set_option maxRecDepth 100000 in
theorem pldecode_c (s : ByteArray) (w : World) (hE : ErrTy w) (hN : NeedsAt w) (h1 : 1 < w.heap.size) : Calls Tryd.prog 8 #[.string s] w (DecV s w) := by
  have HN := hideE hN
  have HET := hideE hE
  clear hN hE
  go_enter Tryd.func8, Tryd.ntmps8
  go_wp2_with fail
  have hbl : Below w.heap.size w ((w.alloc (.cells #[.slice none 0 0, .slice none 0 0] 25)).alloc (.cells #[.int .i64 0, .int .i64 0, .int .i64 0, .int .i64 0] 27)) := by go_grown
  have hr0 : ((w.alloc (.cells #[.slice none 0 0, .slice none 0 0] 25)).alloc (.cells #[.int .i64 0, .int .i64 0, .int .i64 0, .int .i64 0] 27)).heap[w.heap.size]? = some (.cells #[.slice none 0 0, .slice none 0 0] 25 (0, 0)) := heap_alloc2_old _ _ _
  have hr1 : ((w.alloc (.cells #[.slice none 0 0, .slice none 0 0] 25)).alloc (.cells #[.int .i64 0, .int .i64 0, .int .i64 0, .int .i64 0] 27)).heap[w.heap.size + 1]? = some (.cells #[.int .i64 0, .int .i64 0, .int .i64 0, .int .i64 0] 27 (0, 0)) := heap_alloc2_new _ _ _
  have hsz : ((w.alloc (.cells #[.slice none 0 0, .slice none 0 0] 25)).alloc (.cells #[.int .i64 0, .int .i64 0, .int .i64 0, .int .i64 0] 27)).heap.size = w.heap.size + 1 + 1 := by simp
  generalize (w.alloc _).alloc _ = W at hbl hr0 hr1 hsz ⊢
  refine (pdecode_u s W ((unhideE HN).below h1 hbl) (by omega)).mono ?_
  rintro e w1 ⟨hb1, fv, ev, x, rfl, hP, hE, hx⟩
  have hz := hb1.size
  obtain ⟨fv', ev', e0, hf, he⟩ := hP
  injection e0 with e0
  injection e0 with e0
  injection e0 with e1 e2
  injection e2 with e2
  subst e1 e2
  have HP := hideE (show RProg w1 W.heap.size (.agg #[fv, ev]) (dPrg s) from ⟨fv, ev, rfl, hf, he⟩)
  obtain ⟨p1, c1, s1⟩ := hf.shape
  obtain ⟨p2, c2, s2⟩ := he.shape
  generalize (dPrg s).funcs.length = n1 at s1
  generalize (dPrg s).externs.length = n2 at s2
  subst s1 s2
  have HBW := hideE (hbl.trans (⟨hb1.os, hb1.tape, hb1.output, hb1.size, fun q hq => hb1.block q (by omega)⟩ : Below w.heap.size W w1))
  have HQ0 := hideE ((hb1.block _ (by omega)).trans hr0)
  have HQ1 := hideE ((hb1.block _ (by omega)).trans hr1)
  have HEV := hideE hE
  clear hE hx hf he hr0 hr1 hbl hb1
  go_wp2_with fail
  have hal := (Below.refl w1.heap.size w1).alloc (Nat.le_refl _) (.cells #[.slice p1 n1 c1, .slice p2 n2 c2] 25 (0, 0))
  have h4 : (w1.alloc (.cells #[.slice p1 n1 c1, .slice p2 n2 c2] 25 (0, 0))).heap[w1.heap.size]? = _ := heap_alloc_new _ _
  have hz4 : (w1.alloc (.cells #[.slice p1 n1 c1, .slice p2 n2 c2] 25 (0, 0))).heap.size = w1.heap.size + 1 := by simp
  generalize w1.alloc _ = V at hal h4 hz4 ⊢
  have d0 := (cells_of_row h4 0).trans rfl
  have d1 := (cells_of_row h4 1).trans rfl
  have hbV : Below w.heap.size w V := (unhideE HBW).trans ⟨hal.os, hal.tape, hal.output, hal.size, fun q hq => hal.block q (by omega)⟩
  have hET : ErrTy V.drew := ((unhideE HET).below hbV (show 0 < w.heap.size by omega)).drew
  have hEV : ErrV V.drew x (dErr s) (dAt s) := (unhideE HEV).keep (fun k hk => hal.block k hk)
  have HF := hideE (show Calls Tryd.prog 13 #[x] V.drew (fun e w5 => e = .returned (.agg #[.int .i64 (dErr s), .int .i64 (-1), .int .i64 (-1), .int .i64 (dAt s)]) ∧ w5.heap[w1.heap.size]? = some (.cells #[.slice p1 n1 c1, .slice p2 n2 c2] 25 (0, 0)) ∧ w5.heap[w.heap.size]? = some (.cells #[.slice none 0 0, .slice none 0 0] 25 (0, 0)) ∧ w5.heap[w.heap.size + 1]? = some (.cells #[.int .i64 0, .int .i64 0, .int .i64 0, .int .i64 0] 27 (0, 0)) ∧ Below w.heap.size w w5 ∧ KeptOn W.heap.size w1 w5) from (fault_u x _ _ V.drew hET hEV).mono (by
    rintro e w5 ⟨rfl, hb5⟩
    have hk : ∀ k, k < V.heap.size → w5.heap[k]? = V.heap[k]? := fun k hk => hb5.block k hk
    refine ⟨rfl, (hk w1.heap.size (by omega)).trans h4, (hk w.heap.size (by omega)).trans ((hal.block w.heap.size (by omega)).trans (unhideE HQ0)), (hk (w.heap.size + 1) (by omega)).trans ((hal.block (w.heap.size + 1) (by omega)).trans (unhideE HQ1)), hbV.trans ⟨hb5.os, hb5.tape, hb5.output, hb5.size, fun q hq => hk q (by omega)⟩, fun k h1 h2 => (hk k (by omega)).trans (hal.block k h2)⟩))
  clear hET hEV HEV HQ0 HQ1 hbV hal
  have HDV := hideE (show DecV s w = DecV s w from rfl)
  generalize hen : dErr s = en at HF
  generalize hea : dAt s = ea at HF
  have HEN := hideE hen
  have HEA := hideE hea
  clear hen hea
  go_region_with (go_at_call 13; refine (unhideE HF).mono ?_; rintro e w5 ⟨rfl, q4, q2, q3, hB5, hK5⟩; have b0 := (cells_of_row q4 0).trans rfl; have b1 := (cells_of_row q4 1).trans rfl; have b2 := (cells_of_row q2 0).trans rfl; have b3 := (cells_of_row q2 1).trans rfl; have b4 : ∀ j, w5.frozen? ⟨w.heap.size, j, none⟩ = false := fun j => frozen_of_row _ _ _ _ _ q2; have r0 := (cells_of_row q3 0).trans rfl; have r1 := (cells_of_row q3 1).trans rfl; have r2 := (cells_of_row q3 2).trans rfl; have r3 := (cells_of_row q3 3).trans rfl; have r4 : ∀ j, w5.frozen? ⟨w.heap.size + 1, j, none⟩ = false := fun j => frozen_of_row _ _ _ _ _ q3; have HQ2 := hideE q2; have HQ3 := hideE q3; have HB5 := hideE hB5; have HK5 := hideE hK5; clear q4 q2 q3 hB5 hK5)
  all_goals
    have hx0 : ((((((w5.setCell ⟨w.heap.size, 0, none⟩ (.slice p1 n1 c1)).setCell ⟨w.heap.size, 1, none⟩ (.slice p2 n2 c2)).setCell ⟨w.heap.size + 1, 0, none⟩ (.int .i64 en)).setCell ⟨w.heap.size + 1, 1, none⟩ (.int .i64 (-1))).setCell ⟨w.heap.size + 1, 2, none⟩ (.int .i64 (-1))).setCell ⟨w.heap.size + 1, 3, none⟩ (.int .i64 ea)).heap[w.heap.size]? = some (.cells #[.slice p1 n1 c1, .slice p2 n2 c2] 25 (0, 0)) := (heap_setCell_other _ _ _ _ (by show w.heap.size ≠ w.heap.size + 1; omega)).trans ((heap_setCell_other _ _ _ _ (by show w.heap.size ≠ w.heap.size + 1; omega)).trans ((heap_setCell_other _ _ _ _ (by show w.heap.size ≠ w.heap.size + 1; omega)).trans ((heap_setCell_other _ _ _ _ (by show w.heap.size ≠ w.heap.size + 1; omega)).trans (heap_setCell_same _ _ 1 _ _ (.slice p2 n2 c2) (heap_setCell_same _ _ 0 _ _ (.slice p1 n1 c1) (unhideE HQ2)))))) 
    have hx1 : ((((((w5.setCell ⟨w.heap.size, 0, none⟩ (.slice p1 n1 c1)).setCell ⟨w.heap.size, 1, none⟩ (.slice p2 n2 c2)).setCell ⟨w.heap.size + 1, 0, none⟩ (.int .i64 en)).setCell ⟨w.heap.size + 1, 1, none⟩ (.int .i64 (-1))).setCell ⟨w.heap.size + 1, 2, none⟩ (.int .i64 (-1))).setCell ⟨w.heap.size + 1, 3, none⟩ (.int .i64 ea)).heap[w.heap.size + 1]? = some (.cells #[.int .i64 en, .int .i64 (-1), .int .i64 (-1), .int .i64 ea] 27 (0, 0)) := heap_setCell_same _ _ 3 _ _ (.int .i64 ea) (heap_setCell_same _ _ 2 _ _ (.int .i64 (-1)) (heap_setCell_same _ _ 1 _ _ (.int .i64 (-1)) (heap_setCell_same _ _ 0 _ _ (.int .i64 en) ((heap_setCell_other _ _ _ _ (by show w.heap.size + 1 ≠ w.heap.size; omega)).trans ((heap_setCell_other _ _ _ _ (by show w.heap.size + 1 ≠ w.heap.size; omega)).trans (unhideE HQ3))))))
    have hbX : Below w.heap.size w ((((((w5.setCell ⟨w.heap.size, 0, none⟩ (.slice p1 n1 c1)).setCell ⟨w.heap.size, 1, none⟩ (.slice p2 n2 c2)).setCell ⟨w.heap.size + 1, 0, none⟩ (.int .i64 en)).setCell ⟨w.heap.size + 1, 1, none⟩ (.int .i64 (-1))).setCell ⟨w.heap.size + 1, 2, none⟩ (.int .i64 (-1))).setCell ⟨w.heap.size + 1, 3, none⟩ (.int .i64 ea)) := below_high (below_high (below_high (below_high (below_high (below_high (unhideE HB5) (Nat.le_refl _) _) (Nat.le_refl _) _) (by omega) _) (by omega) _) (by omega) _) (by omega) _
    have hkX : KeptOn W.heap.size w1 ((((((w5.setCell ⟨w.heap.size, 0, none⟩ (.slice p1 n1 c1)).setCell ⟨w.heap.size, 1, none⟩ (.slice p2 n2 c2)).setCell ⟨w.heap.size + 1, 0, none⟩ (.int .i64 en)).setCell ⟨w.heap.size + 1, 1, none⟩ (.int .i64 (-1))).setCell ⟨w.heap.size + 1, 2, none⟩ (.int .i64 (-1))).setCell ⟨w.heap.size + 1, 3, none⟩ (.int .i64 ea)) := kept_low (kept_low (kept_low (kept_low (kept_low (kept_low (unhideE HK5) (by omega) _) (by omega) _) (by omega) _) (by omega) _) (by omega) _) (by omega) _
    clear b0 b1 b2 b3 b4 r0 r1 r2 r3 r4 HQ2 HQ3 HF HB5 HK5 d0 d1 h4
    generalize (((((w5.setCell ⟨w.heap.size, 0, none⟩ (.slice p1 n1 c1)).setCell ⟨w.heap.size, 1, none⟩ (.slice p2 n2 c2)).setCell ⟨w.heap.size + 1, 0, none⟩ (.int .i64 en)).setCell ⟨w.heap.size + 1, 1, none⟩ (.int .i64 (-1))).setCell ⟨w.heap.size + 1, 2, none⟩ (.int .i64 (-1))).setCell ⟨w.heap.size + 1, 3, none⟩ (.int .i64 ea) = X at hx0 hx1 hbX hkX ⊢
    have HX0 := hideE hx0
    have HX1 := hideE hx1
    clear hx0 hx1
    go_wp2
    refine bodyPost_ret (results_cells (fn := Tryd.f8) (p := 2) (q := 3) (px := 25) (uy := 27) rfl _ _ w.heap.size 25 #[.slice p1 n1 c1, .slice p2 n2 c2] (0, 0) _ (w.heap.size + 1) 27 #[.int .i64 en, .int .i64 (-1), .int .i64 (-1), .int .i64 ea] (0, 0) _ rfl (unhideE HX0) Tryd.underlying25 rfl (Tryd.infProgD.trans rfl) rfl (unhideE HX1) Tryd.underlying27 rfl (Tryd.infFlt.trans rfl)) rfl ?_
    exact ⟨hbX, _, _, by rw [unhideE HEN, unhideE HEA], (unhideE HP).keep (by omega) hkX⟩
end Go.Proofs.YthnmdbddfmgdlaaDoor
