/-
  Layouts of calls: the statement's copies of lists and of a table. Own work of the verifier.
-/
import Derived.Test.YtffemeicclhioaaDoorClG
import Derived.Laws.CopyOwn
import Derived.Laws.MakeOwn
import Derived.Deep.QuietTactic
import Derived.BigQuiet
namespace Go.Proofs.YtffemeicclhioaaDoor
open Go.RowKit

/-- A copy's cells: the numbers, and two behind them. -/
def cpC (ns : List Int) : List Value := ns.map (fun x => Value.int .i64 x) ++ [.int .i64 (-77), .int .i64 (-78)]
def cpV (g : Nat) (ns : List Int) : Value := .slice (some ⟨g, 0, none⟩) ns.length (ns.length + 2)
structure Cp (w : World) (g : Nat) (ns : List Int) : Prop where
  row : w.heap[g]? = some (.cells (cpC ns).toArray 3 (0, 0))
  lim : ns.length + 2 < 9223372036854775808
theorem cpC_get (ns : List Int) (i : Nat) (h : i < ns.length) : (cpC ns).toArray[i]? = some (.int .i64 (ns.getD i 0)) := by
  simp [cpC, List.getElem?_append_left, h, List.getD]
theorem cpC_a (ns : List Int) : (cpC ns).toArray[ns.length]? = some (.int .i64 (-77)) := by simp [cpC]
theorem cpC_b (ns : List Int) : (cpC ns).toArray[ns.length + 1]? = some (.int .i64 (-78)) := by
  have e : (cpC ns)[ns.length + 1]? = some (.int .i64 (-78)) := by
    unfold cpC
    rw [List.getElem?_append_right (by simp)]
    simp
  simpa using e
theorem Cp.li {w : World} {g : Nat} {ns : List Int} (h : Cp w g ns) : Li w (.slice (some ⟨g, 0, none⟩) ns.length (ns.length + 2)) ns :=
  ⟨_, _, rfl, by omega, by have := h.lim; show ns.length < 9223372036854775808; omega, fun _ => ⟨g, 0, rfl, fun i hi => by rw [Nat.zero_add]; exact (cells_of_row h.row i).trans (cpC_get ns i hi)⟩⟩
theorem Cp.keep {w w' : World} {g : Nat} {ns : List Int} (h : Cp w g ns) (e : w'.heap[g]? = w.heap[g]?) : Cp w' g ns := ⟨e.trans h.row, h.lim⟩
theorem cp_row (cur : List Value) (xs : List Value) (a b : Value) (hl : cur.length = xs.length + 2) : (((splice cur 0 xs).toArray.setIfInBounds xs.length a).setIfInBounds (xs.length + 1) b) = (xs ++ [a, b]).toArray := by
  have e : splice cur 0 xs = xs ++ cur.drop xs.length := by simp [splice]
  obtain ⟨c0, c1, hc⟩ : ∃ c0 c1, cur.drop xs.length = [c0, c1] := by
    have hd : (cur.drop xs.length).length = 2 := by simp; omega
    match hq : cur.drop xs.length, hd with
    | [c0, c1], _ => exact ⟨c0, c1, rfl⟩
  rw [e, hc]
  simp
theorem Tryd.infoIntJ : (Tryd.prog.info? 3).map (·.size) = some 1 := by kernel_rfl
theorem Tryd.infoIntK : (Tryd.prog.info? 3).map (fun i => (i.zero, i.size, i.bytes)) = some (some (.int .i64 0), 1, 8) := by kernel_rfl
theorem mkCp (n : Nat) (hn : n * 8 ≤ 140737488351232) (w : World) : (Instr.makeSlice 23 (.int .i64 (n : Int)) (.int .i64 ((n : Int) + 2))).run Tryd.prog w = .ok (.slice (some ⟨w.heap.size, 0, none⟩) n (n + 2)) (w.alloc (.cells (madeCells #[.int .i64 0] (n + 2)) 3)) := by
  obtain ⟨ti, hti, hz0, hz1, hz2⟩ := info_K Tryd.infoIntK
  have h := run_make (P := Tryd.prog) w 23 3 ti _ Tryd.underlying23 hti hz0 .i64 .i64 (n : Int) ((n : Int) + 2) (by omega) (by omega) (by rw [hz2]; omega) (by omega)
  rw [hz1, Int.toNat_natCast, show ((n : Int) + 2).toNat = n + 2 by omega, Nat.mul_one] at h
  exact h
set_option maxHeartbeats 4000000 in
set_option maxRecDepth 100000 in
theorem copyInts_c (ns : List Int) (p : Option Addr) (c : Nat) (w : World) (h : Li w (.slice p ns.length c) ns) (hl : ns.length * 8 ≤ 140737488351232) :
    Calls Tryd.prog 5 #[.slice p ns.length c] w fun e w' => e = .returned (cpV w.heap.size ns) ∧ Cp w' w.heap.size ns ∧ Below w.heap.size w w' := by
  have hmk := fun V => mkCp ns.length hl V
  have ha := al0 w (.cells (madeCells #[.int .i64 0] (ns.length + 2)) 3 (0, 0))
  obtain ⟨cur, hcur, hcl⟩ : ∃ cur : List Value, madeCells #[.int .i64 0] (ns.length + 2) = cur.toArray ∧ cur.length = ns.length + 2 := ⟨(madeCells #[.int .i64 0] (ns.length + 2)).toList, by simp, by rw [Array.length_toList, size_madeCells]⟩
  rw [hcur] at ha
  have HMK := hideI hcur
  obtain ⟨xs, hxs⟩ : ∃ xs : List Value, xs = ns.map (fun x => Value.int .i64 x) := ⟨_, rfl⟩
  have hxl : xs.length = ns.length := by rw [hxs]; simp
  have hx1 : ∀ v ∈ xs, v.oneCell' = true := fun v hv => by rw [hxs] at hv; obtain ⟨x, -, rfl⟩ := List.mem_map.1 hv; rfl
  have HX1 := hideI hx1
  have HXS := hideI hxs
  have HA := hideI ha
  have HLI := hideI h
  have HCL := hideI hcl
  have HXL := hideI hxl
  have hlt : ns.length < 9223372036854775806 := by omega
  have hmin : Nat.min ns.length ns.length = ns.length := Nat.min_self _
  clear ha h hcur hx1 hxs hcl hxl
  go_enter Tryd.func5, Tryd.ntmps5
  go_wp2_with (refine wpList_copy_splice rfl _ _ 23 23 rfl 3 Tryd.underlying23 (Tryd.infoIntJ.trans rfl) _ _ _ _ _ _ rfl rfl w.heap.size 0 cur 3 ?k1 xs ?k2 ?k3 ?k4 (unhideI HX1) w.heap.size w ?k5 (Nat.le_refl _) ?_)
  case k1 => rw [unhideI HMK]; exact (unhideI HA).1
  case k2 => rw [unhideI HXL, hmin]
  case k3 =>
    intro h0
    rw [unhideI HXL] at h0
    obtain ⟨p', c', e, h2, h3, h4⟩ := unhideI HLI
    injection e with e1 e2 e3
    obtain ⟨sb, so, e4, hc⟩ := h4 h0
    refine ⟨⟨sb, so, none⟩, by rw [e1, e4], fun j v hj => ?_⟩
    rw [unhideI HXS] at hj
    have hj2 : j < ns.length := by
      have := (List.getElem?_eq_some_iff.1 hj).1
      simpa using this
    have hv : v = .int .i64 (ns.getD j 0) := by
      simp [hj2] at hj
      rw [← hj]
      simp [List.getD, hj2]
    subst hv
    have hcj := hc j hj2
    have hb := World.block_lt_of_cell? w _ hcj
    simp only at hb
    rw [unhideI HMK]
    show World.cell? _ (Addr.add ⟨sb, so, none⟩ j) = _
    rw [Go.WideShapes.add_plain]
    exact (World.cell?_of_block ((unhideI HA).2.1.block sb hb)).trans hcj
  case k4 => rw [unhideI HXL, unhideI HCL]; omega
  case k5 => rw [unhideI HMK]; exact (unhideI HA).2.1
  intro w2 HG2 hB2
  have hrow := HG2.out
  have hcell : ∀ j, j < ns.length + 2 → ∃ v, w2.cell? ⟨w.heap.size, j, none⟩ = some v := fun j hj => by
    have hsz : (splice cur 0 xs).length = ns.length + 2 := by rw [length_splice _ _ _ (by rw [unhideI HXL, unhideI HCL]; omega), unhideI HCL]
    exact ⟨_, (cells_of_row hrow j).trans (List.getElem?_toArray.trans (List.getElem?_eq_getElem (by rw [hsz]; exact hj)))⟩
  obtain ⟨v0, c0⟩ := hcell ns.length (by omega)
  obtain ⟨v1, c1⟩ := hcell (ns.length + 1) (by omega)
  have z0 := frozen_of_row _ _ ns.length _ _ hrow
  have z1 := frozen_of_row _ _ (ns.length + 1) _ _ hrow
  have hr3 := heap_setCell_same _ _ (ns.length + 1) _ _ (.int .i64 (-78)) (heap_setCell_same _ _ ns.length _ _ (.int .i64 (-77)) hrow)
  have e3 := cp_row cur xs (.int .i64 (-77)) (.int .i64 (-78)) (by rw [unhideI HCL, unhideI HXL])
  rw [unhideI HXL] at e3
  rw [e3] at hr3
  have HR3 := hideI hr3
  have HB3 := hideI hB2
  have hw1 : IntKind.i64.wrap ((ns.length : Int) + 1) = ((ns.length + 1 : Nat) : Int) := by rw [IntKind.wrap_of_boundsK (by omega) (by omega)]; omega
  have hw2 : IntKind.i64.wrap ((ns.length : Int) + 2) = ((ns.length + 2 : Nat) : Int) := by rw [IntKind.wrap_of_boundsK (by omega) (by omega)]; omega
  clear hrow hcell HG2 hB2 hr3 e3 hmk
  go_wp2
  go_ret
  have hb := unhideI HB3
  refine ⟨rfl, ⟨?_, by omega⟩, ⟨hb.os, hb.tape, hb.output, by have := hb.size; simpa using this, fun q hq => (heap_setCell_other _ _ _ _ (by show q ≠ w.heap.size; omega)).trans ((heap_setCell_other _ _ _ _ (by show q ≠ w.heap.size; omega)).trans (hb.block q hq))⟩⟩
  unfold cpC
  rw [← unhideI HXS]
  exact unhideI HR3
set_option maxHeartbeats 2000000 in
set_option maxRecDepth 100000 in
theorem spareInts_c (ns : List Int) (g : Nat) (w : World) (h : Cp w g ns) : Calls Tryd.prog 13 #[.slice (some ⟨g, 0, none⟩) ns.length (ns.length + 2)] w fun e w' => e = .returned (.bool true) ∧ Below w.heap.size w w' := by
  have c0 := (cells_of_row h.row ns.length).trans (cpC_a ns)
  have c1 := (cells_of_row h.row (ns.length + 1)).trans (cpC_b ns)
  have hlim := h.lim
  have hw1 : IntKind.i64.wrap ((ns.length : Int) + 1) = ((ns.length + 1 : Nat) : Int) := by rw [IntKind.wrap_of_boundsK (by omega) (by omega)]; omega
  have hw2 : IntKind.i64.wrap ((ns.length : Int) + 2) = ((ns.length + 2 : Nat) : Int) := by rw [IntKind.wrap_of_boundsK (by omega) (by omega)]; omega
  clear h
  go_enter Tryd.func13, Tryd.ntmps13
  go_wp2
  go_ret
  exact ⟨rfl, Below.refl _ _⟩
set_option maxHeartbeats 2000000 in
set_option maxRecDepth 100000 in
theorem ints_l (ns : List Int) (va vb : Value) (w : World) (ha : Li w va ns) (hb : Li w vb ns) : Calls Tryd.prog 12 #[va, vb] w fun x w' => x = .returned (.bool true) ∧ Below w.heap.size w w' := by
  obtain ⟨pa, ca, rfl, -, hn, hca⟩ := ha
  obtain ⟨pb, cb, rfl, -, -, hcb⟩ := hb
  have hn' : ns.length < 9223372036854775808 := hn
  have hne : ((ns.length : Int) != (ns.length : Int)) = false := by simp
  have HA := hideI hca
  have HB := hideI hcb
  clear hca hcb hn
  go_enter Tryd.func12, Tryd.ntmps12
  go_wp2
  go_loopw [13] (fun j w' => ∃ (k m : Nat), j = .int .i64 k ∧ k ≤ ns.length ∧ w' = w.drewN m) (fun j _ => ns.length - (intOf j).toNat)
  case atStart => exact ⟨0, 0, rfl, by omega, rfl⟩
  case round =>
    obtain ⟨k, m, rfl, hk, hw⟩ := hrel
    subst hw
    by_cases hlt : k < ns.length
    · obtain ⟨sa, oa, e1, hca⟩ := unhideI HA (by omega)
      obtain ⟨sb, ob, e2, hcb⟩ := unhideI HB (by omega)
      subst e1 e2
      have c1 := hca k hlt
      have c2 := hcb k hlt
      have hxx : (ns.getD k 0 != ns.getD k 0) = false := by simp
      clear hca hcb
      generalize ns.getD k 0 = x at c1 c2 hxx
      go_wp2
      go_quiet (fail)
      go_wp2
      go_roundw
      case rel => exact ⟨k + 1, _, by go_num, by omega, rfl⟩
      case measure => simp [intOf]; omega
    · obtain rfl : k = ns.length := by omega
      go_wp2
      go_ret
      exact ⟨rfl, ⟨rfl, rfl, rfl, Nat.le_refl _, fun _ _ => rfl⟩⟩
theorem eq_intJ (n : Int) (d : Nat) (W : World) : (Op.equalIn (d + 1) 3 (.int .i64 n) (.int .i64 n)).run Tryd.prog W = .ok true W := by
  rw [run_equalIn_int W d 3 .i64 .i64 n n Tryd.underlying3]; simp
theorem eq_twoJ (t0 t1 : Int) (d : Nat) (W : World) : (Op.equalIn (d + 1 + 1) 22 (.agg #[.int .i64 t0, .int .i64 t1]) (.agg #[.int .i64 t0, .int .i64 t1])).run Tryd.prog W = .ok true W := by
  rw [Op.equalIn.eq_def]
  simp only [Sem.run_bind, run_underlying Tryd.underlying22, Result.andThen_ok]
  simp [Std.Legacy.Range.forIn_eq_forIn_range', List.range', part, Tryd.isAgg3, Tryd.sizeOf3, eq_intJ]
theorem rows2 (w : World) (X0 X1 : Obj) : ((w.alloc X0).alloc X1).heap[w.heap.size]? = some X0 ∧ ((w.alloc X0).alloc X1).heap[w.heap.size + 1]? = some X1 ∧ ((w.alloc X0).alloc X1).heap.size = w.heap.size + 1 + 1 ∧ Below w.heap.size w ((w.alloc X0).alloc X1) := by
  obtain ⟨r0, b0, s0⟩ := al0 w X0
  obtain ⟨r1, b1, s1⟩ := al0 (w.alloc X0) X1
  rw [s0] at r1
  exact ⟨(b1.block _ (by omega)).trans r0, r1, by omega, below_cut b0 b1 (by omega)⟩
set_option maxHeartbeats 4000000 in
set_option maxRecDepth 100000 in
theorem tables_l (T : TbE) (pa pr ps : Option Addr) (ca cr cs : Nat) (w : World) (h1 : TbO w { T with pa := pa, ca := ca, pr := pr, cr := cr, ps := ps, cs := cs }) (h2 : TbO w T) :
    Calls Tryd.prog 11 #[.agg ({ T with pa := pa, ca := ca, pr := pr, cr := cr, ps := ps, cs := cs } : TbE).box, .agg T.box] w fun e w' => e = .returned (.bool true) ∧ Below w.heap.size w w' := by
  obtain ⟨r, sp, lk, t0, t1, pa2, ag, ca2, pr2, rs, cr2, ps2, ss, cs2, al, sh, br, pairs⟩ := T
  have HA := hideI h1.a
  have HR := hideI h1.r
  have HS := hideI h1.s
  have KA := hideI h2.a
  have KR := hideI h2.r
  have KS := hideI h2.s
  have heq : ∀ W, (Op.equalIn 10000 22 (.agg #[.int .i64 t0, .int .i64 t1]) (.agg #[.int .i64 t0, .int .i64 t1])).run Tryd.prog W = .ok true W := fun W => eq_twoJ t0 t1 9998 W
  clear h1 h2
  unfold TbE.box
  simp only at HA HR HS KA KR KS ⊢
  obtain ⟨q0, q1, hZ, hB⟩ := rows2 w (.cells #[.int .i64 r, .int .i64 sp, .int .i64 lk, .int .i64 t0, .int .i64 t1, .slice pa ag.length ca, .slice pr rs.length cr, .slice ps ss.length cs, .int .i64 al, .int .i64 sh, .int .i64 br, .bool pairs] 25 (0, 0)) (.cells #[.int .i64 r, .int .i64 sp, .int .i64 lk, .int .i64 t0, .int .i64 t1, .slice pa2 ag.length ca2, .slice pr2 rs.length cr2, .slice ps2 ss.length cs2, .int .i64 al, .int .i64 sh, .int .i64 br, .bool pairs] 25 (0, 0))
  have HQ0 := hideI q0
  have HQ1 := hideI q1
  have HB := hideI hB
  clear q0 q1 hB
  go_enter Tryd.func11, Tryd.ntmps11
  go_wp2_with fail
  generalize World.alloc (World.alloc w _) _ = W at HQ0 HQ1 HB hZ ⊢
  refine (ints_l ag _ _ W ((unhideI HA).below (unhideI HB)) ((unhideI KA).below (unhideI HB))).mono ?_
  rintro e w1 ⟨rfl, hb1⟩
  have hz1 := hb1.size
  have HB1 := hideI (below_cut (unhideI HB) hb1 (by omega))
  have P0 := hideI ((hb1.block w.heap.size (by omega)).trans (unhideI HQ0))
  have P1 := hideI ((hb1.block (w.heap.size + 1) (by omega)).trans (unhideI HQ1))
  have c06 := (cells_of_row (unhideI P0) 6).trans rfl
  have c16 := (cells_of_row (unhideI P1) 6).trans rfl
  clear hb1 HQ0 HQ1
  go_wp2_with fail
  refine (ints_l rs _ _ w1 ((unhideI HR).below (unhideI HB1)) ((unhideI KR).below (unhideI HB1))).mono ?_
  rintro e w2 ⟨rfl, hb2⟩
  have hz2 := hb2.size
  have HB2 := hideI (below_cut (unhideI HB1) hb2 (by omega))
  have R0 := hideI ((hb2.block w.heap.size (by omega)).trans (unhideI P0))
  have R1 := hideI ((hb2.block (w.heap.size + 1) (by omega)).trans (unhideI P1))
  clear hb2 P0 P1 c06 c16
  have c07 := (cells_of_row (unhideI R0) 7).trans rfl
  have c17 := (cells_of_row (unhideI R1) 7).trans rfl
  go_wp2_with fail
  refine (ints_l ss _ _ w2 ((unhideI HS).below (unhideI HB2)) ((unhideI KS).below (unhideI HB2))).mono ?_
  rintro e w3 ⟨rfl, hb3⟩
  have hz3 := hb3.size
  have HB3 := hideI (below_cut (unhideI HB2) hb3 (by omega))
  have S0 := (hb3.block w.heap.size (by omega)).trans (unhideI R0)
  have S1 := (hb3.block (w.heap.size + 1) (by omega)).trans (unhideI R1)
  clear hb3 R0 R1 c07 c17
  have c08 := (cells_of_row S0 8).trans rfl
  have c09 := (cells_of_row S0 9).trans rfl
  have c10 := (cells_of_row S0 10).trans rfl
  have c11 := (cells_of_row S0 11).trans rfl
  have d08 := (cells_of_row S1 8).trans rfl
  have d09 := (cells_of_row S1 9).trans rfl
  have d10 := (cells_of_row S1 10).trans rfl
  have d11 := (cells_of_row S1 11).trans rfl
  clear S0 S1
  go_wp2
  go_ret
  exact ⟨by simp, unhideI HB3⟩
end Go.Proofs.YtffemeicclhioaaDoor
