/-
  Parses: agrees, ints, tables at equal ones; spoilInts, spoilTable. Own work of the verifier.
-/
import Derived.Test.YtidhncoecfkbfaaDoorPsNums
import Derived.Test.YtidhncoecfkbfaaDoorPrtPrint
import Derived.Test.YtidhncoecfkbfaaDoorPsTab2
namespace Go.Proofs.YtidhncoecfkbfaaDoor
open Go.RowKit

set_option maxHeartbeats 1000000 in
theorem agrees_same (e f b a : Int) (w : World) : Calls Tryd.prog 8 #[flt e f b a, flt e f b a] w fun x w' => x = .returned (.bool true) ∧ Below w.heap.size w w' := by
  unfold flt
  go_enter Tryd.func8, Tryd.ntmps8
  go_wp2
  go_ret
  exact ⟨rfl, by go_grown⟩
/-- A value that reads as a list of numbers: by the cells. -/
def RdI (w : World) (v : Value) (ns : List Int) : Prop := (ns = [] ∧ v = .slice none 0 0) ∨ ∃ g cap, v = .slice (some ⟨g, 0, none⟩) ns.length cap ∧ ∀ i, i < ns.length → w.cell? ⟨g, i, none⟩ = some (.int .i64 (ns.getD i 0))
theorem RdI.below {w w' : World} {v : Value} {ns : List Int} (h : RdI w v ns) (hb : Below w.heap.size w w') : RdI w' v ns := by
  rcases h with h | ⟨g, cap, e, hc⟩
  · exact Or.inl h
  · exact Or.inr ⟨g, cap, e, fun i hi => (hb.cell (p := ⟨g, i, none⟩) (World.block_lt_of_cell? w _ (hc i hi))).trans (hc i hi)⟩
theorem RdI.shape {w : World} {v : Value} {ns : List Int} (h : RdI w v ns) : ∃ a cap, v = .slice a ns.length cap := by
  rcases h with ⟨rfl, rfl⟩ | ⟨g, cap, rfl, _⟩
  · exact ⟨_, _, rfl⟩
  · exact ⟨_, _, rfl⟩
theorem rd_of_own {w : World} {base : Nat} {v : Value} {ns : List Int} (h : w.ownsRow base 3 1 v ns.length (iCells ns)) : RdI w v ns := by
  rcases h.2 with ⟨e, e0⟩ | ⟨g, cap, cur, e, -⟩
  · exact Or.inl ⟨List.eq_nil_of_length_eq_zero e0, e⟩
  · refine Or.inr ⟨g, cap, e, fun i hi => ?_⟩
    subst e
    rw [h.cellAt i (by omega)]
    simp [iCells, hi]
set_option maxHeartbeats 1000000 in
set_option maxRecDepth 100000 in
theorem ints_none (pa pb : Option Addr) (ca cb : Nat) (w : World) : Calls Tryd.prog 35 #[.slice pa 0 ca, .slice pb 0 cb] w fun x w' => x = .returned (.bool true) ∧ Below w.heap.size w w' := by
  go_enter Tryd.func35, Tryd.ntmps35
  go_wp2_with fail
  refine wp_loop_rounds 1 ?_
  rw [rounds_succ]
  go_wp2
  go_ret
  exact ⟨rfl, by go_grown⟩
set_option maxHeartbeats 1000000 in
set_option maxRecDepth 100000 in
theorem ints_some (ns : List Int) (ga gb ca cb : Nat) (w : World) (hca : ∀ i, i < ns.length → w.cell? ⟨ga, i, none⟩ = some (.int .i64 (ns.getD i 0))) (hcb : ∀ i, i < ns.length → w.cell? ⟨gb, i, none⟩ = some (.int .i64 (ns.getD i 0))) (hn : ns.length ≤ 1000) : Calls Tryd.prog 35 #[.slice (some ⟨ga, 0, none⟩) ns.length ca, .slice (some ⟨gb, 0, none⟩) ns.length cb] w fun x w' => x = .returned (.bool true) ∧ Below w.heap.size w w' := by
  have HA := hideQ hca
  have HB := hideQ hcb
  clear hca hcb
  go_enter Tryd.func35, Tryd.ntmps35
  go_wp2_with fail
  go_loopw [13] (fun j wr => ∃ k : Nat, j = .int .i64 k ∧ k ≤ ns.length ∧ Below w.heap.size w wr) (fun j _ => ns.length - (intOf j).toNat)
  case atStart => exact ⟨0, rfl, by omega, Below.refl _ _⟩
  case round =>
    obtain ⟨k, rfl, hk, hb⟩ := hrel
    by_cases hlt : k < ns.length
    · have c1 := (hb.cell (p := ⟨ga, k, none⟩) (World.block_lt_of_cell? w _ (unhideQ HA k hlt))).trans (unhideQ HA k hlt)
      have c2 := (hb.cell (p := ⟨gb, k, none⟩) (World.block_lt_of_cell? w _ (unhideQ HB k hlt))).trans (unhideQ HB k hlt)
      generalize ns.getD k 0 = x at c1 c2
      have HBL := hideQ hb
      clear hb
      go_wp2
      go_region
      all_goals go_wp2
      all_goals go_roundw
      case rel => exact ⟨k + 1, by go_num, by omega, (unhideQ HBL).drew⟩
      case measure => simp [intOf]; omega
    · obtain rfl : k = ns.length := by omega
      have HBL := hideQ hb
      clear hb
      go_wp2
      go_ret
      exact ⟨rfl, unhideQ HBL⟩
theorem ints_same (ns : List Int) (va vb : Value) (w : World) (ha : RdI w va ns) (hb : RdI w vb ns) (hn : ns.length ≤ 1000) : Calls Tryd.prog 35 #[va, vb] w fun x w' => x = .returned (.bool true) ∧ Below w.heap.size w w' := by
  rcases ha with ⟨rfl, rfl⟩ | ⟨ga, ca, rfl, hca⟩
  · obtain ⟨pb, cb, rfl⟩ := hb.shape
    exact ints_none _ _ _ _ w
  · rcases hb with ⟨rfl, rfl⟩ | ⟨gb, cb, rfl, hcb⟩
    · exact ints_none _ _ _ _ w
    · exact ints_some ns ga gb ca cb w hca hcb hn
theorem own_set {w : World} {base n cap g : Nat} {e : TypeId} {xs : List Value} (h : w.ownsRow base e 1 (.slice (some ⟨g, 0, none⟩) n cap) n xs) (i : Nat) (u : Value) : ∃ xs', (w.setCell ⟨g, i, none⟩ u).ownsRow base e 1 (.slice (some ⟨g, 0, none⟩) n cap) n xs' := by
  rcases h.2 with ⟨e1, _⟩ | ⟨g', cap', cur, e1, h2, h3, h4, h5, h6, h7⟩
  · cases e1
  · injection e1 with e1 _ e2
    injection e1 with e1
    injection e1 with e1
    subst e1; subst e2
    refine ⟨(cur.setIfInBounds i u).toList.take (n * 1), ?_, Or.inr ⟨g, cap, cur.setIfInBounds i u, rfl, h2, heap_setCell_same w g i cur e u h3, h4, h5, by simpa using h6, rfl⟩⟩
    simp
    omega
set_option maxHeartbeats 4000000 in
set_option maxRecDepth 100000 in
theorem spoilInts_c (B n : Nat) (v : Value) (xs : List Value) (w : World) (h : w.ownsRow B 3 1 v n xs) (hn : n ≤ 1000) (hB : B ≤ w.heap.size) : Calls Tryd.prog 36 #[v] w fun e w' => (∃ x, e = .returned x) ∧ w.grownBy w' v.ownBlock := by
  obtain ⟨ti, hti, hz0, hz1, hz2⟩ := info_partsP Tryd.infoI
  have HO := hideQ h
  obtain ⟨va, vc, rfl⟩ : ∃ a c, v = .slice a n c := by
    rcases h.2 with ⟨e, e0⟩ | ⟨g, cap, cur, e, -⟩
    · subst e0; exact ⟨_, _, e⟩
    · exact ⟨_, _, e⟩
  clear h
  go_enter Tryd.func36, Tryd.ntmps36
  go_wp2_with fail
  go_loopw [5] (fun j wr => ∃ k : Nat, j = .int .i64 k ∧ k ≤ n ∧ w.grownBy wr (Value.slice va n vc).ownBlock ∧ ∃ ys, wr.ownsRow B 3 1 (.slice va n vc) n ys) (fun j _ => n - (intOf j).toNat)
  case atStart => exact ⟨0, rfl, by omega, ⟨rfl, rfl, rfl, Nat.le_refl _, fun _ _ _ => rfl⟩, xs, unhideQ HO⟩
  case round =>
    obtain ⟨k, rfl, hk, hb, ys, hown⟩ := hrel
    by_cases hlt : k < n
    · obtain ⟨g, rfl⟩ : ∃ g, va = some ⟨g, 0, none⟩ := by
        rcases hown.2 with ⟨e, e0⟩ | ⟨g, cap, cur, e, -⟩
        · omega
        · injection e with e _ _; exact ⟨g, e⟩
      have hgl := hown.lt g rfl
      obtain ⟨c0, c1⟩ : (∃ u, wr.cell? ⟨g, k, none⟩ = some u) ∧ wr.frozen? ⟨g, k, none⟩ = false := by
        rcases hown.2 with ⟨e, e0⟩ | ⟨g', cap, cur, e, h2, h3, h4, h5, h6, h7⟩
        · omega
        · injection e with e _ e3
          injection e with e
          injection e with e
          subst e e3
          have hkc : k < cur.size := by omega
          exact ⟨⟨cur[k], by simp [World.cell?, h3, hkc]⟩, by simp [World.frozen?, h3]⟩
      obtain ⟨u, c0⟩ := c0
      obtain ⟨ys', ho2⟩ := own_set hown k (.int .i64 (-9))
      have HO2 := hideQ ho2
      have HBL := hideQ hb
      clear hb hown ho2
      go_wp2
      go_roundw
      case rel => exact ⟨k + 1, by go_num, by omega, gb_trans (unhideQ HBL) (gb_set _ _ _ _), ys', unhideQ HO2⟩
      case measure => simp [intOf]; omega
    · obtain rfl : k = n := by omega
      have HBL := hideQ hb
      have HOW := hideQ hown
      have hsz := hb.size
      clear hb hown
      go_wp2_with (at_builtin; refine wpList_append_own _ rfl _ _ 43 rfl B 3 ti _ 1 8 Tryd.underlying43 hti hz0 hz1 hz2 rfl (by decide) _ _ _ rfl ((unhideQ HOW).alloc _) ⟨wr.heap.size, 0, none⟩ 2 2 [.int .i64 (-9), .int .i64 (-9)] rfl rfl (by intro j u hj; match j, hj with | 0, hj => (simp at hj; subst hj; simp [Addr.add]) | 1, hj => (simp at hj; subst hj; simp [Addr.add])) (by intro u hu; simp at hu; subst hu; rfl) ?c3 ?c4 ?c5 ?_)
      case c3 => unfold maxLen; omega
      case c4 => omega
      case c5 => simp; omega
      intro v' w' hown' hgr _
      have HG := hideQ (gb_trans (unhideQ HBL) (gb_trans (gb_of_below ((Below.refl wr.heap.size wr).alloc (Nat.le_refl _) _)) hgr))
      clear hown' hgr
      go_wp2
      go_returns
      exact ⟨⟨_, rfl⟩, unhideQ HG⟩
theorem low_of_gb {w w' : World} {B : Nat} {v : Value} (hg : w.grownBy w' v.ownBlock) (hv : ∀ g, v.ownBlock = some g → B ≤ g) (hB : B ≤ w.heap.size) : Below B w w' := ⟨hg.os, hg.tape, hg.output, hg.size, fun q hq => hg.block q (by omega) (fun e => by have := hv q e.symm; omega)⟩
theorem ne_own {v u : Value} (h : ∀ g, u.ownBlock = some g → v.ownBlock ≠ some g) : v.ownBlock = none ∨ v.ownBlock ≠ u.ownBlock := by
  cases hv : v.ownBlock with
  | none => exact Or.inl rfl
  | some g => exact Or.inr (fun e => h g e.symm hv)
/-- What spoiling a table leaves: all but its lists. -/
structure Spoilt (w w' : World) (v4 v5 v6 : Value) : Prop where
  size : w.heap.size ≤ w'.heap.size
  same : ∀ q, q < w.heap.size → v4.ownBlock ≠ some q → v5.ownBlock ≠ some q → v6.ownBlock ≠ some q → w'.heap[q]? = w.heap[q]?
  os : w'.os = w.os
  tape : w'.tape = w.tape
  output : w'.output = w.output
set_option maxHeartbeats 4000000 in
set_option maxRecDepth 100000 in
theorem spoilTable_c (r sp lk t0 t1 al sh by_ : Int) (pr : Bool) (n4 n5 n6 : Nat) (x4 x5 x6 : List Value) (v4 v5 v6 : Value) (B : Nat) (w : World) (r4 : w.ownsRow B 3 1 v4 n4 x4) (r5 : w.ownsRow B 3 1 v5 n5 x5) (r6 : w.ownsRow B 3 1 v6 n6 x6) (h4 : n4 ≤ 1000) (h5 : n5 ≤ 1000) (h6 : n6 ≤ 1000) (hB : B ≤ w.heap.size) (hap : Apart3 v4 v5 v6) :
    Calls Tryd.prog 17 #[.agg (boxOf r sp lk t0 t1 v4 v5 v6 al sh by_ pr)] w fun e w' => (∃ x, e = .returned x) ∧ Spoilt w w' v4 v5 v6 := by
  have H4 := hideQ r4
  have H5 := hideQ r5
  have H6 := hideQ r6
  have HAP := hideQ hap
  clear r4 r5 r6 hap
  unfold boxOf
  go_enter Tryd.func17, Tryd.ntmps17
  go_wp2_with fail
  have hlow := fun X => (Below.refl w.heap.size w).alloc (Nat.le_refl _) X
  have al := fun {v : Value} {n : Nat} {x : List Value} (h : w.ownsRow B 3 1 v n x) X => World.ownsRow.kept h (gb_of_below (row := none) (hlow X)) (by cases v.ownBlock <;> simp)
  refine (spoilInts_c B n4 v4 x4 _ (al (unhideQ H4) _) h4 (by simp; omega)).mono ?_
  rintro e w1 ⟨⟨x, rfl⟩, hg1⟩
  have hx1 : w1.heap[w.heap.size]? = _ := (hg1.block w.heap.size (by simp) (fun e => by have := ((unhideQ H4).lt _ e.symm).2; omega)).trans (heap_alloc_new w _)
  have K5 := hideQ (World.ownsRow.kept (al (unhideQ H5) _) hg1 (ne_own (fun g h => ((unhideQ HAP) g).1 h |>.1)))
  have K6 := hideQ (World.ownsRow.kept (al (unhideQ H6) _) hg1 (ne_own (fun g h => ((unhideQ HAP) g).1 h |>.2)))
  have HX1 := hideQ hx1
  have c5 := (cells_of hx1).1 5
  have c6 := (cells_of hx1).1 6
  have c7 := (cells_of hx1).1 7
  simp at c5 c6 c7
  have hz1 := hg1.size
  simp only [World.size_alloc] at hz1
  have HS1 := hideQ (show Spoilt w w1 v4 v5 v6 from ⟨by omega, fun q hq n4 _ _ => (hg1.block q (by simp; omega) (fun e => n4 e.symm)).trans (al_old _ _ _ hq), hg1.os, hg1.tape, hg1.output⟩)
  clear hg1 hx1 al hlow
  go_wp2_with fail
  refine (spoilInts_c B n5 v5 x5 w1 (unhideQ K5) h5 (by omega)).mono ?_
  rintro e w2 ⟨⟨y, rfl⟩, hg2⟩
  have hz2 := hg2.size
  have hx2 := (hg2.block w.heap.size (by omega) (fun e => by have := ((unhideQ H5).lt _ e.symm).2; omega)).trans (unhideQ HX1)
  have L6 := hideQ (World.ownsRow.kept (unhideQ K6) hg2 (ne_own (fun g h => ((unhideQ HAP) g).2 h)))
  have HS2 := hideQ (show Spoilt w w2 v4 v5 v6 from ⟨by omega, fun q hq n4 n5 n6 => (hg2.block q (by omega) (fun e => n5 e.symm)).trans ((unhideQ HS1).same q hq n4 n5 n6), hg2.os.trans (unhideQ HS1).os, hg2.tape.trans (unhideQ HS1).tape, hg2.output.trans (unhideQ HS1).output⟩)
  have d7 := (cells_of hx2).1 7
  simp at d7
  clear hg2 hx2 HX1 c5 c6 c7
  go_wp2_with fail
  refine (spoilInts_c B n6 v6 x6 w2 (unhideQ L6) h6 (by omega)).mono ?_
  rintro e w3 ⟨⟨z, rfl⟩, hg3⟩
  have hz3 := hg3.size
  have HS3 := hideQ (show Spoilt w w3 v4 v5 v6 from ⟨by omega, fun q hq n4 n5 n6 => (hg3.block q (by omega) (fun e => n6 e.symm)).trans ((unhideQ HS2).same q hq n4 n5 n6), hg3.os.trans (unhideQ HS2).os, hg3.tape.trans (unhideQ HS2).tape, hg3.output.trans (unhideQ HS2).output⟩)
  clear hg3
  go_wp2
  go_returns
  exact ⟨⟨_, rfl⟩, unhideQ HS3⟩
theorem eq_int (n : Int) (d : Nat) (W : World) : (Op.equalIn (d + 1) 3 (.int .i64 n) (.int .i64 n)).run Tryd.prog W = .ok true W := by
  rw [run_equalIn_int W d 3 .i64 .i64 n n Tryd.underlying3]; simp
theorem eq_two (t0 t1 : Int) (d : Nat) (W : World) : (Op.equalIn (d + 1 + 1) 42 (.agg #[.int .i64 t0, .int .i64 t1]) (.agg #[.int .i64 t0, .int .i64 t1])).run Tryd.prog W = .ok true W := by
  rw [Op.equalIn.eq_def]
  simp only [Sem.run_bind, run_underlying Tryd.underlying42, Result.andThen_ok]
  simp [Std.Legacy.Range.forIn_eq_forIn_range', List.range', part, Tryd.isAgg3, Tryd.sizeOf3, eq_int]
set_option maxHeartbeats 4000000 in
set_option maxRecDepth 100000 in
theorem tables_same (r sp lk t0 t1 al sh by_ : Int) (pr : Bool) (l4 l5 l6 : List Int) (a4 a5 a6 b4 b5 b6 : Value) (w : World) (h4 : RdI w a4 l4) (h5 : RdI w a5 l5) (h6 : RdI w a6 l6) (k4 : RdI w b4 l4) (k5 : RdI w b5 l5) (k6 : RdI w b6 l6) (m4 : l4.length ≤ 1000) (m5 : l5.length ≤ 1000) (m6 : l6.length ≤ 1000) :
    Calls Tryd.prog 16 #[.agg (boxOf r sp lk t0 t1 a4 a5 a6 al sh by_ pr), .agg (boxOf r sp lk t0 t1 b4 b5 b6 al sh by_ pr)] w fun e w' => e = .returned (.bool true) ∧ Below w.heap.size w w' := by
  have H4 := hideQ h4
  have H5 := hideQ h5
  have H6 := hideQ h6
  have K4 := hideQ k4
  have K5 := hideQ k5
  have K6 := hideQ k6
  clear h4 h5 h6 k4 k5 k6
  unfold boxOf
  have heq : ∀ W, (Op.equalIn 10000 42 (.agg #[.int .i64 t0, .int .i64 t1]) (.agg #[.int .i64 t0, .int .i64 t1])).run Tryd.prog W = .ok true W := fun W => eq_two t0 t1 9998 W
  go_enter Tryd.func16, Tryd.ntmps16
  go_wp2_with fail
  have hlow := fun X Y => ((Below.refl w.heap.size w).alloc (Nat.le_refl _) X).alloc (by simp) Y
  have HL := hideQ hlow
  clear hlow
  refine (ints_same l4 a4 b4 _ ((unhideQ H4).below (unhideQ HL _ _)) ((unhideQ K4).below (unhideQ HL _ _)) m4).mono ?_
  rintro e w1 ⟨rfl, hb1⟩
  have hz1 := hb1.size
  simp only [World.size_alloc] at hz1
  have q0 := (cells_of ((hb1.block w.heap.size (by simp; omega)).trans ((al_old _ _ _ (by simp)).trans (heap_alloc_new w _)))).1
  have q1 := (cells_of ((hb1.block (w.heap.size + 1) (by simp)).trans (heap_alloc2_new w _ _))).1
  have HB1 := hideQ ((unhideQ HL _ _).trans (hb1.mono (by simp; omega)))
  have HQ0 := hideQ q0
  have HQ1 := hideQ q1
  have c06 := q0 6
  have c16 := q1 6
  simp at c06 c16
  clear hb1 q0 q1
  go_wp2_with fail
  refine (ints_same l5 a5 b5 w1 ((unhideQ H5).below (unhideQ HB1)) ((unhideQ K5).below (unhideQ HB1)) m5).mono ?_
  rintro e w2 ⟨rfl, hb2⟩
  have hz2 := hb2.size
  have HB2 := hideQ ((unhideQ HB1).trans (hb2.mono (by omega)))
  have d0 := hideQ (fun j => (hb2.cell (p := ⟨w.heap.size, j, none⟩) (by show w.heap.size < _; omega)).trans (unhideQ HQ0 j))
  have d1 := hideQ (fun j => (hb2.cell (p := ⟨w.heap.size + 1, j, none⟩) (by show w.heap.size + 1 < _; omega)).trans (unhideQ HQ1 j))
  have c07 := unhideQ d0 7
  have c17 := unhideQ d1 7
  simp at c07 c17
  clear hb2 c06 c16 HQ0 HQ1
  go_wp2_with fail
  refine (ints_same l6 a6 b6 w2 ((unhideQ H6).below (unhideQ HB2)) ((unhideQ K6).below (unhideQ HB2)) m6).mono ?_
  rintro e w3 ⟨rfl, hb3⟩
  have HB3 := hideQ ((unhideQ HB2).trans (hb3.mono (by omega)))
  have f0 := fun j => (hb3.cell (p := ⟨w.heap.size, j, none⟩) (by show w.heap.size < _; omega)).trans (unhideQ d0 j)
  have f1 := fun j => (hb3.cell (p := ⟨w.heap.size + 1, j, none⟩) (by show w.heap.size + 1 < _; omega)).trans (unhideQ d1 j)
  have c08 := f0 8
  have c09 := f0 9
  have c10 := f0 10
  have c11 := f0 11
  have e08 := f1 8
  have e09 := f1 9
  have e10 := f1 10
  have e11 := f1 11
  simp at c08 c09 c10 c11 e08 e09 e10 e11
  clear hb3 f0 f1 c07 c17 d0 d1
  go_wp2
  go_ret
  exact ⟨rfl, unhideQ HB3⟩
end Go.Proofs.YtidhncoecfkbfaaDoor
