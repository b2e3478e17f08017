/-
  Written: prologuekeep.knows(1) by its contract. Own work of the verifier.
-/
import Derived.Test.YtgfliildindkgaaGreatDoorWrtKnow
namespace Go.Proofs.YtgfliildindkgaaGreatDoor
open Go.RowKit

theorem fld0 (n f b a : Int) (W : World) : (Instr.field 28 (.agg #[.int .i64 n, .int .i64 f, .int .i64 b, .int .i64 a]) 0).run Tryz.prog W = .ok (.int .i64 n) W := by kernel_rfl
set_option maxHeartbeats 8000000 in
set_option maxRecDepth 100000 in
theorem knows_c (w : World) (hE : Env w) : Calls Tryz.prog 4 #[.int .i64 1] w fun e w' => e = .returned (.bool true) ∧ Below w.heap.size w w' := by
  have HE := hideQ hE
  have hf0 := fld0
  clear hE
  go_enter Tryz.func4, Tryz.ntmps4
  go_wp2_with fail
  refine (sample0_c w (unhideQ HE)).mono ?_
  rintro e w1 ⟨hb1, xa4, xn4, xp4, xa5, xn5, xp5, xa6, xn6, xp6, rfl, hL1⟩
  have hz1 := hb1.size
  have HB1 := hideQ hb1
  have HL1 := hideQ hL1
  clear hb1 hL1
  unfold boxOf
  have hx1 := al_two w1 (.cells #[.int .i64 12, .int .i64 11, .int .i64 (-1), .int .i64 9, .int .i64 10, .slice xa4 xn4 xp4, .slice xa5 xn5 xp5, .slice xa6 xn6 xp6, .int .i64 16, .int .i64 0, .int .i64 2, .bool false] 25) (.cells #[.int .i64 0, .int .i64 (-1), .int .i64 (-1), .int .i64 (-1)] 28)
  have HX1 := hideQ hx1
  clear hx1
  go_wp2_with fail
  have hx1 := unhideQ HX1
  clear HX1
  generalize World.alloc (World.alloc w1 _) _ = V1 at hx1 ⊢
  obtain ⟨pA1, pF1, hbV1, hzV1⟩ := hx1
  have HBV1 := hideQ ((unhideQ HB1).trans (hbV1.mono (by omega)))
  have HPR := hideQ (pr17 (w := V1) false (tb_of ((unhideQ HE).below (unhideQ HBV1)) tab0_ok ((unhideQ HL1).below hbV1)))
  unfold boxOf at HPR
  have HPA1 := hideQ pA1
  have HPF1 := hideQ pF1
  clear pA1 pF1 hbV1
  refine (unhideQ HPR).mono ?_
  rintro e w2 ⟨rfl, hb2⟩
  have hz2 := hb2.size
  have HB2 := hideQ hb2
  have HBW2 := hideQ ((unhideQ HBV1).trans (hb2.mono (by omega)))
  clear hb2 HPR
  go_wp2_with fail
  refine (reparse_c false tab0_ok w2 ((unhideQ HE).below (unhideQ HBW2))).mono ?_
  rintro e w3 ⟨hb3, ya4, yn4, yp4, ya5, yn5, yp5, ya6, yn6, yp6, rfl, -⟩
  have hz3 := hb3.size
  have HB3 := hideQ hb3
  have HBW3 := hideQ ((unhideQ HBW2).trans (hb3.mono (by omega)))
  clear hb3
  unfold boxOf
  have hx3 := al_two w3 (.cells #[.int .i64 12, .int .i64 11, .int .i64 (-1), .int .i64 9, .int .i64 10, .slice ya4 yn4 yp4, .slice ya5 yn5 yp5, .slice ya6 yn6 yp6, .int .i64 16, .int .i64 0, .int .i64 2, .bool false] 25) (.cells #[.int .i64 0, .int .i64 (-1), .int .i64 (-1), .int .i64 (-1)] 28)
  have HX3 := hideQ hx3
  clear hx3
  go_wp2_with fail
  have hx3 := unhideQ HX3
  clear HX3
  generalize World.alloc (World.alloc w3 _) _ = V3 at hx3 ⊢
  obtain ⟨pA3, pF3, hbV3, hzV3⟩ := hx3
  have HBV3 := hideQ ((unhideQ HBW3).trans (hbV3.mono (by omega)))
  have HPA3 := hideQ pA3
  have HPF3 := hideQ pF3
  have HB3V := hideQ hbV3
  clear pA3 pF3 hbV3
  refine (parse_none_c V3 ((unhideQ HE).below (unhideQ HBV3))).mono ?_
  rintro e w4 ⟨rfl, hb4⟩
  have hz4 := hb4.size
  have HB4 := hideQ hb4
  have HBW4 := hideQ ((unhideQ HBV3).trans (hb4.mono (by omega)))
  clear hb4
  unfold zeroT boxOf
  have hx4 := al_two w4 (.cells #[.int .i64 0, .int .i64 0, .int .i64 0, .int .i64 0, .int .i64 0, .slice none 0 0, .slice none 0 0, .slice none 0 0, .int .i64 0, .int .i64 0, .int .i64 0, .bool false] 25) (.cells #[.int .i64 1, .int .i64 (-1), .int .i64 (-1), .int .i64 0] 28)
  have HX4 := hideQ hx4
  clear hx4
  have hbq := (unhideQ HX4).2.2.1
  have q1 := fun q (h : q < V1.heap.size) => (hbq.block q (by omega)).trans (((unhideQ HB4).block q (by omega)).trans (((unhideQ HB3V).block q (by omega)).trans (((unhideQ HB3).block q (by omega)).trans ((unhideQ HB2).block q h))))
  have q3 := fun q (h : q < V3.heap.size) => (hbq.block q (by omega)).trans ((unhideQ HB4).block q h)
  have d0 := (cells_of ((q1 (w1.heap.size + 1) (by omega)).trans (unhideQ HPF1))).1 0
  have d1 := (cells_of ((q3 (w3.heap.size + 1) (by omega)).trans (unhideQ HPF3))).1 0
  have d2 := (cells_of ((q1 w1.heap.size (by omega)).trans (unhideQ HPA1))).1 0
  have d3 := (cells_of ((q3 w3.heap.size (by omega)).trans (unhideQ HPA3))).1 0
  simp at d0 d1 d2 d3
  clear q1 q3 hbq
  have HCK := hideQ (fun V h => plchk (r := 0) (sp := 0) (lk := 0) (t0 := 0) (t1 := 0) (al := 0) (sh := 0) (by_ := 0) false V h (nil3 V))
  rw [zero_no] at HCK
  unfold boxOf chkN at HCK
  simp only at HCK
  have HBV4 := hideQ (fun X Y => (unhideQ HBW4).trans ((((Below.refl w4.heap.size w4).alloc (Nat.le_refl _) X).alloc (by simp) Y).mono (by omega)))
  clear HX4
  go_wp2_with fail
  refine (unhideQ HCK _ ((unhideQ HE).below (unhideQ HBV4 _ _))).mono ?_
  rintro e w5 ⟨rfl, hb5⟩
  have HBW5 := hideQ ((unhideQ HBV4 _ _).trans (hb5.mono (by simp; omega)))
  have hz5 := (unhideQ HBW5).size
  clear hb5 d0 d1 d2 d3
  go_wp2_with fail
  refine (keepSmall_c w5).mono ?_
  rintro e w6 ⟨⟨bb, rfl⟩, hb6⟩
  have HBW6 := hideQ ((unhideQ HBW5).trans (hb6.mono (by omega)))
  have hz6 := hb6.size
  clear hb6
  have HBV6 := hideQ (fun X => (unhideQ HBW6).trans (((Below.refl w6.heap.size w6).alloc (Nat.le_refl _) X).mono (by omega)))
  go_wp2
  go_ret
  exact ⟨rfl, unhideQ HBV6 _⟩
end Go.Proofs.YtgfliildindkgaaGreatDoor
