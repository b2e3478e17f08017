/-
  Decodes: the walk of prologuelaw.Decodes. Own work of the verifier.
-/
import Derived.Test.YthnmdbddfmgdlaaDoorDeP
import Derived.Test.YthnmdbddfmgdlaaDoorDeT
import Derived.Test.YthnmdbddfmgdlaaDoorDeK
namespace Go.Proofs.YthnmdbddfmgdlaaDoor
open Go.RowKit

set_option maxHeartbeats 1000000 in
theorem agrees_sameD (e f b a : Int) (w : World) : Calls Tryd.prog 7 #[flt e f b a, flt e f b a] w fun x w' => x = .returned (.bool true) ∧ Below w.heap.size w w' := by
  unfold flt
  go_enter Tryd.func7, Tryd.ntmps7
  go_wp2
  go_ret
  exact ⟨rfl, by go_grown⟩
set_option maxHeartbeats 4000000 in
set_option maxRecDepth 100000 in
theorem decodes_walk (s : ByteArray) (w : World) (hE : ErrTy w) (hg : NeedsAt w) (hb : 1 < w.heap.size) :
    Calls Tryd.prog 4 #[.string s] w fun e w' => e = .returned (.bool true) ∧ Below w.heap.size w w' := by
  have HG := hideE hg
  have HE := hideE hE
  clear hg hE
  go_enter Tryd.func4, Tryd.ntmps4
  go_wp2_with fail
  refine (pldecode_c s w (unhideE HE) (unhideE HG) hb).mono ?_
  rintro e w1 ⟨hb1, fv, ev, rfl, fv', ev', hvv, hf, he⟩
  injection hvv with hvv
  have hvv := congrArg (·.toList) hvv
  simp at hvv
  obtain ⟨rfl, rfl⟩ := hvv
  obtain ⟨q1, c1, z1⟩ := hf.shape
  obtain ⟨q2, c2, z2⟩ := he.shape
  generalize (dPrg s).funcs.length = n1 at z1
  generalize (dPrg s).externs.length = n2 at z2
  subst z1 z2
  have HRD := hideE (fun V => rdecode_c s V)
  have HPD := hideE (fun V h1 h2 h3 => pldecode_c s V h1 h2 h3)
  unfold DecV at HRD HPD
  have HLM := hideE (dPrg_lim s)
  generalize hPP : dPrg s = P at *
  clear hPP
  generalize dErr s = er at HRD HPD ⊢
  generalize dAt s = at_ at HRD HPD ⊢
  have HPF := hideE hf
  have HPE := hideE he
  have HB1 := hideE hb1
  clear hf he hb1
  go_wp2_with fail
  have hb2 : Below w1.heap.size w1 ((w1.alloc (.cells #[.slice q1 n1 c1, .slice q2 n2 c2] 25)).alloc (.cells #[.int .i64 er, .int .i64 (-1), .int .i64 (-1), .int .i64 at_] 27)) := by go_grown
  have hz2 : ((w1.alloc (.cells #[.slice q1 n1 c1, .slice q2 n2 c2] 25)).alloc (.cells #[.int .i64 er, .int .i64 (-1), .int .i64 (-1), .int .i64 at_] 27)).heap.size = w1.heap.size + 2 := by simp
  have hp2 : ((w1.alloc (.cells #[.slice q1 n1 c1, .slice q2 n2 c2] 25)).alloc (.cells #[.int .i64 er, .int .i64 (-1), .int .i64 (-1), .int .i64 at_] 27)).heap[w1.heap.size]? = some (.cells #[.slice q1 n1 c1, .slice q2 n2 c2] 25 (0, 0)) := heap_alloc2_old _ _ _
  have hf2 : ((w1.alloc (.cells #[.slice q1 n1 c1, .slice q2 n2 c2] 25)).alloc (.cells #[.int .i64 er, .int .i64 (-1), .int .i64 (-1), .int .i64 at_] 27)).heap[w1.heap.size + 1]? = some (.cells #[.int .i64 er, .int .i64 (-1), .int .i64 (-1), .int .i64 at_] 27 (0, 0)) := heap_alloc2_new _ _ _
  generalize (w1.alloc _).alloc _ = W1 at hb2 hz2 hp2 hf2 ⊢
  refine (unhideE HRD W1).mono ?_
  rintro e w2 ⟨hb3, gv, gw, rfl, gv', gw', hvv, hf3, he3⟩
  injection hvv with hvv
  have hvv := congrArg (·.toList) hvv
  simp at hvv
  obtain ⟨rfl, rfl⟩ := hvv
  obtain ⟨q3, c3, z3⟩ := hf3.shape
  obtain ⟨q4, c4, z4⟩ := he3.shape
  generalize P.funcs.length = n3 at z3
  generalize P.externs.length = n4 at z4
  subst z3 z4
  have hz3 := hb3.size
  have HQ := hideE (show RProg w2 W1.heap.size (.agg #[.slice q3 n3 c3, .slice q4 n4 c4]) P from ⟨_, _, rfl, hf3, he3⟩)
  have HB2 := hideE hb2
  have HB3 := hideE hb3
  have p2 := (hb3.block w1.heap.size (by omega)).trans hp2
  have f2 := (hb3.block (w1.heap.size + 1) (by omega)).trans hf2
  have HP2 := hideE p2
  have HF2 := hideE f2
  have hb4 : Below w2.heap.size w2 ((w2.alloc (.cells #[.slice q3 n3 c3, .slice q4 n4 c4] 25)).alloc (.cells #[.int .i64 er, .int .i64 (-1), .int .i64 (-1), .int .i64 at_] 30)) := by go_grown
  have p3 := (hb4.block w1.heap.size (by omega)).trans p2
  have c0 := (cells_of_row p3 0).trans rfl
  have c1' := (cells_of_row p3 1).trans rfl
  have HB4 := hideE hb4
  clear hb2 hb3 hb4 hf3 he3 p2 p3 f2 hp2 hf2 HRD
  go_wp2_with fail
  clear c0 c1'
  have hz4 : ((w2.alloc (.cells #[.slice q3 n3 c3, .slice q4 n4 c4] 25)).alloc (.cells #[.int .i64 er, .int .i64 (-1), .int .i64 (-1), .int .i64 at_] 30)).heap.size = w2.heap.size + 2 := by simp
  have hq4 : ((w2.alloc (.cells #[.slice q3 n3 c3, .slice q4 n4 c4] 25)).alloc (.cells #[.int .i64 er, .int .i64 (-1), .int .i64 (-1), .int .i64 at_] 30)).heap[w2.heap.size]? = some (.cells #[.slice q3 n3 c3, .slice q4 n4 c4] 25 (0, 0)) := heap_alloc2_old _ _ _
  have hg4 : ((w2.alloc (.cells #[.slice q3 n3 c3, .slice q4 n4 c4] 25)).alloc (.cells #[.int .i64 er, .int .i64 (-1), .int .i64 (-1), .int .i64 at_] 30)).heap[w2.heap.size + 1]? = some (.cells #[.int .i64 er, .int .i64 (-1), .int .i64 (-1), .int .i64 at_] 30 (0, 0)) := heap_alloc2_new _ _ _
  generalize (w2.alloc _).alloc _ = W2 at HB4 hz4 hq4 hg4 ⊢
  have hb4 := unhideE HB4
  have hb14 : Below w1.heap.size w1 W2 := (unhideE HB2).trans (((unhideE HB3).mono (by omega)).trans (hb4.mono (by omega)))
  have hPW : RProg W2 w.heap.size (.agg #[.slice q1 n1 c1, .slice q2 n2 c2]) P := RProg.keep ⟨_, _, rfl, unhideE HPF, unhideE HPE⟩ (Nat.le_refl _) (fun k _ h => hb14.block k h)
  have hQW : RProg W2 W1.heap.size (.agg #[.slice q3 n3 c3, .slice q4 n4 c4]) P := (unhideE HQ).keep (Nat.le_refl _) (fun k _ h => hb4.block k h)
  obtain ⟨pf1, pe1, v1⟩ := hPW.progV
  obtain ⟨pf2, pe2, v2⟩ := hQW.progV
  have p4 := (hb4.block w1.heap.size (by omega)).trans (unhideE HP2)
  have f4 := (hb4.block (w1.heap.size + 1) (by omega)).trans (unhideE HF2)
  refine (programs_c P _ _ _ _ pf1 pf2 pe1 pe2 W2.heap.size W2 v1 v2 (Nat.le_refl _)).mono ?_
  rintro e w3 ⟨rfl, hb5⟩
  have hz5 := hb5.size
  have p5 := (hb5.block w1.heap.size (by omega)).trans p4
  have f5 := (hb5.block (w1.heap.size + 1) (by omega)).trans f4
  have q5 := (hb5.block w2.heap.size (by omega)).trans hq4
  have g5 := (hb5.block (w2.heap.size + 1) (by omega)).trans hg4
  have a0 := (cells_of_row f5 0).trans rfl
  have a1 := (cells_of_row f5 1).trans rfl
  have a2 := (cells_of_row f5 2).trans rfl
  have a3 := (cells_of_row f5 3).trans rfl
  have b0 := (cells_of_row g5 0).trans rfl
  have b1 := (cells_of_row g5 1).trans rfl
  have b2 := (cells_of_row g5 2).trans rfl
  have b3 := (cells_of_row g5 3).trans rfl
  have HP5 := hideE p5
  have HQ5 := hideE q5
  have HB15 := hideE (hb14.trans (hb5.mono (by omega)))
  have HQR := hideE (hQW.keep (Nat.le_refl _) (fun k _ h => hb5.block k h))
  clear hb4 hb14 hPW hQW v1 v2 p4 f4 hb5 p5 f5 q5 g5 hq4 hg4 HP2 HF2 HQ HB2 HB3 HB4
  go_wp2_with fail
  clear a0 a1 a2 a3 b0 b1 b2 b3
  refine (agrees_sameD er (-1) (-1) at_ w3).mono ?_
  rintro e w4 ⟨rfl, hb6⟩
  have hz6 := hb6.size
  have p6 := (hb6.block w1.heap.size (by omega)).trans (unhideE HP5)
  have q6 := (hb6.block w2.heap.size (by omega)).trans (unhideE HQ5)
  have c0 := (cells_of_row p6 0).trans rfl
  have c1' := (cells_of_row p6 1).trans rfl
  have HQ6 := hideE q6
  have HB16 := hideE ((unhideE HB15).trans (hb6.mono (by omega)))
  have HQR6 := hideE ((unhideE HQR).keep (Nat.le_refl _) (fun k _ h => hb6.block k h))
  clear hb6 p6 q6 HP5 HQ5 HB15 HQR
  go_wp2_with fail
  clear c0 c1'
  refine (spoilProgram_c P _ _ w.heap.size w1 w4 (unhideE HPF) (unhideE HPE) (unhideE HLM) (unhideE HB16)).mono ?_
  rintro e w5 ⟨⟨x5, rfl⟩, hs5⟩
  have hz7 := hs5.size
  have hz1 := (unhideE HB1).size
  have q7 := (hs5.out w2.heap.size (by omega) (Or.inr (by omega))).trans (unhideE HQ6)
  have hb7 : Below w.heap.size w w5 := ((unhideE HB1).trans ((unhideE HB16).mono hz1)).trans ⟨hs5.os, hs5.tape, hs5.output, hs5.size, fun k hk => hs5.out k (by omega) (Or.inl hk)⟩
  have hqr7 := (unhideE HQR6).keep (w' := w5) (Nat.le_refl _) (fun k h1 h => hs5.out k h (Or.inr (by omega)))
  have HQ7 := hideE q7
  have HB7 := hideE hb7
  have HQR7 := hideE hqr7
  clear hs5 q7 hb7 hqr7 HQR6 HQ6 HB16
  go_wp2_with fail
  have hz8 := (unhideE HB7).size
  refine (unhideE HPD w5 ((unhideE HE).below (unhideE HB7) (by omega)) ((unhideE HG).below hb (unhideE HB7)) (by omega)).mono ?_
  rintro e w6 ⟨hb8, gv, gw, rfl, gv', gw', hvv, hf6, he6⟩
  injection hvv with hvv
  have hvv := congrArg (·.toList) hvv
  simp at hvv
  obtain ⟨rfl, rfl⟩ := hvv
  obtain ⟨q5, c5, z5⟩ := hf6.shape
  obtain ⟨q6, c6, z6⟩ := he6.shape
  generalize P.funcs.length = n5 at z5
  generalize P.externs.length = n6 at z6
  subst z5 z6
  have hz9 := hb8.size
  have hb9 : Below w6.heap.size w6 ((w6.alloc (.cells #[.slice q5 n5 c5, .slice q6 n6 c6] 25)).alloc (.cells #[.int .i64 er, .int .i64 (-1), .int .i64 (-1), .int .i64 at_] 27)) := by go_grown
  have q8 := (hb9.block w2.heap.size (by omega)).trans ((hb8.block w2.heap.size (by omega)).trans (unhideE HQ7))
  have c0 := (cells_of_row q8 0).trans rfl
  have c1' := (cells_of_row q8 1).trans rfl
  have HA := hideE (show RProg w6 w5.heap.size (.agg #[.slice q5 n5 c5, .slice q6 n6 c6]) P from ⟨_, _, rfl, hf6, he6⟩)
  have HQR8 := hideE ((unhideE HQR7).keep (w' := w6) (Nat.le_refl _) (fun k _ h => hb8.block k h))
  have HB8 := hideE ((unhideE HB7).trans (hb8.mono hz8))
  have HB9 := hideE hb9
  clear hb8 hb9 hf6 he6 q8 HQR7 HQ7 HPD HPF HPE
  go_wp2_with fail
  clear c0 c1'
  generalize (w6.alloc _).alloc _ = W6 at HB9 ⊢
  have hb9 := unhideE HB9
  obtain ⟨pf1, pe1, v1⟩ := ((unhideE HA).keep (w' := W6) (Nat.le_refl _) (fun k _ h => hb9.block k h)).progV
  obtain ⟨pf2, pe2, v2⟩ := ((unhideE HQR8).keep (w' := W6) (Nat.le_refl _) (fun k _ h => hb9.block k h)).progV
  have hz10 := hb9.size
  refine (programs_c P _ _ _ _ pf1 pf2 pe1 pe2 W6.heap.size W6 v1 v2 (Nat.le_refl _)).mono ?_
  rintro e w7 ⟨rfl, hb10⟩
  have HBZ := hideE ((unhideE HB8).trans ((hb9.mono (by omega)).trans (hb10.mono (by omega))))
  clear hb9 hb10 v1 v2
  go_wp2
  go_ret
  exact ⟨rfl, unhideE HBZ⟩
end Go.Proofs.YthnmdbddfmgdlaaDoor
