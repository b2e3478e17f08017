/-
 Frames: whether a tail call is a jump, by the reference. Own work of the verifier.
-/
import Derived.Test.YtffemeicclhioaaGreatDoorPk
import Derived.Test.YtffemeicclhioaaGreatDoorFrB
import Derived.Test.YtffemeicclhioaaGreatDoorClFc
namespace Go.Proofs.YtffemeicclhioaaGreatDoor
open Go.RowKit

set_option maxHeartbeats 8000000 in
set_option maxRecDepth 100000 in
theorem jumps_c (T : TbE) (own s : List Int × Int) (oq pq : Option Addr) (oc cq : Nat) (w : World) (hT : TbO w T) (ho : Li w (.slice oq own.1.length oc) own.1) (hs : Li w (.slice pq s.1.length cq) s.1) (hto : TbOk T) (hoo : SgOk own) (hso : SgOk s) :
 Calls Tryz.prog 24 #[.agg T.box, .agg #[.slice oq own.1.length oc, .int .i64 own.2], .agg #[.slice pq s.1.length cq, .int .i64 s.2]] w fun e w' => e = .returned (.bool (jumpB T own s)) ∧ Below w.heap.size w w' := by
 obtain ⟨r0, r1, r2, hZ, hB⟩ := rows3f w (.cells T.box 25 (0, 0)) (.cells #[.slice oq own.1.length oc, .int .i64 own.2] 79 (0, 0)) (.cells #[.slice pq s.1.length cq, .int .i64 s.2] 79 (0, 0))
 have HC := Zac (fun (V : World) (hV : Below w.heap.size w V) => rlay_c T s.1 pq cq s.2 V (hT.below hV).low (hs.below hV) hso.n hso.l hso.r0 hso.r4 hto.a hto.r hto.s0 hto.s1)
 have HC2 := Zac (fun (V : World) (hV : Below w.heap.size w V) => rlay_c T own.1 oq oc own.2 V (hT.below hV).low (ho.below hV) hoo.n hoo.l hoo.r0 hoo.r4 hto.a hto.r hto.s0 hto.s1)
 have HJ := Zac (show jumpB T own s = (decide ((layT T s).copies = 0) && (decide ((layT T s).size ≤ (layT T own).size) && decide (s.2 ≤ T.rs.length))) from rfl)
 have hr0 := hso.r0
 have hr4 := hso.r4
 have hlr := hto.r
 have HR0 := Zac r0
 have HR1 := Zac r1
 have HR2 := Zac r2
 have HB := Zac hB
 clear r0 r1 r2 hB hT ho hs hto hoo hso
 change Hid (∀ (V : World), Below w.heap.size w V → Calls Tryz.prog 26 #[.agg #[.int .i64 T.r, .int .i64 T.sp, .int .i64 T.lk, .int .i64 T.t0, .int .i64 T.t1, .slice T.pa T.ag.length T.ca, .slice T.pr T.rs.length T.cr, .slice T.ps T.ss.length T.cs, .int .i64 T.al, .int .i64 T.sh, .int .i64 T.br, .bool T.pairs], .agg #[.slice pq s.1.length cq, .int .i64 s.2]] V (fun e w' => ∃ av rv pvs, e = .returned (.agg #[av, rv, .int .i64 (layT T s).size, .int .i64 (layT T s).copies]) ∧ LayO w' V.heap.size av rv (layT T s) pvs ∧ Below V.heap.size V w')) at HC
 change Hid (∀ (V : World), Below w.heap.size w V → Calls Tryz.prog 26 #[.agg #[.int .i64 T.r, .int .i64 T.sp, .int .i64 T.lk, .int .i64 T.t0, .int .i64 T.t1, .slice T.pa T.ag.length T.ca, .slice T.pr T.rs.length T.cr, .slice T.ps T.ss.length T.cs, .int .i64 T.al, .int .i64 T.sh, .int .i64 T.br, .bool T.pairs], .agg #[.slice oq own.1.length oc, .int .i64 own.2]] V (fun e w' => ∃ av rv pvs, e = .returned (.agg #[av, rv, .int .i64 (layT T own).size, .int .i64 (layT T own).copies]) ∧ LayO w' V.heap.size av rv (layT T own) pvs ∧ Below V.heap.size V w')) at HC2
 generalize layT T s = ls at HC HJ
 generalize layT T own = lo at HC2 HJ
 unfold TbE.box at HR0 HR1 HR2 HB hZ ⊢
 go_enter Tryz.func24, Tryz.ntmps24
 go_wp2_with fail
 generalize World.alloc (World.alloc (World.alloc w _) _) _ = W at HR0 HR1 HR2 HB hZ ⊢
 refine (Zaa HC W (Zaa HB)).mono ?_
 rintro e w2 ⟨av, rv, pvs, rfl, hlay, hb2⟩
 obtain ⟨ap, an, ac, rfl⟩ : ∃ p n c, av = .slice p n c := by
  rcases hlay.args.2 with ⟨e, -⟩ | ⟨g, cap, cur, e, -⟩
  ·
   exact ⟨_, _, _, e⟩
  ·
   exact ⟨_, _, _, e⟩
 obtain ⟨rp, rn, rc, rfl⟩ := plo_shape hlay.res
 have hz2 := hb2.size
 have HB2 := Zac (Zad (Zaa HB) hb2 (by omega))
 have q0 := Zac ((hb2.block w.heap.size (by omega)).trans (Zaa HR0))
 have q1 := Zac ((hb2.block (w.heap.size + 1) (by omega)).trans (Zaa HR1))
 have q2 := Zac ((hb2.block (w.heap.size + 1 + 1) (by omega)).trans (Zaa HR2))
 have hal := al0 w2 (.cells #[.slice none 0 0, .slice none 0 0, .int .i64 0, .int .i64 0] 85 (0, 0))
 have HAL := Zac hal
 clear hlay hb2 hal HC
 go_upto_region 2 with (refine wpList_store_row rfl 85 _ _ rfl w2.heap.size #[.slice ap an ac, .slice rp rn rc, .int .i64 ls.size, .int .i64 ls.copies] rfl rfl 85 _ (Zaa HAL).1 (Tryz.infLyK.trans rfl) rfl (by simp [Value.oneCell']) ?_)
 have hL := setRow_heap _ _ _ #[.slice ap an ac, .slice rp rn rc, .int .i64 ls.size, .int .i64 ls.copies] _ _ (Zaa HAL).1
 have hx : ∀ q, q < w2.heap.size → ((w2.alloc (.cells #[.slice none 0 0, .slice none 0 0, .int .i64 0, .int .i64 0] 85 (0, 0))).setRow w2.heap.size #[.slice ap an ac, .slice rp rn rc, .int .i64 ls.size, .int .i64 ls.copies]).heap[q]? = w2.heap[q]? := fun q hq => (setRow_other _ _ _ _ (by omega)).trans ((Zaa HAL).2.1.block q hq)
 have h0 := (hx w.heap.size (by omega)).trans (Zaa q0)
 have h1 := (hx (w.heap.size + 1) (by omega)).trans (Zaa q1)
 have h2 := (hx (w.heap.size + 1 + 1) (by omega)).trans (Zaa q2)
 have hB3 := Zag (T := w2.heap.size) (cs := #[.slice ap an ac, .slice rp rn rc, .int .i64 ls.size, .int .i64 ls.copies]) (Zad (Zaa HB2) (Zaa HAL).2.1 (by omega)) (by omega)
 have hZ3 : w2.heap.size < ((w2.alloc (.cells #[.slice none 0 0, .slice none 0 0, .int .i64 0, .int .i64 0] 85 (0, 0))).setRow w2.heap.size #[.slice ap an ac, .slice rp rn rc, .int .i64 ls.size, .int .i64 ls.copies]).heap.size := row_lt hL
 clear HAL q0 q1 q2 HR0 HR1 HR2 HB HB2 hx
 generalize World.setRow (World.alloc w2 _) _ _ = V3 at hL h0 h1 h2 hB3 hZ3 ⊢
 generalize w2.heap.size = bl at hL hZ3 ⊢
 have HS0 := Zac (show V3.drew.cell? ⟨bl, 2, none⟩ = some (.int .i64 ls.size) ∧ V3.drew.cell? ⟨bl, 3, none⟩ = some (.int .i64 ls.copies) ∧ V3.drew.cell? ⟨w.heap.size, 0, none⟩ = some (.int .i64 T.r) ∧ V3.drew.cell? ⟨w.heap.size, 1, none⟩ = some (.int .i64 T.sp) ∧ V3.drew.cell? ⟨w.heap.size, 2, none⟩ = some (.int .i64 T.lk) ∧ V3.drew.cell? ⟨w.heap.size, 3, none⟩ = some (.int .i64 T.t0) ∧ V3.drew.cell? ⟨w.heap.size, 4, none⟩ = some (.int .i64 T.t1) ∧ V3.drew.cell? ⟨w.heap.size, 5, none⟩ = some (.slice T.pa T.ag.length T.ca) ∧ V3.drew.cell? ⟨w.heap.size, 6, none⟩ = some (.slice T.pr T.rs.length T.cr) ∧ V3.drew.cell? ⟨w.heap.size, 7, none⟩ = some (.slice T.ps T.ss.length T.cs) ∧ V3.drew.cell? ⟨w.heap.size, 8, none⟩ = some (.int .i64 T.al) ∧ V3.drew.cell? ⟨w.heap.size, 9, none⟩ = some (.int .i64 T.sh) ∧ V3.drew.cell? ⟨w.heap.size, 10, none⟩ = some (.int .i64 T.br) ∧ V3.drew.cell? ⟨w.heap.size, 11, none⟩ = some (.bool T.pairs) ∧ V3.drew.cell? ⟨w.heap.size + 1, 0, none⟩ = some (.slice oq own.1.length oc) ∧ V3.drew.cell? ⟨w.heap.size + 1, 1, none⟩ = some (.int .i64 own.2) ∧ V3.drew.cell? ⟨w.heap.size + 1 + 1, 1, none⟩ = some (.int .i64 s.2) from ⟨(Zab hL 2).trans rfl, (Zab hL 3).trans rfl, (Zab h0 0).trans rfl, (Zab h0 1).trans rfl, (Zab h0 2).trans rfl, (Zab h0 3).trans rfl, (Zab h0 4).trans rfl, (Zab h0 5).trans rfl, (Zab h0 6).trans rfl, (Zab h0 7).trans rfl, (Zab h0 8).trans rfl, (Zab h0 9).trans rfl, (Zab h0 10).trans rfl, (Zab h0 11).trans rfl, (Zab h1 0).trans rfl, (Zab h1 1).trans rfl, (Zab h2 1).trans rfl⟩)
 have HKP := Zac (fun (w5 : World) (hb5 : Below V3.drew.heap.size V3.drew w5) => show (fun V : World => V.cell? ⟨bl, 2, none⟩ = some (.int .i64 ls.size) ∧ V.cell? ⟨bl, 3, none⟩ = some (.int .i64 ls.copies) ∧ V.cell? ⟨w.heap.size, 0, none⟩ = some (.int .i64 T.r) ∧ V.cell? ⟨w.heap.size, 1, none⟩ = some (.int .i64 T.sp) ∧ V.cell? ⟨w.heap.size, 2, none⟩ = some (.int .i64 T.lk) ∧ V.cell? ⟨w.heap.size, 3, none⟩ = some (.int .i64 T.t0) ∧ V.cell? ⟨w.heap.size, 4, none⟩ = some (.int .i64 T.t1) ∧ V.cell? ⟨w.heap.size, 5, none⟩ = some (.slice T.pa T.ag.length T.ca) ∧ V.cell? ⟨w.heap.size, 6, none⟩ = some (.slice T.pr T.rs.length T.cr) ∧ V.cell? ⟨w.heap.size, 7, none⟩ = some (.slice T.ps T.ss.length T.cs) ∧ V.cell? ⟨w.heap.size, 8, none⟩ = some (.int .i64 T.al) ∧ V.cell? ⟨w.heap.size, 9, none⟩ = some (.int .i64 T.sh) ∧ V.cell? ⟨w.heap.size, 10, none⟩ = some (.int .i64 T.br) ∧ V.cell? ⟨w.heap.size, 11, none⟩ = some (.bool T.pairs) ∧ V.cell? ⟨w.heap.size + 1, 0, none⟩ = some (.slice oq own.1.length oc) ∧ V.cell? ⟨w.heap.size + 1, 1, none⟩ = some (.int .i64 own.2) ∧ V.cell? ⟨w.heap.size + 1 + 1, 1, none⟩ = some (.int .i64 s.2)) w5 from by
  have h := Zaa HS0
  have g0 : ∀ {g j : Nat} {x : Value}, V3.drew.cell? ⟨g, j, none⟩ = some x → w5.cell? ⟨g, j, none⟩ = some x := fun {g j x} h => (hb5.cell (p := ⟨g, j, none⟩) (World.block_lt_of_cell? _ _ h)).trans h
  obtain ⟨y0, y1, y2, y3, y4, y5, y6, y7, y8, y9, y10, y11, y12, y13, y14, y15, y16⟩ := h
  exact ⟨g0 y0, g0 y1, g0 y2, g0 y3, g0 y4, g0 y5, g0 y6, g0 y7, g0 y8, g0 y9, g0 y10, g0 y11, g0 y12, g0 y13, g0 y14, g0 y15, g0 y16⟩)
 have HB3 := Zac hB3
 have HFC := Zac (Zaa HC2 V3.drew hB3.drew)
 have hzz := hB3.size
 clear hL h0 h1 h2 hB3 HC2
 by_cases hc : ls.copies = 0
 ·
  have zc : (ls.copies == 0) = true := by simp [hc]
  have HJ2 := Zac (show jumpB T own s = (decide (ls.size ≤ lo.size) && decide (s.2 ≤ T.rs.length)) by rw [Zaa HJ, decide_eq_true hc]; rfl)
  clear hc HJ
  have fld := Tryz.fldLy
  by_cases hle : ls.size ≤ lo.size
  ·
   have HJ3 := Zac (show jumpB T own s = decide (s.2 ≤ T.rs.length) by rw [Zaa HJ2, decide_eq_true hle]; rfl)
   clear HJ2
   refine wp_region_held_drew (S := fun V => V.cell? ⟨bl, 2, none⟩ = some (.int .i64 ls.size) ∧ V.cell? ⟨bl, 3, none⟩ = some (.int .i64 ls.copies) ∧ V.cell? ⟨w.heap.size, 0, none⟩ = some (.int .i64 T.r) ∧ V.cell? ⟨w.heap.size, 1, none⟩ = some (.int .i64 T.sp) ∧ V.cell? ⟨w.heap.size, 2, none⟩ = some (.int .i64 T.lk) ∧ V.cell? ⟨w.heap.size, 3, none⟩ = some (.int .i64 T.t0) ∧ V.cell? ⟨w.heap.size, 4, none⟩ = some (.int .i64 T.t1) ∧ V.cell? ⟨w.heap.size, 5, none⟩ = some (.slice T.pa T.ag.length T.ca) ∧ V.cell? ⟨w.heap.size, 6, none⟩ = some (.slice T.pr T.rs.length T.cr) ∧ V.cell? ⟨w.heap.size, 7, none⟩ = some (.slice T.ps T.ss.length T.cs) ∧ V.cell? ⟨w.heap.size, 8, none⟩ = some (.int .i64 T.al) ∧ V.cell? ⟨w.heap.size, 9, none⟩ = some (.int .i64 T.sh) ∧ V.cell? ⟨w.heap.size, 10, none⟩ = some (.int .i64 T.br) ∧ V.cell? ⟨w.heap.size, 11, none⟩ = some (.bool T.pairs) ∧ V.cell? ⟨w.heap.size + 1, 0, none⟩ = some (.slice oq own.1.length oc) ∧ V.cell? ⟨w.heap.size + 1, 1, none⟩ = some (.int .i64 own.2) ∧ V.cell? ⟨w.heap.size + 1 + 1, 1, none⟩ = some (.int .i64 s.2)) (by kernel_rfl) (Zaa HS0) (fun hHeld => ?_)
   refine tT 0 ?v0 rfl (by kernel_rfl) (fun _ _ _ h => h) (by rfl) ?hy0 (by assumption) ?_
   case hy0 =>
    intro V hV
    try dsimp only at hV
    go_simp
    all_goals (with_reducible rfl)
   simp only [Act.put, zA, zB, zC, zD, zE]
   refine tT 1 ?v1 rfl (by kernel_rfl) (fun _ _ _ h => h) (by rfl) ?hy1 (by assumption) ?_
   case hy1 =>
    intro V hV
    try dsimp only at hV
    go_simp
    all_goals (with_reducible rfl)
   simp only [Act.put, zA, zB, zC, zD, zE, zF]
   refine tT 2 ?v2 rfl (by kernel_rfl) (fun _ _ _ h => h) (by rfl) ?hy2 (by assumption) ?_
   case hy2 =>
    intro V hV
    try dsimp only at hV
    go_simp
    all_goals (with_reducible rfl)
   simp only [Act.put, zA, zB, zC, zD, zE, zF]
   refine tT 3 ?v3 rfl (by kernel_rfl) (fun _ _ _ h => h) (by rfl) ?hy3 (by assumption) ?_
   case hy3 =>
    intro V hV
    try dsimp only at hV
    go_simp
    all_goals (with_reducible rfl)
   simp only [Act.put, zA, zB, zC, zD, zE, zF]
   refine tT 4 ?v4 rfl (by kernel_rfl) (fun _ _ _ h => h) (by rfl) ?hy4 (by assumption) ?_
   case hy4 =>
    intro V hV
    try dsimp only at hV
    go_simp
    all_goals (with_reducible rfl)
   simp only [Act.put, zA, zB, zC, zD, zE, zF]
   refine tT 5 ?v5 rfl (by kernel_rfl) (fun _ _ _ h => h) (by rfl) ?hy5 (by assumption) ?_
   case hy5 =>
    intro V hV
    try dsimp only at hV
    go_simp
    all_goals (with_reducible rfl)
   simp only [Act.put, zA, zB, zC, zD, zE, zF]
   refine tT 6 ?v6 rfl (by kernel_rfl) (fun _ _ _ h => h) (by rfl) ?hy6 (by assumption) ?_
   case hy6 =>
    intro V hV
    try dsimp only at hV
    go_simp
    all_goals (with_reducible rfl)
   simp only [Act.put, zA, zB, zC, zD, zE, zF]
   refine tT 7 ?v7 rfl (by kernel_rfl) (fun _ _ _ h => h) (by rfl) ?hy7 (by assumption) ?_
   case hy7 =>
    intro V hV
    try dsimp only at hV
    go_simp
    all_goals (with_reducible rfl)
   simp only [Act.put, zA, zB, zC, zD, zE, zF]
   refine wpAnyH_ready (rs := [8]) (by kernel_rfl) (by simp) ?_
   refine AllReadyH.cons rfl (fun K hK => ?_) AllReadyH.nil
   go_simp
   refine (Zaa HFC).mono ?_
   rintro e w5 ⟨av5, rv5, pv5, rfl, hlay5, hb5⟩
   have HB5 := Zac hb5
   have HS5 := Zac (Zaa HKP w5 hb5)
   clear hb5 hlay5
   refine hK.out _ _ (Zaa HS5) (fun hHeld2 => ?_)
   clear hK K
   try simp only [Act.put, zA, zB, zC, zD, zE, zF]
   refine tT 9 ?v9 rfl (by kernel_rfl) (fun _ _ _ h => h) (by rfl) ?hy9 (by assumption) ?_
   case hy9 =>
    intro V hV
    try dsimp only at hV
    go_simp
    all_goals (with_reducible rfl)
   simp only [Act.put, zA, zB, zC, zD, zE, zF]
   refine tT 10 ?v10 rfl (by kernel_rfl) (fun _ _ _ h => h) (by rfl) ?hy10 (by assumption) ?_
   case hy10 =>
    intro V hV
    try dsimp only at hV
    go_simp
    all_goals (with_reducible rfl)
   simp only [Act.put, zA, zB, zC, zD, zE, zF]
   refine tT 11 ?v11 rfl (by kernel_rfl) (fun _ _ _ h => h) (by rfl) ?hy11 (by assumption) ?_
   case hy11 =>
    intro V hV
    try dsimp only at hV
    go_simp
    all_goals (with_reducible rfl)
   simp only [Act.put, zA, zB, zC, zD, zE, zF]
   refine tT 12 ?v12 rfl (by kernel_rfl) (fun _ _ _ h => h) (by rfl) ?hy12 (by assumption) ?_
   case hy12 =>
    intro V hV
    try dsimp only at hV
    go_simp
    all_goals (with_reducible rfl)
   simp only [Act.put, zA, zB, zC, zD, zE, zF]
   refine tT 13 ?v13 rfl (by kernel_rfl) (fun _ _ _ h => h) (by rfl) ?hy13 (by assumption) ?_
   case hy13 =>
    intro V hV
    try dsimp only at hV
    go_simp
    all_goals (with_reducible rfl)
   simp only [Act.put, zA, zB, zC, zD, zE, zF]
   refine tT 14 ?v14 rfl (by kernel_rfl) (fun _ _ _ h => h) (by rfl) ?hy14 (by assumption) ?_
   case hy14 =>
    intro V hV
    try dsimp only at hV
    go_simp
    all_goals (with_reducible rfl)
   simp only [Act.put, zA, zB, zC, zD, zE, zF]
   refine tT 15 ?v15 rfl (by kernel_rfl) (fun _ _ _ h => h) (by rfl) ?hy15 (by assumption) ?_
   case hy15 =>
    intro V hV
    try dsimp only at hV
    go_simp
    all_goals (with_reducible rfl)
   simp only [Act.put, zA, zB, zC, zD, zE, zF]
   refine tT 16 ?v16 rfl (by kernel_rfl) (fun _ _ _ h => h) (by rfl) ?hy16 (by assumption) ?_
   case hy16 =>
    intro V hV
    try dsimp only at hV
    go_simp
    all_goals (with_reducible rfl)
   simp only [Act.put, zA, zB, zC, zD, zE, zF]
   refine tT 17 ?v17 rfl (by kernel_rfl) (fun _ _ _ h => h) (by rfl) ?hy17 (by assumption) ?_
   case hy17 =>
    intro V hV
    try dsimp only at hV
    go_simp
    all_goals (with_reducible rfl)
   simp only [Act.put, zA, zB, zC, zD, zE, zF]
   refine tT 18 ?v18 rfl (by kernel_rfl) (fun _ _ _ h => h) (by rfl) ?hy18 (by assumption) ?_
   case hy18 =>
    intro V hV
    try dsimp only at hV
    go_simp
    all_goals (with_reducible rfl)
   simp only [Act.put, zA, zB, zC, zD, zE, zF]
   refine tT 19 ?v19 rfl (by kernel_rfl) (fun _ _ _ h => h) (by rfl) ?hy19 (by assumption) ?_
   case hy19 =>
    intro V hV
    try dsimp only at hV
    go_simp
    all_goals (with_reducible rfl)
   simp only [Act.put, zA, zB, zC, zD, zE, zF]
   refine tT 20 ?v20 rfl (by kernel_rfl) (fun _ _ _ h => h) (by rfl) ?hy20 (by assumption) ?_
   case hy20 =>
    intro V hV
    try dsimp only at hV
    go_simp
    all_goals (with_reducible rfl)
   simp only [Act.put, zA, zB, zC, zD, zE, zF]
   refine wpAnyH_done (by kernel_rfl) ?_ _
   go_wp2
   go_ret
   exact ⟨by rw [Zaa HJ3]; rfl, Zad (Zaa HB3).drew (Zaa HB5) hzz⟩
  ·
   have HJ3 := Zac (show jumpB T own s = false by rw [Zaa HJ2, decide_eq_false hle]; rfl)
   clear HJ2
   refine wp_region_held_drew (S := fun V => V.cell? ⟨bl, 2, none⟩ = some (.int .i64 ls.size) ∧ V.cell? ⟨bl, 3, none⟩ = some (.int .i64 ls.copies) ∧ V.cell? ⟨w.heap.size, 0, none⟩ = some (.int .i64 T.r) ∧ V.cell? ⟨w.heap.size, 1, none⟩ = some (.int .i64 T.sp) ∧ V.cell? ⟨w.heap.size, 2, none⟩ = some (.int .i64 T.lk) ∧ V.cell? ⟨w.heap.size, 3, none⟩ = some (.int .i64 T.t0) ∧ V.cell? ⟨w.heap.size, 4, none⟩ = some (.int .i64 T.t1) ∧ V.cell? ⟨w.heap.size, 5, none⟩ = some (.slice T.pa T.ag.length T.ca) ∧ V.cell? ⟨w.heap.size, 6, none⟩ = some (.slice T.pr T.rs.length T.cr) ∧ V.cell? ⟨w.heap.size, 7, none⟩ = some (.slice T.ps T.ss.length T.cs) ∧ V.cell? ⟨w.heap.size, 8, none⟩ = some (.int .i64 T.al) ∧ V.cell? ⟨w.heap.size, 9, none⟩ = some (.int .i64 T.sh) ∧ V.cell? ⟨w.heap.size, 10, none⟩ = some (.int .i64 T.br) ∧ V.cell? ⟨w.heap.size, 11, none⟩ = some (.bool T.pairs) ∧ V.cell? ⟨w.heap.size + 1, 0, none⟩ = some (.slice oq own.1.length oc) ∧ V.cell? ⟨w.heap.size + 1, 1, none⟩ = some (.int .i64 own.2) ∧ V.cell? ⟨w.heap.size + 1 + 1, 1, none⟩ = some (.int .i64 s.2)) (by kernel_rfl) (Zaa HS0) (fun hHeld => ?_)
   refine tT 0 ?vb0 rfl (by kernel_rfl) (fun _ _ _ h => h) (by rfl) ?hyb0 (by assumption) ?_
   case hyb0 =>
    intro V hV
    try dsimp only at hV
    go_simp
    all_goals (with_reducible rfl)
   simp only [Act.put, zA, zB, zC, zD, zE]
   refine tT 1 ?vb1 rfl (by kernel_rfl) (fun _ _ _ h => h) (by rfl) ?hyb1 (by assumption) ?_
   case hyb1 =>
    intro V hV
    try dsimp only at hV
    go_simp
    all_goals (with_reducible rfl)
   simp only [Act.put, zA, zB, zC, zD, zE, zF]
   refine tT 2 ?vb2 rfl (by kernel_rfl) (fun _ _ _ h => h) (by rfl) ?hyb2 (by assumption) ?_
   case hyb2 =>
    intro V hV
    try dsimp only at hV
    go_simp
    all_goals (with_reducible rfl)
   simp only [Act.put, zA, zB, zC, zD, zE, zF]
   refine tT 3 ?vb3 rfl (by kernel_rfl) (fun _ _ _ h => h) (by rfl) ?hyb3 (by assumption) ?_
   case hyb3 =>
    intro V hV
    try dsimp only at hV
    go_simp
    all_goals (with_reducible rfl)
   simp only [Act.put, zA, zB, zC, zD, zE, zF]
   refine tT 4 ?vb4 rfl (by kernel_rfl) (fun _ _ _ h => h) (by rfl) ?hyb4 (by assumption) ?_
   case hyb4 =>
    intro V hV
    try dsimp only at hV
    go_simp
    all_goals (with_reducible rfl)
   simp only [Act.put, zA, zB, zC, zD, zE, zF]
   refine tT 5 ?vb5 rfl (by kernel_rfl) (fun _ _ _ h => h) (by rfl) ?hyb5 (by assumption) ?_
   case hyb5 =>
    intro V hV
    try dsimp only at hV
    go_simp
    all_goals (with_reducible rfl)
   simp only [Act.put, zA, zB, zC, zD, zE, zF]
   refine tT 6 ?vb6 rfl (by kernel_rfl) (fun _ _ _ h => h) (by rfl) ?hyb6 (by assumption) ?_
   case hyb6 =>
    intro V hV
    try dsimp only at hV
    go_simp
    all_goals (with_reducible rfl)
   simp only [Act.put, zA, zB, zC, zD, zE, zF]
   refine tT 7 ?vb7 rfl (by kernel_rfl) (fun _ _ _ h => h) (by rfl) ?hyb7 (by assumption) ?_
   case hyb7 =>
    intro V hV
    try dsimp only at hV
    go_simp
    all_goals (with_reducible rfl)
   simp only [Act.put, zA, zB, zC, zD, zE, zF]
   refine wpAnyH_ready (rs := [8]) (by kernel_rfl) (by simp) ?_
   refine AllReadyH.cons rfl (fun K hK => ?_) AllReadyH.nil
   go_simp
   refine (Zaa HFC).mono ?_
   rintro e w5 ⟨av5, rv5, pv5, rfl, hlay5, hb5⟩
   have HB5 := Zac hb5
   have HS5 := Zac (Zaa HKP w5 hb5)
   clear hb5 hlay5
   refine hK.out _ _ (Zaa HS5) (fun hHeld2 => ?_)
   clear hK K
   try simp only [Act.put, zA, zB, zC, zD, zE, zF]
   refine tT 9 ?vb9 rfl (by kernel_rfl) (fun _ _ _ h => h) (by rfl) ?hyb9 (by assumption) ?_
   case hyb9 =>
    intro V hV
    try dsimp only at hV
    go_simp
    all_goals (with_reducible rfl)
   simp only [Act.put, zA, zB, zC, zD, zE, zF]
   refine tT 10 ?vb10 rfl (by kernel_rfl) (fun _ _ _ h => h) (by rfl) ?hyb10 (by assumption) ?_
   case hyb10 =>
    intro V hV
    try dsimp only at hV
    go_simp
    all_goals (with_reducible rfl)
   simp only [Act.put, zA, zB, zC, zD, zE, zF]
   refine tT 11 ?vb11 rfl (by kernel_rfl) (fun _ _ _ h => h) (by rfl) ?hyb11 (by assumption) ?_
   case hyb11 =>
    intro V hV
    try dsimp only at hV
    go_simp
    all_goals (with_reducible rfl)
   simp only [Act.put, zA, zB, zC, zD, zE, zF]
   refine tT 12 ?vb12 rfl (by kernel_rfl) (fun _ _ _ h => h) (by rfl) ?hyb12 (by assumption) ?_
   case hyb12 =>
    intro V hV
    try dsimp only at hV
    go_simp
    all_goals (with_reducible rfl)
   simp only [Act.put, zA, zB, zC, zD, zE, zF]
   refine tS 13 rfl (by kernel_rfl) (fun _ _ _ h => h) (by rfl) (by assumption) ?_
   simp only [Act.put, zA, zB, zC, zD, zE, zF]
   refine tS 14 rfl (by kernel_rfl) (fun _ _ _ h => h) (by rfl) (by assumption) ?_
   simp only [Act.put, zA, zB, zC, zD, zE, zF]
   refine tS 15 rfl (by kernel_rfl) (fun _ _ _ h => h) (by rfl) (by assumption) ?_
   simp only [Act.put, zA, zB, zC, zD, zE, zF]
   refine tS 16 rfl (by kernel_rfl) (fun _ _ _ h => h) (by rfl) (by assumption) ?_
   simp only [Act.put, zA, zB, zC, zD, zE, zF]
   refine tS 17 rfl (by kernel_rfl) (fun _ _ _ h => h) (by rfl) (by assumption) ?_
   simp only [Act.put, zA, zB, zC, zD, zE, zF]
   refine tS 18 rfl (by kernel_rfl) (fun _ _ _ h => h) (by rfl) (by assumption) ?_
   simp only [Act.put, zA, zB, zC, zD, zE, zF]
   refine tT 19 ?vb19 rfl (by kernel_rfl) (fun _ _ _ h => h) (by rfl) ?hyb19 (by assumption) ?_
   case hyb19 =>
    intro V hV
    try dsimp only at hV
    go_simp
    all_goals (with_reducible rfl)
   simp only [Act.put, zA, zB, zC, zD, zE, zF]
   refine tT 20 ?vb20 rfl (by kernel_rfl) (fun _ _ _ h => h) (by rfl) ?hyb20 (by assumption) ?_
   case hyb20 =>
    intro V hV
    try dsimp only at hV
    go_simp
    all_goals (with_reducible rfl)
   simp only [Act.put, zA, zB, zC, zD, zE, zF]
   refine wpAnyH_done (by kernel_rfl) ?_ _
   go_wp2
   go_ret
   exact ⟨by rw [Zaa HJ3]; rfl, Zad (Zaa HB3).drew (Zaa HB5) hzz⟩
 ·
  have zc : (ls.copies == 0) = false := by simp [hc]
  have HJ3 := Zac (show jumpB T own s = false by rw [Zaa HJ, decide_eq_false hc]; rfl)
  clear hc HJ
  refine wp_region_held_drew (S := fun V => V.cell? ⟨bl, 2, none⟩ = some (.int .i64 ls.size) ∧ V.cell? ⟨bl, 3, none⟩ = some (.int .i64 ls.copies) ∧ V.cell? ⟨w.heap.size, 0, none⟩ = some (.int .i64 T.r) ∧ V.cell? ⟨w.heap.size, 1, none⟩ = some (.int .i64 T.sp) ∧ V.cell? ⟨w.heap.size, 2, none⟩ = some (.int .i64 T.lk) ∧ V.cell? ⟨w.heap.size, 3, none⟩ = some (.int .i64 T.t0) ∧ V.cell? ⟨w.heap.size, 4, none⟩ = some (.int .i64 T.t1) ∧ V.cell? ⟨w.heap.size, 5, none⟩ = some (.slice T.pa T.ag.length T.ca) ∧ V.cell? ⟨w.heap.size, 6, none⟩ = some (.slice T.pr T.rs.length T.cr) ∧ V.cell? ⟨w.heap.size, 7, none⟩ = some (.slice T.ps T.ss.length T.cs) ∧ V.cell? ⟨w.heap.size, 8, none⟩ = some (.int .i64 T.al) ∧ V.cell? ⟨w.heap.size, 9, none⟩ = some (.int .i64 T.sh) ∧ V.cell? ⟨w.heap.size, 10, none⟩ = some (.int .i64 T.br) ∧ V.cell? ⟨w.heap.size, 11, none⟩ = some (.bool T.pairs) ∧ V.cell? ⟨w.heap.size + 1, 0, none⟩ = some (.slice oq own.1.length oc) ∧ V.cell? ⟨w.heap.size + 1, 1, none⟩ = some (.int .i64 own.2) ∧ V.cell? ⟨w.heap.size + 1 + 1, 1, none⟩ = some (.int .i64 s.2)) (by kernel_rfl) (Zaa HS0) (fun hHeld => ?_)
  refine tT 0 ?vc0 rfl (by kernel_rfl) (fun _ _ _ h => h) (by rfl) ?hyc0 (by assumption) ?_
  case hyc0 =>
   intro V hV
   try dsimp only at hV
   go_simp
   all_goals (with_reducible rfl)
  simp only [Act.put, zA, zB, zC, zD, zE]
  refine tT 1 ?vc1 rfl (by kernel_rfl) (fun _ _ _ h => h) (by rfl) ?hyc1 (by assumption) ?_
  case hyc1 =>
   intro V hV
   try dsimp only at hV
   go_simp
   all_goals (with_reducible rfl)
  simp only [Act.put, zA, zB, zC, zD, zE, zF]
  refine tT 2 ?vc2 rfl (by kernel_rfl) (fun _ _ _ h => h) (by rfl) ?hyc2 (by assumption) ?_
  case hyc2 =>
   intro V hV
   try dsimp only at hV
   go_simp
   all_goals (with_reducible rfl)
  simp only [Act.put, zA, zB, zC, zD, zE, zF]
  refine tT 3 ?vc3 rfl (by kernel_rfl) (fun _ _ _ h => h) (by rfl) ?hyc3 (by assumption) ?_
  case hyc3 =>
   intro V hV
   try dsimp only at hV
   go_simp
   all_goals (with_reducible rfl)
  simp only [Act.put, zA, zB, zC, zD, zE, zF]
  refine tS 4 rfl (by kernel_rfl) (fun _ _ _ h => h) (by rfl) (by assumption) ?_
  simp only [Act.put, zA, zB, zC, zD, zE, zF]
  refine tS 5 rfl (by kernel_rfl) (fun _ _ _ h => h) (by rfl) (by assumption) ?_
  simp only [Act.put, zA, zB, zC, zD, zE, zF]
  refine tS 6 rfl (by kernel_rfl) (fun _ _ _ h => h) (by rfl) (by assumption) ?_
  simp only [Act.put, zA, zB, zC, zD, zE, zF]
  refine tS 7 rfl (by kernel_rfl) (fun _ _ _ h => h) (by rfl) (by assumption) ?_
  simp only [Act.put, zA, zB, zC, zD, zE, zF]
  refine tS 8 rfl (by kernel_rfl) (fun _ _ _ h => h) (by rfl) (by assumption) ?_
  simp only [Act.put, zA, zB, zC, zD, zE, zF]
  refine tS 9 rfl (by kernel_rfl) (fun _ _ _ h => h) (by rfl) (by assumption) ?_
  simp only [Act.put, zA, zB, zC, zD, zE, zF]
  refine tS 10 rfl (by kernel_rfl) (fun _ _ _ h => h) (by rfl) (by assumption) ?_
  simp only [Act.put, zA, zB, zC, zD, zE, zF]
  refine tT 11 ?vc11 rfl (by kernel_rfl) (fun _ _ _ h => h) (by rfl) ?hyc11 (by assumption) ?_
  case hyc11 =>
   intro V hV
   try dsimp only at hV
   go_simp
   all_goals (with_reducible rfl)
  simp only [Act.put, zA, zB, zC, zD, zE, zF]
  refine tT 12 ?vc12 rfl (by kernel_rfl) (fun _ _ _ h => h) (by rfl) ?hyc12 (by assumption) ?_
  case hyc12 =>
   intro V hV
   try dsimp only at hV
   go_simp
   all_goals (with_reducible rfl)
  simp only [Act.put, zA, zB, zC, zD, zE, zF]
  refine tS 13 rfl (by kernel_rfl) (fun _ _ _ h => h) (by rfl) (by assumption) ?_
  simp only [Act.put, zA, zB, zC, zD, zE, zF]
  refine tS 14 rfl (by kernel_rfl) (fun _ _ _ h => h) (by rfl) (by assumption) ?_
  simp only [Act.put, zA, zB, zC, zD, zE, zF]
  refine tS 15 rfl (by kernel_rfl) (fun _ _ _ h => h) (by rfl) (by assumption) ?_
  simp only [Act.put, zA, zB, zC, zD, zE, zF]
  refine tS 16 rfl (by kernel_rfl) (fun _ _ _ h => h) (by rfl) (by assumption) ?_
  simp only [Act.put, zA, zB, zC, zD, zE, zF]
  refine tS 17 rfl (by kernel_rfl) (fun _ _ _ h => h) (by rfl) (by assumption) ?_
  simp only [Act.put, zA, zB, zC, zD, zE, zF]
  refine tS 18 rfl (by kernel_rfl) (fun _ _ _ h => h) (by rfl) (by assumption) ?_
  simp only [Act.put, zA, zB, zC, zD, zE, zF]
  refine tT 19 ?vc19 rfl (by kernel_rfl) (fun _ _ _ h => h) (by rfl) ?hyc19 (by assumption) ?_
  case hyc19 =>
   intro V hV
   try dsimp only at hV
   go_simp
   all_goals (with_reducible rfl)
  simp only [Act.put, zA, zB, zC, zD, zE, zF]
  refine tT 20 ?vc20 rfl (by kernel_rfl) (fun _ _ _ h => h) (by rfl) ?hyc20 (by assumption) ?_
  case hyc20 =>
   intro V hV
   try dsimp only at hV
   go_simp
   all_goals (with_reducible rfl)
  simp only [Act.put, zA, zB, zC, zD, zE, zF]
  refine wpAnyH_done (by kernel_rfl) ?_ _
  go_wp2
  go_ret
  exact ⟨by rw [Zaa HJ3]; rfl, (Zaa HB3).drew⟩
end Go.Proofs.YtffemeicclhioaaGreatDoor
