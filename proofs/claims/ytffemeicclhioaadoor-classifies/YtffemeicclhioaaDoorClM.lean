/-
  Layouts of calls: the statement's copy of a table. Own work of the verifier.
-/
import Derived.Test.YtffemeicclhioaaDoorClJ
import Derived.Deep.RegionWith
import Derived.Deep.RegionHeld3
namespace Go.Proofs.YtffemeicclhioaaDoor
open Go.RowKit

/-- A table whose lists are copies. -/
def cpT (T : TbE) (ga gr gs : Nat) : TbE := { T with pa := some ⟨ga, 0, none⟩, ca := T.ag.length + 2, pr := some ⟨gr, 0, none⟩, cr := T.rs.length + 2, ps := some ⟨gs, 0, none⟩, cs := T.ss.length + 2 }
structure CpT (w : World) (T : TbE) (ga gr gs : Nat) : Prop where
  a : Cp w ga T.ag
  r : Cp w gr T.rs
  s : Cp w gs T.ss
theorem CpT.tbo {w : World} {T : TbE} {ga gr gs : Nat} (h : CpT w T ga gr gs) : TbO w (cpT T ga gr gs) := ⟨h.a.li, h.r.li, h.s.li⟩
structure TbLim (T : TbE) : Prop where
  a : T.ag.length * 8 ≤ 140737488351232
  r : T.rs.length * 8 ≤ 140737488351232
  s : T.ss.length * 8 ≤ 140737488351232
theorem Tryd.infTbM : (Tryd.prog.info? 25).map (·.size) = some 12 := by kernel_rfl
/-- While a table is copied: the box stands, what was there stays, copies stand. -/
structure CtI (w : World) (T : TbE) (w' : World) : Prop where
  low : Below w.heap.size w w'
  box : w'.heap[w.heap.size]? = some (.cells T.box 25 (0, 0))
  res : w'.heap[w.heap.size + 1]? = some (.cells #[.int .i64 0, .int .i64 0, .int .i64 0, .int .i64 0, .int .i64 0, .slice none 0 0, .slice none 0 0, .slice none 0 0, .int .i64 0, .int .i64 0, .int .i64 0, .bool false] 25 (0, 0))
  size : w.heap.size + 2 ≤ w'.heap.size
theorem CtI.next {w w' w2 : World} {T : TbE} (h : CtI w T w') (hb : Below w'.heap.size w' w2) : CtI w T w2 := by
  have hz := h.size
  have hz2 := hb.size
  exact ⟨below_cut h.low hb (by omega), (hb.block _ (by omega)).trans h.box, (hb.block _ (by omega)).trans h.res, by omega⟩
theorem CtI.drew {w w' : World} {T : TbE} (h : CtI w T w') : CtI w T w'.drew := ⟨h.low.drew, h.box, h.res, h.size⟩
theorem CtI.k5 {w w' : World} {T : TbE} (h : CtI w T w') : w'.cell? ⟨w.heap.size, 5, none⟩ = some (.slice T.pa T.ag.length T.ca) := (cells_of_row h.box 5).trans rfl
theorem CtI.k6 {w w' : World} {T : TbE} (h : CtI w T w') : w'.cell? ⟨w.heap.size, 6, none⟩ = some (.slice T.pr T.rs.length T.cr) := (cells_of_row h.box 6).trans rfl
theorem CtI.k7 {w w' : World} {T : TbE} (h : CtI w T w') : w'.cell? ⟨w.heap.size, 7, none⟩ = some (.slice T.ps T.ss.length T.cs) := (cells_of_row h.box 7).trans rfl
/-- What stands behind the three copies. -/
structure CtQ (w : World) (T : TbE) (ga gr gs : Nat) (w' : World) : Prop where
  low : Below w.heap.size w w'
  box : w'.heap[w.heap.size]? = some (.cells (cpT T ga gr gs).box 25 (0, 0))
  res : w'.heap[w.heap.size + 1]? = some (.cells #[.int .i64 0, .int .i64 0, .int .i64 0, .int .i64 0, .int .i64 0, .slice none 0 0, .slice none 0 0, .slice none 0 0, .int .i64 0, .int .i64 0, .int .i64 0, .bool false] 25 (0, 0))
  cp : CpT w' T ga gr gs
  la : w.heap.size + 2 ≤ ga
  lr : w.heap.size + 2 ≤ gr
  ls : w.heap.size + 2 ≤ gs
theorem CtQ.of {w w' : World} {T : TbE} {ga gr gs : Nat} (h : CtI w T w') (ha : Cp w' ga T.ag) (hr : Cp w' gr T.rs) (hs : Cp w' gs T.ss) (la : w.heap.size + 2 ≤ ga) (lr : w.heap.size + 2 ≤ gr) (ls : w.heap.size + 2 ≤ gs) :
    CtQ w T ga gr gs (((w'.setCell ⟨w.heap.size, 5, none⟩ (.slice (some ⟨ga, 0, none⟩) T.ag.length (T.ag.length + 2))).setCell ⟨w.heap.size, 6, none⟩ (.slice (some ⟨gr, 0, none⟩) T.rs.length (T.rs.length + 2))).setCell ⟨w.heap.size, 7, none⟩ (.slice (some ⟨gs, 0, none⟩) T.ss.length (T.ss.length + 2))) := by
  have ho : ∀ q, q ≠ w.heap.size → (((w'.setCell ⟨w.heap.size, 5, none⟩ (.slice (some ⟨ga, 0, none⟩) T.ag.length (T.ag.length + 2))).setCell ⟨w.heap.size, 6, none⟩ (.slice (some ⟨gr, 0, none⟩) T.rs.length (T.rs.length + 2))).setCell ⟨w.heap.size, 7, none⟩ (.slice (some ⟨gs, 0, none⟩) T.ss.length (T.ss.length + 2))).heap[q]? = w'.heap[q]? := fun q hq => (heap_setCell_other _ _ _ _ hq).trans ((heap_setCell_other _ _ _ _ hq).trans (heap_setCell_other _ _ _ _ hq))
  refine ⟨⟨h.low.os, h.low.tape, h.low.output, by have := h.low.size; simpa using this, fun q hq => (ho q (by omega)).trans (h.low.block q hq)⟩, heap_setCell_same _ _ 7 _ _ _ (heap_setCell_same _ _ 6 _ _ _ (heap_setCell_same _ _ 5 _ _ _ h.box)), (ho _ (by omega)).trans h.res, ⟨ha.keep (ho _ (by omega)), hr.keep (ho _ (by omega)), hs.keep (ho _ (by omega))⟩, la, lr, ls⟩
theorem Cp.below {w w' : World} {g : Nat} {ns : List Int} (h : Cp w g ns) (hb : Below w.heap.size w w') : Cp w' g ns := h.keep (hb.block g (row_lt h.row))
section
variable {P : Program} {ops : Array Oper} {Q : Exit → Act → World → Prop} {md : Region.Mode} {C : World → Prop} {d : Nat}
/-- Whatever order is picked; until operation d has come up, C holds behind each. -/
def AnyU (P : Program) (md : Region.Mode) (ops : Array Oper) (Q : Exit → Act → World → Prop) (C : World → Prop) (d : Nat) : Nat → Array Bool → Act → World → Prop
  | 0, L, a, w => Region.ready md ops L = [] ∧ Q .normal a w
  | n + 1, L, a, w => (Region.ready md ops L = [] → Q .normal a w) ∧ ∀ i ∈ Region.ready md ops L, wpOp P ops Q i (fun a' w' => ((L.setIfInBounds i true).getD d true = false → C w') ∧ AnyU P md ops Q C d n (L.setIfInBounds i true) a' w') a w
theorem anyU_any : ∀ (n : Nat) (L : Array Bool) (a : Act) (w : World), AnyU P md ops Q C d n L a w → wpAny P md ops Q n L a w
  | 0, _, _, _, h => h
  | n + 1, _, _, _, h => ⟨h.1, fun i hi => wpOp_mono (fun a' w' h' => anyU_any n _ a' w' h'.2) (h.2 i hi)⟩
theorem anyU_first {i : Nat} {oi od : Oper} {v : Value} (hi : ops[i]? = some oi) (hd : ops[d]? = some od) (hwait : ∃ e ∈ od.after, Region.binds md e = true ∧ e.on = i)
    (hsel : ∀ (j : Nat) (o : Oper) cs b, ops[j]? = some o → o.op ≠ .select cs b) (hQ : ∀ c a w, Q (.panic c) (a.put oi.dst v) w → Q (.panic c) a w) :
    ∀ (n : Nat) (L : Array Bool) (a : Act) (w : World), (∀ j oj, ops[j]? = some oj → j ≠ i → L.getD j true = false → (∀ e ∈ oj.after, Region.binds md e = true → e.on ≠ i) → oi.apart ops oj = true) →
      i ∈ Region.ready md ops L → YieldsIf P ops C oi v a → L.getD d true = false → C w → AnyU P md ops Q C d n (L.setIfInBounds i true) (a.put oi.dst v) w → AnyU P md ops Q C d (n + 1) L a w := by
  intro n
  induction n with
  | zero =>
    intro L a w _ hr hy _ hC H
    refine ⟨fun h => (by rw [h] at hr; cases hr), fun j hj => ?_⟩
    by_cases hji : j = i
    · subst hji
      exact hy.wpOp hi hC ⟨fun _ => hC, H⟩
    · have hx := ready_mono hj hji
      rw [H.1] at hx
      cases hx
  | succ n ih =>
    intro L a w hfree hr hy hLd hC H
    refine ⟨fun h => (by rw [h] at hr; cases hr), fun j hj => ?_⟩
    by_cases hji : j = i
    · subst hji
      exact hy.wpOp hi hC ⟨fun _ => hC, H⟩
    · have h1 := H.2 j (ready_mono hj hji)
      obtain ⟨hun, oj, hoj, hall⟩ := mem_ready.1 hj
      have hiu := (mem_ready.1 hr).1
      have hnot : ∀ e ∈ oj.after, Region.binds md e = true → e.on ≠ i := fun e he hb hq => by
        have k1 := hall e he hb
        rw [hq] at k1
        rcases Nat.lt_or_ge i L.size with h' | h'
        · simp [h'] at hiu k1
          rw [hiu] at k1
          cases k1
        · simp [Array.getElem?_eq_none h'] at k1
      have hjd : j ≠ d := fun e => by
        subst e
        rw [hoj] at hd
        injection hd with hd
        subst hd
        obtain ⟨e, he, hb, hq⟩ := hwait
        exact hnot e he hb hq
      have h2 := wpOp_putIf hoj (hfree j oj hoj hji hun hnot) (fun cs b => hsel i oi cs b hi) (fun cs b => hsel j oj cs b hoj) hQ hy h1
      refine wpOp_mono (fun a' w' h3 => ?_) h2
      have hLj : (L.setIfInBounds j true).getD d true = false := by rw [getD_set_ne true hjd]; exact hLd
      have hid : i ≠ d := fun e => by
        subst e
        rw [hi] at hd
        injection hd with hd
        subst hd
        obtain ⟨e, he, hb, hq⟩ := hwait
        obtain ⟨-, oi', hoi', hall'⟩ := mem_ready.1 hr
        rw [hi] at hoi'
        injection hoi' with hoi'
        subst hoi'
        have k1 := hall' e he hb
        rw [hq] at k1
        rcases Nat.lt_or_ge i L.size with h' | h'
        · simp [h'] at hiu k1
          rw [hiu] at k1
          cases k1
        · simp [Array.getElem?_eq_none h'] at k1
      have hC' : C w' := h3.2.1 (by rw [getD_set_ne true hjd, getD_set_ne true hid]; exact hLd)
      refine ⟨fun _ => hC', ih (L.setIfInBounds j true) a' w' (fun k ok hk hki hku hno => ?_) (ready_mono hr (Ne.symm hji)) h3.1 hLj hC' ?_⟩
      · refine hfree k ok hk hki ?_ hno
        by_cases hjk : j = k
        · subst hjk; exact hun
        · rw [getD_set_ne true hjk] at hku; exact hku
      · rw [Array.setIfInBounds_comm _ _ hji]
        exact h3.2.2
theorem anyU_take {i : Nat} {oi od : Oper} {v : Value} {n : Nat} {L : Array Bool} {a : Act} {w : World} (hi : ops[i]? = some oi) (hd : ops[d]? = some od) (hw : (od.after.any fun e => Region.binds md e && e.on == i) = true)
    (hs : Region.noSelect ops = true) (hf : Region.free md ops L i = true) (hr : (Region.ready md ops L).contains i = true) (hLd : L.getD d true = false)
    (hQ : ∀ c a w, Q (.panic c) (a.put oi.dst v) w → Q (.panic c) a w) (hy : YieldsIf P ops C oi v a) (hC : C w)
    (h : AnyU P md ops Q C d n (L.setIfInBounds i true) (a.put oi.dst v) w) : AnyU P md ops Q C d (n + 1) L a w :=
  anyU_first hi hd (by
    obtain ⟨k, hk, hq⟩ := Array.any_eq_true.1 hw
    simp only [Bool.and_eq_true, beq_iff_eq] at hq
    exact ⟨_, Array.getElem_mem hk, hq.1, hq.2⟩) (Region.noSelect_spec hs) hQ n L a w (Region.free_spec hi hf) (by simpa using hr) hy hLd hC h
theorem anyU_one {i : Nat} {o : Oper} {n : Nat} {L : Array Bool} {a : Act} {w : World} (hr : Region.ready md ops L = [i]) (ho : ops[i]? = some o)
    (h : ∀ K' : Act → World → Prop, _root_.Go.Shut (∀ a w, ((L.setIfInBounds i true).getD d true = false → C w) → AnyU P md ops Q C d n (L.setIfInBounds i true) a w → K' a w) → if Region.wanted o (yielded ops a.tmps) = true then Oper.wp P o a w K' Q else K' (a.put o.dst undef) w) : AnyU P md ops Q C d (n + 1) L a w := by
  refine ⟨fun h0 => (by rw [hr] at h0; cases h0), fun j hj => ?_⟩
  rw [hr] at hj
  obtain rfl : j = i := by simpa using hj
  exact wpOp_step ho (fun K' hK => h K' (fun a w h1 h2 => hK a w ⟨h1, h2⟩))
theorem anyU_done {L : Array Bool} {a : Act} {w : World} (hr : Region.ready md ops L = []) (h : Q .normal a w) : ∀ n, AnyU P md ops Q C d n L a w
  | 0 => ⟨hr, h⟩
  | _ + 1 => ⟨fun _ => h, by rw [hr]; simp⟩
theorem wp_region_U {id : Nat} {a : Act} {w : World} (hm : P.follows .mixedOrders = true) (h : AnyU P .any ops Q C d ops.size (Array.replicate ops.size false) a w.drew) : (Code.region id ops true).wp P Q a w :=
  wp_region_any hm (anyU_any _ _ _ _ h)
end
set_option maxHeartbeats 8000000 in
set_option maxRecDepth 100000 in
theorem copyTable_c (T : TbE) (w : World) (hT : TbO w T) (hl : TbLim T) :
    Calls Tryd.prog 4 #[.agg T.box] w fun e w' => ∃ ga gr gs, e = .returned (.agg (cpT T ga gr gs).box) ∧ CpT w' T ga gr gs ∧ w.heap.size ≤ ga ∧ w.heap.size ≤ gr ∧ w.heap.size ≤ gs ∧ Below w.heap.size w w' := by
  obtain ⟨r0, r1, hZ, hB⟩ := rows2 w (.cells T.box 25 (0, 0)) (.cells #[.int .i64 0, .int .i64 0, .int .i64 0, .int .i64 0, .int .i64 0, .slice none 0 0, .slice none 0 0, .slice none 0 0, .int .i64 0, .int .i64 0, .int .i64 0, .bool false] 25 (0, 0))
  have hI0 : CtI w T _ := ⟨hB, r0, r1, by omega⟩
  have HI0 := hideI hI0
  have HFA := hideI (fun V (hV : CtI w T V) => copyInts_c T.ag T.pa T.ca V (hT.a.below hV.low) hl.a)
  have HFR := hideI (fun V (hV : CtI w T V) => copyInts_c T.rs T.pr T.cr V (hT.r.below hV.low) hl.r)
  have HFS := hideI (fun V (hV : CtI w T V) => copyInts_c T.ss T.ps T.cs V (hT.s.below hV.low) hl.s)
  clear r0 r1 hB hT hl hI0
  have HBX := hideI (show T.box = #[.int .i64 T.r, .int .i64 T.sp, .int .i64 T.lk, .int .i64 T.t0, .int .i64 T.t1, .slice T.pa T.ag.length T.ca, .slice T.pr T.rs.length T.cr, .slice T.ps T.ss.length T.cs, .int .i64 T.al, .int .i64 T.sh, .int .i64 T.br, .bool T.pairs] from rfl)
  rw [unhideI HBX] at HI0 ⊢
  go_enter Tryd.func4, Tryd.ntmps4
  go_wp2_with fail
  generalize World.alloc (World.alloc w _) _ = W at HI0 ⊢
  have hs0 := (unhideI HI0).drew.size
  have HC0 := hideI (show W.drew.cell? ⟨w.heap.size, 5, none⟩ = some (.slice T.pa T.ag.length T.ca) ∧ W.drew.cell? ⟨w.heap.size, 6, none⟩ = some (.slice T.pr T.rs.length T.cr) ∧ W.drew.cell? ⟨w.heap.size, 7, none⟩ = some (.slice T.ps T.ss.length T.cs) from ⟨(unhideI HI0).drew.k5, (unhideI HI0).drew.k6, (unhideI HI0).drew.k7⟩)
  refine wp_region_U (C := fun V => V.cell? ⟨w.heap.size, 5, none⟩ = some (.slice T.pa T.ag.length T.ca) ∧ V.cell? ⟨w.heap.size, 6, none⟩ = some (.slice T.pr T.rs.length T.cr) ∧ V.cell? ⟨w.heap.size, 7, none⟩ = some (.slice T.ps T.ss.length T.cs)) (d := 10) (by kernel_rfl) ?_
  refine anyU_take (i := 0) (v := ?v0) rfl rfl (by kernel_rfl) (by kernel_rfl) (by kernel_rfl) (by kernel_rfl) (by kernel_rfl) (fun _ _ _ h => h) (Or.inl ⟨by rfl, ?hy0⟩) (unhideI HC0) ?_
  case hy0 =>
    intro V hV
    obtain ⟨e5, e6, e7⟩ := hV
    go_simp
    all_goals (with_reducible rfl)
  simp only [Act.put, List.setIfInBounds_toArray, List.set_cons_zero, List.set_cons_succ, List.getElem_toArray, List.getElem_cons_zero]
  refine anyU_take (i := 1) (v := ?v1) rfl rfl (by kernel_rfl) (by kernel_rfl) (by kernel_rfl) (by kernel_rfl) (by kernel_rfl) (fun _ _ _ h => h) (Or.inl ⟨by rfl, ?hy1⟩) (unhideI HC0) ?_
  case hy1 =>
    intro V hV
    obtain ⟨e5, e6, e7⟩ := hV
    go_simp
    all_goals (with_reducible rfl)
  simp only [Act.put, List.setIfInBounds_toArray, List.set_cons_zero, List.set_cons_succ, List.getElem_toArray, List.getElem_cons_zero, List.getElem_cons_succ]
  refine anyU_take (i := 3) (v := ?v3) rfl rfl (by kernel_rfl) (by kernel_rfl) (by kernel_rfl) (by kernel_rfl) (by kernel_rfl) (fun _ _ _ h => h) (Or.inl ⟨by rfl, ?hy3⟩) (unhideI HC0) ?_
  case hy3 =>
    intro V hV
    obtain ⟨e5, e6, e7⟩ := hV
    go_simp
    all_goals (with_reducible rfl)
  simp only [Act.put, List.setIfInBounds_toArray, List.set_cons_zero, List.set_cons_succ, List.getElem_toArray, List.getElem_cons_zero, List.getElem_cons_succ]
  refine anyU_take (i := 4) (v := ?v4) rfl rfl (by kernel_rfl) (by kernel_rfl) (by kernel_rfl) (by kernel_rfl) (by kernel_rfl) (fun _ _ _ h => h) (Or.inl ⟨by rfl, ?hy4⟩) (unhideI HC0) ?_
  case hy4 =>
    intro V hV
    obtain ⟨e5, e6, e7⟩ := hV
    go_simp
    all_goals (with_reducible rfl)
  simp only [Act.put, List.setIfInBounds_toArray, List.set_cons_zero, List.set_cons_succ, List.getElem_toArray, List.getElem_cons_zero, List.getElem_cons_succ]
  refine anyU_take (i := 6) (v := ?v6) rfl rfl (by kernel_rfl) (by kernel_rfl) (by kernel_rfl) (by kernel_rfl) (by kernel_rfl) (fun _ _ _ h => h) (Or.inl ⟨by rfl, ?hy6⟩) (unhideI HC0) ?_
  case hy6 =>
    intro V hV
    obtain ⟨e5, e6, e7⟩ := hV
    go_simp
    all_goals (with_reducible rfl)
  simp only [Act.put, List.setIfInBounds_toArray, List.set_cons_zero, List.set_cons_succ, List.getElem_toArray, List.getElem_cons_zero, List.getElem_cons_succ]
  refine anyU_take (i := 7) (v := ?v7) rfl rfl (by kernel_rfl) (by kernel_rfl) (by kernel_rfl) (by kernel_rfl) (by kernel_rfl) (fun _ _ _ h => h) (Or.inl ⟨by rfl, ?hy7⟩) (unhideI HC0) ?_
  case hy7 =>
    intro V hV
    obtain ⟨e5, e6, e7⟩ := hV
    go_simp
    all_goals (with_reducible rfl)
  simp only [Act.put, List.setIfInBounds_toArray, List.set_cons_zero, List.set_cons_succ, List.getElem_toArray, List.getElem_cons_zero, List.getElem_cons_succ]
  refine anyU_one (i := 2) (by kernel_rfl) rfl (fun K hK => ?_)
  go_simp
  refine (unhideI HFA _ (unhideI HI0).drew).mono ?_
  rintro e w1 ⟨he, hcp, hb⟩
  unfold cpV at he
  subst he
  have hi1 := CtI.next (unhideI HI0).drew hb
  have hs1 := hi1.size
  have HI1 := hideI hi1
  have HC1 := hideI hcp
  clear hcp hb hi1
  refine hK.out _ _ (fun _ => ⟨(unhideI HI1).k5, (unhideI HI1).k6, (unhideI HI1).k7⟩) ?_
  clear hK K
  try simp only [Act.put, List.setIfInBounds_toArray, List.set_cons_zero, List.set_cons_succ, List.getElem_toArray, List.getElem_cons_zero, List.getElem_cons_succ]
  refine anyU_take (i := 9) (v := ?v9) rfl rfl (by kernel_rfl) (by kernel_rfl) (by kernel_rfl) (by kernel_rfl) (by kernel_rfl) (fun _ _ _ h => h) (Or.inl ⟨by rfl, ?hy9⟩) ⟨(unhideI HI1).k5, (unhideI HI1).k6, (unhideI HI1).k7⟩ ?_
  case hy9 =>
    intro V hV
    obtain ⟨e5, e6, e7⟩ := hV
    go_simp
    all_goals (with_reducible rfl)
  simp only [Act.put, List.setIfInBounds_toArray, List.set_cons_zero, List.set_cons_succ, List.getElem_toArray, List.getElem_cons_zero, List.getElem_cons_succ]
  refine anyU_one (i := 5) (by kernel_rfl) rfl (fun K hK => ?_)
  go_simp
  refine (unhideI HFR _ (unhideI HI1)).mono ?_
  rintro e w2 ⟨he, hcp, hb⟩
  unfold cpV at he
  subst he
  have hi2 := CtI.next (unhideI HI1) hb
  have hs2 := hi2.size
  have HI2 := hideI hi2
  have HC2 := hideI hcp
  have HC12 := hideI ((unhideI HC1).below hb)
  clear hcp hb hi2
  refine hK.out _ _ (fun _ => ⟨(unhideI HI2).k5, (unhideI HI2).k6, (unhideI HI2).k7⟩) ?_
  clear hK K
  try simp only [Act.put, List.setIfInBounds_toArray, List.set_cons_zero, List.set_cons_succ, List.getElem_toArray, List.getElem_cons_zero, List.getElem_cons_succ]
  refine anyU_one (i := 8) (by kernel_rfl) rfl (fun K hK => ?_)
  go_simp
  refine (unhideI HFS _ (unhideI HI2)).mono ?_
  rintro e w3 ⟨he, hcp, hb⟩
  unfold cpV at he
  subst he
  have hi3 := CtI.next (unhideI HI2) hb
  have k35 := hi3.k5
  have k36 := hi3.k6
  have k37 := hi3.k7
  have z5 := frozen_of_row _ _ 5 _ _ hi3.box
  have z6 := frozen_of_row _ _ 6 _ _ hi3.box
  have z7 := frozen_of_row _ _ 7 _ _ hi3.box
  have HQ := hideI (CtQ.of (ga := W.heap.size) hi3 ((unhideI HC12).below hb) ((unhideI HC2).below hb) hcp hs0 hs1 hs2)
  have HI3 := hideI hi3
  clear hcp hb hi3
  refine hK.out _ _ (fun _ => ⟨(unhideI HI3).k5, (unhideI HI3).k6, (unhideI HI3).k7⟩) ?_
  clear hK K
  try simp only [Act.put, List.setIfInBounds_toArray, List.set_cons_zero, List.set_cons_succ, List.getElem_toArray, List.getElem_cons_zero, List.getElem_cons_succ]
  refine anyU_one (i := 10) (by kernel_rfl) rfl (fun K hK => ?_)
  go_simp
  refine hK.out _ _ (fun h => absurd h (by simp)) ?_
  clear hK K
  try simp only [Act.put, List.setIfInBounds_toArray, List.set_cons_zero, List.set_cons_succ, List.getElem_toArray, List.getElem_cons_zero, List.getElem_cons_succ]
  refine anyU_one (i := 11) (by kernel_rfl) rfl (fun K hK => ?_)
  go_simp
  refine hK.out _ _ (fun h => absurd h (by simp)) ?_
  clear hK K
  try simp only [Act.put, List.setIfInBounds_toArray, List.set_cons_zero, List.set_cons_succ, List.getElem_toArray, List.getElem_cons_zero, List.getElem_cons_succ]
  refine anyU_one (i := 12) (by kernel_rfl) rfl (fun K hK => ?_)
  go_simp
  refine hK.out _ _ (fun h => absurd h (by simp)) ?_
  clear hK K
  try simp only [Act.put, List.setIfInBounds_toArray, List.set_cons_zero, List.set_cons_succ, List.getElem_toArray, List.getElem_cons_zero, List.getElem_cons_succ]
  refine anyU_one (i := 13) (by kernel_rfl) rfl (fun K hK => ?_)
  go_simp
  refine hK.out _ _ (fun h => absurd h (by simp)) ?_
  clear hK K
  try simp only [Act.put, List.setIfInBounds_toArray, List.set_cons_zero, List.set_cons_succ, List.getElem_toArray, List.getElem_cons_zero, List.getElem_cons_succ]
  refine anyU_one (i := 14) (by kernel_rfl) rfl (fun K hK => ?_)
  go_simp
  refine hK.out _ _ (fun h => absurd h (by simp)) ?_
  clear hK K
  try simp only [Act.put, List.setIfInBounds_toArray, List.set_cons_zero, List.set_cons_succ, List.getElem_toArray, List.getElem_cons_zero, List.getElem_cons_succ]
  refine anyU_done (by kernel_rfl) ?_ _
  clear k35 k36 k37 z5 z6 z7 HC1 HC2 HC12 HI1 HI2 HI3 HFA HFR HFS HC0
  generalize World.setCell (World.setCell (World.setCell w3 _ _) _ _) _ _ = Z at HQ ⊢
  generalize W.heap.size = ga at HQ ⊢
  generalize w1.heap.size = gr at HQ ⊢
  generalize w2.heap.size = gs at HQ ⊢
  have hQ := unhideI HQ
  have hbx := hQ.box
  have HRES := hideI hQ.res
  have e0 : Z.cell? ⟨w.heap.size, 0, none⟩ = some (.int .i64 T.r) := (cells_of_row hbx 0).trans rfl
  have e1 : Z.cell? ⟨w.heap.size, 1, none⟩ = some (.int .i64 T.sp) := (cells_of_row hbx 1).trans rfl
  have e2 : Z.cell? ⟨w.heap.size, 2, none⟩ = some (.int .i64 T.lk) := (cells_of_row hbx 2).trans rfl
  have e3 : Z.cell? ⟨w.heap.size, 3, none⟩ = some (.int .i64 T.t0) := (cells_of_row hbx 3).trans rfl
  have e4 : Z.cell? ⟨w.heap.size, 4, none⟩ = some (.int .i64 T.t1) := (cells_of_row hbx 4).trans rfl
  have e5 : Z.cell? ⟨w.heap.size, 5, none⟩ = some (.slice (some ⟨ga, 0, none⟩) T.ag.length (T.ag.length + 2)) := (cells_of_row hbx 5).trans rfl
  have e6 : Z.cell? ⟨w.heap.size, 6, none⟩ = some (.slice (some ⟨gr, 0, none⟩) T.rs.length (T.rs.length + 2)) := (cells_of_row hbx 6).trans rfl
  have e7 : Z.cell? ⟨w.heap.size, 7, none⟩ = some (.slice (some ⟨gs, 0, none⟩) T.ss.length (T.ss.length + 2)) := (cells_of_row hbx 7).trans rfl
  have e8 : Z.cell? ⟨w.heap.size, 8, none⟩ = some (.int .i64 T.al) := (cells_of_row hbx 8).trans rfl
  have e9 : Z.cell? ⟨w.heap.size, 9, none⟩ = some (.int .i64 T.sh) := (cells_of_row hbx 9).trans rfl
  have e10 : Z.cell? ⟨w.heap.size, 10, none⟩ = some (.int .i64 T.br) := (cells_of_row hbx 10).trans rfl
  have e11 : Z.cell? ⟨w.heap.size, 11, none⟩ = some (.bool T.pairs) := (cells_of_row hbx 11).trans rfl
  clear hbx hQ
  go_wp2_with (refine wpList_store_row rfl 25 _ _ rfl (w.heap.size + 1) (cpT T ga gr gs).box rfl rfl 25 _ (unhideI HRES) (Tryd.infTbM.trans rfl) rfl (by simp [Value.oneCell', TbE.box, cpT]) ?_)
  refine bodyPost_ret (resultsK (fn := Tryd.f4) (q := 2) (uy := 25) rfl _ _ (w.heap.size + 1) 25 (cpT T ga gr gs).box (0, 0) _ rfl (setRow_heap _ _ _ _ _ _ (unhideI HRES)) Tryd.underlying25 rfl (Tryd.infTbM.trans rfl)) rfl ?_
  have hQ := unhideI HQ
  have ho : ∀ q, q ≠ w.heap.size + 1 → (Z.setRow (w.heap.size + 1) (cpT T ga gr gs).box).heap[q]? = Z.heap[q]? := fun q hq => setRow_other _ _ _ _ hq
  exact ⟨ga, gr, gs, rfl, ⟨hQ.cp.a.keep (ho _ (by have := hQ.la; omega)), hQ.cp.r.keep (ho _ (by have := hQ.lr; omega)), hQ.cp.s.keep (ho _ (by have := hQ.ls; omega))⟩, by have := hQ.la; omega, by have := hQ.lr; omega, by have := hQ.ls; omega, below_setRow hQ.low (by omega)⟩
end Go.Proofs.YtffemeicclhioaaDoor
