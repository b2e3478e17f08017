/-
  Own work of the verifier: ClG, FrPure, FrS, FrA, as one text.
-/
import Derived.Test.YtffemeicclhioaaGreatDoorClE
import Derived.Test.YtffemeicclhioaaGreatDoorJ7
import Derived.Test.YtffemeicclhioaaGreatDoorJ15
import Derived.Deep.CutBlock
import Derived.Deep.DeepCutAuto
import Derived.Deep.RegionHeld3
namespace Go.Proofs.YtffemeicclhioaaGreatDoor
open Go.RowKit

def noLay : LayE := ⟨[], [], 0, 0⟩
theorem LayO.no (w : World) (B : Nat) : LayO w B (.slice none 0 0) (.slice none 0 0) noLay [] := ⟨rfl, World.ownsRow_nil _ _ _ _, fun k hk => absurd hk (by simp [noLay]), World.ownsRow_nil _ _ _ _⟩
theorem LayO.row {w : World} {B B' b : Nat} {cs : Array Value} {av rv : Value} {l : LayE} {pvs : List Value} (h : LayO w B av rv l pvs) (hb : b < B) (hB : B' ≤ B) : LayO (w.setRow b cs) B' av rv l pvs := by
 have k : ∀ {n size : Nat} {e : TypeId} {v : Value} {xs : List Value}, w.ownsRow B e size v n xs → (w.setRow b cs).ownsRow B' e size v n xs := fun {n size e v xs} h => by
  obtain ⟨h1, h2 | ⟨g, cap, cur, e1, e2, e3, e4⟩⟩ := h
  ·
   exact ⟨h1, Or.inl h2⟩
  ·
   exact ⟨h1, Or.inr ⟨g, cap, cur, e1, Nat.le_trans hB e2, (setRow_other _ _ _ _ (by omega)).trans e3, e4⟩⟩
 exact ⟨h.len, k h.args, fun j hj => k (h.each j hj), k h.res⟩
theorem LayO.keep {w w' : World} {B : Nat} {av rv : Value} {l : LayE} {pvs : List Value} (h : LayO w B av rv l pvs) (hb : Below w.heap.size w w') : LayO w' B av rv l pvs :=
 ⟨h.len, own_gb h.args (gb_ofB (o := none) hb) (fun g _ e => by cases e), fun j hj => own_gb (h.each j hj) (gb_ofB (o := none) hb) (fun g _ e => by cases e), own_gb h.res (gb_ofB (o := none) hb) (fun g _ e => by cases e)⟩
theorem LayO.same {w w' : World} {B B' : Nat} {av rv : Value} {l : LayE} {pvs : List Value} (h : LayO w B av rv l pvs) (hs : ∀ q, B ≤ q → w'.heap[q]? = w.heap[q]?) (hB : B' ≤ B) : LayO w' B' av rv l pvs := by
 have k : ∀ {n size : Nat} {e : TypeId} {v : Value} {xs : List Value}, w.ownsRow B e size v n xs → w'.ownsRow B' e size v n xs := fun {n size e v xs} h => by
  obtain ⟨h1, h2 | ⟨g, cap, cur, e1, e2, e3, e4⟩⟩ := h
  ·
   exact ⟨h1, Or.inl h2⟩
  ·
   exact ⟨h1, Or.inr ⟨g, cap, cur, e1, Nat.le_trans hB e2, (hs g e2).trans e3, e4⟩⟩
 exact ⟨h.len, k h.args, fun j hj => k (h.each j hj), k h.res⟩
def tabT (T : TbE) : Bool := tabB T.r T.sp T.lk T.t0 T.t1 T.ag T.rs T.ss T.al T.sh T.br
theorem tabT_lens {T : TbE} (h : tabT T = true) : T.ag.length ≤ 100 ∧ T.rs.length ≤ 100 ∧ 0 ≤ T.sh ∧ T.sh ≤ 100 := by
 unfold tabT tabB numsB lensB at h
 simp at h
 omega
theorem sig_parts {ps : List Int} {n : Int} (h : sigB (ps, n) = true) : ps.length ≤ 8 ∧ 0 ≤ n ∧ n ≤ 4 ∧ numsIn ps 0 8 = true := by
 unfold sigB inB at h
 simp only [Bool.and_eq_true, decide_eq_true_eq] at h
 exact ⟨h.1, h.2.1.1, h.2.1.2, h.2.2⟩
/-- All that is asked of a table's lists. -/
structure TbO (w : World) (T : TbE) : Prop where
 a : Li w (.slice T.pa T.ag.length T.ca) T.ag
 r : Li w (.slice T.pr T.rs.length T.cr) T.rs
 s : Li w (.slice T.ps T.ss.length T.cs) T.ss
theorem TbO.below {w w' : World} {T : TbE} (h : TbO w T) (hb : Below w.heap.size w w') : TbO w' T := ⟨h.a.below hb, h.r.below hb, h.s.below hb⟩
theorem Li.low {w : World} {p : Option Addr} {c : Nat} {ns : List Int} (h : Li w (.slice p ns.length c) ns) : RsB w w.heap.size (.slice p ns.length c) ns := by
 obtain ⟨p', c', e, h2, h3, h4⟩ := h
 injection e with e1 e2 e3
 subst e1 e3
 by_cases h0 : 0 < ns.length
 ·
  obtain ⟨sb, so, e, hc⟩ := h4 h0
  exact Or.inr ⟨sb, so, c, by rw [e], by have := World.block_lt_of_cell? w _ (hc 0 h0); simpa using this, hc⟩
 ·
  have hn : ns = [] := List.length_eq_zero_iff.1 (by omega)
  exact Or.inl ⟨hn, p, c, by rw [hn]; rfl⟩
theorem Li.cap {w : World} {p : Option Addr} {c : Nat} {ns : List Int} (h : Li w (.slice p ns.length c) ns) : ∀ a n cap, Value.slice p ns.length c = .slice a n cap → n ≤ cap := fun a n cap e => by
 obtain ⟨p', c', e', h2, h3, h4⟩ := h
 injection e' with e1 e2 e3
 injection e with f1 f2 f3
 omega
theorem TbO.low {w : World} {T : TbE} (h : TbO w T) : TbR w w.heap.size T := ⟨h.a.low, h.r.low, h.s.low⟩
end Go.Proofs.YtffemeicclhioaaGreatDoor
namespace Go.Proofs.YtffemeicclhioaaGreatDoor
open Go.RowKit

/-- A signature that may be. -/
structure SgOk (s : List Int × Int) : Prop where
 n : numsIn s.1 0 8 = true
 l : s.1.length ≤ 8
 r0 : 0 ≤ s.2
 r4 : s.2 ≤ 4
/-- A table's lists are short. -/
structure TbOk (T : TbE) : Prop where
 a : T.ag.length ≤ 100
 r : T.rs.length ≤ 100
 s0 : 0 ≤ T.sh
 s1 : T.sh ≤ 100
def layT (T : TbE) (s : List Int × Int) : LayE := layE T.ag T.rs T.br T.pairs T.sh s.1 s.2
/-- The signature of what an instruction calls. -/
def sigAt (P : ProgE) (i : InsE) : Option (List Int × Int) :=
 if i.op = 12 ∨ i.op = 17 then some (sigE (P.funcs.getD i.f.toNat Zaj)) else if i.op = 13 then some (P.externs.getD i.f.toNat ([], 0)) else none
def jumpB (T : TbE) (own s : List Int × Int) : Bool := decide ((layT T s).copies = 0) && (decide ((layT T s).size ≤ (layT T own).size) && decide (s.2 ≤ T.rs.length))
/-- What is called and comes back. -/
def realS (T : TbE) (P : ProgE) (own : List Int × Int) (i : InsE) : Option (List Int × Int) :=
 match sigAt P i with
 | none => none
 | some s => if (decide (i.op = 17) && jumpB T own s) = true then none else some s
def accB (T : TbE) (P : ProgE) (own : List Int × Int) (bs : List (List InsE)) (k : Nat) : List (List Int × Int) := (bs.take k).flatMap fun b => b.filterMap (realS T P own)
def accI (T : TbE) (P : ProgE) (own : List Int × Int) (bs : List (List InsE)) (k j : Nat) : List (List Int × Int) := accB T P own bs k ++ ((bs.getD k []).take j).filterMap (realS T P own)
theorem accI_zero (T : TbE) (P : ProgE) (own : List Int × Int) (bs : List (List InsE)) (k : Nat) : accI T P own bs k 0 = accB T P own bs k := by simp [accI]
theorem accI_next (T : TbE) (P : ProgE) (own : List Int × Int) (bs : List (List InsE)) (k j : Nat) (h : j < (bs.getD k []).length) :
 accI T P own bs k (j + 1) = accI T P own bs k j ++ (realS T P own ((bs.getD k []).getD j noIns)).toList := by
 unfold accI
 rw [List.append_assoc]
 congr 1
 rw [List.take_add_one, List.filterMap_append]
 congr 1
 generalize bs.getD k [] = b at h ⊢
 rw [List.getElem?_eq_getElem h, show b.getD j noIns = b[j] by simp [List.getD, h]]
 simp only [Option.toList_some, List.filterMap_cons, List.filterMap_nil]
 cases realS T P own b[j] <;> rfl
theorem accB_next (T : TbE) (P : ProgE) (own : List Int × Int) (bs : List (List InsE)) (k : Nat) (h : k < bs.length) : accI T P own bs k (bs.getD k []).length = accB T P own bs (k + 1) := by
 unfold accI accB
 rw [List.take_length, List.take_add_one, List.flatMap_append, List.getElem?_eq_getElem h, show bs.getD k [] = bs[k] by simp [List.getD, h]]
 simp
/-- Layouts in a row, cell by cell. -/
def lyC (vs : List (Value × Value)) (ls : List LayE) : List Value := (vs.zip ls).flatMap fun x => [x.1.1, x.1.2, .int .i64 x.2.size, .int .i64 x.2.copies]
theorem lyC_snoc (vs : List (Value × Value)) (ls : List LayE) (v : Value × Value) (l : LayE) (h : vs.length = ls.length) : lyC (vs ++ [v]) (ls ++ [l]) = lyC vs ls ++ [v.1, v.2, .int .i64 l.size, .int .i64 l.copies] := by
 unfold lyC
 rw [List.zip_append h]
 simp
/-- A list of layouts, of which only how large they are is known. -/
def LyO (w : World) (B : Nat) (v : Value) (T : TbE) (ss : List (List Int × Int)) : Prop := ∃ vs : List (Value × Value), vs.length = ss.length ∧ (∀ x ∈ vs, x.1.oneCell' = true ∧ x.2.oneCell' = true) ∧ w.ownsRow B 85 4 v ss.length (lyC vs (ss.map (layT T)))
theorem Tryz.infoLyF : (Tryz.prog.info? 85).map (fun i => (i.zero, i.size, i.bytes)) = some (some (.agg #[.slice none 0 0, .slice none 0 0, .int .i64 0, .int .i64 0]), 4, 64) := by kernel_rfl
theorem sigAt_call {P : ProgE} {i : InsE} (h : i.op = 12 ∨ i.op = 17) : sigAt P i = some (sigE (P.funcs.getD i.f.toNat Zaj)) := by unfold sigAt; rw [if_pos h]
theorem sigAt_ext {P : ProgE} {i : InsE} (h : i.op = 13) : sigAt P i = some (P.externs.getD i.f.toNat ([], 0)) := by unfold sigAt; rw [if_neg (by omega), if_pos h]
theorem sigAt_no {P : ProgE} {i : InsE} (h1 : ¬ (i.op = 12 ∨ i.op = 17)) (h2 : ¬ i.op = 13) : sigAt P i = none := by unfold sigAt; rw [if_neg h1, if_neg h2]
end Go.Proofs.YtffemeicclhioaaGreatDoor
namespace Go.Proofs.YtffemeicclhioaaGreatDoor
open Go.RowKit

set_option maxHeartbeats 4000000 in
set_option maxRecDepth 100000 in
theorem sigP2_c (f : FuncE) (pv b c d : Value) (w : World) (hp : LS 2 w pv f.params.length (fun k => pairA (f.params.getD k (0, 0)))) (hn : f.params.length ≤ 8796093022208) :
 Calls Tryz.prog 56 #[.agg #[pv, .int .i64 f.results, b, c, d]] w fun e w' => ∃ v, e = .returned (.agg #[v, .int .i64 f.results]) ∧ Li w' v (sigE f).1 ∧ Below w.heap.size w w' ∧ (∀ sb so n c, v = .slice (some ⟨sb, so, none⟩) n c → w.heap.size ≤ sb) := by
 obtain ⟨ti, hti, hz0, hz1, hz2⟩ := info_K Tryz.infoInt
 have hx := al0 w (.cells #[pv, .int .i64 f.results, b, c, d] 70 (0, 0))
 have hp1 := hp.below hx.2.1
 have hx2 := al0 (w.alloc (.cells #[pv, .int .i64 f.results, b, c, d] 70 (0, 0))) (.cells #[.slice none 0 0, .int .i64 0] 79 (0, 0))
 have hp2 := hp1.below hx2.2.1
 have hx3 := al0 ((w.alloc (.cells #[pv, .int .i64 f.results, b, c, d] 70 (0, 0))).alloc (.cells #[.slice none 0 0, .int .i64 0] 79 (0, 0))) (.cells #[.slice none 0 0, .int .i64 f.results] 79 (0, 0))
 have hp3 := hp2.below hx3.2.1
 have hs1 := hx.2.2
 have hs2 := hx2.2.2
 have hs3 := hx3.2.2
 have hW1 := Zad (Zad hx.2.1 hx2.2.1 (by omega)) hx3.2.1 (by omega)
 have hrr := (hx3.2.1.block (w.heap.size + 1) (by omega)).trans (hs1 ▸ hx2.1)
 have hrs := hx3.1
 rw [hs2, hs1] at hrs hs3
 obtain ⟨p, cap, rfl, hcap, hlt, hc⟩ := hp3.pairs
 have hpb := hp
 have HC := Zac hc
 have HW1 := Zac hW1
 have HRS := Zac hrs
 have HRR := Zac hrr
 have HS3 := Zac hs3
 have HPB := Zac hp.pairs
 clear hc hx hp hp1 hx2 hp2 hW1 hrs hrr hx3 hp3 hs1 hs2 hs3 hpb
 go_enter Tryz.func56, Tryz.ntmps56
 go_wp2_with fail
 generalize World.alloc (World.alloc (World.alloc w _) _) _ = W at HC HW1 HRS HRR HS3 ⊢
 go_loopw [12] (fun j w' => ∃ (k : Nat) (v : Value), j = .int .i64 k ∧ k ≤ f.params.length ∧ w'.heap[w.heap.size + 1 + 1]? = some (.cells #[v, .int .i64 f.results] 79 (0, 0)) ∧ w'.ownsRow W.heap.size 3 1 v k (wTk f.params k) ∧ Below (w.heap.size + 2) W w') (fun j _ => f.params.length - (intOf j).toNat)
 case atStart => exact ⟨0, _, rfl, by omega, Zaa HRS, World.ownsRow_nil _ _ _ _, Below.refl _ _⟩
 case round =>
  obtain ⟨k, v, rfl, hk, hrow, how, hbw⟩ := hrel
  have hws := hbw.size
  have cv := (Zab hrow 0).trans rfl
  have r0 := fun X : Obj => (row_al hrow 0 X).trans rfl
  have fz := fun j => frozen_of_row _ _ j _ _ hrow
  obtain ⟨vp, vn, vc, hvs⟩ : ∃ vp vn vc, v = .slice vp vn vc := by
   rcases how.2 with ⟨e, _⟩ | ⟨g, cap, cur, e, _⟩
   ·
    exact ⟨_, _, _, e⟩
   ·
    exact ⟨_, _, _, e⟩
  subst hvs
  by_cases hk2 : k < f.params.length
  ·
   obtain ⟨p', cap', he, -, -, hcc0⟩ := Zaa HPB
   injection he with e1 e2 e3
   subst e1 e3
   obtain ⟨sb, so, rfl, hcc⟩ := hcc0 (by omega)
   have hsb : sb < w.heap.size := World.block_lt_of_cell? w _ (hcc k hk2).1
   have hbb : Below w.heap.size w wr := (Zaa HW1).trans (hbw.mono (Nat.le_add_right _ _))
   have c1 := (hbb.cell (p := ⟨sb, so + k * 2, none⟩) hsb).trans (hcc k hk2).1
   have c2 := (hbb.cell (p := ⟨sb, so + k * 2 + 1, none⟩) hsb).trans (hcc k hk2).2
   have hT := Zaa HS3
   have hTl : w.heap.size + 1 + 1 < wr.heap.size := by omega
   have HTL := Zac hTl
   have HTK := Zac (words_take f.params k hk2)
   have HOW := Zac how
   have HBW := Zac hbw
   have HROW := Zac hrow
   clear hcc hcc0 how hbw hbb hrow hT hTl e2 fz cv HC
   generalize f.params.getD k (0, 0) = xy at c1 c2 HTK
   obtain ⟨x, y⟩ := xy
   simp only at c1 c2
   go_wp2_with (at_builtin; refine wpList_append_own _ rfl _ _ 23 rfl W.heap.size 3 ti _ 1 8 Tryz.underlying23 hti hz0 hz1 hz2 rfl (by decide) _ _ _ rfl (((Zaa HOW).alloc _).alloc _) ⟨wr.heap.size + 1, 0, none⟩ 1 1 [.int .i64 x] rfl rfl (by intro j u hj; match j, hj with | 0, hj => (simp at hj; subst hj; exact (World.cell?_alloc_at _ _ _ _ (by simp)).trans rfl)) (by intro u hu; simp at hu; subst hu; rfl) ?c3 ?c4 ?c5 ?_)
   case c3 => unfold maxLen; omega
   case c4 => omega
   case c5 => first | omega | (simp; omega)
   intro v' w7 hown hgr _
   obtain ⟨g2, cap2, rfl⟩ := own_formK hown
   have hTl := Zaa HTL
   have hT := Zaa HS3
   have hne : ∀ q, q < W.heap.size → some q ≠ (Value.slice vp vn vc).ownBlock := fun q hq e => by have := ((Zaa HOW).lt q e.symm).1; omega
   have hrow7 := (hgr.block (w.heap.size + 1 + 1) (by simp; omega) (hne _ (by omega))).trans ((((Below.refl wr.heap.size wr).alloc (Nat.le_refl _) _).alloc (by simp) _).block (w.heap.size + 1 + 1) hTl |>.trans (Zaa HROW))
   have c7 := (Zab hrow7 0).trans rfl
   have f7 := frozen_of_row _ _ 0 _ _ hrow7
   have HNR := Zac (heap_setCell_same w7 (w.heap.size + 1 + 1) 0 _ _ (.slice (some ⟨g2, 0, none⟩) (k + 1) cap2) hrow7)
   have HNW := Zac (show w7.ownsRow W.heap.size 3 1 (.slice (some ⟨g2, 0, none⟩) (k + 1) cap2) (k + 1) (wTk f.params (k + 1)) by rw [Zaa HTK]; exact hown)
   have HN2 := Zac (own_keepK (w' := w7.setCell ⟨w.heap.size + 1 + 1, 0, none⟩ (.slice (some ⟨g2, 0, none⟩) (k + 1) cap2)) (Zaa HNW) (fun g hg => heap_setCell_other _ _ _ _ (by show g ≠ w.heap.size + 1 + 1; omega)))
   have HB7 := Zac (show Below (w.heap.size + 2) W (w7.setCell ⟨w.heap.size + 1 + 1, 0, none⟩ (.slice (some ⟨g2, 0, none⟩) (k + 1) cap2)) from
    have hb7 : Below (w.heap.size + 2) W w7 := (((Zaa HBW).alloc (by omega) _).alloc (by simp; omega) _).trans ⟨hgr.os, hgr.tape, hgr.output, hgr.size, fun q hq => hgr.block q (by simp; omega) (hne q (by omega))⟩
    ⟨hb7.os, hb7.tape, hb7.output, by simpa using hb7.size, fun q hq => (heap_setCell_other _ _ _ _ (by show q ≠ w.heap.size + 1 + 1; omega)).trans (hb7.block q hq)⟩)
   clear hown hgr hne hTl hT hrow7 r0 c1 c2
   go_wp2
   go_roundw
   case rel => exact ⟨k + 1, _, by go_num, by omega, Zaa HNR, Zaa HN2, Zaa HB7⟩
   case measure => simp [intOf]; omega
  ·
   obtain rfl : k = f.params.length := by omega
   have hvn : vn = f.params.length := by
    rcases how.2 with ⟨e, e0⟩ | ⟨g, cap, cur, e, _⟩
    ·
     injection e with _ e2 _; omega
    ·
     injection e with _ e2 _
   subst vn
   unfold wTk at how
   rw [List.take_length] at how
   have hT := Zaa HS3
   have HRR2 := Zac ((hbw.block (w.heap.size + 1) (by omega)).trans (Zaa HRR))
   have HRS2 := Zac hrow
   have HOW := Zac how
   have HBW := Zac hbw
   clear hrow how hbw hT r0 fz cv
   go_wp2_with (first | (refine wpList_load_row rfl 79 (.tmp 3) rfl (w.heap.size + 1 + 1) rfl 79 #[.slice vp f.params.length vc, .int .i64 f.results] (0, 0) _ (Zaa HRS2) Tryz.underlying79 rfl (Tryz.infSigK.trans rfl) ?_) | (refine wpList_store_row rfl 79 (.tmp 2) (.tmp 24) rfl (w.heap.size + 1) #[.slice vp f.params.length vc, .int .i64 f.results] rfl rfl 79 _ (Zaa HRR2) (Tryz.infSigK.trans rfl) rfl (by simp [Value.oneCell']) ?_))
   refine bodyPost_ret (resultsK (fn := Tryz.f56) (q := 2) (uy := 79) rfl _ _ (w.heap.size + 1) 79 #[.slice vp f.params.length vc, .int .i64 f.results] (0, 0) _ rfl (setRow_heap _ _ _ _ _ _ (Zaa HRR2)) Tryz.underlying79 rfl (Tryz.infSigK.trans rfl)) rfl ?_
   have hT := Zaa HS3
   refine ⟨_, rfl, Li.of_own (base := W.heap.size) (by rw [show ((sigE f).1).length = f.params.length by simp [sigE]]; exact own_keepK (Zaa HOW) (fun g hg => setRow_other _ _ _ _ (by omega))) (by simp [sigE]; omega), Zag ((Zaa HW1).trans ((Zaa HBW).mono (by omega))) (by omega), fun sb so n c e => by have h := ((Zaa HOW).lt sb (by rw [e]; rfl)).1; omega⟩
end Go.Proofs.YtffemeicclhioaaGreatDoor
namespace Go.Proofs.YtffemeicclhioaaGreatDoor
open Go.RowKit

theorem results_c2 {P : Program} {fn : Func} {p q : Tmp} {px : TypeId} (h : fn.results = #[.cell p px, .tmp q]) (tmps : Array Value) (w : World) (g : Nat) (t : TypeId) (cs : Array Value) (fr : Nat × Nat) (d : TypeDesc)
 (hp : tmps.getD p undef = .pointer (some ⟨g, 0, none⟩)) (hg : w.heap[g]? = some (.cells cs t fr)) (hu : P.underlying px = some d) (hd : (match d with | .struct _ | .array _ _ => true | _ => false) = true) (hi : (P.info? px).map (·.size) = some cs.size) :
 (results fn tmps).run P w = .ok (.tuple #[.agg cs, tmps.getD q undef]) w := by
 have e1 : tmps[p]?.getD undef = .pointer (some ⟨g, 0, none⟩) := by simpa using hp
 simp [results, h, e1, asAddr, run_loadVar_row w g t px cs fr d hg hu hd hi]
theorem rows3f (w : World) (X0 X1 X2 : Obj) : (((w.alloc X0).alloc X1).alloc X2).heap[w.heap.size]? = some X0 ∧ (((w.alloc X0).alloc X1).alloc X2).heap[w.heap.size + 1]? = some X1 ∧ (((w.alloc X0).alloc X1).alloc X2).heap[w.heap.size + 1 + 1]? = some X2 ∧ (((w.alloc X0).alloc X1).alloc X2).heap.size = w.heap.size + 1 + 1 + 1 ∧ Below w.heap.size w (((w.alloc X0).alloc X1).alloc X2) := by
 obtain ⟨r0, b0, s0⟩ := al0 w X0
 obtain ⟨r1, b1, s1⟩ := al0 (w.alloc X0) X1
 obtain ⟨r2, b2, s2⟩ := al0 ((w.alloc X0).alloc X1) X2
 rw [s0] at r1
 rw [s1, s0] at r2
 exact ⟨(b2.block _ (by omega)).trans ((b1.block _ (by omega)).trans r0), (b2.block _ (by omega)).trans r1, r2, by omega, Zad (Zad b0 b1 (by omega)) b2 (by omega)⟩
set_option maxHeartbeats 4000000 in
set_option maxRecDepth 100000 in
theorem callee_c (P : ProgE) (i : InsE) (fv ev av ov : Value) (A E : Nat → Array Value) (w : World) (hP : ProgC w fv ev P A E) (hf : i.op = 12 ∨ i.op = 17 → 0 ≤ i.f ∧ i.f < P.funcs.length) (he : i.op = 13 → 0 ≤ i.f ∧ i.f < P.externs.length) (hpl : ∀ k, (P.funcs.getD k Zaj).params.length ≤ 8796093022208) (hav : ∃ p n c, av = .slice p n c) (hov : ∃ p n c, ov = .slice p n c) :
 Calls Tryz.prog 65 #[.agg #[fv, ev], .agg #[.int .i64 i.op, .int .i64 i.d, .int .i64 i.a, .int .i64 i.bb, .int .u64 i.n, .int .i64 i.f, av, ov]] w fun e w' => ∃ lv, e = .returned (.tuple #[.agg #[lv, .int .i64 ((sigAt P i).getD ([], 0)).2], .bool (sigAt P i).isSome]) ∧ Li w' lv ((sigAt P i).getD ([], 0)).1 ∧ Below w.heap.size w w' := by
 obtain ⟨ap, an, ac, rfl⟩ := hav
 obtain ⟨op', on, oc, rfl⟩ := hov
 obtain ⟨r0, r1, r2, hZ, hB⟩ := rows3f w (.cells #[fv, ev] 29 (0, 0)) (.cells #[.int .i64 i.op, .int .i64 i.d, .int .i64 i.a, .int .i64 i.bb, .int .u64 i.n, .int .i64 i.f, .slice ap an ac, .slice op' on oc] 76 (0, 0)) (.cells #[.slice none 0 0, .int .i64 0] 79 (0, 0))
 obtain ⟨pf, cf, hfs, -, hlf, hcf⟩ := (hP.below hB).fs
 obtain ⟨pe, ce, hes, -, hle, hce⟩ := (hP.below hB).es
 subst hfs hes
 have hlf' : P.funcs.length < 9223372036854775808 := hlf
 have hle' : P.externs.length < 9223372036854775808 := hle
 have HR2 := Zac r2
 have HB := Zac hB
 have HCF := Zac hcf
 have HCE := Zac hce
 have HP := Zac (hP.below hB)
 have HPL := Zac hpl
 have HEW := Zac hP.eeach
 clear r0 r1 r2 hB hcf hce hP hpl hlf hle
 obtain ⟨iop, id_, ia, ib, iN, iF, iargs, iouts⟩ := i
 simp only at *
 by_cases h1 : iop = 12 ∨ iop = 17
 ·
  obtain ⟨k0, k1⟩ := hf h1
  obtain ⟨k, rfl⟩ := Int.eq_ofNat_of_zero_le k0
  have hk : k < P.funcs.length := by omega
  obtain ⟨sb, so, hpf, hsb, hc⟩ := Zaa HCF (by omega)
  subst hpf
  have hck := hc k hk
  obtain ⟨pv, hv, sv, bv, Bv, hA, hD⟩ := (Zaa HP).feach k hk
  rw [hA] at hck
  have c0 := hck 0 _ rfl
  have c1 := hck 1 _ rfl
  have c2 := hck 2 _ rfl
  have c3 := hck 3 _ rfl
  have c4 := hck 4 _ rfl
  rw [Nat.add_zero] at c0
  have HS := Zac (sigP2_c P.funcs[k] pv hv sv bv _ hD.ps (by have := Zaa HPL k; rw [show P.funcs.getD k Zaj = P.funcs[k] by simp [List.getD, hk]] at this; exact this))
  have HSG := Zac (show sigAt P ⟨iop, id_, ia, ib, iN, (k : Int), iargs, iouts⟩ = some (sigE P.funcs[k]) by rw [sigAt_call h1, Int.toNat_natCast, show P.funcs.getD k Zaj = P.funcs[k] by simp [List.getD, hk]])
  obtain ⟨qp, qc, hpv⟩ := hD.ps.shape
  obtain ⟨qh, ch, hhv⟩ := hD.hs.shape
  obtain ⟨qs, cs, hsv⟩ := hD.ss.shape
  obtain ⟨qb, cb, hbv⟩ := hD.bs.shape
  subst hpv hhv hsv hbv
  clear hck hA hD hc hf he HP HCF HCE HEW
  generalize P.funcs[k] = fn at HS HSG c0 c1 c2 c3 c4
  rcases h1 with rfl | rfl
  all_goals (
   go_enter Tryz.func65, Tryz.ntmps65
   go_wp2_with fail
   clear c0 c1 c2 c3 c4
   generalize World.alloc (World.alloc (World.alloc w _) _) _ = W at HS HB HR2 hZ ⊢
   refine (Zaa HS).mono ?_
   rintro e w2 ⟨lv, rfl, hli, hb2, hnew⟩
   obtain ⟨lp, lc, rfl⟩ := hli.shape
   have HLI := Zac hli
   have HNEW := Zac hnew
   have hz2 := hb2.size
   have HB2 := Zac (Zad (Zaa HB) hb2 (by omega))
   have HR22 := Zac ((hb2.block (w.heap.size + 1 + 1) (by omega)).trans (Zaa HR2))
   clear hli hb2 hnew
   go_wp2_with (refine wpList_store_row rfl 79 _ _ rfl (w.heap.size + 1 + 1) #[.slice lp (sigE fn).1.length lc, .int .i64 fn.results] rfl rfl 79 _ (Zaa HR22) (Tryz.infSigK.trans rfl) rfl (by simp [Value.oneCell']) ?_)
   refine bodyPost_ret (results_c2 (fn := Tryz.f65) (p := 4) (q := 5) (px := 79) rfl _ _ (w.heap.size + 1 + 1) 79 #[.slice lp (sigE fn).1.length lc, .int .i64 fn.results] (0, 0) _ rfl (setRow_heap _ _ _ _ _ _ (Zaa HR22)) Tryz.underlying79 rfl (Tryz.infSigK.trans rfl)) rfl ?_
   exact ⟨_, by rw [Zaa HSG]; rfl, by rw [Zaa HSG]; exact Li.setRow (Zaa HLI) (fun sb so n c e _ => by have := Zaa HNEW sb so n c e; omega), Zag (Zaa HB2) (by omega)⟩)
 ·
  by_cases h2 : iop = 13
  ·
   obtain ⟨k0, k1⟩ := he h2
   obtain ⟨k, rfl⟩ := Int.eq_ofNat_of_zero_le k0
   have hk : k < P.externs.length := by omega
   obtain ⟨sb, so, hpf, hsb, hc⟩ := Zaa HCE (by omega)
   subst hpf
   have hck := hc k hk
   obtain ⟨lv, hA, hL⟩ := Zaa HEW k hk
   rw [hA] at hck
   have c0 := hck 0 _ rfl
   have c1 := hck 1 _ rfl
   rw [Nat.add_zero] at c0
   have HSG := Zac (show sigAt P ⟨iop, id_, ia, ib, iN, (k : Int), iargs, iouts⟩ = some P.externs[k] by rw [sigAt_ext h2, Int.toNat_natCast, show P.externs.getD k ([], 0) = P.externs[k] by simp [List.getD, hk]])
   obtain ⟨lp, lc, rfl⟩ := hL.shape
   have HLI := Zac hL
   clear hck hA hL hc hf he HP HCF HCE HEW h1
   generalize P.externs[k] = sg at HLI HSG c0 c1
   subst h2
   go_enter Tryz.func65, Tryz.ntmps65
   go_wp2_with (refine wpList_store_row rfl 79 _ _ rfl (w.heap.size + 1 + 1) #[.slice lp sg.1.length lc, .int .i64 sg.2] rfl rfl 79 _ (Zaa HR2) (Tryz.infSigK.trans rfl) rfl (by simp [Value.oneCell']) ?_)
   refine bodyPost_ret (results_c2 (fn := Tryz.f65) (p := 4) (q := 5) (px := 79) rfl _ _ (w.heap.size + 1 + 1) 79 #[.slice lp sg.1.length lc, .int .i64 sg.2] (0, 0) _ rfl (setRow_heap _ _ _ _ _ _ (Zaa HR2)) Tryz.underlying79 rfl (Tryz.infSigK.trans rfl)) rfl ?_
   have hli := Zaa HLI
   exact ⟨_, by rw [Zaa HSG]; rfl, by rw [Zaa HSG]; exact Li.setRow (hli.below (Zaa HB)) (fun sb so n c e h0 => by
    obtain ⟨p', c', e1, -, -, h4⟩ := hli
    obtain ⟨sb', so', e2, hcc⟩ := h4 h0
    have hlt := World.block_lt_of_cell? w _ (hcc 0 h0)
    rw [e1, e2] at e
    injection e with e _ _
    injection e with e
    injection e with e _ _
    simp only at hlt
    omega), Zag (Zaa HB) (by omega)⟩
  ·
   have HSG := Zac (show sigAt P ⟨iop, id_, ia, ib, iN, iF, iargs, iouts⟩ = none from sigAt_no h1 h2)
   have z1 : (iop == 12) = false := by simp; omega
   have z2 : (iop == 17) = false := by simp; omega
   have z3 : (iop == 13) = false := by simp; omega
   clear hf he h1 h2 HP HCF HCE HEW
   go_enter Tryz.func65, Tryz.ntmps65
   go_wp2_with (refine wpList_store_row rfl 79 _ _ rfl (w.heap.size + 1 + 1) #[.slice none 0 0, .int .i64 0] rfl rfl 79 _ (Zaa HR2) (Tryz.infSigK.trans rfl) rfl (by simp [Value.oneCell']) ?_)
   refine bodyPost_ret (results_c2 (fn := Tryz.f65) (p := 4) (q := 5) (px := 79) rfl _ _ (w.heap.size + 1 + 1) 79 #[.slice none 0 0, .int .i64 0] (0, 0) _ rfl (setRow_heap _ _ _ _ _ _ (Zaa HR2)) Tryz.underlying79 rfl (Tryz.infSigK.trans rfl)) rfl ?_
   exact ⟨_, by rw [Zaa HSG]; rfl, by rw [Zaa HSG]; exact Li.nil _, Zag (Zaa HB) (by omega)⟩
end Go.Proofs.YtffemeicclhioaaGreatDoor
