/-
  Encodes: the program by its contract. Own work of the verifier.
-/
import Derived.Test.YthnmdbddfmgdlaaDoorEncG
namespace Go.Proofs.YthnmdbddfmgdlaaDoor
open Go.RowKit

def SigAt (w : World) (b : Nat) (p : Array Value × (List Int × Int)) : Prop := ∃ lv, p.1 = #[lv, .int .i64 p.2.2] ∧ RsB w b lv p.2.1 ∧ p.2.1.length < short
theorem SigAt.ws {w w' : World} {b : Nat} {p : Array Value × (List Int × Int)} (h : SigAt w b p) (hw : Ws w w' b) : SigAt w' b p := by
  obtain ⟨lv, h1, h2, h3⟩ := h
  exact ⟨lv, h1, h2.ws hw, h3⟩
theorem SigAt.size {w : World} {b : Nat} {p : Array Value × (List Int × Int)} (h : SigAt w b p) : p.1.size = 2 ∧ p.1.all (·.oneCell') = true := by
  obtain ⟨lv, h1, h2, h3⟩ := h
  obtain ⟨q, c, e⟩ := h2.shape
  rw [h1, e]
  exact ⟨rfl, by simp [Value.oneCell']⟩
def FuncAt (w : World) (b : Nat) (p : Array Value × FuncE) : Prop := ∃ pv hv sv bv pp pb, p.1 = #[pv, .int .i64 p.2.results, hv, sv, bv] ∧ FuncV w b p.2 pv hv sv bv pp pb
theorem FuncAt.ws {w w' : World} {b : Nat} {p : Array Value × FuncE} (h : FuncAt w b p) (hw : Ws w w' b) : FuncAt w' b p := by
  obtain ⟨pv, hv, sv, bv, pp, pb, h1, h2⟩ := h
  exact ⟨pv, hv, sv, bv, pp, pb, h1, h2.ws hw⟩
theorem FuncAt.size {w : World} {b : Nat} {p : Array Value × FuncE} (h : FuncAt w b p) : p.1.size = 5 ∧ p.1.all (·.oneCell') = true := by
  obtain ⟨pv, hv, sv, bv, pp, pb, h1, h2⟩ := h
  obtain ⟨q, c, e⟩ := h2.pls.shape
  obtain ⟨q2, c2, e2⟩ := h2.hls.shape
  obtain ⟨q3, c3, e3⟩ := h2.sls.shape
  obtain ⟨q4, c4, e4⟩ := h2.bls.shape
  rw [h1, e, e2, e3, e4]
  exact ⟨rfl, by simp [Value.oneCell']⟩
structure ProgE where
  funcs : List FuncE
  externs : List (List Int × Int)
def encProg (p : ProgE) : Option (List UInt8) := seqE (some [70, 49]) (seqE (encL 0 4 encSig p.externs) (encL 1 8 encFunc p.funcs))
theorem encProg_len (p : ProgE) (bs : List UInt8) (h : encProg p = some bs) : bs.length ≤ 200000 := by
  unfold encProg at h
  have := seqE_len (A := 2) (fun x hx => by cases hx; simp) (fun x h => seqE_len (fun x hr => encL_len encSig 1000 encSig_len 0 4 _ _ hr) (fun x hr => encL_len encFunc 20000 encFunc_len 1 8 _ _ hr) h) h
  omega
structure ProgV (w : World) (b : Nat) (p : ProgE) (fv ev : Value) (pf : List (Array Value × FuncE)) (pe : List (Array Value × (List Int × Int))) : Prop where
  fls : LsB 5 w b fv pf
  els : LsB 2 w b ev pe
  funcs : pf.map (·.2) = p.funcs
  externs : pe.map (·.2) = p.externs
  feach : ∀ q ∈ pf, FuncAt w b q
  eeach : ∀ q ∈ pe, SigAt w b q
  lens : pf.length < short ∧ pe.length < short
theorem ProgV.ws {w w' : World} {b : Nat} {p : ProgE} {fv ev : Value} {pf : List (Array Value × FuncE)} {pe : List (Array Value × (List Int × Int))} (h : ProgV w b p fv ev pf pe) (hw : Ws w w' b) : ProgV w' b p fv ev pf pe :=
  ⟨h.fls.ws hw, h.els.ws hw, h.funcs, h.externs, fun q hq => (h.feach q hq).ws hw, fun q hq => (h.eeach q hq).ws hw, h.lens⟩
theorem row_high {t : TypeId} {T : Nat} {arr : Array Value} {w w' : World} {b : Nat} {n B : Nat} {v : Value} {xs : List Value} (hr : w.heap[T]? = some (.cells arr t (0, 0))) (ht : t ≠ 5) (h : w.ownsRow B 5 1 v n xs) (hg : w.grownBy w' v.ownBlock) (hb : b < T) : w'.heap[T]? = some (.cells arr t (0, 0)) :=
  oth_of_row (b := b) h hg T _ hr (by intro e; injection e with e; omega) (by intro c fz e; injection e with e1 e2 e3; exact ht e2)
theorem ws_own {wY w2 : World} {b n : Nat} {v' : Value} {xs : List Value} (hr : wY.ownsRow (b + 1) 5 1 v' n xs) (hg : wY.grownBy w2 v'.ownBlock) (hb : b < wY.heap.size) (u : Value) : Ws wY (w2.setCell ⟨b, 0, none⟩ u) b :=
  ⟨(⟨hg.os, hg.tape, hg.output, hg.size, fun q hq => hg.block q (by omega) (by intro e; have := (hr.lt q e.symm).1; omega)⟩ : Below b wY w2).trans (below_set w2 b 0 u), (oth_of_row hr hg).trans (oth_set w2 b 0 u)⟩
theorem own_block {wY w2 : World} {b n : Nat} {v' : Value} {xs : List Value} (hr : wY.ownsRow (b + 1) 5 1 v' n xs) (hg : wY.grownBy w2 v'.ownBlock) (hb : b < wY.heap.size) : w2.heap[b]? = wY.heap[b]? :=
  hg.block b hb (by intro e; have := (hr.lt b e.symm).1; omega)
theorem wt_own {w2 : World} {b n : Nat} {v' u : Value} {l ys : List UInt8} (hc : w2.cell? ⟨b, 0, none⟩ = some v') (hf : w2.frozen? ⟨b, 0, none⟩ = false) (hown : w2.ownsRow (b + 1) 5 1 u n (bCells l ++ bCells ys)) (hn : n = (l ++ ys).length) : Wt (w2.setCell ⟨b, 0, none⟩ u) b u (l ++ ys) := by
  refine ⟨World.cell?_setCell_same _ _ _ hc, by rw [World.frozen?_setCell]; exact hf, ?_⟩
  have h1 := ownsRow_setCell_below hown (a := ⟨b, 0, none⟩) (show b < b + 1 by omega) u
  rw [show bCells (l ++ ys) = bCells l ++ bCells ys by simp [bCells], ← hn]
  exact h1
set_option maxHeartbeats 8000000 in
set_option maxRecDepth 100000 in
theorem program_c (b : Nat) (hb1 : 1 < b) (v0 : Value) (l0 : List UInt8) (p : ProgE) (fv ev : Value) (pf : List (Array Value × FuncE)) (pe : List (Array Value × (List Int × Int))) (w : World) (h : Wt w b v0 l0) (hl : l0.length ≤ 80000000000) (hg : NeedsAt w) (hP : ProgV w b p fv ev pf pe) :
    Calls Tryd.prog 36 #[.pointer (some ⟨b, 0, none⟩), .agg #[fv, ev]] w (EncE b l0 (encProg p) w) := by
  obtain ⟨ti, hti, hz0, hz1, hz2⟩ := info_partsE Tryd.infoU
  have HV := hideE hP
  have HG := hideE hg
  obtain ⟨p0, c0', e0⟩ := hP.fls.shape
  obtain ⟨p2, c2', e2⟩ := hP.els.shape
  generalize hn0 : pf.length = n0 at e0
  generalize hn2 : pe.length = n2 at e2
  subst e0 e2
  clear hn0 hn2
  have hbl := h.lt
  have HST := hideE (show RowSt 25 w (w.alloc (.cells #[.slice p0 n0 c0', .slice p2 n2 c2'] 25)) b w.heap.size _ v0 l0 from ⟨ws_alloc w _ b (by omega), h.alloc _, heap_alloc_new w _⟩)
  have cc := (unhideE HST).wt.cell
  have cf := (unhideE HST).wt.fz
  clear hP hg h
  go_enter Tryd.func36, Tryd.ntmps36
  go_wp2_with (at_builtin; refine wpList_append_own _ rfl _ _ 91 rfl (b + 1) 5 ti _ 1 1 Tryd.underlying91 hti hz0 hz1 hz2 rfl (by decide) _ _ _ rfl ((unhideE HST).wt.row.alloc _) ⟨w.heap.size + 1, 0, none⟩ 2 2 [.int .u8 70, .int .u8 49] rfl rfl (by intro j u hj; match j, hj with | 0, hj => (simp at hj; subst hj; exact (World.cell?_alloc_at _ _ _ _ (by simp)).trans rfl) | 1, hj => (simp at hj; subst hj; exact (World.cell?_alloc_at _ _ _ _ (by simp)).trans rfl)) (by intro u hu; simp at hu; rcases hu with rfl | rfl <;> rfl) ?c3 ?c4 ?c5 ?_)
  case c3 => unfold maxLen; omega
  case c4 => omega
  case c5 => first | omega | (simp; omega)
  intro v' w7 hown hgr _
  obtain ⟨g2, cap2, rfl⟩ := ownU_form (n := l0.length + 1) hown
  have st1 := (unhideE HST).step (by decide) hbl (ws_alloc _ (.cells #[.int .u8 70, .int .u8 49] 5) b (Nat.le_of_lt (unhideE HST).wt.lt)) ((unhideE HST).wt.alloc _)
  have hblk := own_block st1.wt.row hgr st1.wt.lt
  have cu : w7.cell? ⟨b, 0, none⟩ = some v0 := (World.cell?_of_block hblk).trans st1.wt.cell
  have cg : w7.frozen? ⟨b, 0, none⟩ = false := (World.frozen?_of_block (a := ⟨b, 0, none⟩) hblk).trans st1.wt.fz
  have st := st1.step (by decide) hbl (ws_own st1.wt.row hgr st1.wt.lt (.slice (some ⟨g2, 0, none⟩) (l0.length + 2) cap2)) (wt_own (ys := [70, 49]) cu cg hown (by simp))
  have c1 := st.cells 1 (.slice p2 n2 c2') rfl
  obtain ⟨l1, hl1⟩ : ∃ x, x = l0 ++ [70, 49] := ⟨_, rfl⟩
  have hn1 : l1.length ≤ l0.length + 2 := by rw [hl1]; simp
  rw [← hl1] at st
  have HL1 := hideE hl1
  have ST := hideE st
  clear st st1 hblk hown hgr HST hl1 cc cf
  go_wp2_with fail
  generalize w7.setCell _ _ = w1 at ST c1 ⊢
  generalize Value.slice (some ⟨g2, 0, none⟩) (l0.length + 2) cap2 = v1 at ST ⊢
  have st := unhideE ST
  have HM := hideE (writeSigs_c 47 (fun _ _ => rfl) encSig 1000 encSig_len (by omega) b 81000000000 (by omega) pe w1 (fun p hp => ((unhideE HV).eeach p hp).size) (fun p hp v l w' hws hw hl => by obtain ⟨lv, h1, h2, h3⟩ := (((unhideE HV).eeach p hp).ws st.ws).ws hws; rw [h1]; exact sig_c b v l lv p.2.1 p.2.2 w' hw (by omega) h2 h3) 0 4 (by omega) v1 l1 _ st.wt (by omega) ((unhideE HV).ws st.ws).els (unhideE HV).lens.2)
  rw [(unhideE HV).externs] at HM
  clear st
  refine (unhideE HM).mono ?_
  rintro e w2 ⟨hws, hm⟩
  cases hr : encL 0 4 encSig p.externs with
  | none =>
    rw [hr] at hm
    subst hm
    refine ⟨rfl, (unhideE ST).ws.trans hws, ?_⟩
    unfold encProg
    rw [hr]
    rfl
  | some bs2 =>
    rw [hr] at hm
    obtain ⟨rfl, v2, hw⟩ := hm
    have hbs : bs2.length ≤ 4001 := encL_len encSig 1000 encSig_len 0 4 _ _ hr
    have st := (unhideE ST).step (by decide) hbl hws hw
    have HR2 := hideE hr
    obtain ⟨l2, hlk⟩ : ∃ x, x = l1 ++ bs2 := ⟨_, rfl⟩
    have hn2 : l2.length ≤ l1.length + 4001 := by rw [hlk]; simp; omega
    rw [← hlk] at st
    have HL2 := hideE hlk
    clear hws hw hr hlk hbs ST HM c1
    have ST := hideE st
    clear st
    have st := unhideE ST
    have c0 := st.cells 0 (.slice p0 n0 c0') rfl
    have HM := hideE (writeFuncs_c 49 (fun _ _ => rfl) encFunc 20000 encFunc_len (by omega) b 81000000000 (by omega) pf w2 (fun p hp => ((unhideE HV).feach p hp).size) (fun p hp v l w' hws hw hl => by obtain ⟨pv, hv, sv, bv, pp, pb, h1, h2⟩ := (((unhideE HV).feach p hp).ws st.ws).ws hws; rw [h1]; exact function_c b hb1 v l p.2 pv hv sv bv pp pb w' hw (by omega) (((unhideE HG).ws hb1 st.ws).ws hb1 hws) h2) 1 8 (by omega) v2 l2 _ st.wt (by omega) ((unhideE HV).ws st.ws).fls (unhideE HV).lens.1)
    rw [(unhideE HV).funcs] at HM
    clear st
    go_wp2_with fail
    refine (unhideE HM).mono ?_
    rintro e w3 ⟨hws, hm⟩
    cases hr : encL 1 8 encFunc p.funcs with
    | none =>
      rw [hr] at hm
      subst hm
      refine ⟨rfl, (unhideE ST).ws.trans hws, ?_⟩
      unfold encProg
      rw [unhideE HR2, hr]
      rfl
    | some bs3 =>
      rw [hr] at hm
      obtain ⟨rfl, v3, hw⟩ := hm
      have hbs : bs3.length ≤ 160001 := encL_len encFunc 20000 encFunc_len 1 8 _ _ hr
      have st := (unhideE ST).step (by decide) hbl hws hw
      have HR3 := hideE hr
      obtain ⟨l3, hlk⟩ : ∃ x, x = l2 ++ bs3 := ⟨_, rfl⟩
      have hn3 : l3.length ≤ l2.length + 160001 := by rw [hlk]; simp; omega
      rw [← hlk] at st
      have HL3 := hideE hlk
      clear hws hw hr hlk hbs ST HM c0
      have ST := hideE st
      clear st
      go_wp2
      refine bodyPost_end (results_none (fn := Tryd.f36) rfl _ _ _) rfl ?_
      refine ⟨(unhideE ST).ws, ?_⟩
      have hx2 : encProg p = some ([70, 49] ++ (bs2 ++ bs3)) := by unfold encProg; rw [unhideE HR2, unhideE HR3]; rfl
      rw [hx2]
      refine ⟨rfl, v3, ?_⟩
      have hw := (unhideE ST).wt
      rw [unhideE HL3, unhideE HL2, unhideE HL1] at hw
      simpa using hw
end Go.Proofs.YthnmdbddfmgdlaaDoor
