/-
  Encodes: prologue.Encode and plain.Encode by their contracts. Own work of the verifier.
-/
import Derived.Test.YthnmdbddfmgdlaaDoorEncI
import Derived.Test.YthnmdbddfmgdlaaDoorFault
import Derived.Laws.CopyOwn
namespace Go.Proofs.YthnmdbddfmgdlaaDoor
open Go.RowKit

set_option maxRecDepth 100000 in
theorem pencode_c (p : ProgE) (fv ev : Value) (pf : List (Array Value × FuncE)) (pe : List (Array Value × (List Int × Int))) (w : World) (hg : NeedsAt w) (hb : 1 < w.heap.size) (hP : ProgV w w.heap.size p fv ev pf pe) :
    Calls Tryd.prog 12 #[.agg #[fv, ev]] w fun e w' => e = .returned (encRet (encOut p)) ∧ Below w.heap.size w w' := by
  have HG := hideE hg
  have HP := hideE hP
  obtain ⟨p0, c0', e0⟩ := hP.fls.shape
  obtain ⟨p2, c2', e2⟩ := hP.els.shape
  generalize hn0 : pf.length = n0 at e0
  generalize hn2 : pe.length = n2 at e2
  subst e0 e2
  clear hn0 hn2 hP hg
  go_enter Tryd.func12, Tryd.ntmps12
  go_wp2_with fail
  have hbl : Below w.heap.size w (w.alloc (.cells #[.slice p0 n0 c0', .slice p2 n2 c2'] 25)) := by go_grown
  have hsz : w.heap.size ≤ (w.alloc (.cells #[.slice p0 n0 c0', .slice p2 n2 c2'] 25)).heap.size := hbl.size
  refine (encode_c p _ _ pf pe _ ((unhideE HG).below hb hbl) (by omega) (((unhideE HP).ws (ws_below hbl (Nat.le_refl _))).mono hsz)).mono ?_
  rintro e w1 ⟨rfl, hb1⟩
  have HB := hideE (hbl.trans (⟨hb1.os, hb1.tape, hb1.output, hb1.size, fun q hq => hb1.block q (by omega)⟩ : Below w.heap.size _ w1))
  clear hbl hsz hb1
  cases ho : encOut p with
  | some bs =>
    unfold encRet
    simp only
    go_wp2
    go_returns
    exact ⟨by rw [ho]; rfl, unhideE HB⟩
  | none =>
    unfold encRet
    simp only
    go_wp2
    go_returns
    exact ⟨by rw [ho]; rfl, unhideE HB⟩
theorem results_tmp_row {P : Program} {fn : Func} {u q : Tmp} {uy : TypeId} (h : fn.results = #[.tmp u, .cell q uy]) (tmps : Array Value) (w : World) (g' : Nat) (t' : TypeId) (cs' : Array Value) (fr' : Nat × Nat) (d' : TypeDesc)
    (hp' : tmps.getD q undef = .pointer (some ⟨g', 0, none⟩)) (hg' : w.heap[g']? = some (.cells cs' t' fr')) (hu' : P.underlying uy = some d') (hd' : (match d' with | .struct _ | .array _ _ => true | _ => false) = true) (hi' : (P.info? uy).map (·.size) = some cs'.size) :
    (results fn tmps).run P w = .ok (.tuple #[tmps.getD u undef, .agg cs']) w := by
  have e2 : tmps[q]?.getD undef = .pointer (some ⟨g', 0, none⟩) := by simpa using hp'
  simp [results, h, e2, asAddr, run_loadVar_row w g' t' uy cs' fr' d' hg' hu' hd' hi']
theorem Tryd.infFlt : (Tryd.prog.info? 27).map (·.size) = some 4 := by kernel_rfl
def encFlt : Option (List UInt8) → Value
  | some bs => .tuple #[.string ⟨bs.toArray⟩, flt 0 (-1) (-1) (-1)]
  | none => .tuple #[.string ⟨#[]⟩, flt 4 (-1) (-1) (-1)]
set_option maxHeartbeats 1000000 in
set_option maxRecDepth 100000 in
theorem plencode_c (p : ProgE) (fv ev : Value) (pf : List (Array Value × FuncE)) (pe : List (Array Value × (List Int × Int))) (w : World) (hE : ErrTy w) (hg : NeedsAt w) (hb : 1 < w.heap.size) (hP : ProgV w w.heap.size p fv ev pf pe) :
    Calls Tryd.prog 5 #[.agg #[fv, ev]] w fun e w' => e = .returned (encFlt (encOut p)) ∧ Below w.heap.size w w' := by
  have HG := hideE hg
  have HP := hideE hP
  have HE := hideE hE
  obtain ⟨p0, c0', e0⟩ := hP.fls.shape
  obtain ⟨p2, c2', e2⟩ := hP.els.shape
  generalize hn0 : pf.length = n0 at e0
  generalize hn2 : pe.length = n2 at e2
  subst e0 e2
  clear hn0 hn2 hP hg hE
  go_enter Tryd.func5, Tryd.ntmps5
  go_wp2_with fail
  have hbl : Below w.heap.size w ((w.alloc (.cells #[.slice p0 n0 c0', .slice p2 n2 c2'] 25)).alloc (.cells #[.int .i64 0, .int .i64 0, .int .i64 0, .int .i64 0] 27)) := by go_grown
  have hsz := hbl.size
  have hrow : ((w.alloc (.cells #[.slice p0 n0 c0', .slice p2 n2 c2'] 25)).alloc (.cells #[.int .i64 0, .int .i64 0, .int .i64 0, .int .i64 0] 27)).heap[w.heap.size + 1]? = some (.cells #[.int .i64 0, .int .i64 0, .int .i64 0, .int .i64 0] 27 (0, 0)) := by
    have := heap_alloc_new (w.alloc (.cells #[.slice p0 n0 c0', .slice p2 n2 c2'] 25)) (.cells #[.int .i64 0, .int .i64 0, .int .i64 0, .int .i64 0] 27)
    simpa using this
  have hsz2 : w.heap.size + 1 < ((w.alloc (.cells #[.slice p0 n0 c0', .slice p2 n2 c2'] 25)).alloc (.cells #[.int .i64 0, .int .i64 0, .int .i64 0, .int .i64 0] 27)).heap.size := by simp
  have HPE := hideE (pencode_c p _ _ pf pe _ ((unhideE HG).below hb hbl) (by omega) (((unhideE HP).ws (ws_below hbl (Nat.le_refl _))).mono hsz))
  have hE0 : ErrTy _ := (unhideE HE).below hbl (by omega)
  generalize (w.alloc _).alloc _ = W0 at hbl hsz hrow hsz2 HPE hE0 ⊢
  refine (unhideE HPE).mono ?_
  rintro e w1 ⟨rfl, hb1⟩
  have hs1 := hb1.size
  have hrow1 := (hb1.block _ hsz2).trans hrow
  have hE1 := hE0.below hb1 (by omega)
  have HB1 := hideE (hbl.trans (⟨hb1.os, hb1.tape, hb1.output, hb1.size, fun q hq => hb1.block q (by omega)⟩ : Below w.heap.size W0 w1))
  clear hbl hb1 hrow HPE hE0
  cases ho : encOut p with
  | some bs =>
    have HFC := hideE (fault_nil w1)
    unfold encRet
    simp only
    go_wp2_with fail
    refine (unhideE HFC).mono ?_
    rintro e w2 ⟨rfl, hb2⟩
    have hrow2 := (hb2.block _ (by omega)).trans hrow1
    have hs2 := hb2.size
    have HB2 := hideE ((unhideE HB1).trans (⟨hb2.os, hb2.tape, hb2.output, hb2.size, fun q hq => hb2.block q (by omega)⟩ : Below w.heap.size w1 w2))
    have HROW := hideE hrow2
    clear hb2 hrow2 hrow1
    go_wp2_with (refine wpList_store_row rfl 27 (.tmp 3) (.tmp 13) rfl (w.heap.size + 1) #[.int .i64 0, .int .i64 (-1), .int .i64 (-1), .int .i64 (-1)] rfl rfl 27 _ (unhideE HROW) (Tryd.infFlt.trans rfl) rfl (by simp [Value.oneCell']) ?_)
    refine bodyPost_ret (results_tmp_row (fn := Tryd.f5) (u := 2) (q := 3) (uy := 27) rfl _ _ (w.heap.size + 1) 27 #[.int .i64 0, .int .i64 (-1), .int .i64 (-1), .int .i64 (-1)] (0, 0) _ rfl (setRow_heap _ _ _ _ _ _ (unhideE HROW)) Tryd.underlying27 rfl (Tryd.infFlt.trans rfl)) rfl ?_
    exact ⟨by rw [ho]; rfl, below_setRow (unhideE HB2) (by omega) _⟩
  | none =>
    have HFC := hideE (fault_errno 4 w1 hE1)
    unfold encRet
    simp only
    go_wp2_with fail
    refine (unhideE HFC).mono ?_
    rintro e w2 ⟨rfl, hb2⟩
    have hrow2 := (hb2.block _ (by omega)).trans hrow1
    have hs2 := hb2.size
    have HB2 := hideE ((unhideE HB1).trans (⟨hb2.os, hb2.tape, hb2.output, hb2.size, fun q hq => hb2.block q (by omega)⟩ : Below w.heap.size w1 w2))
    have HROW := hideE hrow2
    clear hb2 hrow2 hrow1
    go_wp2_with (refine wpList_store_row rfl 27 (.tmp 3) (.tmp 13) rfl (w.heap.size + 1) #[.int .i64 4, .int .i64 (-1), .int .i64 (-1), .int .i64 (-1)] rfl rfl 27 _ (unhideE HROW) (Tryd.infFlt.trans rfl) rfl (by simp [Value.oneCell']) ?_)
    refine bodyPost_ret (results_tmp_row (fn := Tryd.f5) (u := 2) (q := 3) (uy := 27) rfl _ _ (w.heap.size + 1) 27 #[.int .i64 4, .int .i64 (-1), .int .i64 (-1), .int .i64 (-1)] (0, 0) _ rfl (setRow_heap _ _ _ _ _ _ (unhideE HROW)) Tryd.underlying27 rfl (Tryd.infFlt.trans rfl)) rfl ?_
    exact ⟨by rw [ho]; rfl, below_setRow (unhideE HB2) (by omega) _⟩
end Go.Proofs.YthnmdbddfmgdlaaDoor
