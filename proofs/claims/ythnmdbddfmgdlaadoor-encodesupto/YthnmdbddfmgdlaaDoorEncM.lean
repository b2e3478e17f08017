/-
  Encodes: the walk of prologuelaw.Encodes. Own work of the verifier.
-/
import Derived.Test.YthnmdbddfmgdlaaDoorEncZd
namespace Go.Proofs.YthnmdbddfmgdlaaDoor
open Go.RowKit

set_option maxHeartbeats 1000000 in
theorem agrees_sameE (e f b a : Int) (w : World) : Calls Tryd.prog 7 #[flt e f b a, flt e f b a] w fun x w' => x = .returned (.bool true) ∧ Below w.heap.size w w' := by
  unfold flt
  go_enter Tryd.func7, Tryd.ntmps7
  go_wp2
  go_ret
  exact ⟨rfl, by go_grown⟩
def outS (o : Option (List UInt8)) : ByteArray := ⟨(o.getD []).toArray⟩
def outE (o : Option (List UInt8)) : Int := if o.isSome then 0 else 4
theorem encFlt_eq (o : Option (List UInt8)) : encFlt o = .tuple #[.string (outS o), .agg #[.int .i64 (outE o), .int .i64 (-1), .int .i64 (-1), .int .i64 (-1)]] := by cases o <;> rfl
theorem refRet_eq (o : Option (List UInt8)) : refRet o = .tuple #[.string (outS o), .agg #[.int .i64 (outE o), .int .i64 (-1), .int .i64 (-1), .int .i64 (-1)]] := by cases o <;> rfl
theorem al1 (w : World) (X : Obj) : (w.alloc X).heap[w.heap.size]? = some X ∧ Below w.heap.size w (w.alloc X) ∧ (w.alloc X).heap.size = w.heap.size + 1 :=
  ⟨heap_alloc_new w _, (Below.refl w.heap.size w).alloc (Nat.le_refl _) _, by simp⟩
set_option maxHeartbeats 4000000 in
set_option maxRecDepth 100000 in
theorem encodes_walk (p : ProgE) (fv ev : Value) (pf : List (Array Value × FuncE)) (pe : List (Array Value × (List Int × Int))) (w : World) (hE : ErrTy w) (hg : NeedsAt w) (hb : 1 < w.heap.size) (hP : ProgV w w.heap.size p fv ev pf pe) (hnum : NumOk p) (hl : (penProg p).1.length < 9223372036854775807) :
    Calls Tryd.prog 3 #[.agg #[fv, ev]] w fun e w' => e = .returned (.bool true) ∧ Below w.heap.size w w' := by
  have HPL := hideE (fun V h1 h2 h3 h4 => plencode_c p fv ev pf pe V h1 h2 h3 h4)
  have HRF := hideE (fun V h4 => rencode_c p fv ev pf pe V h4 hnum hl)
  have HP := hideE hP
  have HG := hideE hg
  have HE := hideE hE
  obtain ⟨p0, c0', e0⟩ := hP.fls.shape
  obtain ⟨p2, c2', e2⟩ := hP.els.shape
  generalize pf.length = n0 at e0
  generalize pe.length = n2 at e2
  subst e0 e2
  clear hP hg hE hnum hl
  rw [encFlt_eq] at HPL
  rw [refRet_eq] at HRF
  generalize outS (encOut p) = os at HPL HRF
  generalize outE (encOut p) = oe at HPL HRF
  go_enter Tryd.func3, Tryd.ntmps3
  go_wp2_with fail
  have hx := al1 w (.cells #[.slice p0 n0 c0', .slice p2 n2 c2'] 25 (0, 0))
  generalize World.alloc w _ = W at hx ⊢
  obtain ⟨hr0, hbW, hsW⟩ := hx
  refine (unhideE HPL W ((unhideE HE).below hbW (by omega)) ((unhideE HG).below hb hbW) (by omega) (((unhideE HP).same (fun k hk => hbW.block k hk)).mono (by omega))).mono ?_
  rintro e w1 ⟨rfl, hb1⟩
  have hs1 := hb1.size
  have hx1 := al1 w1 (.cells #[.int .i64 oe, .int .i64 (-1), .int .i64 (-1), .int .i64 (-1)] 27 (0, 0))
  have hr1 := (hx1.2.1.block w.heap.size (by omega)).trans ((hb1.block w.heap.size (by omega)).trans hr0)
  have c0 := (cells_of_row hr1 0).trans rfl
  have c1 := (cells_of_row hr1 1).trans rfl
  have HX1 := hideE hx1
  have HB1 := hideE (hbW.trans (⟨hb1.os, hb1.tape, hb1.output, hb1.size, fun q hq => hb1.block q (by omega)⟩ : Below w.heap.size W w1))
  clear hx1 hr1 hbW hr0 hb1 HPL
  go_wp2_with fail
  clear c0 c1
  have hx1 := unhideE HX1
  generalize World.alloc w1 _ = W1 at hx1 ⊢
  obtain ⟨hf1, hbW1, hsW1⟩ := hx1
  have hbA : Below w.heap.size w W1 := (unhideE HB1).trans ⟨hbW1.os, hbW1.tape, hbW1.output, hbW1.size, fun q hq => hbW1.block q (by omega)⟩
  refine (unhideE HRF W1 (((unhideE HP).same (fun k hk => hbA.block k hk)).mono (by omega))).mono ?_
  rintro e w2 ⟨rfl, hb2⟩
  have hs2 := hb2.size
  have hx2 := al1 w2 (.cells #[.int .i64 oe, .int .i64 (-1), .int .i64 (-1), .int .i64 (-1)] 30 (0, 0))
  have hf2 := (hx2.2.1.block w1.heap.size (by omega)).trans ((hb2.block w1.heap.size (by omega)).trans hf1)
  have f0 := (cells_of_row hf2 0).trans rfl
  have f1 := (cells_of_row hf2 1).trans rfl
  have f2 := (cells_of_row hf2 2).trans rfl
  have f3 := (cells_of_row hf2 3).trans rfl
  have HX2 := hideE hx2
  have HB2 := hideE (hbA.trans (⟨hb2.os, hb2.tape, hb2.output, hb2.size, fun q hq => hb2.block q (by omega)⟩ : Below w.heap.size W1 w2))
  clear hx2 hf2 hf1 hbW1 hbA hb2 HRF HP HG HE HB1 HX1
  go_wp2_with fail
  clear f0 f1 f2 f3
  have hx2 := unhideE HX2
  generalize World.alloc w2 _ = W2 at hx2 ⊢
  obtain ⟨-, hbW2, hsW2⟩ := hx2
  refine (agrees_sameE oe (-1) (-1) (-1) W2).mono ?_
  rintro e w3 ⟨rfl, hb3⟩
  have HB3 := hideE ((unhideE HB2).trans ((⟨hbW2.os, hbW2.tape, hbW2.output, hbW2.size, fun q hq => hbW2.block q (by omega)⟩ : Below w.heap.size w2 W2).trans ⟨hb3.os, hb3.tape, hb3.output, hb3.size, fun q hq => hb3.block q (by omega)⟩))
  clear hb3 hbW2 HX2 HB2
  go_wp2
  go_ret
  exact ⟨rfl, unhideE HB3⟩
end Go.Proofs.YthnmdbddfmgdlaaDoor
