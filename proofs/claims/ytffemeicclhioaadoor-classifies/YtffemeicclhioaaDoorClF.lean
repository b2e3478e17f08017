/-
  Layouts of calls: lemmas of the reference's layout. Own work of the verifier.
-/
import Derived.Test.YtffemeicclhioaaDoorClE
import Derived.Deep.RegionLaw
import Derived.WalkSmall
namespace Go.Proofs.YtffemeicclhioaaDoor
open Go.RowKit

theorem rows4 (w : World) (X0 X1 X2 X3 : Obj) : ((((w.alloc X0).alloc X1).alloc X2).alloc X3).heap[w.heap.size]? = some X0 ∧ ((((w.alloc X0).alloc X1).alloc X2).alloc X3).heap[w.heap.size + 1]? = some X1 ∧ ((((w.alloc X0).alloc X1).alloc X2).alloc X3).heap[w.heap.size + 1 + 1]? = some X2 ∧ ((((w.alloc X0).alloc X1).alloc X2).alloc X3).heap[w.heap.size + 1 + 1 + 1]? = some X3 ∧ ((((w.alloc X0).alloc X1).alloc X2).alloc X3).heap.size = w.heap.size + 1 + 1 + 1 + 1 := by
  obtain ⟨r0, b0, s0⟩ := al0 w X0
  obtain ⟨r1, b1, s1⟩ := al0 (w.alloc X0) X1
  obtain ⟨r2, b2, s2⟩ := al0 ((w.alloc X0).alloc X1) X2
  obtain ⟨r3, b3, s3⟩ := al0 (((w.alloc X0).alloc X1).alloc X2) X3
  rw [s0] at r1
  rw [s1, s0] at r2
  rw [s2, s1, s0] at r3
  exact ⟨(b3.block _ (by omega)).trans ((b2.block _ (by omega)).trans ((b1.block _ (by omega)).trans r0)), (b3.block _ (by omega)).trans ((b2.block _ (by omega)).trans r1), (b3.block _ (by omega)).trans r2, r3, by omega⟩
/-- How far prologueref.Layout is: k parameters. -/
structure RlI (W : World) (b0 : Nat) (T : TbE) (ps : List Int) (k : Nat) (av : Value) (pvs : List Value) (w : World) : Prop where
  low : Below (b0 + 3) W w
  row : w.heap[b0 + 3]? = some (.cells #[av, .slice none 0 0, .int .i64 0, .int .i64 (stA T.ag.length T.br T.pairs ps T.sh k).p] 33 (0, 0))
  len : pvs.length = k
  own : w.ownsRow (b0 + 4) 60 3 av k (spsC pvs ((List.range k).map (sptA T.ag T.br T.pairs ps T.sh)))
  each : ∀ j, j < k → PlO w (b0 + 4) (pvs.getD j undef) (sptA T.ag T.br T.pairs ps T.sh j).pl
/-- A parameter's round: its spot's row stands at Ta, with so many places. -/
structure RlJ (wr : World) (b0 Ta : Nat) (av pv : Value) (ref : Bool) (at_ p : Int) (xs : List (Int × Int)) (w : World) : Prop where
  os : w.os = wr.os
  tape : w.tape = wr.tape
  output : w.output = wr.output
  size : Ta < w.heap.size
  oth : ∀ q, q < Ta → q ≠ b0 + 3 → w.heap[q]? = wr.heap[q]?
  lrow : w.heap[b0 + 3]? = some (.cells #[av, .slice none 0 0, .int .i64 0, .int .i64 p] 33 (0, 0))
  arow : w.heap[Ta]? = some (.cells #[pv, .bool ref, .int .i64 at_] 60 (0, 0))
  pl : PlO w (Ta + 1) pv xs
theorem RlJ.first {wr : World} {b0 : Nat} {av : Value} {ref : Bool} {p : Int} (h : wr.heap[b0 + 3]? = some (.cells #[av, .slice none 0 0, .int .i64 0, .int .i64 p] 33 (0, 0))) : RlJ wr b0 wr.heap.size av (.slice none 0 0) ref 0 p [] (wr.alloc (.cells #[.slice none 0 0, .bool ref, .int .i64 0] 60 (0, 0))) := by
  have ha := al0 wr (.cells #[.slice none 0 0, .bool ref, .int .i64 0] 60 (0, 0))
  exact ⟨rfl, rfl, rfl, by rw [ha.2.2]; omega, fun q hq _ => ha.2.1.block q hq, (ha.2.1.block _ (row_lt h)).trans h, ha.1, World.ownsRow_nil _ _ _ _⟩
theorem RlJ.refd {wr : World} {b0 : Nat} {av : Value} {ref : Bool} {p a2 p2 : Int} (h : wr.heap[b0 + 3]? = some (.cells #[av, .slice none 0 0, .int .i64 0, .int .i64 p] 33 (0, 0))) : RlJ wr b0 wr.heap.size av (.slice none 0 0) ref a2 p2 [] ((wr.setCell ⟨b0 + 3, 3, none⟩ (.int .i64 p2)).alloc (.cells #[.slice none 0 0, .bool ref, .int .i64 a2] 60 (0, 0))) := by
  have ha := al0 (wr.setCell ⟨b0 + 3, 3, none⟩ (.int .i64 p2)) (.cells #[.slice none 0 0, .bool ref, .int .i64 a2] 60 (0, 0))
  have hs : (wr.setCell ⟨b0 + 3, 3, none⟩ (.int .i64 p2)).heap.size = wr.heap.size := by simp
  have hl := row_lt h
  refine ⟨rfl, rfl, rfl, by rw [ha.2.2]; omega, fun q hq hne => (ha.2.1.block q (by omega)).trans (heap_setCell_other _ _ _ _ hne), (ha.2.1.block _ (by omega)).trans (heap_setCell_same _ _ 3 _ _ _ h), ?_, World.ownsRow_nil _ _ _ _⟩
  have h1 := ha.1
  rw [hs] at h1
  exact h1
theorem RlJ.next {wr w w7 : World} {b0 Ta : Nat} {av pv v7 : Value} {ref : Bool} {at_ p x y : Int} {xs : List (Int × Int)} (h : RlJ wr b0 Ta av pv ref at_ p xs w) (hb : b0 + 3 < Ta) (hgr : (w.alloc (.cells #[.int .i64 x, .int .i64 y] 62 (0, 0))).grownBy w7 pv.ownBlock) (hown : w7.ownsRow (Ta + 1) 62 2 v7 (xs.length + 1) (plC xs ++ [.int .i64 x, .int .i64 y])) :
    RlJ wr b0 Ta av v7 ref at_ p (xs ++ [(x, y)]) (w7.setCell ⟨Ta, 0, none⟩ v7) := by
  have ha := al0 w (.cells #[.int .i64 x, .int .i64 y] 62 (0, 0))
  have hz7 := hgr.size
  have hz := h.size
  have hne : ∀ q, q ≤ Ta → some q ≠ pv.ownBlock := fun q hq e => by have := (World.ownsRow.lt h.pl q e.symm).1; omega
  have hblk : ∀ q, q ≤ Ta → w7.heap[q]? = w.heap[q]? := fun q hq => (hgr.block q (by rw [ha.2.2]; omega) (hne q hq)).trans (ha.2.1.block q (by omega))
  refine ⟨hgr.os.trans (ha.2.1.os.trans h.os), hgr.tape.trans (ha.2.1.tape.trans h.tape), hgr.output.trans (ha.2.1.output.trans h.output), ?_, fun q h1 h2 => (heap_setCell_other _ _ _ _ (by show q ≠ Ta; omega)).trans ((hblk q (by omega)).trans (h.oth q h1 h2)), (heap_setCell_other _ _ _ _ (by show b0 + 3 ≠ Ta; omega)).trans ((hblk _ (by omega)).trans h.lrow), heap_setCell_same _ _ 0 _ _ _ ((hblk Ta (Nat.le_refl _)).trans h.arow), ?_⟩
  · have e : (w7.setCell ⟨Ta, 0, none⟩ v7).heap.size = w7.heap.size := by simp
    omega
  · unfold PlO
    rw [plC_snoc, show (xs ++ [(x, y)]).length = xs.length + 1 by simp]
    exact ownsRow_setCell_below hown (a := ⟨Ta, 0, none⟩) (by show Ta < Ta + 1; omega) v7
theorem gb_undrew {w w' : World} {o : Option Nat} (h : w.drew.grownBy w' o) : w.grownBy w' o := ⟨h.os, h.tape, h.output, h.size, h.block⟩
theorem own_rlj {w0 w : World} {b0 Ta : Nat} {av pv : Value} {ref : Bool} {at_ p : Int} {xs : List (Int × Int)} (h : RlJ w0 b0 Ta av pv ref at_ p xs w) (hT : Ta = w0.heap.size) {B n size : Nat} {e : TypeId} {v : Value} {ys : List Value} (ho : w0.ownsRow B e size v n ys) (hB : b0 + 4 ≤ B) : w.ownsRow B e size v n ys := by
  obtain ⟨h1, h2 | ⟨g, cap, cur, e1, e2, e3, e4⟩⟩ := ho
  · exact ⟨h1, Or.inl h2⟩
  · exact ⟨h1, Or.inr ⟨g, cap, cur, e1, e2, (h.oth g (by rw [hT]; exact row_lt e3) (by omega)).trans e3, e4⟩⟩
theorem RlI.next {W w0 w w7 : World} {b0 Ta k : Nat} {T : TbE} {ps : List Int} {av pv v7 : Value} {pvs : List Value} {ref : Bool} {at_ p : Int} {xs : List (Int × Int)} (hI : RlI W b0 T ps k av pvs w0) (hJ : RlJ w0 b0 Ta av pv ref at_ p xs w) (hT : Ta = w0.heap.size) (hz : b0 + 4 ≤ Ta) (hsp : sptA T.ag T.br T.pairs ps T.sh k = ⟨xs, ref, at_⟩) (hp : p = (stA T.ag.length T.br T.pairs ps T.sh (k + 1)).p)
    (hgr : (w.alloc (.cells #[pv, .bool ref, .int .i64 at_] 60 (0, 0))).grownBy w7 av.ownBlock) (hown : w7.ownsRow (b0 + 4) 60 3 v7 (k + 1) (spsC pvs ((List.range k).map (sptA T.ag T.br T.pairs ps T.sh)) ++ [pv, .bool ref, .int .i64 at_])) :
    RlI W b0 T ps (k + 1) v7 (pvs ++ [pv]) (w7.setCell ⟨b0 + 3, 0, none⟩ v7) := by
  have ha := al0 w (.cells #[pv, .bool ref, .int .i64 at_] 60 (0, 0))
  have hz7 := hgr.size
  have hzw := hJ.size
  have hlow := hI.low.size
  have how : w.ownsRow (b0 + 4) 60 3 av k (spsC pvs ((List.range k).map (sptA T.ag T.br T.pairs ps T.sh))) := own_rlj hJ hT hI.own (Nat.le_refl _)
  have hne : ∀ q, q < b0 + 4 → some q ≠ av.ownBlock := fun q hq e => by have := (World.ownsRow.lt how q e.symm).1; omega
  have hblk : ∀ q, q < b0 + 4 → w7.heap[q]? = w.heap[q]? := fun q h1 => (hgr.block q (by rw [ha.2.2]; omega) (hne q h1)).trans (ha.2.1.block q (by omega))
  have hP' : ∀ {v : Value} {ys : List (Int × Int)}, PlO w (b0 + 4) v ys → PlO (w7.setCell ⟨b0 + 3, 0, none⟩ v7) (b0 + 4) v ys := fun {v ys} h => PlO_set (PlO_app (w := w.alloc (.cells #[pv, .bool ref, .int .i64 at_] 60 (0, 0))) (World.ownsRow.alloc h _) (World.ownsRow.alloc how _) hgr) (by omega)
  refine ⟨⟨?_, ?_, ?_, ?_, fun q hq => (heap_setCell_other _ _ _ _ (by show q ≠ b0 + 3; omega)).trans ((hblk q (by omega)).trans ((hJ.oth q (by omega) (by omega)).trans (hI.low.block q hq)))⟩, ?_, by simp [hI.len], ?_, fun j hj => ?_⟩
  · exact hgr.os.trans (ha.2.1.os.trans (hJ.os.trans hI.low.os))
  · exact hgr.tape.trans (ha.2.1.tape.trans (hJ.tape.trans hI.low.tape))
  · exact hgr.output.trans (ha.2.1.output.trans (hJ.output.trans hI.low.output))
  · have h : (w7.setCell ⟨b0 + 3, 0, none⟩ v7).heap.size = w7.heap.size := by simp
    omega
  · rw [← hp]
    exact heap_setCell_same _ _ 0 _ _ _ ((hblk (b0 + 3) (by omega)).trans hJ.lrow)
  · rw [map_range_snoc, spsC_snoc _ _ _ _ (by simp [hI.len]), hsp]
    exact ownsRow_setCell_below hown (a := ⟨b0 + 3, 0, none⟩) (by show b0 + 3 < b0 + 4; omega) v7
  · rw [getD_snoc _ _ _ _ (by rw [hI.len]; exact hj)]
    split
    · rename_i h
      rw [hI.len] at h
      exact hP' (own_rlj hJ hT (hI.each j h) (Nat.le_refl _))
    · rename_i h
      rw [hI.len] at h
      obtain rfl : j = k := by omega
      rw [hsp]
      exact hP' (PlO_mono hJ.pl (by omega))
/-- A piece of code that is left by one exit alone. -/
def OnlyX (id : Nat) (X : Act → World → Prop) : Exit → Act → World → Prop
  | .exit n, a, w => n = id ∧ X a w
  | _, _, _ => False
theorem onlyX_wp {P : Program} {c : Code} {id : Nat} {Q0 : Exit → Act → World → Prop} {a : Act} {w : World} (h : c.wp P (OnlyX id fun a w => Q0 (.exit id) a w) a w) : c.wp P Q0 a w := wp_mono h (fun e a w hq => by
  cases e with
  | exit n => obtain ⟨rfl, hx⟩ := hq; exact hx
  | normal => exact hq.elim
  | goto l => exact hq.elim
  | ret => exact hq.elim
  | panic c => exact hq.elim
  | outgrown => exact hq.elim)
def loopsL : Code → List Code
  | .loop c => .loop c :: loopsL c
  | .seq a b => loopsL a ++ loopsL b
  | .block _ c => loopsL c
  | .scope c => loopsL c
  | .cond _ a b => loopsL a ++ loopsL b
  | _ => []
def layLoop (f : Func) (n : Nat) : Code := (((f.body.map loopsL).getD [])[n]?).getD .skip
theorem plo_form {w : World} {B : Nat} {v : Value} {xs : List (Int × Int)} (h : PlO w B v xs) : ∃ p c, v = .slice p xs.length c := by
  rcases h.2 with ⟨e, e0⟩ | ⟨g, cap, cur, e, -⟩
  · exact ⟨none, 0, by rw [e0]; exact e⟩
  · exact ⟨_, _, e⟩
/-- The results' loop: the layout's row stands at b0 + 3, with so many places. -/
structure RlK (wr : World) (b0 Tb : Nat) (av rv : Value) (p : Int) (xs : List (Int × Int)) (w : World) : Prop where
  os : w.os = wr.os
  tape : w.tape = wr.tape
  output : w.output = wr.output
  size : Tb ≤ w.heap.size
  oth : ∀ q, q < Tb → q ≠ b0 + 3 → w.heap[q]? = wr.heap[q]?
  lrow : w.heap[b0 + 3]? = some (.cells #[av, rv, .int .i64 0, .int .i64 p] 33 (0, 0))
  pl : PlO w Tb rv xs
theorem RlK.first {wr : World} {b0 Tb : Nat} {av : Value} {p : Int} (hT : Tb = wr.heap.size) (h : wr.heap[b0 + 3]? = some (.cells #[av, .slice none 0 0, .int .i64 0, .int .i64 p] 33 (0, 0))) : RlK wr b0 Tb av (.slice none 0 0) p [] wr :=
  ⟨rfl, rfl, rfl, Nat.le_of_eq hT, fun _ _ _ => rfl, h, World.ownsRow_nil _ _ _ _⟩
theorem RlK.next {wr w w7 : World} {b0 Tb : Nat} {av rv v7 : Value} {p x y : Int} {xs : List (Int × Int)} (h : RlK wr b0 Tb av rv p xs w) (hb : b0 + 3 < Tb) (hgr : (w.alloc (.cells #[.int .i64 x, .int .i64 y] 62 (0, 0))).grownBy w7 rv.ownBlock) (hown : w7.ownsRow Tb 62 2 v7 (xs.length + 1) (plC xs ++ [.int .i64 x, .int .i64 y])) :
    RlK wr b0 Tb av v7 p (xs ++ [(x, y)]) (w7.setCell ⟨b0 + 3, 1, none⟩ v7) := by
  have ha := al0 w (.cells #[.int .i64 x, .int .i64 y] 62 (0, 0))
  have hz7 := hgr.size
  have hz := h.size
  have hne : ∀ q, q < Tb → some q ≠ rv.ownBlock := fun q hq e => by have := (World.ownsRow.lt h.pl q e.symm).1; omega
  have hblk : ∀ q, q < Tb → w7.heap[q]? = w.heap[q]? := fun q hq => (hgr.block q (by rw [ha.2.2]; omega) (hne q hq)).trans (ha.2.1.block q (by omega))
  refine ⟨hgr.os.trans (ha.2.1.os.trans h.os), hgr.tape.trans (ha.2.1.tape.trans h.tape), hgr.output.trans (ha.2.1.output.trans h.output), ?_, fun q h1 h2 => (heap_setCell_other _ _ _ _ (by show q ≠ b0 + 3; exact h2)).trans ((hblk q h1).trans (h.oth q h1 h2)), heap_setCell_same _ _ 1 _ _ _ ((hblk (b0 + 3) hb).trans h.lrow), ?_⟩
  · have e : (w7.setCell ⟨b0 + 3, 1, none⟩ v7).heap.size = w7.heap.size := by simp
    omega
  · unfold PlO
    rw [plC_snoc, show (xs ++ [(x, y)]).length = xs.length + 1 by simp]
    exact ownsRow_setCell_below hown (a := ⟨b0 + 3, 1, none⟩) (by show b0 + 3 < Tb; omega) v7
theorem plS_t (ag : List Int) (u1 : Nat) (c : Int) (i : Nat) : plS ag true u1 c i = (ag.getD (u1 + i) 0, 0) := by unfold plS; rfl
theorem plS_f (ag : List Int) (u1 : Nat) (c : Int) (i : Nat) : plS ag false u1 c i = (-1, c + 8 * i) := by unfold plS; rfl
theorem step_parts {L N u1 : Nat} {br zz : Int} {pr rg : Bool} {s : GivS} (hN : N = wdS br zz) (hu : u1 = u1S pr N s.u) (hr : rg = rgS L N u1) : (stepS L br pr zz s).u = (if rg = true then u1 + N else if 1 < N then L else u1) ∧ (stepS L br pr zz s).c = (if rg = true then s.c else s.c + 8 * (N : Int)) := by
  subst hN hu hr
  exact ⟨rfl, rfl⟩
theorem step_pp {L : Nat} {br zz : Int} {pr bref : Bool} {s : GivS} (hb : bref = decide (br < zz)) : (stepS L br pr zz s).p = (if bref = true then s.p + 8 * zz else s.p) := by
  subst hb
  unfold stepS
  simp
theorem spot_parts {ag : List Int} {N u1 : Nat} {br zz : Int} {pr rg bref : Bool} {s : GivS} (hN : N = wdS br zz) (hu : u1 = u1S pr N s.u) (hr : rg = rgS ag.length N u1) (hb : bref = decide (br < zz)) : spotS ag br pr zz s = ⟨(List.range N).map (plS ag rg u1 s.c), bref, if bref = true then s.p else 0⟩ := by
  subst hN hu hr hb
  unfold spotS
  simp
theorem map_len {α : Type} (f : Nat → α) (i : Nat) : ((List.range i).map f).length = i := by simp
end Go.Proofs.YtffemeicclhioaaDoor
