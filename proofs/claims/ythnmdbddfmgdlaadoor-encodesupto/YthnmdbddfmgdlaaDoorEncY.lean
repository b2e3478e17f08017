/-
  Encodes: what the reference's pen writes of a program; an argument in another world. Own work of the verifier.
-/
import Derived.Test.YthnmdbddfmgdlaaDoorEncX
import Derived.Test.YthnmdbddfmgdlaaDoorEncP
namespace Go.Proofs.YthnmdbddfmgdlaaDoor
open Go.RowKit

def penBlock (l : List InsE) : Pr := penL 1 24 penIns l
def penFunc (f : FuncE) : Pr := penSeq (penL 0 8 penArg f.params) (penSeq (penNum 0 4 f.results) (penSeq (penL 0 12 (penNum (-1) 15) f.homes) (penSeq (penL 0 6 (penNum 1 8) f.slots) (penL 1 12 penBlock f.blocks))))
def penProg (p : ProgE) : Pr := penSeq ([70, 49], false) (penSeq (penL 0 4 penSig p.externs) (penL 1 8 penFunc p.funcs))
theorem encL_congr {α : Type} {f g : α → Option (List UInt8)} (h : ∀ x, f x = g x) (lo hi : Int) (xs : List α) : encL lo hi f xs = encL lo hi g xs := by
  rw [show f = g from funext h]
theorem encOf_block (l : List InsE) : encOf (penBlock l) = encBlock l := by
  unfold penBlock encBlock
  rw [encOf_L]
  exact encL_congr encOf_ins _ _ _
theorem encOf_func (f : FuncE) : encOf (penFunc f) = encFunc f := by
  unfold penFunc encFunc
  rw [encOf_seq, encOf_seq, encOf_seq, encOf_seq, encOf_L, encOf_num, encOf_L, encOf_L, encOf_L]
  rw [encL_congr (g := encParam) (fun x => encOf_arg x), encL_congr (g := encNum (-1) 15) (fun x => encOf_num _ _ x), encL_congr (g := encNum 1 8) (fun x => encOf_num _ _ x), encL_congr (g := encBlock) encOf_block]
theorem encOf_prog (p : ProgE) : encOf (penProg p) = encProg p := by
  unfold penProg encProg
  rw [encOf_seq, encOf_seq, encOf_L, encOf_L, encL_congr (g := encSig) (fun x => encOf_sig x), encL_congr (g := encFunc) encOf_func]
  rfl
theorem penL_len {α : Type} (lo hi : Int) (one : α → Pr) (xs : List α) : (penL lo hi one xs).1.length = 1 + (penAll one xs).1.length := by
  simp only [penL, penSeq, penNum, List.length_append, List.length_singleton]
theorem penSig_len (s : List Int × Int) : (penSig s).1.length = s.1.length + 2 := by
  have hpl : ∀ xs : List Int, (penAll (penNum 0 8) xs).1.length = xs.length := by
    intro xs
    induction xs with
    | nil => rfl
    | cons y ys ih => simp [penAll, penSeq, penNum, ih]
  unfold penSig
  simp only [penSeq, List.length_append, penL_len, hpl, penNum, List.length_singleton]
  omega
/-- Numbers that words can be. -/
def NumOk (p : ProgE) : Prop := ∀ f ∈ p.funcs, ∀ l ∈ f.blocks, ∀ i ∈ l, 0 ≤ i.n ∧ i.n < 18446744073709551616
section
variable {w w' : World} {b : Nat}
abbrev SameLow (b : Nat) (w w' : World) : Prop := ∀ k, k < b → w'.heap[k]? = w.heap[k]?
theorem RsB.same {v : Value} {ns : List Int} (h : RsB w b v ns) (hw : SameLow b w w') : RsB w' b v ns := by
  rcases h with h | ⟨sb, so, cap, h1, h2, h3⟩
  · exact Or.inl h
  · exact Or.inr ⟨sb, so, cap, h1, h2, fun i hi => (World.cell?_of_block (a := ⟨sb, so + i, none⟩) (hw sb h2)).trans (h3 i hi)⟩
theorem LsB.same {α : Type} {size : Nat} {v : Value} {ps : List (Array Value × α)} (h : LsB size w b v ps) (hw : SameLow b w w') : LsB size w' b v ps := by
  rcases h with h | ⟨sb, so, cap, h1, h2, h3⟩
  · exact Or.inl h
  · exact Or.inr ⟨sb, so, cap, h1, h2, fun i hi j x hx => (World.cell?_of_block (a := ⟨sb, so + i * size + j, none⟩) (hw sb h2)).trans (h3 i hi j x hx)⟩
theorem VsB.same {α : Type} {v : Value} {ps : List (Value × α)} (h : VsB w b v ps) (hw : SameLow b w w') : VsB w' b v ps := by
  rcases h with h | ⟨sb, so, cap, h1, h2, h3⟩
  · exact Or.inl h
  · exact Or.inr ⟨sb, so, cap, h1, h2, fun i hi => (World.cell?_of_block (a := ⟨sb, so + i, none⟩) (hw sb h2)).trans (h3 i hi)⟩
theorem InsAt.same {p : Array Value × InsE} (h : InsAt w b p) (hw : SameLow b w w') : InsAt w' b p := by
  obtain ⟨av, ov, pa, h1, h2, h3, h4, h5, h6⟩ := h
  exact ⟨av, ov, pa, h1, h2, h3, h4.same hw, h5.same hw, h6⟩
theorem BlkAt.same {p : Value × List InsE} (h : BlkAt w b p) (hw : SameLow b w w') : BlkAt w' b p := by
  obtain ⟨ps, h1, h2, h3, h4⟩ := h
  exact ⟨ps, h1, h2.same hw, fun q hq => (h3 q hq).same hw, h4⟩
theorem FuncV.same {f : FuncE} {pv hv sv bv : Value} {pp : List (Array Value × (Int × Int))} {pb : List (Value × List InsE)} (h : FuncV w b f pv hv sv bv pp pb) (hw : SameLow b w w') : FuncV w' b f pv hv sv bv pp pb :=
  ⟨h.params, h.vals, h.pls.same hw, h.hls.same hw, h.sls.same hw, h.bls.same hw, h.blocks, fun q hq => (h.each q hq).same hw, h.lens⟩
theorem SigAt.same {p : Array Value × (List Int × Int)} (h : SigAt w b p) (hw : SameLow b w w') : SigAt w' b p := by
  obtain ⟨lv, h1, h2, h3⟩ := h
  exact ⟨lv, h1, h2.same hw, h3⟩
theorem FuncAt.same {p : Array Value × FuncE} (h : FuncAt w b p) (hw : SameLow b w w') : FuncAt w' b p := by
  obtain ⟨pv, hv, sv, bv, pp, pb, h1, h2⟩ := h
  exact ⟨pv, hv, sv, bv, pp, pb, h1, h2.same hw⟩
theorem ProgV.same {p : ProgE} {fv ev : Value} {pf : List (Array Value × FuncE)} {pe : List (Array Value × (List Int × Int))} (h : ProgV w b p fv ev pf pe) (hw : SameLow b w w') : ProgV w' b p fv ev pf pe :=
  ⟨h.fls.same hw, h.els.same hw, h.funcs, h.externs, fun q hq => (h.feach q hq).same hw, fun q hq => (h.eeach q hq).same hw, h.lens⟩
theorem same_gb (h : w.grownBy w' (some b)) (hb : b ≤ w.heap.size) : SameLow b w w' := fun k hk => h.block k (by omega) (by intro e; injection e with e; omega)
end
theorem fine_e (w : World) : Calls Tryd.prog 18 #[] w fun e w' => e = .returned (flt 0 (-1) (-1) (-1)) ∧ Below w.heap.size w w' := by
  go_enter Tryd.func18, Tryd.ntmps18
  go_wp2
  go_returns
  exact ⟨rfl, by go_grown⟩
theorem only_e (n : Int) (w : World) : Calls Tryd.prog 17 #[.int .i64 n] w fun e w' => e = .returned (flt n (-1) (-1) (-1)) ∧ Below w.heap.size w w' := by
  go_enter Tryd.func17, Tryd.ntmps17
  go_wp2
  go_returns
  exact ⟨rfl, by go_grown⟩
end Go.Proofs.YthnmdbddfmgdlaaDoor
