/-
  Decodes: the loops of the reference's instruction. Own work of the verifier.
-/
import Derived.Test.YthnmdbddfmgdlaaDoorDecR
import Derived.WalkSmall
namespace Go.Proofs.YthnmdbddfmgdlaaDoor
open Go.RowKit

def loopsD : Code → List Code
  | .loop c => .loop c :: loopsD c
  | .seq a b => loopsD a ++ loopsD b
  | .block _ c => loopsD c
  | .scope c => loopsD c
  | .cond _ a b => loopsD a ++ loopsD b
  | _ => []
def insLoop (f : Func) (n : Nat) : Code := (((f.body.map loopsD).getD [])[n]?).getD .skip
/-- All but rows of one type stay. -/
def KeptT (B : Nat) (T : TypeId) (w w' : World) : Prop := ∀ k, B ≤ k → k < w.heap.size → (∀ cur fr, w.heap[k]? ≠ some (.cells cur T fr)) → w'.heap[k]? = w.heap[k]?
theorem KeptT.of_on {B : Nat} {T : TypeId} {w w' : World} (h : KeptOn B w w') : KeptT B T w w' := fun k h1 h2 _ => h k h1 h2
theorem KeptT.of_own {B B' : Nat} {T : TypeId} {w w' : World} {size n : Nat} {v : Value} {xs : List Value} (h : w.ownsRow B' T size v n xs) (hg : w.grownBy w' v.ownBlock) : KeptT B T w w' := fun k _ h2 h3 => hg.block k h2 (fun e => by
  rcases h.2 with ⟨e1, _⟩ | ⟨g, cap, cur, e1, e2, e3, _⟩
  · rw [e1] at e; simp [Value.ownBlock] at e
  · rw [e1] at e
    simp [Value.ownBlock] at e
    subst e
    exact h3 _ _ e3)
theorem KeptT.tr {B : Nat} {T : TypeId} {w u v : World} (h : KeptT B T w u) (hs : w.heap.size ≤ u.heap.size) (k : KeptT B T u v) : KeptT B T w v := fun i h1 h2 h3 => by
  have e := h i h1 h2 h3
  exact (k i h1 (by omega) (fun cur fr => by rw [e]; exact h3 cur fr)).trans e
theorem OwnL.keepT {w w' : World} {B T T' size : Nat} {v : Value} {cs : List (Array Value)} (h : OwnL w B T size v cs) (hT : T ≠ T') (hk : KeptT B T' w w') : OwnL w' B T size v cs := by
  refine ⟨⟨h.1.1, ?_⟩, h.2⟩
  rcases h.1.2 with h0 | ⟨g, cap, cur, e, h1, h2, h3⟩
  · exact Or.inl h0
  · exact Or.inr ⟨g, cap, cur, e, h1, (hk g h1 (row_lt h2) (fun c f e => by rw [h2] at e; injection e with e; injection e with _ e _; exact hT e)).trans h2, h3⟩
theorem RepL.keepT {α : Type} {w w' : World} {B T T' size : Nat} {R R' : Array Value → α → Prop} {v : Value} {xs : List α} (h : RepL w B T size R v xs) (hT : T ≠ T') (hk : KeptT B T' w w') (hR : ∀ c x, R c x → R' c x) : RepL w' B T size R' v xs := by
  obtain ⟨cs, h1, h2⟩ := h
  exact ⟨cs, h1.keepT hT hk, h2.imp hR⟩
/-- An instruction under way: x lies at T3, the letters at T3 + 1, the result at T2. -/
structure EI (w u : World) (b T2 T3 : Nat) (s : ByteArray) (st : Stt) (A : Array Value) (sh : ByteArray) (q : Nat) : Prop where
  ey : EyS u b s st
  r2 : u.heap[T2]? = some (.cells #[.int .i64 0, .int .i64 0, .int .i64 0, .int .i64 0, .int .u64 0, .int .i64 0, .slice none 0 0, .slice none 0 0] 65 (0, 0))
  r3 : u.heap[T3]? = some (.cells A 65 (0, 0))
  it : u.heap[T3 + 1]? = some (.stringIter sh q)
  gb : w.grownBy u (some b)
  h0 : b < w.heap.size
  h2 : w.heap.size ≤ T2
  h3 : T2 < T3
section
variable {w u u' : World} {b T2 T3 : Nat} {s : ByteArray} {st st' : Stt} {A : Array Value} {sh : ByteArray} {q : Nat}
theorem EI.lt (h : EI w u b T2 T3 s st A sh q) : T3 + 1 < u.heap.size := row_lt h.it
theorem EI.call (h : EI w u b T2 T3 s st A sh q) (he : EyS u' b s st') (hg : u.grownBy u' (some b)) : EI w u' b T2 T3 s st' A sh q :=
  have e0 := h.h0
  have e2 := h.h2
  have e3 := h.h3
  ⟨he, (hg.block T2 (row_lt h.r2) (by intro e; injection e with e; omega)).trans h.r2, (hg.block T3 (row_lt h.r3) (by intro e; injection e with e; omega)).trans h.r3, (hg.block (T3 + 1) (row_lt h.it) (by intro e; injection e with e; omega)).trans h.it, gb_tr h.gb hg, e0, e2, e3⟩
theorem EI.set (h : EI w u b T2 T3 s st A sh q) (j : Nat) (v : Value) : EI w (u.setCell ⟨T3, j, none⟩ v) b T2 T3 s st (A.setIfInBounds j v) sh q :=
  have e0 := h.h0
  have e2 := h.h2
  have e3 := h.h3
  ⟨h.ey.blk (heap_setCell_other _ _ _ _ (by show b ≠ T3; omega)), (heap_setCell_other _ _ _ _ (by show T2 ≠ T3; omega)).trans h.r2, heap_setCell_same _ _ _ _ _ _ h.r3, (heap_setCell_other _ _ _ _ (by show T3 + 1 ≠ T3; omega)).trans h.it, gb_setAt h.gb (Or.inl (by omega)), e0, e2, e3⟩
theorem EI.next (h : EI w u b T2 T3 s st A sh q) (q' : Nat) : EI w (u.iterAt (T3 + 1) sh q') b T2 T3 s st A sh q' :=
  have e0 := h.h0
  have e2 := h.h2
  have e3 := h.h3
  ⟨h.ey.blk (Lib.iterAt_other _ _ _ _ _ (by omega)), (Lib.iterAt_other _ _ _ _ _ (by omega)).trans h.r2, (Lib.iterAt_other _ _ _ _ _ (by omega)).trans h.r3, Lib.iterAt_heap _ _ _ _ _ h.it, ⟨h.gb.os, h.gb.tape, h.gb.output, by rw [Lib.iterAt_size]; exact h.gb.size, fun k hk hr => (Lib.iterAt_other _ _ _ _ _ (by omega)).trans (h.gb.block k hk hr)⟩, e0, e2, e3⟩
theorem EI.drew (h : EI w u b T2 T3 s st A sh q) : EI w u.drew b T2 T3 s st A sh q := ⟨h.ey.blk rfl, h.r2, h.r3, h.it, gb_tr h.gb (gb_drew _ _), h.h0, h.h2, h.h3⟩
theorem EI.cell (h : EI w u b T2 T3 s st A sh q) (j : Nat) (x : Value) (hx : A[j]? = some x) : u.cell? ⟨T3, j, none⟩ = some x := (cells_of_row h.r3 j).trans hx
theorem EI.fz (h : EI w u b T2 T3 s st A sh q) (j : Nat) : u.frozen? ⟨T3, j, none⟩ = false := frozen_of_row _ _ _ _ _ h.r3
theorem EI.kept (h : EI w u b T2 T3 s st A sh q) (hg : u.grownBy u' (some b)) : KeptOn (T3 + 2) u u' := KeptOn.of_gb hg (by have := h.h0; have := h.h2; have := h.h3; omega)
theorem kept_set2 (u : World) (T3 j : Nat) (v : Value) : KeptOn (T3 + 2) u (u.setCell ⟨T3, j, none⟩ v) := fun k h1 _ => heap_setCell_other _ _ _ _ (by show k ≠ T3; omega)
/-- A row of the call's own has grown. -/
theorem EI.own (h : EI w u b T2 T3 s st A sh q) {v : Value} (hg : u.grownBy u' v.ownBlock) (hv : ∀ g, v.ownBlock = some g → T3 + 2 ≤ g) : EI w u' b T2 T3 s st A sh q :=
  have e0 := h.h0
  have e2 := h.h2
  have e3 := h.h3
  ⟨h.ey.blk (hg.block b (by have := row_lt h.r3; omega) (fun e => by have := hv b e.symm; omega)), (hg.block T2 (row_lt h.r2) (fun e => by have := hv T2 e.symm; omega)).trans h.r2, (hg.block T3 (row_lt h.r3) (fun e => by have := hv T3 e.symm; omega)).trans h.r3, (hg.block (T3 + 1) (row_lt h.it) (fun e => by have := hv (T3 + 1) e.symm; omega)).trans h.it, gb_own h.gb hg (fun g e => by have := hv g e; omega), e0, e2, e3⟩
theorem EI.alloc (h : EI w u b T2 T3 s st A sh q) (o : Obj) : EI w (u.alloc o) b T2 T3 s st A sh q := h.call (h.ey.alloc o) (gb_alloc _ _ _)
end
def val64 (k : Nat) : Stt → Int → ByteArray → Int × Stt
  | st, n, s => match k with
    | 0 => (n, st)
    | k + 1 => let r := val64 k st n s; ((256 * r.1 + valOr (sBind r.2 (dNum s 0 255))) % 18446744073709551616, stOf (sBind r.2 (dNum s 0 255)))
theorem step_callE {P : Program} {ops : Array Oper} {o : Oper} {a : Act} {w : World} {K : Act → World → Prop} {Q : Exit → Act → World → Prop} {E : Prop} (hg : o.guard = none) (f : FuncId) (args : Array Value) {F : Value → World → Prop}
    (hrun : (execOp a.eval o).run P w = .ok (.enter f args) w) (hF : Calls P f args w fun e w' => ∃ v, e = .returned v ∧ F v w') (h : ∀ v w', F v w' → K (a.put o.dst v) w') : if Region.wanted o (yielded ops a.tmps) = true then Oper.wp P o a w K Q else E := by
  have hw : Region.wanted o (yielded ops a.tmps) = true := by simp [Region.wanted, hg]
  rw [if_pos hw]
  unfold Oper.wp
  rw [hrun]
  refine hF.mono ?_
  rintro e w' ⟨v, rfl, hv⟩
  exact h v w' hv
/-- A piece of code that can only be left by one exit. -/
def OnlyExit (id : Nat) (X : Act → World → Prop) : Exit → Act → World → Prop
  | .exit n, a, w => n = id ∧ X a w
  | _, _, _ => False
theorem onlyExit_wp {P : Program} {c : Code} {id : Nat} {Q0 : Exit → Act → World → Prop} {a : Act} {w : World} (h : c.wp P (OnlyExit id fun a w => Q0 (.exit id) a w) a w) : c.wp P Q0 a w := wp_mono h (fun e a w hq => by
  cases e with
  | exit n => obtain ⟨rfl, hx⟩ := hq; exact hx
  | normal => exact hq.elim
  | goto l => exact hq.elim
  | ret => exact hq.elim
  | panic c => exact hq.elim
  | outgrown => exact hq.elim)
theorem valOr_bd (s : ByteArray) (st : Stt) (hi : Int) (h : 0 ≤ hi) : 0 ≤ valOr (sBind st (dNum s 0 hi)) ∧ valOr (sBind st (dNum s 0 hi)) ≤ hi := by
  cases st with
  | error q => exact ⟨Int.le_refl _, h⟩
  | ok a =>
    show 0 ≤ valOr (dNum s 0 hi a) ∧ valOr (dNum s 0 hi a) ≤ hi
    cases hd : dNum s 0 hi a with
    | error q => exact ⟨Int.le_refl _, h⟩
    | ok p => exact dNum_bd hd
set_option maxHeartbeats 8000000 in
set_option maxRecDepth 100000 in
theorem insLoopN (w : World) (b T2 T3 : Nat) (s : ByteArray) (st : Stt) (sh : ByteArray) (q : Nat) (x0 x1 x2 x3 n x5 : Int) (av ov : Value) (u : World) (Q0 : Exit → Act → World → Prop) (s1 s2 s4 s5 s7 s8 s9 s10 s11 s12 s13 s14 s15 s16 s17 s18 s19 s20 s21 s22 s23 s24 s25 s26 s27 s28 s29 s30 s31 s32 s33 s34 s35 s36 s37 s38 s39 s40 s41 s42 s43 s44 s45 s46 s47 s48 s49 s50 s51 s52 s53 s54 s55 s56 s57 s58 s59 s60 s61 s62 s63 s64 s65 s66 s67 s68 s69 s70 s71 s72 s73 s74 s75 s76 s77 s78 s79 s80 s81 s82 s83 s84 s85 s86 s87 s88 s89 s90 s91 s92 s93 s94 s95 s96 s97 : Value) (hn : 0 ≤ n ∧ n < 18446744073709551616)
    (h : EI w u b T2 T3 s st #[.int .i64 x0, .int .i64 x1, .int .i64 x2, .int .i64 x3, .int .u64 n, .int .i64 x5, av, ov] sh q)
    (hexit : ∀ (u6 u49 u50 u51 u52 u53 u54 u55 u56 u57 u58 u59 u60 : Value) (u' : World), EI w u' b T2 T3 s (val64 8 st n s).2 #[.int .i64 x0, .int .i64 x1, .int .i64 x2, .int .i64 x3, .int .u64 (val64 8 st n s).1, .int .i64 x5, av, ov] sh q → KeptOn (T3 + 2) u u' → u.heap.size ≤ u'.heap.size → Q0 (.exit 3) ⟨List.toArray (.pointer (some ⟨b, 0, none⟩) :: s1 :: s2 :: .pointer (some ⟨T3, 0, none⟩) :: s4 :: s5 :: u6 :: s7 :: s8 :: s9 :: s10 :: s11 :: s12 :: s13 :: s14 :: s15 :: s16 :: s17 :: s18 :: s19 :: s20 :: s21 :: s22 :: s23 :: s24 :: s25 :: s26 :: s27 :: s28 :: s29 :: s30 :: s31 :: s32 :: s33 :: s34 :: s35 :: s36 :: s37 :: s38 :: s39 :: s40 :: s41 :: s42 :: s43 :: s44 :: s45 :: s46 :: s47 :: s48 :: u49 :: u50 :: u51 :: u52 :: u53 :: u54 :: u55 :: u56 :: u57 :: u58 :: u59 :: u60 :: s61 :: s62 :: s63 :: s64 :: s65 :: s66 :: s67 :: s68 :: s69 :: s70 :: s71 :: s72 :: s73 :: s74 :: s75 :: s76 :: s77 :: s78 :: s79 :: s80 :: s81 :: s82 :: s83 :: s84 :: s85 :: s86 :: s87 :: s88 :: s89 :: s90 :: s91 :: s92 :: s93 :: s94 :: s95 :: s96 :: s97 :: []), []⟩ u') :
    Code.wp Tryd.prog (insLoop Tryd.f23 1) Q0 ⟨List.toArray (.pointer (some ⟨b, 0, none⟩) :: s1 :: s2 :: .pointer (some ⟨T3, 0, none⟩) :: s4 :: s5 :: .int .i64 0 :: s7 :: s8 :: s9 :: s10 :: s11 :: s12 :: s13 :: s14 :: s15 :: s16 :: s17 :: s18 :: s19 :: s20 :: s21 :: s22 :: s23 :: s24 :: s25 :: s26 :: s27 :: s28 :: s29 :: s30 :: s31 :: s32 :: s33 :: s34 :: s35 :: s36 :: s37 :: s38 :: s39 :: s40 :: s41 :: s42 :: s43 :: s44 :: s45 :: s46 :: s47 :: s48 :: s49 :: s50 :: s51 :: s52 :: s53 :: s54 :: s55 :: s56 :: s57 :: s58 :: s59 :: s60 :: s61 :: s62 :: s63 :: s64 :: s65 :: s66 :: s67 :: s68 :: s69 :: s70 :: s71 :: s72 :: s73 :: s74 :: s75 :: s76 :: s77 :: s78 :: s79 :: s80 :: s81 :: s82 :: s83 :: s84 :: s85 :: s86 :: s87 :: s88 :: s89 :: s90 :: s91 :: s92 :: s93 :: s94 :: s95 :: s96 :: s97 :: []), []⟩ u := by
  have HE := hideE h
  have HEX := hideE hexit
  have hlt3 := h.lt
  clear h hexit
  refine onlyExit_wp (id := 3) ?_
  conv => arg 2; whnf
  go_loopw [6] (fun j u' => ∃ k : Nat, j = .int .i64 k ∧ k ≤ 8 ∧ EI w u' b T2 T3 s (val64 k st n s).2 #[.int .i64 x0, .int .i64 x1, .int .i64 x2, .int .i64 x3, .int .u64 (val64 k st n s).1, .int .i64 x5, av, ov] sh q ∧ KeptOn (T3 + 2) u u' ∧ u.heap.size ≤ u'.heap.size ∧ 0 ≤ (val64 k st n s).1 ∧ (val64 k st n s).1 < 18446744073709551616) (fun j _ => 8 - (intOf j).toNat)
  case atStart => exact ⟨0, rfl, by omega, unhideE HE, fun _ _ _ => rfl, Nat.le_refl _, hn⟩
  case round =>
    obtain ⟨k, rfl, hk, hE, hK, hsz, hb0, hb1⟩ := hrel
    by_cases hlt : k < 8
    · have HS := hideE (show val64 (k + 1) st n s = ((256 * (val64 k st n s).1 + valOr (sBind (val64 k st n s).2 (dNum s 0 255))) % 18446744073709551616, stOf (sBind (val64 k st n s).2 (dNum s 0 255))) from rfl)
      obtain ⟨st', hst⟩ : ∃ x, x = (val64 k st n s).2 := ⟨_, rfl⟩
      obtain ⟨m, hm⟩ : ∃ x, x = (val64 k st n s).1 := ⟨_, rfl⟩
      rw [← hst, ← hm] at hE HS
      rw [← hm] at hb0 hb1
      obtain ⟨v0, v1⟩ := valOr_bd s st' 255 (by decide)
      have HC := hideE (enum_c b s st' 0 255 wr.drew hE.drew.ey)
      have k4 := hE.cell 4 _ rfl
      have f4 := hE.fz 4
      have HE2 := hideE hE
      have HK2 := hideE hK
      generalize hy : valOr (sBind st' (dNum s 0 255)) = y at HS v0 v1
      generalize hsy : stOf (sBind st' (dNum s 0 255)) = sy at HS
      have HY := hideE hy
      have HSY := hideE hsy
      clear hE hK hst hm hy hsy
      go_wp2_with fail
      have HF := hideE (show Calls Tryd.prog 21 #[.pointer (some ⟨b, 0, none⟩), .int .i64 0, .int .i64 255] wr.drew (fun e w5 => e = .returned (.int .i64 y) ∧ w5.cell? ⟨T3, 4, none⟩ = some (.int .u64 m) ∧ w5.frozen? ⟨T3, 4, none⟩ = false ∧ wr.grownBy w5 (some b) ∧ EI w w5 b T2 T3 s sy #[.int .i64 x0, .int .i64 x1, .int .i64 x2, .int .i64 x3, .int .u64 m, .int .i64 x5, av, ov] sh q) from (unhideE HC).mono (by
        rintro e w5 ⟨rfl, hg, he⟩
        rw [unhideE HSY] at he
        have h5 := (unhideE HE2).drew.call he hg
        exact ⟨by rw [unhideE HY], h5.cell 4 _ rfl, h5.fz 4, gb_tr (gb_drew wr (some b)) hg, h5⟩))
      clear HC
      go_region_with (go_at_call 21; refine (unhideE HF).mono ?_; rintro e w5 ⟨rfl, j4, g4, hg5, h5⟩; have HG5 := hideE hg5; have H5 := hideE h5; clear hg5 h5)
      all_goals
        have hw : IntKind.u64.wrap (IntKind.u64.wrap (256 * m) + IntKind.u64.wrap y) = (256 * m + y) % 18446744073709551616 := by simp only [IntKind.wrap_u64]; omega
        rw [hw]
        have HZ := hideE ((unhideE H5).set 4 (.int .u64 ((256 * m + y) % 18446744073709551616)))
        have HKZ := hideE (kept_tr (unhideE HK2) hsz (kept_tr ((unhideE HE2).kept (unhideE HG5)) (unhideE HG5).size (kept_set2 w5 T3 4 (.int .u64 ((256 * m + y) % 18446744073709551616)))))
        have hs5 := (unhideE HG5).size
        have hmb : 0 ≤ (256 * m + y) % 18446744073709551616 ∧ (256 * m + y) % 18446744073709551616 < 18446744073709551616 := by omega
        generalize (256 * m + y) % 18446744073709551616 = y2 at HZ HKZ HS hmb ⊢
        clear hw j4 g4 HG5 H5 HF k4 f4 HE2 HK2
        go_wp2
        go_roundw
        case rel =>
          refine ⟨k + 1, by go_num, by omega, ?_, unhideE HKZ, by simp; omega, ?_⟩
          · rw [unhideE HS]; exact unhideE HZ
          · rw [unhideE HS]; exact hmb
        case measure => simp [intOf]; omega
    · obtain rfl : k = 8 := by omega
      have HE2 := hideE hE
      have HK2 := hideE hK
      clear hE hK
      go_wp2_with fail
      exact ⟨rfl, unhideE HEX _ _ _ _ _ _ _ _ _ _ _ _ _ wr (unhideE HE2) (unhideE HK2) hsz⟩
end Go.Proofs.YthnmdbddfmgdlaaDoor
