/-
 Frames: frame.Of. Own work of the verifier.
-/
import Derived.Test.YtffemeicclhioaaGreatDoorPk
import Derived.Test.YtffemeicclhioaaGreatDoorFrF
namespace Go.Proofs.YtffemeicclhioaaGreatDoor
open Go.RowKit

/-- What stands while a frame is laid out. -/
structure FoP (w : World) (T : TbE) (pf pe : Option Addr) (cf ce : Nat) (P : ProgE) (V : World) : Prop where
 low : Below w.heap.size w V
 r0 : V.heap[w.heap.size]? = some (.cells T.box 25 (0, 0))
 r1 : V.heap[w.heap.size + 1]? = some (.cells #[.slice pf P.funcs.length cf, .slice pe P.externs.length ce] 29 (0, 0))
 r2 : V.heap[w.heap.size + 1 + 1]? = some (.cells #[.int .i64 0, .int .i64 0, .int .i64 0, .slice none 0 0, .slice none 0 0, .int .i64 0, .int .i64 0, .int .i64 0] 32 (0, 0))
 size : w.heap.size + 3 ≤ V.heap.size
theorem FoP.next {w V V' : World} {T : TbE} {pf pe : Option Addr} {cf ce : Nat} {P : ProgE} (h : FoP w T pf pe cf ce P V) (hb : Below V.heap.size V V') : FoP w T pf pe cf ce P V' := by
 have hz := h.size
 have hz2 := hb.size
 exact ⟨Zad h.low hb (by omega), (hb.block _ (by omega)).trans h.r0, (hb.block _ (by omega)).trans h.r1, (hb.block _ (by omega)).trans h.r2, by omega⟩
/-- And the frame itself. -/
structure FoF (w : World) (T : TbE) (pf pe : Option Addr) (cf ce : Nat) (P : ProgE) (fr : FrmE) (bx : Nat) (slv kv : Value) (V : World) : Prop where
 p : FoP w T pf pe cf ce P V
 row : V.heap[bx]? = some (.cells #[.int .i64 fr.out, .int .i64 fr.cop, .int .i64 fr.cells, slv, kv, .int .i64 fr.link, .int .i64 fr.size, .int .i64 fr.in_] 32 (0, 0))
 sl : V.ownsRow (w.heap.size + 3) 3 1 slv fr.slots.length (iC fr.slots)
 kp : V.ownsRow (w.heap.size + 3) 56 2 kv fr.saves.length (plC fr.saves)
theorem own_setRow {V : World} {B n size bx : Nat} {e t : TypeId} {v : Value} {xs : List Value} {z cs : Array Value} (h : V.ownsRow B e size v n xs) (hr : V.heap[bx]? = some (.cells z t (0, 0))) (hne : e ≠ t) : (V.setRow bx cs).ownsRow B e size v n xs := by
 obtain ⟨h1, h2 | ⟨g, cap, cur, e1, e2, e3, e4⟩⟩ := h
 ·
  exact ⟨h1, Or.inl h2⟩
 ·
  refine ⟨h1, Or.inr ⟨g, cap, cur, e1, e2, (setRow_other _ _ _ _ (fun e => ?_)).trans e3, e4⟩⟩
  rw [e, hr] at e3
  injection e3 with e3
  injection e3 with _ e3 _
  exact hne e3.symm
theorem FoF.of {w V : World} {T : TbE} {pf pe : Option Addr} {cf ce : Nat} {P : ProgE} {fr : FrmE} {bx : Nat} {slv kv : Value} {z : Array Value} (h : FoP w T pf pe cf ce P V) (hr : V.heap[bx]? = some (.cells z 32 (0, 0))) (hs : V.ownsRow (w.heap.size + 3) 3 1 slv fr.slots.length (iC fr.slots)) (hk : V.ownsRow (w.heap.size + 3) 56 2 kv fr.saves.length (plC fr.saves)) (hbx : w.heap.size + 3 ≤ bx) :
 FoF w T pf pe cf ce P fr bx slv kv (V.setRow bx #[.int .i64 fr.out, .int .i64 fr.cop, .int .i64 fr.cells, slv, kv, .int .i64 fr.link, .int .i64 fr.size, .int .i64 fr.in_]) :=
 ⟨⟨Zag h.low (by omega), (setRow_other _ _ _ _ (by omega)).trans h.r0, (setRow_other _ _ _ _ (by omega)).trans h.r1, (setRow_other _ _ _ _ (by omega)).trans h.r2, by have := h.size; simpa [World.setRow] using this⟩, setRow_heap _ _ _ _ _ _ hr, own_setRow hs hr (by decide), own_setRow hk hr (by decide)⟩
/-- All that is asked of a function for its frame. -/
structure FnOk (T : TbE) (fn : FuncE) : Prop where
 sl : ∀ k, k < fn.slots.length → 0 ≤ fn.slots.getD k 0 ∧ fn.slots.getD k 0 ≤ 8
 nh : fn.homes.length ≤ 12
 ns : fn.slots.length ≤ 6
 r0 : 0 ≤ T.r
 r1 : T.r ≤ 16
 al0 : 1 ≤ T.al
 al1 : T.al ≤ 1000
 ss : T.ss.length ≤ 1000000
theorem acc_ok {T : TbE} {P : ProgE} {own : List Int × Int} {fn : FuncE} (h : CallsOk P fn) : ∀ s ∈ accB T P own fn.blocks fn.blocks.length, SgOk s := fun s hs => by
 unfold accB at hs
 rw [List.take_length] at hs
 obtain ⟨b, hb, hs⟩ := List.mem_flatMap.1 hs
 obtain ⟨i, hi, he⟩ := List.mem_filterMap.1 hs
 obtain ⟨k, hk, rfl⟩ := List.mem_iff_getElem.1 hb
 obtain ⟨j, hj, rfl⟩ := List.mem_iff_getElem.1 hi
 have e1 : fn.blocks.getD k [] = fn.blocks[k] := getD_at _ _ _ hk
 have e2 : (fn.blocks.getD k []).getD j noIns = fn.blocks[k][j] := by rw [e1]; exact getD_at _ _ _ hj
 have hsg : sigAt P fn.blocks[k][j] = some s := by
  unfold realS at he
  cases hq : sigAt P fn.blocks[k][j] with
  | none => rw [hq] at he; cases he
  | some s' =>
   rw [hq] at he
   simp only at he
   split at he
   ·
    cases he
   ·
    exact he
 exact h.s k j s hk (by rw [e1]; exact hj) (by rw [e2]; exact hsg)
theorem acc_num {T : TbE} {P : ProgE} {own : List Int × Int} {fn : FuncE} (h : CallsOk P fn) : (accB T P own fn.blocks fn.blocks.length).length ≤ 1000 := by
 have hl := acc_len T P own fn.blocks h.len fn.blocks.length 0 (Nat.le_refl _) (fun hx => absurd hx (Nat.lt_irrefl _)) (fun _ => rfl)
 rw [accI_zero] at hl
 have := h.num
 omega
theorem own_res {V' : World} {b n size : Nat} {e : TypeId} {v : Value} {xs : List Value} (h : V'.ownsRow (b + 3) e size v n xs) (cs : Array Value) : (V'.setRow (b + 1 + 1) cs).ownsRow b e size v n xs := by
 obtain ⟨h1, h2 | ⟨g, cap, cur, e1, e2, e3, e4⟩⟩ := h
 ·
  exact ⟨h1, Or.inl h2⟩
 ·
  exact ⟨h1, Or.inr ⟨g, cap, cur, e1, by omega, (setRow_other _ _ _ _ (by omega)).trans e3, e4⟩⟩
/-- The frame of a function of a program. -/
def frmF (T : TbE) (P : ProgE) (k : Nat) : FrmE := frmE T (P.funcs.getD k Zaj) (accB T P (sigE (P.funcs.getD k Zaj)) (P.funcs.getD k Zaj).blocks (P.funcs.getD k Zaj).blocks.length)
def noFrm : FrmE := ⟨0, 0, 0, [], [], 0, 0, 0⟩
def frmN (T : TbE) (P : ProgE) (k : Nat) : FrmE := if 1024 < (frmF T P k).size then noFrm else frmF T P k
def frmX (T : TbE) (P : ProgE) (k : Nat) : FltE := if 1024 < (frmF T P k).size then ⟨7, k, -1, -1⟩ else ⟨0, -1, -1, -1⟩
set_option maxHeartbeats 8000000 in
set_option maxRecDepth 100000 in
theorem fof_c (T : TbE) (P : ProgE) (k0 : Nat) (fv ev : Value) (A E : Nat → Array Value) (w : World) (hT : TbO w T) (hto : TbOk T) (hP : ProgC w fv ev P A E) (hk0 : k0 < P.funcs.length) (hok : CallsOk P (P.funcs.getD k0 Zaj)) (hfk : FnOk T (P.funcs.getD k0 Zaj)) (hpl : ∀ k, (P.funcs.getD k Zaj).params.length ≤ 8796093022208) :
 Calls Tryz.prog 29 #[.agg T.box, .agg #[fv, ev], .int .i64 k0] w fun e w' => ∃ slv kv er, e = .returned (.tuple #[.agg #[.int .i64 (frmN T P k0).out, .int .i64 (frmN T P k0).cop, .int .i64 (frmN T P k0).cells, slv, kv, .int .i64 (frmN T P k0).link, .int .i64 (frmN T P k0).size, .int .i64 (frmN T P k0).in_], er]) ∧ w'.ownsRow w.heap.size 3 1 slv (frmN T P k0).slots.length (iC (frmN T P k0).slots) ∧ w'.ownsRow w.heap.size 56 2 kv (frmN T P k0).saves.length (plC (frmN T P k0).saves) ∧ ErrOf w' er (frmX T P k0) ∧ Below w.heap.size w w' := by
 obtain ⟨pf, cf, hfs⟩ := hP.fs.shape
 obtain ⟨pe, ce, hes⟩ := hP.es.shape
 subst hfs hes
 obtain ⟨r0, r1, r2, hZ, hB⟩ := rows3f w (.cells T.box 25 (0, 0)) (.cells #[.slice pf P.funcs.length cf, .slice pe P.externs.length ce] 29 (0, 0)) (.cells #[.int .i64 0, .int .i64 0, .int .i64 0, .slice none 0 0, .slice none 0 0, .int .i64 0, .int .i64 0, .int .i64 0] 32 (0, 0))
 obtain ⟨pf', cf', hfs, -, hlf, hcf⟩ := hP.fs
 injection hfs with f1 _ f3
 obtain ⟨sb, so, hpf, hsb, hc⟩ := hcf (by omega)
 have hck := hc k0 hk0
 obtain ⟨pv, hv, sv, bv, Bv, hA, hD⟩ := hP.feach k0 hk0
 rw [hA] at hck
 rw [← f1] at hpf
 subst hpf
 have HFC := Zac (fun V (hV : FoP w T (some ⟨sb, so, none⟩) pe cf ce P V) => called_c T P k0 _ _ A E V (hT.below hV.low) hto (hP.below hV.low) hk0 hok hpl)
 have hfn : P.funcs.getD k0 Zaj = P.funcs[k0] := getD_at _ _ _ hk0
 have HFF := Zac (show frmF T P k0 = frmE T P.funcs[k0] (accB T P (sigE P.funcs[k0]) P.funcs[k0].blocks P.funcs[k0].blocks.length) by unfold frmF; rw [hfn])
 have HNN := Zac (show frmN T P k0 = if 1024 < (frmF T P k0).size then noFrm else frmF T P k0 from rfl)
 have HXX := Zac (show frmX T P k0 = if 1024 < (frmF T P k0).size then ⟨7, k0, -1, -1⟩ else ⟨0, -1, -1, -1⟩ from rfl)
 rw [hfn] at hok hfk HFC
 have hso := acc_ok (T := T) (own := sigE P.funcs[k0]) hok
 have hnum := acc_num (T := T) (own := sigE P.funcs[k0]) hok
 generalize hfe : P.funcs[k0] = fn at hok hfk hD hck HFC hso hnum HFF
 clear hfe hfn
 obtain ⟨qp, qc, hpv⟩ := hD.ps.shape
 obtain ⟨qh, ch, hhv⟩ := hD.hs.shape
 obtain ⟨qs, csv, hsv⟩ := hD.ss.shape
 obtain ⟨qb, cb, hbv⟩ := hD.bs.shape
 subst hpv hhv hsv hbv
 generalize accB T P (sigE fn) fn.blocks fn.blocks.length = ss at HFC hso hnum HFF
 have HFP := Zac (fun V (hV : FoP w T (some ⟨sb, so, none⟩) pe cf ce P V) (cv : Value) (Bc : Nat) (hly : LyO V Bc cv T ss) => show Calls Tryz.prog 44 #[.agg #[.int .i64 T.r, .int .i64 T.sp, .int .i64 T.lk, .int .i64 T.t0, .int .i64 T.t1, .slice T.pa T.ag.length T.ca, .slice T.pr T.rs.length T.cr, .slice T.ps T.ss.length T.cs, .int .i64 T.al, .int .i64 T.sh, .int .i64 T.br, .bool T.pairs], .agg #[.slice qp fn.params.length qc, .int .i64 fn.results, .slice qh fn.homes.length ch, .slice qs fn.slots.length csv, .slice qb fn.blocks.length cb], cv] V (fun e w' => ∃ slv kv, e = .returned (.agg #[.int .i64 (frmE T fn ss).out, .int .i64 (frmE T fn ss).cop, .int .i64 (frmE T fn ss).cells, slv, kv, .int .i64 (frmE T fn ss).link, .int .i64 (frmE T fn ss).size, .int .i64 (frmE T fn ss).in_]) ∧ w'.ownsRow V.heap.size 3 1 slv (frmE T fn ss).slots.length (iC (frmE T fn ss).slots) ∧ w'.ownsRow V.heap.size 56 2 kv (frmE T fn ss).saves.length (plC (frmE T fn ss).saves) ∧ Below V.heap.size V w') from parts_c T fn ss cv _ _ _ _ Bc V (hT.below hV.low) hto hly hso (hD.hs.below hV.low) (hD.ss.below hV.low) hfk.sl hfk.nh hfk.ns hfk.r0 hfk.r1 hfk.al0 hfk.al1 hfk.ss hnum ⟨_, _, _, rfl⟩ ⟨_, _, _, rfl⟩)
 change Hid (∀ V, FoP w T (some ⟨sb, so, none⟩) pe cf ce P V → Calls Tryz.prog 45 #[.agg #[.int .i64 T.r, .int .i64 T.sp, .int .i64 T.lk, .int .i64 T.t0, .int .i64 T.t1, .slice T.pa T.ag.length T.ca, .slice T.pr T.rs.length T.cr, .slice T.ps T.ss.length T.cs, .int .i64 T.al, .int .i64 T.sh, .int .i64 T.br, .bool T.pairs], .agg #[.slice (some ⟨sb, so, none⟩) P.funcs.length cf, .slice pe P.externs.length ce], .int .i64 k0] V (fun e w' => ∃ v, e = .returned v ∧ LyO w' V.heap.size v T ss ∧ Below V.heap.size V w')) at HFC
 generalize frmE T fn ss = fr at HFP HFF
 rw [Zaa HFF] at HNN HXX
 have HSS := Zac (fun V (hV : FoP w T (some ⟨sb, so, none⟩) pe cf ce P V) => show V.cell? ⟨w.heap.size, 0, none⟩ = some (.int .i64 T.r) ∧ V.cell? ⟨w.heap.size, 1, none⟩ = some (.int .i64 T.sp) ∧ V.cell? ⟨w.heap.size, 2, none⟩ = some (.int .i64 T.lk) ∧ V.cell? ⟨w.heap.size, 3, none⟩ = some (.int .i64 T.t0) ∧ V.cell? ⟨w.heap.size, 4, none⟩ = some (.int .i64 T.t1) ∧ V.cell? ⟨w.heap.size, 5, none⟩ = some (.slice T.pa T.ag.length T.ca) ∧ V.cell? ⟨w.heap.size, 6, none⟩ = some (.slice T.pr T.rs.length T.cr) ∧ V.cell? ⟨w.heap.size, 7, none⟩ = some (.slice T.ps T.ss.length T.cs) ∧ V.cell? ⟨w.heap.size, 8, none⟩ = some (.int .i64 T.al) ∧ V.cell? ⟨w.heap.size, 9, none⟩ = some (.int .i64 T.sh) ∧ V.cell? ⟨w.heap.size, 10, none⟩ = some (.int .i64 T.br) ∧ V.cell? ⟨w.heap.size, 11, none⟩ = some (.bool T.pairs) ∧ V.cell? ⟨w.heap.size + 1, 0, none⟩ = some (.slice (some ⟨sb, so, none⟩) P.funcs.length cf) ∧ V.cell? ⟨w.heap.size + 1, 1, none⟩ = some (.slice pe P.externs.length ce) ∧ V.cell? ⟨sb, so + k0 * 5, none⟩ = some (.slice qp fn.params.length qc) ∧ V.cell? ⟨sb, so + k0 * 5 + 1, none⟩ = some (.int .i64 fn.results) ∧ V.cell? ⟨sb, so + k0 * 5 + 2, none⟩ = some (.slice qh fn.homes.length ch) ∧ V.cell? ⟨sb, so + k0 * 5 + 3, none⟩ = some (.slice qs fn.slots.length csv) ∧ V.cell? ⟨sb, so + k0 * 5 + 4, none⟩ = some (.slice qb fn.blocks.length cb) from ⟨(Zab hV.r0 0).trans rfl, (Zab hV.r0 1).trans rfl, (Zab hV.r0 2).trans rfl, (Zab hV.r0 3).trans rfl, (Zab hV.r0 4).trans rfl, (Zab hV.r0 5).trans rfl, (Zab hV.r0 6).trans rfl, (Zab hV.r0 7).trans rfl, (Zab hV.r0 8).trans rfl, (Zab hV.r0 9).trans rfl, (Zab hV.r0 10).trans rfl, (Zab hV.r0 11).trans rfl, (Zab hV.r1 0).trans rfl, (Zab hV.r1 1).trans rfl, (hV.low.cell (p := ⟨sb, so + k0 * 5 + 0, none⟩) hsb).trans (hck 0 _ rfl), (hV.low.cell (p := ⟨sb, so + k0 * 5 + 1, none⟩) hsb).trans (hck 1 _ rfl), (hV.low.cell (p := ⟨sb, so + k0 * 5 + 2, none⟩) hsb).trans (hck 2 _ rfl), (hV.low.cell (p := ⟨sb, so + k0 * 5 + 3, none⟩) hsb).trans (hck 3 _ rfl), (hV.low.cell (p := ⟨sb, so + k0 * 5 + 4, none⟩) hsb).trans (hck 4 _ rfl)⟩)
 have HP := Zac (show FoP w T (some ⟨sb, so, none⟩) pe cf ce P _ from ⟨hB, r0, r1, r2, by omega⟩)
 have hlf' : P.funcs.length < 9223372036854775808 := hlf
 clear r0 r1 r2 hB hT hto hP hok hfk hcf hc hck hA hD f1 f3 hlf hpl hso hnum hZ
 have hbx : T.box = #[.int .i64 T.r, .int .i64 T.sp, .int .i64 T.lk, .int .i64 T.t0, .int .i64 T.t1, .slice T.pa T.ag.length T.ca, .slice T.pr T.rs.length T.cr, .slice T.ps T.ss.length T.cs, .int .i64 T.al, .int .i64 T.sh, .int .i64 T.br, .bool T.pairs] := rfl
 rw [hbx] at HP ⊢
 clear hbx
 go_enter Tryz.func29, Tryz.ntmps29
 go_upto_region 1 with fail
 generalize World.alloc (World.alloc (World.alloc w _) _) _ = W at HP ⊢
 have HP0 := Zac ((Zaa HP).next (Below.refl _ _).drew)
 go_cut [8] (fun s8 wd => ∃ bx slv kv, s8 = .pointer (some ⟨bx, 0, none⟩) ∧ FoF w T (some ⟨sb, so, none⟩) pe cf ce P fr bx slv kv wd)
 case first =>
  go_wp2_with fail
  refine wp_region_held_drew (S := fun V => V.cell? ⟨w.heap.size, 0, none⟩ = some (.int .i64 T.r) ∧ V.cell? ⟨w.heap.size, 1, none⟩ = some (.int .i64 T.sp) ∧ V.cell? ⟨w.heap.size, 2, none⟩ = some (.int .i64 T.lk) ∧ V.cell? ⟨w.heap.size, 3, none⟩ = some (.int .i64 T.t0) ∧ V.cell? ⟨w.heap.size, 4, none⟩ = some (.int .i64 T.t1) ∧ V.cell? ⟨w.heap.size, 5, none⟩ = some (.slice T.pa T.ag.length T.ca) ∧ V.cell? ⟨w.heap.size, 6, none⟩ = some (.slice T.pr T.rs.length T.cr) ∧ V.cell? ⟨w.heap.size, 7, none⟩ = some (.slice T.ps T.ss.length T.cs) ∧ V.cell? ⟨w.heap.size, 8, none⟩ = some (.int .i64 T.al) ∧ V.cell? ⟨w.heap.size, 9, none⟩ = some (.int .i64 T.sh) ∧ V.cell? ⟨w.heap.size, 10, none⟩ = some (.int .i64 T.br) ∧ V.cell? ⟨w.heap.size, 11, none⟩ = some (.bool T.pairs) ∧ V.cell? ⟨w.heap.size + 1, 0, none⟩ = some (.slice (some ⟨sb, so, none⟩) P.funcs.length cf) ∧ V.cell? ⟨w.heap.size + 1, 1, none⟩ = some (.slice pe P.externs.length ce) ∧ V.cell? ⟨sb, so + k0 * 5, none⟩ = some (.slice qp fn.params.length qc) ∧ V.cell? ⟨sb, so + k0 * 5 + 1, none⟩ = some (.int .i64 fn.results) ∧ V.cell? ⟨sb, so + k0 * 5 + 2, none⟩ = some (.slice qh fn.homes.length ch) ∧ V.cell? ⟨sb, so + k0 * 5 + 3, none⟩ = some (.slice qs fn.slots.length csv) ∧ V.cell? ⟨sb, so + k0 * 5 + 4, none⟩ = some (.slice qb fn.blocks.length cb)) (by kernel_rfl) (Zaa HSS _ (Zaa HP0)) (fun hHeld => ?_)
  refine tT 0 ?v0 rfl (by kernel_rfl) (fun _ _ _ h => h) (by rfl) ?hy0 (by assumption) ?_
  case hy0 =>
   intro V hV
   try dsimp only at hV
   go_simp
   all_goals (with_reducible rfl)
  simp only [Act.put, zA, zB, zC, zD, zE]
  refine tT 1 ?v1 rfl (by kernel_rfl) (fun _ _ _ h => h) (by rfl) ?hy1 (by assumption) ?_
  case hy1 =>
   intro V hV
   try dsimp only at hV
   go_simp
   all_goals (with_reducible rfl)
  simp only [Act.put, zA, zB, zC, zD, zE, zF]
  refine tT 2 ?v2 rfl (by kernel_rfl) (fun _ _ _ h => h) (by rfl) ?hy2 (by assumption) ?_
  case hy2 =>
   intro V hV
   try dsimp only at hV
   go_simp
   all_goals (with_reducible rfl)
  simp only [Act.put, zA, zB, zC, zD, zE, zF]
  refine tT 3 ?v3 rfl (by kernel_rfl) (fun _ _ _ h => h) (by rfl) ?hy3 (by assumption) ?_
  case hy3 =>
   intro V hV
   try dsimp only at hV
   go_simp
   all_goals (with_reducible rfl)
  simp only [Act.put, zA, zB, zC, zD, zE, zF]
  refine tT 4 ?v4 rfl (by kernel_rfl) (fun _ _ _ h => h) (by rfl) ?hy4 (by assumption) ?_
  case hy4 =>
   intro V hV
   try dsimp only at hV
   go_simp
   all_goals (with_reducible rfl)
  simp only [Act.put, zA, zB, zC, zD, zE, zF]
  refine tT 5 ?v5 rfl (by kernel_rfl) (fun _ _ _ h => h) (by rfl) ?hy5 (by assumption) ?_
  case hy5 =>
   intro V hV
   try dsimp only at hV
   go_simp
   all_goals (with_reducible rfl)
  simp only [Act.put, zA, zB, zC, zD, zE, zF]
  refine tT 6 ?v6 rfl (by kernel_rfl) (fun _ _ _ h => h) (by rfl) ?hy6 (by assumption) ?_
  case hy6 =>
   intro V hV
   try dsimp only at hV
   go_simp
   all_goals (with_reducible rfl)
  simp only [Act.put, zA, zB, zC, zD, zE, zF]
  refine tT 7 ?v7 rfl (by kernel_rfl) (fun _ _ _ h => h) (by rfl) ?hy7 (by assumption) ?_
  case hy7 =>
   intro V hV
   try dsimp only at hV
   go_simp
   all_goals (with_reducible rfl)
  simp only [Act.put, zA, zB, zC, zD, zE, zF]
  refine tT 8 ?v8 rfl (by kernel_rfl) (fun _ _ _ h => h) (by rfl) ?hy8 (by assumption) ?_
  case hy8 =>
   intro V hV
   try dsimp only at hV
   go_simp
   all_goals (with_reducible rfl)
  simp only [Act.put, zA, zB, zC, zD, zE, zF]
  refine wpAnyH_ready (rs := [9, 11]) (by kernel_rfl) (by simp) ?_
  refine AllReadyH.cons rfl (fun K hK => ?_) (AllReadyH.cons rfl (fun K hK => ?_) AllReadyH.nil)
  ·
   go_simp
   refine (Zaa HFC W.drew (Zaa HP0)).mono ?_
   rintro e x1 ⟨cv, rfl, hly, hb⟩
   obtain ⟨vp, vc, rfl⟩ := hly.form
   have HP1 := Zac ((Zaa HP0).next hb)
   have HLY1 := Zac hly
   have hx1 := hb.size
   clear hly hb
   refine hK.out _ _ (Zaa HSS _ (Zaa HP1)) (fun hHeld2 => ?_)
   clear hK K
   try simp only [Act.put, zA, zB, zC, zD, zE, zF]
   refine wpAnyH_ready (rs := [10, 11]) (by kernel_rfl) (by simp) ?_
   refine AllReadyH.cons rfl (fun K hK => ?_) (AllReadyH.cons rfl (fun K hK => ?_) AllReadyH.nil)
   ·
    go_simp
    refine (Zaa HFP x1 (Zaa HP1) _ _ (Zaa HLY1)).mono ?_
    rintro e x2 ⟨slv, kv, rfl, hsl, hkp, hb⟩
    obtain ⟨sp9, sc9, rfl⟩ := Zan hsl
    obtain ⟨kp9, kc9, rfl⟩ := Zan hkp
    have HP2 := Zac ((Zaa HP1).next hb)
    have HSL2 := Zac (own_monoF hsl (show w.heap.size + 3 ≤ x1.heap.size from (Zaa HP1).size))
    have HKP2 := Zac (own_monoF hkp (show w.heap.size + 3 ≤ x1.heap.size from (Zaa HP1).size))
    have hx2 := hb.size
    clear hsl hkp hb
    refine hK.out _ _ (Zaa HSS _ (Zaa HP2)) (fun hHeld2 => ?_)
    clear hK K
    try simp only [Act.put, zA, zB, zC, zD, zE, zF]
    refine wpAnyH_ready (rs := [11]) (by kernel_rfl) (by simp) ?_
    refine AllReadyH.cons rfl (fun K hK => ?_) AllReadyH.nil
    go_simp
    have hal := al0 x2 (.cells #[.int .i64 0, .int .i64 0, .int .i64 0, .slice none 0 0, .slice none 0 0, .int .i64 0, .int .i64 0, .int .i64 0] 32 (0, 0))
    have HP3 := Zac ((Zaa HP2).next hal.2.1)
    have HRW3 := Zac hal.1
    have hx3 := hal.2.2
    have HSL3 := Zac (World.ownsRow.alloc (Zaa HSL2) (.cells #[.int .i64 0, .int .i64 0, .int .i64 0, .slice none 0 0, .slice none 0 0, .int .i64 0, .int .i64 0, .int .i64 0] 32 (0, 0)))
    have HKP3 := Zac (World.ownsRow.alloc (Zaa HKP2) (.cells #[.int .i64 0, .int .i64 0, .int .i64 0, .slice none 0 0, .slice none 0 0, .int .i64 0, .int .i64 0, .int .i64 0] 32 (0, 0)))
    clear hal
    refine hK.out _ _ (Zaa HSS _ (Zaa HP3)) (fun hHeld2 => ?_)
    clear hK K
    try simp only [Act.put, zA, zB, zC, zD, zE, zF]
    refine wpAnyH_ready (rs := [12]) (by kernel_rfl) (by simp) ?_
    refine AllReadyH.cons rfl (fun K hK => ?_) AllReadyH.nil
    rw [if_pos (by rfl)]
    have hfo := FoF.of (bx := x2.heap.size) (fr := fr) (Zaa HP3) (Zaa HRW3) (Zaa HSL3) (Zaa HKP3) (Zaa HP2).size
    refine wp_store_row 32 _ _ rfl x2.heap.size #[.int .i64 fr.out, .int .i64 fr.cop, .int .i64 fr.cells, .slice sp9 fr.slots.length sc9, .slice kp9 fr.saves.length kc9, .int .i64 fr.link, .int .i64 fr.size, .int .i64 fr.in_] rfl rfl 32 _ (Zaa HRW3) (Tryz.infFrF.trans rfl) rfl (by simp [Value.oneCell']) ?_
    have HFO := Zac hfo
    have HPZ := Zac hfo.p
    clear hfo
    refine hK.out _ _ (Zaa HSS _ (Zaa HPZ)) (fun hHeld2 => ?_)
    clear hK K
    try simp only [Act.put]
    refine wpAnyH_done (by kernel_rfl) ?_ _
    go_wp2
    go_meet
    case rel => exact ⟨_, _, _, rfl, Zaa HFO⟩
   ·
    go_simp
    have hal := al0 x1 (.cells #[.int .i64 0, .int .i64 0, .int .i64 0, .slice none 0 0, .slice none 0 0, .int .i64 0, .int .i64 0, .int .i64 0] 32 (0, 0))
    have HP2 := Zac ((Zaa HP1).next hal.2.1)
    have HRW2 := Zac hal.1
    have hx2 := hal.2.2
    have HLY2 := Zac ((Zaa HLY1).below hal.2.1)
    clear hal
    refine hK.out _ _ (Zaa HSS _ (Zaa HP2)) (fun hHeld2 => ?_)
    clear hK K
    try simp only [Act.put, zA, zB, zC, zD, zE, zF]
    refine wpAnyH_ready (rs := [10]) (by kernel_rfl) (by simp) ?_
    refine AllReadyH.cons rfl (fun K hK => ?_) AllReadyH.nil
    go_simp
    refine (Zaa HFP (x1.alloc (.cells #[.int .i64 0, .int .i64 0, .int .i64 0, .slice none 0 0, .slice none 0 0, .int .i64 0, .int .i64 0, .int .i64 0] 32 (0, 0))) (Zaa HP2) _ _ (Zaa HLY2)).mono ?_
    rintro e x3 ⟨slv, kv, rfl, hsl, hkp, hb⟩
    obtain ⟨sp9, sc9, rfl⟩ := Zan hsl
    obtain ⟨kp9, kc9, rfl⟩ := Zan hkp
    have HP3 := Zac ((Zaa HP2).next hb)
    have HSL3 := Zac (own_monoF hsl (show w.heap.size + 3 ≤ (x1.alloc (.cells #[.int .i64 0, .int .i64 0, .int .i64 0, .slice none 0 0, .slice none 0 0, .int .i64 0, .int .i64 0, .int .i64 0] 32 (0, 0))).heap.size from (Zaa HP2).size))
    have HKP3 := Zac (own_monoF hkp (show w.heap.size + 3 ≤ (x1.alloc (.cells #[.int .i64 0, .int .i64 0, .int .i64 0, .slice none 0 0, .slice none 0 0, .int .i64 0, .int .i64 0, .int .i64 0] 32 (0, 0))).heap.size from (Zaa HP2).size))
    have hx3 := hb.size
    have HRW3 := Zac ((hb.block _ (row_lt (Zaa HRW2))).trans (Zaa HRW2))
    clear hsl hkp hb
    refine hK.out _ _ (Zaa HSS _ (Zaa HP3)) (fun hHeld2 => ?_)
    clear hK K
    try simp only [Act.put, zA, zB, zC, zD, zE, zF]
    refine wpAnyH_ready (rs := [12]) (by kernel_rfl) (by simp) ?_
    refine AllReadyH.cons rfl (fun K hK => ?_) AllReadyH.nil
    rw [if_pos (by rfl)]
    have hfo := FoF.of (bx := x1.heap.size) (fr := fr) (Zaa HP3) (Zaa HRW3) (Zaa HSL3) (Zaa HKP3) (Zaa HP1).size
    refine wp_store_row 32 _ _ rfl x1.heap.size #[.int .i64 fr.out, .int .i64 fr.cop, .int .i64 fr.cells, .slice sp9 fr.slots.length sc9, .slice kp9 fr.saves.length kc9, .int .i64 fr.link, .int .i64 fr.size, .int .i64 fr.in_] rfl rfl 32 _ (Zaa HRW3) (Tryz.infFrF.trans rfl) rfl (by simp [Value.oneCell']) ?_
    have HFO := Zac hfo
    have HPZ := Zac hfo.p
    clear hfo
    refine hK.out _ _ (Zaa HSS _ (Zaa HPZ)) (fun hHeld2 => ?_)
    clear hK K
    try simp only [Act.put]
    refine wpAnyH_done (by kernel_rfl) ?_ _
    go_wp2
    go_meet
    case rel => exact ⟨_, _, _, rfl, Zaa HFO⟩
  ·
   go_simp
   have hal := al0 W.drew (.cells #[.int .i64 0, .int .i64 0, .int .i64 0, .slice none 0 0, .slice none 0 0, .int .i64 0, .int .i64 0, .int .i64 0] 32 (0, 0))
   have HP1 := Zac ((Zaa HP0).next hal.2.1)
   have HRW1 := Zac hal.1
   have hx1 := hal.2.2
   clear hal
   refine hK.out _ _ (Zaa HSS _ (Zaa HP1)) (fun hHeld2 => ?_)
   clear hK K
   try simp only [Act.put, zA, zB, zC, zD, zE, zF]
   refine wpAnyH_ready (rs := [9]) (by kernel_rfl) (by simp) ?_
   refine AllReadyH.cons rfl (fun K hK => ?_) AllReadyH.nil
   go_simp
   refine (Zaa HFC (W.drew.alloc (.cells #[.int .i64 0, .int .i64 0, .int .i64 0, .slice none 0 0, .slice none 0 0, .int .i64 0, .int .i64 0, .int .i64 0] 32 (0, 0))) (Zaa HP1)).mono ?_
   rintro e x2 ⟨cv, rfl, hly, hb⟩
   obtain ⟨vp, vc, rfl⟩ := hly.form
   have HP2 := Zac ((Zaa HP1).next hb)
   have HLY2 := Zac hly
   have hx2 := hb.size
   have HRW2 := Zac ((hb.block _ (row_lt (Zaa HRW1))).trans (Zaa HRW1))
   clear hly hb
   refine hK.out _ _ (Zaa HSS _ (Zaa HP2)) (fun hHeld2 => ?_)
   clear hK K
   try simp only [Act.put, zA, zB, zC, zD, zE, zF]
   refine wpAnyH_ready (rs := [10]) (by kernel_rfl) (by simp) ?_
   refine AllReadyH.cons rfl (fun K hK => ?_) AllReadyH.nil
   go_simp
   refine (Zaa HFP x2 (Zaa HP2) _ _ (Zaa HLY2)).mono ?_
   rintro e x3 ⟨slv, kv, rfl, hsl, hkp, hb⟩
   obtain ⟨sp9, sc9, rfl⟩ := Zan hsl
   obtain ⟨kp9, kc9, rfl⟩ := Zan hkp
   have HP3 := Zac ((Zaa HP2).next hb)
   have HSL3 := Zac (own_monoF hsl (show w.heap.size + 3 ≤ x2.heap.size from (Zaa HP2).size))
   have HKP3 := Zac (own_monoF hkp (show w.heap.size + 3 ≤ x2.heap.size from (Zaa HP2).size))
   have hx3 := hb.size
   have HRW3 := Zac ((hb.block _ (row_lt (Zaa HRW2))).trans (Zaa HRW2))
   clear hsl hkp hb
   refine hK.out _ _ (Zaa HSS _ (Zaa HP3)) (fun hHeld2 => ?_)
   clear hK K
   try simp only [Act.put, zA, zB, zC, zD, zE, zF]
   refine wpAnyH_ready (rs := [12]) (by kernel_rfl) (by simp) ?_
   refine AllReadyH.cons rfl (fun K hK => ?_) AllReadyH.nil
   rw [if_pos (by rfl)]
   have hfo := FoF.of (bx := W.drew.heap.size) (fr := fr) (Zaa HP3) (Zaa HRW3) (Zaa HSL3) (Zaa HKP3) (Zaa HP0).size
   refine wp_store_row 32 _ _ rfl W.drew.heap.size #[.int .i64 fr.out, .int .i64 fr.cop, .int .i64 fr.cells, .slice sp9 fr.slots.length sc9, .slice kp9 fr.saves.length kc9, .int .i64 fr.link, .int .i64 fr.size, .int .i64 fr.in_] rfl rfl 32 _ (Zaa HRW3) (Tryz.infFrF.trans rfl) rfl (by simp [Value.oneCell']) ?_
   have HFO := Zac hfo
   have HPZ := Zac hfo.p
   clear hfo
   refine hK.out _ _ (Zaa HSS _ (Zaa HPZ)) (fun hHeld2 => ?_)
   clear hK K
   try simp only [Act.put]
   refine wpAnyH_done (by kernel_rfl) ?_ _
   go_wp2
   go_meet
   case rel => exact ⟨_, _, _, rfl, Zaa HFO⟩
 case rest =>
  obtain ⟨bx, slv, kv, rfl, hF⟩ := hcut
  obtain ⟨sp9, sc9, rfl⟩ := Zan hF.sl
  obtain ⟨kp9, kc9, rfl⟩ := Zan hF.kp
  have HF := Zac hF
  have e6 : wc.cell? ⟨bx, 6, none⟩ = some (.int .i64 fr.size) := (Zab hF.row 6).trans rfl
  have HR2 := Zac hF.p.r2
  have HRW := Zac hF.row
  have hz := hF.p.size
  clear hF HFC HFP HSS HP HP0
  by_cases hsz : 1024 < fr.size
  ·
   have HN := Zac (show frmN T P k0 = noFrm by rw [Zaa HNN, if_pos hsz])
   have HX := Zac (show frmX T P k0 = ⟨7, k0, -1, -1⟩ by rw [Zaa HXX, if_pos hsz])
   have hal := al0 wc (.cells #[.iface 58 (.int .i64 7), .int .i64 k0, .int .i64 (-1), .int .i64 (-1)] 64 (0, 0))
   have HAL := Zac hal
   have HR3 := Zac ((hal.2.1.block _ (by omega)).trans (Zaa HR2))
   clear hal
   go_wp2_with (refine wpList_store_row rfl 32 _ _ rfl (w.heap.size + 1 + 1) #[.int .i64 0, .int .i64 0, .int .i64 0, .slice none 0 0, .slice none 0 0, .int .i64 0, .int .i64 0, .int .i64 0] rfl rfl 32 _ (Zaa HR3) (Tryz.infFrF.trans rfl) rfl (by simp [Value.oneCell']) ?_)
   refine bodyPost_ret (results_c2 (fn := Tryz.f29) (p := 6) (q := 7) (px := 32) rfl _ _ (w.heap.size + 1 + 1) 32 #[.int .i64 0, .int .i64 0, .int .i64 0, .slice none 0 0, .slice none 0 0, .int .i64 0, .int .i64 0, .int .i64 0] (0, 0) _ rfl (setRow_heap _ _ _ _ _ _ (Zaa HR3)) Tryz.underlying32 rfl (Tryz.infFrF.trans rfl)) rfl ?_
   rw [Zaa HN, Zaa HX]
   refine ⟨_, _, _, rfl, World.ownsRow_nil _ _ _ _, World.ownsRow_nil _ _ _ _, Or.inr (Or.inr ⟨wc.heap.size, (show (7 : Int) ≠ 0 by decide), rfl, ?_⟩), Zag (Zad (Zaa HF).p.low (Zaa HAL).2.1 (by omega)) (by omega)⟩
   have hrb := (setRow_other (wc.alloc (.cells #[.iface 58 (.int .i64 7), .int .i64 k0, .int .i64 (-1), .int .i64 (-1)] 64 (0, 0))) (w.heap.size + 1 + 1) wc.heap.size #[.int .i64 0, .int .i64 0, .int .i64 0, .slice none 0 0, .slice none 0 0, .int .i64 0, .int .i64 0, .int .i64 0] (by omega)).trans (Zaa HAL).1
   exact ⟨(Zab hrb 0).trans rfl, (Zab hrb 1).trans rfl, (Zab hrb 2).trans rfl, (Zab hrb 3).trans rfl⟩
  ·
   have HN := Zac (show frmN T P k0 = fr by rw [Zaa HNN, if_neg hsz])
   have HX := Zac (show frmX T P k0 = ⟨0, -1, -1, -1⟩ by rw [Zaa HXX, if_neg hsz])
   have u0 : wc.cell? ⟨bx, 0, none⟩ = some (.int .i64 fr.out) := (Zab (Zaa HRW) 0).trans rfl
   have u1 : wc.cell? ⟨bx, 1, none⟩ = some (.int .i64 fr.cop) := (Zab (Zaa HRW) 1).trans rfl
   have u2 : wc.cell? ⟨bx, 2, none⟩ = some (.int .i64 fr.cells) := (Zab (Zaa HRW) 2).trans rfl
   have u3 : wc.cell? ⟨bx, 3, none⟩ = some (.slice sp9 fr.slots.length sc9) := (Zab (Zaa HRW) 3).trans rfl
   have u4 : wc.cell? ⟨bx, 4, none⟩ = some (.slice kp9 fr.saves.length kc9) := (Zab (Zaa HRW) 4).trans rfl
   have u5 : wc.cell? ⟨bx, 5, none⟩ = some (.int .i64 fr.link) := (Zab (Zaa HRW) 5).trans rfl
   have u6 : wc.cell? ⟨bx, 6, none⟩ = some (.int .i64 fr.size) := (Zab (Zaa HRW) 6).trans rfl
   have u7 : wc.cell? ⟨bx, 7, none⟩ = some (.int .i64 fr.in_) := (Zab (Zaa HRW) 7).trans rfl
   go_wp2_with (refine wpList_store_row rfl 32 _ _ rfl (w.heap.size + 1 + 1) #[.int .i64 fr.out, .int .i64 fr.cop, .int .i64 fr.cells, .slice sp9 fr.slots.length sc9, .slice kp9 fr.saves.length kc9, .int .i64 fr.link, .int .i64 fr.size, .int .i64 fr.in_] rfl rfl 32 _ (Zaa HR2) (Tryz.infFrF.trans rfl) rfl (by simp [Value.oneCell']) ?_)
   refine bodyPost_ret (results_c2 (fn := Tryz.f29) (p := 6) (q := 7) (px := 32) rfl _ _ (w.heap.size + 1 + 1) 32 #[.int .i64 fr.out, .int .i64 fr.cop, .int .i64 fr.cells, .slice sp9 fr.slots.length sc9, .slice kp9 fr.saves.length kc9, .int .i64 fr.link, .int .i64 fr.size, .int .i64 fr.in_] (0, 0) _ rfl (setRow_heap _ _ _ _ _ _ (Zaa HR2)) Tryz.underlying32 rfl (Tryz.infFrF.trans rfl)) rfl ?_
   rw [Zaa HN, Zaa HX]
   exact ⟨_, _, _, rfl, own_res (Zaa HF).sl _, own_res (Zaa HF).kp _, Or.inl ⟨rfl, rfl⟩, Zag (Zaa HF).p.low (by omega)⟩
end Go.Proofs.YtffemeicclhioaaGreatDoor
