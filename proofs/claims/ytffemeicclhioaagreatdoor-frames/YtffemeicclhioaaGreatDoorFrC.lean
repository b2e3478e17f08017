/-
 Frames: the layouts of all that a function calls. Own work of the verifier.
-/
import Derived.Test.YtffemeicclhioaaGreatDoorFrB
namespace Go.Proofs.YtffemeicclhioaaGreatDoor
open Go.RowKit

/-- All that a function's instructions call may be. -/
structure CallsOk (P : ProgE) (fn : FuncE) : Prop where
 f : ∀ k j, k < fn.blocks.length → j < (fn.blocks.getD k []).length → (((fn.blocks.getD k []).getD j noIns).op = 12 ∨ ((fn.blocks.getD k []).getD j noIns).op = 17 → 0 ≤ ((fn.blocks.getD k []).getD j noIns).f ∧ ((fn.blocks.getD k []).getD j noIns).f < P.funcs.length)
 e : ∀ k j, k < fn.blocks.length → j < (fn.blocks.getD k []).length → (((fn.blocks.getD k []).getD j noIns).op = 13 → 0 ≤ ((fn.blocks.getD k []).getD j noIns).f ∧ ((fn.blocks.getD k []).getD j noIns).f < P.externs.length)
 s : ∀ k j s, k < fn.blocks.length → j < (fn.blocks.getD k []).length → sigAt P ((fn.blocks.getD k []).getD j noIns) = some s → SgOk s
 own : SgOk (sigE fn)
 len : ∀ k, k < fn.blocks.length → (fn.blocks.getD k []).length ≤ 24
 num : fn.blocks.length ≤ 12
theorem getD_at {α : Type} (l : List α) (d : α) (k : Nat) (h : k < l.length) : l.getD k d = l[k] := by simp [List.getD, h]
theorem acc_len (T : TbE) (P : ProgE) (own : List Int × Int) (bs : List (List InsE)) (hl : ∀ k, k < bs.length → (bs.getD k []).length ≤ 24) : ∀ k j, k ≤ bs.length → (k < bs.length → j ≤ (bs.getD k []).length) → (k = bs.length → j = 0) → (accI T P own bs k j).length ≤ k * 24 + j := by
 have hB : ∀ k, k ≤ bs.length → (accB T P own bs k).length ≤ k * 24 := by
  intro k
  induction k with
  | zero => intro _; simp [accB]
  | succ k ih =>
   intro hk
   have h1 := ih (by omega)
   rw [← accB_next T P own bs k (by omega)]
   unfold accI
   rw [List.length_append]
   have h2 := List.length_filterMap_le (realS T P own) ((bs.getD k []).take (bs.getD k []).length)
   have h3 := hl k (by omega)
   rw [List.take_length] at h2 ⊢
   omega
 intro k j hk hj hz
 unfold accI
 rw [List.length_append]
 have h1 := hB k hk
 have h2 := List.length_filterMap_le (realS T P own) ((bs.getD k []).take j)
 have h3 : ((bs.getD k []).take j).length ≤ j := by simp; omega
 omega
/-- What stands while the calls are gathered. -/
structure ClW (w : World) (T : TbE) (pf pe : Option Addr) (cf ce : Nat) (P : ProgE) (own : List Int × Int) (oq : Option Addr) (oc bo : Nat) (W V : World) : Prop where
 low : Below W.heap.size W V
 r0 : W.heap[w.heap.size]? = some (.cells T.box 25 (0, 0))
 r1 : W.heap[w.heap.size + 1]? = some (.cells #[.slice pf P.funcs.length cf, .slice pe P.externs.length ce] 29 (0, 0))
 ro : W.heap[bo]? = some (.cells #[.slice oq own.1.length oc, .int .i64 own.2] 79 (0, 0))
 lw : Below w.heap.size w W
 lo : Li W (.slice oq own.1.length oc) own.1
theorem ClW.next {w W V V' : World} {T : TbE} {pf pe oq : Option Addr} {cf ce oc bo : Nat} {P : ProgE} {own : List Int × Int} (h : ClW w T pf pe cf ce P own oq oc bo W V) (hb : Below V.heap.size V V') : ClW w T pf pe cf ce P own oq oc bo W V' := ⟨Zad h.low hb h.low.size, h.r0, h.r1, h.ro, h.lw, h.lo⟩
theorem ClW.all {w W V : World} {T : TbE} {pf pe oq : Option Addr} {cf ce oc bo : Nat} {P : ProgE} {own : List Int × Int} (h : ClW w T pf pe cf ce P own oq oc bo W V) : Below w.heap.size w V := Zad h.lw h.low h.lw.size
theorem ClW.row {w W V : World} {T : TbE} {pf pe oq : Option Addr} {cf ce oc bo : Nat} {P : ProgE} {own : List Int × Int} (h : ClW w T pf pe cf ce P own oq oc bo W V) {q : Nat} {o : Obj} (e : W.heap[q]? = some o) : V.heap[q]? = some o := (h.low.block q (Array.getElem?_eq_some_iff.1 e).1).trans e
theorem LyO.below {w w' : World} {B : Nat} {v : Value} {T : TbE} {ss : List (List Int × Int)} (h : LyO w B v T ss) (hb : Below w.heap.size w w') : LyO w' B v T ss := by
 obtain ⟨vs, h1, hx, h2⟩ := h
 exact ⟨vs, h1, hx, own_gb h2 (gb_ofB (o := none) hb) (fun g _ e => by cases e)⟩
theorem lay_sh {w : World} {B : Nat} {av rv : Value} {l : LayE} {pvs : List Value} (h : LayO w B av rv l pvs) : (∃ p n c, av = .slice p n c) ∧ ∃ p n c, rv = .slice p n c := by
 refine ⟨?_, plo_shape h.res⟩
 rcases h.args.2 with ⟨e, -⟩ | ⟨g, cap, cur, e, -⟩
 ·
  exact ⟨_, _, _, e⟩
 ·
  exact ⟨_, _, _, e⟩
theorem own_monoF {w : World} {B B' n size : Nat} {e : TypeId} {v : Value} {xs : List Value} (h : w.ownsRow B e size v n xs) (hB : B' ≤ B) : w.ownsRow B' e size v n xs := by
 obtain ⟨h1, h2 | ⟨g, cap, cur, e1, e2, e3⟩⟩ := h
 ·
  exact ⟨h1, Or.inl h2⟩
 ·
  exact ⟨h1, Or.inr ⟨g, cap, cur, e1, Nat.le_trans hB e2, e3⟩⟩
theorem LyO.form {w : World} {B : Nat} {v : Value} {T : TbE} {ss : List (List Int × Int)} (h : LyO w B v T ss) : ∃ p c, v = .slice p ss.length c := by
 obtain ⟨vs, -, -, h⟩ := h
 rcases h.2 with ⟨e, e0⟩ | ⟨g, cap, cur, e, -⟩
 ·
  exact ⟨none, 0, by rw [e0]; exact e⟩
 ·
  exact ⟨_, _, e⟩
theorem rows2f (w : World) (X0 X1 : Obj) : ((w.alloc X0).alloc X1).heap[w.heap.size]? = some X0 ∧ ((w.alloc X0).alloc X1).heap[w.heap.size + 1]? = some X1 ∧ ((w.alloc X0).alloc X1).heap.size = w.heap.size + 1 + 1 ∧ Below w.heap.size w ((w.alloc X0).alloc X1) := by
 obtain ⟨r0, b0, s0⟩ := al0 w X0
 obtain ⟨r1, b1, s1⟩ := al0 (w.alloc X0) X1
 rw [s0] at r1
 exact ⟨(b1.block _ (by omega)).trans r0, r1, by omega, Zad b0 b1 (by omega)⟩
theorem Tryz.infInsF : (Tryz.prog.info? 76).map (·.size) = some 8 := by kernel_rfl
set_option maxHeartbeats 8000000 in
set_option maxRecDepth 100000 in
theorem called_c (T : TbE) (P : ProgE) (k0 : Nat) (fv ev : Value) (A E : Nat → Array Value) (w : World) (hT : TbO w T) (hto : TbOk T) (hP : ProgC w fv ev P A E) (hk0 : k0 < P.funcs.length) (hok : CallsOk P (P.funcs.getD k0 Zaj)) (hpl : ∀ k, (P.funcs.getD k Zaj).params.length ≤ 8796093022208) :
 Calls Tryz.prog 45 #[.agg T.box, .agg #[fv, ev], .int .i64 k0] w fun e w' => ∃ v, e = .returned v ∧ LyO w' w.heap.size v T (accB T P (sigE (P.funcs.getD k0 Zaj)) (P.funcs.getD k0 Zaj).blocks (P.funcs.getD k0 Zaj).blocks.length) ∧ Below w.heap.size w w' := by
 obtain ⟨ti, hti, hty0, hty1, hty2⟩ := info_K Tryz.infoLyF
 obtain ⟨pf, cf, hfs⟩ := hP.fs.shape
 obtain ⟨pe, ce, hes⟩ := hP.es.shape
 subst hfs hes
 obtain ⟨r0, r1, hZ, hB⟩ := rows2f w (.cells T.box 25 (0, 0)) (.cells #[.slice pf P.funcs.length cf, .slice pe P.externs.length ce] 29 (0, 0))
 obtain ⟨pf', cf', hfs, -, hlf, hcf⟩ := hP.fs
 injection hfs with f1 _ f3
 obtain ⟨sb, so, hpf, hsb, hc⟩ := hcf (by omega)
 have hck := hc k0 hk0
 obtain ⟨pv, hv, sv, bv, Bv, hA, hD⟩ := hP.feach k0 hk0
 rw [hA] at hck
 rw [← f1] at hpf
 subst hpf
 have hfn : P.funcs.getD k0 Zaj = P.funcs[k0] := getD_at _ _ _ hk0
 have HPP := Zac hpl
 have hpl0 := hpl k0
 rw [hfn] at hok hpl0 ⊢
 generalize hfe : P.funcs[k0] = fn at hok hpl0 hD hck ⊢
 clear hfe hfn hpl
 have HCK := Zac (fun (V : World) (hV : Below w.heap.size w V) (j : Nat) (x : Value) (hx : #[pv, .int .i64 fn.results, hv, sv, bv].toList[j]? = some x) => (hV.cell (p := ⟨sb, so + k0 * 5 + j, none⟩) hsb).trans (hck j x hx))
 obtain ⟨qp, qc, hpv⟩ := hD.ps.shape
 obtain ⟨qh, ch, hhv⟩ := hD.hs.shape
 obtain ⟨qs, csv, hsv⟩ := hD.ss.shape
 obtain ⟨qb, cb, hbv⟩ := hD.bs.shape
 subst hpv hhv hsv hbv
 have HD := Zac hD
 have HP := Zac hP
 have HOK := Zac hok
 have HT := Zac hT
 have HOF := Zac (fun (V : World) (hV : Below w.heap.size w V) {s : List Int × Int} {lp : Option Addr} {lc : Nat} (h : SgOk s ∧ Li V (.slice lp s.1.length lc) s.1) => show Calls Tryz.prog 67 #[.agg #[.int .i64 T.r, .int .i64 T.sp, .int .i64 T.lk, .int .i64 T.t0, .int .i64 T.t1, .slice T.pa T.ag.length T.ca, .slice T.pr T.rs.length T.cr, .slice T.ps T.ss.length T.cs, .int .i64 T.al, .int .i64 T.sh, .int .i64 T.br, .bool T.pairs], .agg #[.slice lp s.1.length lc, .int .i64 s.2]] V (fun e w' => ∃ av rv pvs, e = .returned (.agg #[av, rv, .int .i64 (layT T s).size, .int .i64 (layT T s).copies]) ∧ LayO w' V.heap.size av rv (layT T s) pvs ∧ Below V.heap.size V w') from lof_c T s.1 lp lc s.2 V (hT.below hV).low h.2 h.1.n h.1.l h.1.r0 h.1.r4 hto.a hto.r hto.s0 hto.s1)
 have HJF := Zac (fun (V : World) (hV : Below w.heap.size w V) {own s : List Int × Int} {oq lp : Option Addr} {oc lc : Nat} (ho : SgOk own ∧ Li V (.slice oq own.1.length oc) own.1) (h : SgOk s ∧ Li V (.slice lp s.1.length lc) s.1) => show Calls Tryz.prog 66 #[.agg #[.int .i64 T.r, .int .i64 T.sp, .int .i64 T.lk, .int .i64 T.t0, .int .i64 T.t1, .slice T.pa T.ag.length T.ca, .slice T.pr T.rs.length T.cr, .slice T.ps T.ss.length T.cs, .int .i64 T.al, .int .i64 T.sh, .int .i64 T.br, .bool T.pairs], .agg #[.slice oq own.1.length oc, .int .i64 own.2], .agg #[.slice lp s.1.length lc, .int .i64 s.2]] V (fun e w' => e = .returned (.bool (jumpB T own s)) ∧ Below V.heap.size V w') from isJump_c T own s oq lp oc lc V (hT.below hV) ho.2 h.2 hto ho.1 h.1)
 have HS := Zac (fun V (hV : Below w.heap.size w V) => sigP2_c fn (.slice qp fn.params.length qc) (.slice qh fn.homes.length ch) (.slice qs fn.slots.length csv) (.slice qb fn.blocks.length cb) V (hD.ps.below hV) hpl0)
 have hnb := hok.num
 have HR0 := Zac r0
 have HR1 := Zac r1
 have HB := Zac hB
 have hlf' : P.funcs.length < 9223372036854775808 := hlf
 clear r0 r1 hB hT hto hP hok hcf hc hck hA hD f1 f3 hlf hpl0
 have hbx : T.box = #[.int .i64 T.r, .int .i64 T.sp, .int .i64 T.lk, .int .i64 T.t0, .int .i64 T.t1, .slice T.pa T.ag.length T.ca, .slice T.pr T.rs.length T.cr, .slice T.ps T.ss.length T.cs, .int .i64 T.al, .int .i64 T.sh, .int .i64 T.br, .bool T.pairs] := rfl
 rw [hbx] at HR0 HR1 HB hZ ⊢
 clear hbx
 have c0 := Zaa HCK _ (Zaa HB) 0 _ rfl
 have c1 := Zaa HCK _ (Zaa HB) 1 _ rfl
 have c2 := Zaa HCK _ (Zaa HB) 2 _ rfl
 have c3 := Zaa HCK _ (Zaa HB) 3 _ rfl
 have c4 := Zaa HCK _ (Zaa HB) 4 _ rfl
 rw [Nat.add_zero] at c0
 go_enter Tryz.func45, Tryz.ntmps45
 go_wp2_with fail
 clear c0 c1 c2 c3 c4
 generalize World.alloc (World.alloc w _) _ = W1 at HR0 HR1 HB hZ ⊢
 refine (Zaa HS W1 (Zaa HB)).mono ?_
 rintro e w2 ⟨lv, rfl, hli, hb2, hnew⟩
 obtain ⟨oq, oc, rfl⟩ := hli.shape
 have hz2 := hb2.size
 have HLI := Zac hli
 have HB2 := Zac hb2
 clear hli hb2 HS hnew
 obtain ⟨own, hown⟩ : ∃ own, own = sigE fn := ⟨_, rfl⟩
 have HOWN := Zac hown
 have hor : fn.results = own.2 := by rw [hown]; rfl
 rw [← hown] at HLI ⊢
 rw [hor]
 clear hown hor
 have halo := al0 w2 (.cells #[.slice none 0 0, .int .i64 0] 79 (0, 0))
 have HALo := Zac halo
 clear halo
 go_upto_region 3 with (refine wpList_store_row rfl 79 _ _ rfl w2.heap.size #[.slice oq own.1.length oc, .int .i64 own.2] rfl rfl 79 _ (Zaa HALo).1 (Tryz.infSigK.trans rfl) rfl (by simp [Value.oneCell']) ?_)
 have hrwo := setRow_heap _ _ _ #[.slice oq own.1.length oc, .int .i64 own.2] _ _ (Zaa HALo).1
 have hblo := Zag (T := w2.heap.size) (cs := #[.slice oq own.1.length oc, .int .i64 own.2]) (Zaa HALo).2.1 (Nat.le_refl _)
 clear HALo
 generalize World.setRow (World.alloc w2 _) _ _ = W at hrwo hblo ⊢
 have hWw : Below w.heap.size w W := Zad (Zad (Zaa HB) (Zaa HB2) (by omega)) hblo (by omega)
 have hlo : Li W (.slice oq own.1.length oc) own.1 := (Zaa HLI).below hblo
 have hCW : ClW w T (some ⟨sb, so, none⟩) pe cf ce P own oq oc w2.heap.size W W := ⟨Below.refl _ _, (hblo.block _ (by omega)).trans (((Zaa HB2).block _ (by omega)).trans (Zaa HR0)), (hblo.block _ (by omega)).trans (((Zaa HB2).block _ (by omega)).trans (Zaa HR1)), hrwo, hWw, hlo⟩
 have p0 : W.cell? ⟨w.heap.size + 1, 0, none⟩ = some (.slice (some ⟨sb, so, none⟩) P.funcs.length cf) := (Zab hCW.r1 0).trans rfl
 have c4 := Zaa HCK W hWw 4 _ rfl
 have HCW := Zac hCW
 have hzW := hWw.size
 clear hWw hlo hCW hrwo hblo HLI HB2 HR0 HR1 HB HCK
 generalize w2.heap.size = bo at HCW ⊢
 obtain ⟨bp, bcap, hbe, -, hbl, hbc⟩ := (Zaa HD).bs.ones
 injection hbe with e1 _ _
 subst e1
 have HBC := Zac hbc
 have HEA := Zac (Zaa HD).each
 have HACC := Zac (acc_len T P own fn.blocks (Zaa HOK).len)
 have hlen := (Zaa HOK).len
 have HLEN := Zac hlen
 clear hbc hlen hbl
 go_wp2
 clear p0 c4
 go_loopw [28, 7] (fun sk sv w' => ∃ (k : Nat) (v : Value), sk = .int .i64 k ∧ sv = v ∧ k ≤ fn.blocks.length ∧ LyO w' W.heap.size v T (accB T P own fn.blocks k) ∧ ClW w T (some ⟨sb, so, none⟩) pe cf ce P own oq oc bo W w') (fun sk _ _ => fn.blocks.length - (intOf sk).toNat)
 case atStart => exact ⟨0, _, rfl, rfl, by omega, ⟨[], by simp [accB], fun x hx => (by cases hx), World.ownsRow_nil _ _ _ _⟩, Zaa HCW⟩
 case round =>
  clear HCW
  obtain ⟨k, v0, rfl, rfl, hk, hly, hcw⟩ := hrel
  obtain ⟨vp, vc, rfl⟩ := hly.form
  by_cases hk2 : k < fn.blocks.length
  ·
   obtain ⟨bb, bo2, hbp, hbcell⟩ := Zaa HBC (by omega)
   subst hbp
   have hbk := (hcw.all.cell (p := ⟨bb, bo2 + k, none⟩) (World.block_lt_of_cell? w _ (hbcell k hk2))).trans (hbcell k hk2)
   obtain ⟨IA, hIL, hIE⟩ := Zaa HEA k hk2
   obtain ⟨ip, ic, hBk⟩ := hIL.shape
   rw [hBk] at hbk hIL
   have hnl := hIL
   obtain ⟨ip', ic', hie, -, hin, hicell⟩ := hnl
   injection hie with e1 _ _
   subst e1
   have hbe : fn.blocks.getD k [] = fn.blocks[k] := getD_at _ _ _ hk2
   have HLY := Zac hly
   have HCW := Zac hcw
   have HIC := Zac hicell
   have HIE := Zac hIE
   have hin' : (fn.blocks[k]).length < 9223372036854775808 := hin
   have hlk := Zaa HLEN k hk2
   rw [hbe] at hlk
   have HBE := Zac hbe
   clear hly hcw hicell hIE hIL hbcell hBk hbe hin
   generalize fn.blocks[k] = bk at hbk hin' hlk HBE HIC HIE
   go_wp2
   clear hbk
   go_loopw [34, 7] (fun sj sv w' => ∃ (j : Nat) (v : Value), sj = .int .i64 j ∧ sv = v ∧ j ≤ bk.length ∧ LyO w' W.heap.size v T (accI T P own fn.blocks k j) ∧ ClW w T (some ⟨sb, so, none⟩) pe cf ce P own oq oc bo W w') (fun sj _ _ => bk.length - (intOf sj).toNat)
   case atStart => exact ⟨0, _, rfl, rfl, by omega, by rw [accI_zero]; exact Zaa HLY, Zaa HCW⟩
   case round =>
    clear HLY HCW
    obtain ⟨j, v1, rfl, rfl, hj, hly, hcw⟩ := hrel
    obtain ⟨vp1, vc1, rfl⟩ := hly.form
    by_cases hj2 : j < bk.length
    ·
     have hbc := Zaa HIC (by omega)
     obtain ⟨isb, iso, hip, hisb, hicell⟩ := hbc
     subst hip
     have hrg := hicell j hj2
     obtain ⟨xav, xov, hIA, hxa, hxo⟩ := Zaa HIE j hj2
     obtain ⟨xap, xac, hxa2⟩ := hxa.shape
     obtain ⟨xop, xoc, hxo2⟩ := hxo.shape
     subst hxa2 hxo2
     rw [hIA] at hrg
     have hge : bk.getD j noIns = bk[j] := getD_at _ _ _ hj2
     have HFI := Zac ((Zaa HOK).f k j hk2 (by rw [Zaa HBE]; exact hj2))
     have HEI := Zac ((Zaa HOK).e k j hk2 (by rw [Zaa HBE]; exact hj2))
     have HSI := Zac (fun s => (Zaa HOK).s k j s hk2 (by rw [Zaa HBE]; exact hj2))
     have HNX := Zac (accI_next T P own fn.blocks k j (by rw [Zaa HBE]; exact hj2))
     rw [Zaa HBE, hge] at HFI HEI HSI HNX
     have hacc := Zaa HACC k j hk (fun _ => by rw [Zaa HBE]; exact hj) (fun h => by omega)
     clear hge hIA hxa hxo hicell
     generalize bk[j] = i at hrg HFI HEI HSI HNX
     have hlc := hcw.all
     have d0 := (hlc.cell (p := ⟨isb, iso + j * 8 + 0, none⟩) hisb).trans (hrg 0 _ rfl)
     have d1 := (hlc.cell (p := ⟨isb, iso + j * 8 + 1, none⟩) hisb).trans (hrg 1 _ rfl)
     have d2 := (hlc.cell (p := ⟨isb, iso + j * 8 + 2, none⟩) hisb).trans (hrg 2 _ rfl)
     have d3 := (hlc.cell (p := ⟨isb, iso + j * 8 + 3, none⟩) hisb).trans (hrg 3 _ rfl)
     have d4 := (hlc.cell (p := ⟨isb, iso + j * 8 + 4, none⟩) hisb).trans (hrg 4 _ rfl)
     have d5 := (hlc.cell (p := ⟨isb, iso + j * 8 + 5, none⟩) hisb).trans (hrg 5 _ rfl)
     have d6 := (hlc.cell (p := ⟨isb, iso + j * 8 + 6, none⟩) hisb).trans (hrg 6 _ rfl)
     have d7 := (hlc.cell (p := ⟨isb, iso + j * 8 + 7, none⟩) hisb).trans (hrg 7 _ rfl)
     rw [Nat.add_zero] at d0
     have HLYR := Zac hly
     have HCWR := Zac hcw
     clear hly hcw hrg hlc
     obtain ⟨xan, hxan⟩ : ∃ n, n = i.args.length := ⟨_, rfl⟩
     obtain ⟨xon, hxon⟩ : ∃ n, n = i.outs.length := ⟨_, rfl⟩
     rw [← hxan] at d6
     rw [← hxon] at d7
     clear hxan hxon
     have hali := al0 wr (.cells #[.int .i64 0, .int .i64 0, .int .i64 0, .int .i64 0, .int .u64 0, .int .i64 0, .slice none 0 0, .slice none 0 0] 76 (0, 0))
     have HALi := Zac hali
     clear hali
     go_upto_region 9 with (refine wpList_store_row rfl 76 _ _ rfl wr.heap.size #[.int .i64 i.op, .int .i64 i.d, .int .i64 i.a, .int .i64 i.bb, .int .u64 i.n, .int .i64 i.f, .slice xap xan xac, .slice xop xon xoc] rfl rfl 76 _ (Zaa HALi).1 (Tryz.infInsF.trans rfl) rfl (by simp [Value.oneCell']) ?_)
     have hrwi := setRow_heap _ _ _ #[.int .i64 i.op, .int .i64 i.d, .int .i64 i.a, .int .i64 i.bb, .int .u64 i.n, .int .i64 i.f, .slice xap xan xac, .slice xop xon xoc] _ _ (Zaa HALi).1
     have hbli := Zag (T := wr.heap.size) (cs := #[.int .i64 i.op, .int .i64 i.d, .int .i64 i.a, .int .i64 i.bb, .int .u64 i.n, .int .i64 i.f, .slice xap xan xac, .slice xop xon xoc]) (Zaa HALi).2.1 (Nat.le_refl _)
     clear HALi
     generalize World.setRow (World.alloc wr _) _ _ = V1 at hrwi hbli ⊢
     clear d0 d1 d2 d3 d4 d5 d6 d7
     have hCW1 := (Zaa HCWR).next hbli
     have HCW1 := Zac hCW1
     have HLY1 := Zac ((Zaa HLYR).below hbli)
     have hzi := row_lt hrwi
     have HRWI := Zac hrwi
     generalize wr.heap.size = bi at hrwi HRWI hzi ⊢
     have hp1 := hCW1.row hCW1.r1
     have p0 : V1.cell? ⟨w.heap.size + 1, 0, none⟩ = some (.slice (some ⟨sb, so, none⟩) P.funcs.length cf) := (Zab hp1 0).trans rfl
     have p1 : V1.cell? ⟨w.heap.size + 1, 1, none⟩ = some (.slice pe P.externs.length ce) := (Zab hp1 1).trans rfl
     have x0 : V1.cell? ⟨bi, 0, none⟩ = some (.int .i64 i.op) := (Zab hrwi 0).trans rfl
     have x1 : V1.cell? ⟨bi, 1, none⟩ = some (.int .i64 i.d) := (Zab hrwi 1).trans rfl
     have x2 : V1.cell? ⟨bi, 2, none⟩ = some (.int .i64 i.a) := (Zab hrwi 2).trans rfl
     have x3 : V1.cell? ⟨bi, 3, none⟩ = some (.int .i64 i.bb) := (Zab hrwi 3).trans rfl
     have x4 : V1.cell? ⟨bi, 4, none⟩ = some (.int .u64 i.n) := (Zab hrwi 4).trans rfl
     have x5 : V1.cell? ⟨bi, 5, none⟩ = some (.int .i64 i.f) := (Zab hrwi 5).trans rfl
     have x6 : V1.cell? ⟨bi, 6, none⟩ = some (.slice xap xan xac) := (Zab hrwi 6).trans rfl
     have x7 : V1.cell? ⟨bi, 7, none⟩ = some (.slice xop xon xoc) := (Zab hrwi 7).trans rfl
     clear hp1 hrwi hbli HCWR HLYR
     have HCAL := Zac (callee_c P i _ _ _ _ A E V1 ((Zaa HP).below hCW1.all) (Zaa HFI) (Zaa HEI) (Zaa HPP) ⟨xap, xan, xac, rfl⟩ ⟨xop, xon, xoc, rfl⟩)
     clear hCW1
     go_wp2_with fail
     clear p0 p1 x0 x1 x2 x3 x4 x5 x6 x7
     refine (Zaa HCAL).mono ?_
     rintro e w3 ⟨lv3, rfl, hli3, hb3⟩
     obtain ⟨lp, lc, rfl⟩ := hli3.shape
     have hz3 := hb3.size
     have HCW3 := Zac ((Zaa HCW1).next hb3)
     have HLY3 := Zac ((Zaa HLY1).below hb3)
     have HRWI3 := Zac ((hb3.block bi (by omega)).trans (Zaa HRWI))
     have HLI3 := Zac hli3
     clear hli3 hb3 HCAL HCW1 HLY1 HRWI
     cases hsg : sigAt P i with
     | none =>
      have HX := Zac (show accI T P own fn.blocks k (j + 1) = accI T P own fn.blocks k j by rw [Zaa HNX]; unfold realS; rw [hsg]; simp)
      clear hsg HLI3
      simp only [Option.getD_none, Option.isSome_none, List.length_nil]
      have hals := al0 w3 (.cells #[.slice none 0 0, .int .i64 0] 79 (0, 0))
      have HALs := Zac hals
      clear hals
      go_upto_region 10 with (refine wpList_store_row rfl 79 _ _ rfl w3.heap.size #[.slice lp 0 lc, .int .i64 0] rfl rfl 79 _ (Zaa HALs).1 (Tryz.infSigK.trans rfl) rfl (by simp [Value.oneCell']) ?_)
      have hrws := setRow_heap _ _ _ #[.slice lp 0 lc, .int .i64 0] _ _ (Zaa HALs).1
      have hbls := Zag (T := w3.heap.size) (cs := #[.slice lp 0 lc, .int .i64 0]) (Zaa HALs).2.1 (Nat.le_refl _)
      clear HALs
      generalize World.setRow (World.alloc w3 _) _ _ = V4 at hrws hbls ⊢
      have HLY4 := Zac ((Zaa HLY3).below hbls)
      have HCW4 := Zac ((Zaa HCW3).next hbls)
      clear hrws hbls
      go_wp2
      go_roundw
      case rel => exact ⟨j + 1, _, by go_num, rfl, by omega, by rw [Zaa HX]; exact Zaa HLY4, Zaa HCW4⟩
      case measure => simp [intOf]; omega
     | some s =>
      have HRE := Zac (show realS T P own i = if (decide (i.op = 17) && jumpB T own s) = true then none else some s by unfold realS; rw [hsg])
      have hso := Zaa HSI s hsg
      rw [hsg] at HLI3
      clear hsg
      simp only [Option.getD_some, Option.isSome_some] at HLI3 ⊢
      have hals := al0 w3 (.cells #[.slice none 0 0, .int .i64 0] 79 (0, 0))
      have HALs := Zac hals
      clear hals
      go_upto_region 10 with (refine wpList_store_row rfl 79 _ _ rfl w3.heap.size #[.slice lp s.1.length lc, .int .i64 s.2] rfl rfl 79 _ (Zaa HALs).1 (Tryz.infSigK.trans rfl) rfl (by simp [Value.oneCell']) ?_)
      have hrws := setRow_heap _ _ _ #[.slice lp s.1.length lc, .int .i64 s.2] _ _ (Zaa HALs).1
      have hbls := Zag (T := w3.heap.size) (cs := #[.slice lp s.1.length lc, .int .i64 s.2]) (Zaa HALs).2.1 (Nat.le_refl _)
      clear HALs
      generalize World.setRow (World.alloc w3 _) _ _ = V4 at hrws hbls ⊢
      have hCW4 := (Zaa HCW3).next hbls
      have HCW4 := Zac hCW4
      have HLY4 := Zac ((Zaa HLY3).below hbls)
      have HLS4 := Zac (show SgOk s ∧ Li V4 (.slice lp s.1.length lc) s.1 from ⟨hso, (Zaa HLI3).below hbls⟩)
      have hrwi4 := (hbls.block bi (by omega)).trans (Zaa HRWI3)
      have hzs := row_lt hrws
      have HRS4 := Zac hrws
      have HOO := Zac (show SgOk own by rw [Zaa HOWN]; exact (Zaa HOK).own)
      clear hbls HLI3 HCW3 HLY3 HRWI3 hso
      generalize w3.heap.size = bs at hrws HRS4 hzs ⊢
      by_cases h17 : i.op = 17
      ·
       have z17 : (i.op == 17) = true := by simp [h17]
       have hq0 := hCW4.row hCW4.r0
       have hqo := hCW4.row hCW4.ro
       have x0 : V4.cell? ⟨bi, 0, none⟩ = some (.int .i64 i.op) := (Zab hrwi4 0).trans rfl
       have t0 : V4.cell? ⟨w.heap.size, 0, none⟩ = some (.int .i64 T.r) := (Zab hq0 0).trans rfl
       have t1 : V4.cell? ⟨w.heap.size, 1, none⟩ = some (.int .i64 T.sp) := (Zab hq0 1).trans rfl
       have t2 : V4.cell? ⟨w.heap.size, 2, none⟩ = some (.int .i64 T.lk) := (Zab hq0 2).trans rfl
       have t3 : V4.cell? ⟨w.heap.size, 3, none⟩ = some (.int .i64 T.t0) := (Zab hq0 3).trans rfl
       have t4 : V4.cell? ⟨w.heap.size, 4, none⟩ = some (.int .i64 T.t1) := (Zab hq0 4).trans rfl
       have t5 : V4.cell? ⟨w.heap.size, 5, none⟩ = some (.slice T.pa T.ag.length T.ca) := (Zab hq0 5).trans rfl
       have t6 : V4.cell? ⟨w.heap.size, 6, none⟩ = some (.slice T.pr T.rs.length T.cr) := (Zab hq0 6).trans rfl
       have t7 : V4.cell? ⟨w.heap.size, 7, none⟩ = some (.slice T.ps T.ss.length T.cs) := (Zab hq0 7).trans rfl
       have t8 : V4.cell? ⟨w.heap.size, 8, none⟩ = some (.int .i64 T.al) := (Zab hq0 8).trans rfl
       have t9 : V4.cell? ⟨w.heap.size, 9, none⟩ = some (.int .i64 T.sh) := (Zab hq0 9).trans rfl
       have t10 : V4.cell? ⟨w.heap.size, 10, none⟩ = some (.int .i64 T.br) := (Zab hq0 10).trans rfl
       have t11 : V4.cell? ⟨w.heap.size, 11, none⟩ = some (.bool T.pairs) := (Zab hq0 11).trans rfl
       have o0 : V4.cell? ⟨bo, 0, none⟩ = some (.slice oq own.1.length oc) := (Zab hqo 0).trans rfl
       have o1 : V4.cell? ⟨bo, 1, none⟩ = some (.int .i64 own.2) := (Zab hqo 1).trans rfl
       have g0 : V4.cell? ⟨bs, 0, none⟩ = some (.slice lp s.1.length lc) := (Zab hrws 0).trans rfl
       have g1 : V4.cell? ⟨bs, 1, none⟩ = some (.int .i64 s.2) := (Zab hrws 1).trans rfl
       have HJC := Zac (Zaa HJF V4 hCW4.all ⟨Zaa HOO, hCW4.lo.below hCW4.low⟩ (Zaa HLS4))
       have h17' := Zac h17
       clear hq0 hqo hrwi4 hrws hCW4 h17
       go_wp2_with fail
       clear x0 o0 o1 g0 g1
       clear t0 t1 t2 t3 t4 t5 t6 t7 t8 t9 t10 t11
       refine (Zaa HJC).mono ?_
       rintro e w5 ⟨rfl, hb5⟩
       have hz5 := hb5.size
       have HCW5 := Zac ((Zaa HCW4).next hb5)
       have HLY5 := Zac ((Zaa HLY4).below hb5)
       have HLS5 := Zac (show SgOk s ∧ Li w5 (.slice lp s.1.length lc) s.1 from ⟨(Zaa HLS4).1, (Zaa HLS4).2.below hb5⟩)
       have HRS5 := Zac ((hb5.block bs (by omega)).trans (Zaa HRS4))
       clear hb5 HCW4 HLY4 HLS4 HRS4 HJC
       cases hjb : jumpB T own s with
       | true =>
        have HX := Zac (show accI T P own fn.blocks k (j + 1) = accI T P own fn.blocks k j by rw [Zaa HNX, Zaa HRE, hjb, decide_eq_true (Zaa h17')]; simp)
        clear hjb
        go_wp2
        go_roundw
        case rel => exact ⟨j + 1, _, by go_num, rfl, by omega, by rw [Zaa HX]; exact Zaa HLY5, Zaa HCW5⟩
        case measure => simp [intOf]; omega
       | false =>
        have HRL := Zac (show accI T P own fn.blocks k (j + 1) = accI T P own fn.blocks k j ++ [s] by rw [Zaa HNX, Zaa HRE, hjb]; simp)
        clear hjb
        have hq0 := (Zaa HCW5).row (Zaa HCW5).r0
        have hqs := Zaa HRS5
        have t0 : w5.cell? ⟨w.heap.size, 0, none⟩ = some (.int .i64 T.r) := (Zab hq0 0).trans rfl
        have t1 : w5.cell? ⟨w.heap.size, 1, none⟩ = some (.int .i64 T.sp) := (Zab hq0 1).trans rfl
        have t2 : w5.cell? ⟨w.heap.size, 2, none⟩ = some (.int .i64 T.lk) := (Zab hq0 2).trans rfl
        have t3 : w5.cell? ⟨w.heap.size, 3, none⟩ = some (.int .i64 T.t0) := (Zab hq0 3).trans rfl
        have t4 : w5.cell? ⟨w.heap.size, 4, none⟩ = some (.int .i64 T.t1) := (Zab hq0 4).trans rfl
        have t5 : w5.cell? ⟨w.heap.size, 5, none⟩ = some (.slice T.pa T.ag.length T.ca) := (Zab hq0 5).trans rfl
        have t6 : w5.cell? ⟨w.heap.size, 6, none⟩ = some (.slice T.pr T.rs.length T.cr) := (Zab hq0 6).trans rfl
        have t7 : w5.cell? ⟨w.heap.size, 7, none⟩ = some (.slice T.ps T.ss.length T.cs) := (Zab hq0 7).trans rfl
        have t8 : w5.cell? ⟨w.heap.size, 8, none⟩ = some (.int .i64 T.al) := (Zab hq0 8).trans rfl
        have t9 : w5.cell? ⟨w.heap.size, 9, none⟩ = some (.int .i64 T.sh) := (Zab hq0 9).trans rfl
        have t10 : w5.cell? ⟨w.heap.size, 10, none⟩ = some (.int .i64 T.br) := (Zab hq0 10).trans rfl
        have t11 : w5.cell? ⟨w.heap.size, 11, none⟩ = some (.bool T.pairs) := (Zab hq0 11).trans rfl
        have g0 : w5.cell? ⟨bs, 0, none⟩ = some (.slice lp s.1.length lc) := (Zab hqs 0).trans rfl
        have g1 : w5.cell? ⟨bs, 1, none⟩ = some (.int .i64 s.2) := (Zab hqs 1).trans rfl
        clear hq0 hqs
        go_wp2_with fail
        clear t0 t1 t2 t3 t4 t5 t6 t7 t8 t9 t10 t11
        clear g0 g1
        refine (Zaa HOF w5 (Zaa HCW5).all (Zaa HLS5)).mono ?_
        rintro e w6 ⟨av6, rv6, pvs6, rfl, hlay6, hb6⟩
        obtain ⟨⟨ap6, an6, ac6, rfl⟩, rp6, rn6, rc6, rfl⟩ := lay_sh hlay6
        have hz6 := hb6.size
        have hP6 := (Zaa HCW5).next hb6
        have hz7 := hP6.low.size
        have HP6 := Zac hP6
        have HLY6 := Zac ((Zaa HLY5).below hb6)
        clear hlay6 hb6 hP6
        obtain ⟨vs6, hvl6, hvo6, how6⟩ := Zaa HLY6
        have HVO := Zac hvo6
        have HOW6 := Zac how6
        have HVL := Zac hvl6
        clear how6 hvl6 hvo6
        obtain ⟨lt6, hlt6⟩ : ∃ lt6, lt6 = layT T s := ⟨_, rfl⟩
        rw [← hlt6]
        have HLT6 := Zac hlt6.symm
        clear hlt6
        go_wp2_with (at_builtin; refine wpList_append_own _ rfl _ _ 126 rfl W.heap.size 85 ti _ 4 64 Tryz.underlying126 hti hty0 hty1 hty2 rfl (by decide) _ _ _ rfl (World.ownsRow.alloc (Zaa HOW6) _) ⟨w6.heap.size, 0, none⟩ 1 1 [.slice ap6 an6 ac6, .slice rp6 rn6 rc6, .int .i64 lt6.size, .int .i64 lt6.copies] rfl rfl (by intro j u hj; match j, hj with | 0, hj => (simp at hj; subst hj; simp [Addr.add]) | 1, hj => (simp at hj; subst hj; simp [Addr.add]) | 2, hj => (simp at hj; subst hj; simp [Addr.add]) | 3, hj => (simp at hj; subst hj; simp [Addr.add])) (by intro u hu; simp at hu; rcases hu with rfl | rfl | rfl | rfl <;> rfl) ?c35 ?c45 ?c55 ?_)
        case c35 => unfold maxLen; omega
        case c45 => omega
        case c55 => first | omega | (simp; omega)
        intro v7 w7 hown7 hgr7 _
        obtain ⟨gg7, cc7, rfl⟩ := own_sliceL hown7
        have hal := al0 w6 (.cells #[.slice ap6 an6 ac6, .slice rp6 rn6 rc6, .int .i64 lt6.size, .int .i64 lt6.copies] 85 (0, 0))
        have HX := Zac (show LyO w7 W.heap.size (.slice (some ⟨gg7, 0, none⟩) ((accI T P own fn.blocks k j).length + 1) cc7) T (accI T P own fn.blocks k (j + 1)) by
         rw [Zaa HRL]
         refine ⟨vs6 ++ [(.slice ap6 an6 ac6, .slice rp6 rn6 rc6)], by simp [Zaa HVL], fun x hx => (by rcases List.mem_append.1 hx with h | h; exact Zaa HVO x h; simp at h; subst h; exact ⟨rfl, rfl⟩), ?_⟩
         rw [List.map_append, List.map_cons, List.map_nil, lyC_snoc _ _ _ _ (by simp [Zaa HVL]), List.length_append, Zaa HLT6]
         exact hown7)
        have HPX := Zac (show ClW w T (some ⟨sb, so, none⟩) pe cf ce P own oq oc bo W w7 from ⟨⟨hgr7.os.trans (hal.2.1.os.trans (Zaa HP6).low.os), hgr7.tape.trans (hal.2.1.tape.trans (Zaa HP6).low.tape), hgr7.output.trans (hal.2.1.output.trans (Zaa HP6).low.output), by have := hgr7.size; rw [hal.2.2] at this; omega, fun q hq => (hgr7.block q (by rw [hal.2.2]; omega) (fun e => by have := ((Zaa HOW6).lt q e.symm).1; omega)).trans ((hal.2.1.block q (by omega)).trans ((Zaa HP6).low.block q hq))⟩, (Zaa HP6).r0, (Zaa HP6).r1, (Zaa HP6).ro, (Zaa HP6).lw, (Zaa HP6).lo⟩)
        clear hown7 hgr7 hal HOW6 HP6 HLY6
        go_wp2
        go_roundw
        case rel => exact ⟨j + 1, _, by go_num, rfl, by omega, Zaa HX, Zaa HPX⟩
        case measure => simp [intOf]; omega
      ·
       have z17 : (i.op == 17) = false := by simp [h17]
       have HRL := Zac (show accI T P own fn.blocks k (j + 1) = accI T P own fn.blocks k j ++ [s] by rw [Zaa HNX, Zaa HRE, decide_eq_false h17]; simp)
       have x0 : V4.cell? ⟨bi, 0, none⟩ = some (.int .i64 i.op) := (Zab hrwi4 0).trans rfl
       clear h17 hrwi4 hrws hCW4
       have hq0 := (Zaa HCW4).row (Zaa HCW4).r0
       have hqs := Zaa HRS4
       have t0 : V4.cell? ⟨w.heap.size, 0, none⟩ = some (.int .i64 T.r) := (Zab hq0 0).trans rfl
       have t1 : V4.cell? ⟨w.heap.size, 1, none⟩ = some (.int .i64 T.sp) := (Zab hq0 1).trans rfl
       have t2 : V4.cell? ⟨w.heap.size, 2, none⟩ = some (.int .i64 T.lk) := (Zab hq0 2).trans rfl
       have t3 : V4.cell? ⟨w.heap.size, 3, none⟩ = some (.int .i64 T.t0) := (Zab hq0 3).trans rfl
       have t4 : V4.cell? ⟨w.heap.size, 4, none⟩ = some (.int .i64 T.t1) := (Zab hq0 4).trans rfl
       have t5 : V4.cell? ⟨w.heap.size, 5, none⟩ = some (.slice T.pa T.ag.length T.ca) := (Zab hq0 5).trans rfl
       have t6 : V4.cell? ⟨w.heap.size, 6, none⟩ = some (.slice T.pr T.rs.length T.cr) := (Zab hq0 6).trans rfl
       have t7 : V4.cell? ⟨w.heap.size, 7, none⟩ = some (.slice T.ps T.ss.length T.cs) := (Zab hq0 7).trans rfl
       have t8 : V4.cell? ⟨w.heap.size, 8, none⟩ = some (.int .i64 T.al) := (Zab hq0 8).trans rfl
       have t9 : V4.cell? ⟨w.heap.size, 9, none⟩ = some (.int .i64 T.sh) := (Zab hq0 9).trans rfl
       have t10 : V4.cell? ⟨w.heap.size, 10, none⟩ = some (.int .i64 T.br) := (Zab hq0 10).trans rfl
       have t11 : V4.cell? ⟨w.heap.size, 11, none⟩ = some (.bool T.pairs) := (Zab hq0 11).trans rfl
       have g0 : V4.cell? ⟨bs, 0, none⟩ = some (.slice lp s.1.length lc) := (Zab hqs 0).trans rfl
       have g1 : V4.cell? ⟨bs, 1, none⟩ = some (.int .i64 s.2) := (Zab hqs 1).trans rfl
       clear hq0 hqs
       go_wp2_with fail
       clear t0 t1 t2 t3 t4 t5 t6 t7 t8 t9 t10 t11
       clear g0 g1
       refine (Zaa HOF V4 (Zaa HCW4).all (Zaa HLS4)).mono ?_
       rintro e w6 ⟨av6, rv6, pvs6, rfl, hlay6, hb6⟩
       obtain ⟨⟨ap6, an6, ac6, rfl⟩, rp6, rn6, rc6, rfl⟩ := lay_sh hlay6
       have hz6 := hb6.size
       have hP6 := (Zaa HCW4).next hb6
       have hz7 := hP6.low.size
       have HP6 := Zac hP6
       have HLY6 := Zac ((Zaa HLY4).below hb6)
       clear hlay6 hb6 hP6
       obtain ⟨vs6, hvl6, hvo6, how6⟩ := Zaa HLY6
       have HVO := Zac hvo6
       have HOW6 := Zac how6
       have HVL := Zac hvl6
       clear how6 hvl6 hvo6
       obtain ⟨lt6, hlt6⟩ : ∃ lt6, lt6 = layT T s := ⟨_, rfl⟩
       rw [← hlt6]
       have HLT6 := Zac hlt6.symm
       clear hlt6
       go_wp2_with (at_builtin; refine wpList_append_own _ rfl _ _ 126 rfl W.heap.size 85 ti _ 4 64 Tryz.underlying126 hti hty0 hty1 hty2 rfl (by decide) _ _ _ rfl (World.ownsRow.alloc (Zaa HOW6) _) ⟨w6.heap.size, 0, none⟩ 1 1 [.slice ap6 an6 ac6, .slice rp6 rn6 rc6, .int .i64 lt6.size, .int .i64 lt6.copies] rfl rfl (by intro j u hj; match j, hj with | 0, hj => (simp at hj; subst hj; simp [Addr.add]) | 1, hj => (simp at hj; subst hj; simp [Addr.add]) | 2, hj => (simp at hj; subst hj; simp [Addr.add]) | 3, hj => (simp at hj; subst hj; simp [Addr.add])) (by intro u hu; simp at hu; rcases hu with rfl | rfl | rfl | rfl <;> rfl) ?c34 ?c44 ?c54 ?_)
       case c34 => unfold maxLen; omega
       case c44 => omega
       case c54 => first | omega | (simp; omega)
       intro v7 w7 hown7 hgr7 _
       obtain ⟨gg7, cc7, rfl⟩ := own_sliceL hown7
       have hal := al0 w6 (.cells #[.slice ap6 an6 ac6, .slice rp6 rn6 rc6, .int .i64 lt6.size, .int .i64 lt6.copies] 85 (0, 0))
       have HX := Zac (show LyO w7 W.heap.size (.slice (some ⟨gg7, 0, none⟩) ((accI T P own fn.blocks k j).length + 1) cc7) T (accI T P own fn.blocks k (j + 1)) by
        rw [Zaa HRL]
        refine ⟨vs6 ++ [(.slice ap6 an6 ac6, .slice rp6 rn6 rc6)], by simp [Zaa HVL], fun x hx => (by rcases List.mem_append.1 hx with h | h; exact Zaa HVO x h; simp at h; subst h; exact ⟨rfl, rfl⟩), ?_⟩
        rw [List.map_append, List.map_cons, List.map_nil, lyC_snoc _ _ _ _ (by simp [Zaa HVL]), List.length_append, Zaa HLT6]
        exact hown7)
       have HPX := Zac (show ClW w T (some ⟨sb, so, none⟩) pe cf ce P own oq oc bo W w7 from ⟨⟨hgr7.os.trans (hal.2.1.os.trans (Zaa HP6).low.os), hgr7.tape.trans (hal.2.1.tape.trans (Zaa HP6).low.tape), hgr7.output.trans (hal.2.1.output.trans (Zaa HP6).low.output), by have := hgr7.size; rw [hal.2.2] at this; omega, fun q hq => (hgr7.block q (by rw [hal.2.2]; omega) (fun e => by have := ((Zaa HOW6).lt q e.symm).1; omega)).trans ((hal.2.1.block q (by omega)).trans ((Zaa HP6).low.block q hq))⟩, (Zaa HP6).r0, (Zaa HP6).r1, (Zaa HP6).ro, (Zaa HP6).lw, (Zaa HP6).lo⟩)
       clear hown7 hgr7 hal HOW6 HP6 HLY6
       go_wp2
       go_roundw
       case rel => exact ⟨j + 1, _, by go_num, rfl, by omega, Zaa HX, Zaa HPX⟩
       case measure => simp [intOf]; omega
    ·
     obtain rfl : j = bk.length := by omega
     have HX := Zac (show LyO wr W.heap.size _ T (accB T P own fn.blocks (k + 1)) by rw [← accB_next T P own fn.blocks k hk2, Zaa HBE]; exact hly)
     have HCW := Zac hcw
     clear hly hcw
     go_wp2
     go_roundw
     case rel => exact ⟨k + 1, _, by go_num, rfl, by omega, Zaa HX, Zaa HCW⟩
     case measure => simp [intOf]; omega
  ·
   obtain rfl : k = fn.blocks.length := by omega
   have HLY := Zac hly
   have HCW := Zac hcw
   clear hly hcw
   go_wp2
   go_ret
   obtain ⟨vs, hv1, hv3, hv2⟩ := Zaa HLY
   exact ⟨_, rfl, by rw [← Zaa HOWN]; exact ⟨vs, hv1, hv3, own_monoF hv2 hzW⟩, (Zaa HCW).all⟩
end Go.Proofs.YtffemeicclhioaaGreatDoor
