/-
 Frames: prologueref.Lay: how what a block calls is gathered. Own work of the verifier.
-/
import Derived.Test.YtffemeicclhioaaGreatDoorPk
import Derived.Test.YtffemeicclhioaaGreatDoorJ20
import Derived.Test.YtffemeicclhioaaGreatDoorJ7
import Derived.Test.YtffemeicclhioaaGreatDoorFrJ
import Derived.Deep.DeepCutAuto
import Derived.Deep.CutBlock
namespace Go.Proofs.YtffemeicclhioaaGreatDoor
open Go.RowKit

def fLoop (f : Func) (n : Nat) : Code := (((f.body.map loopsL).getD [])[n]?).getD .skip
theorem outT_snoc (T : TbE) (ss : List (List Int × Int)) (s : List Int × Int) : outT T (ss ++ [s]) = max (outT T ss) (layT T s).size := by unfold outT; rw [List.foldl_append]; rfl
theorem copT_snoc (T : TbE) (ss : List (List Int × Int)) (s : List Int × Int) : copT T (ss ++ [s]) = max (copT T ss) (layT T s).copies := by unfold copT; rw [List.foldl_append]; rfl
/-- What prologueref.Lay reads: its arguments, and the function's row. -/
structure RfF (b0 : Nat) (T : TbE) (P : ProgE) (fn : FuncE) (pf pe qp qh qs qb : Option Addr) (cf ce qc ch cs cb : Nat) (A E : Nat → Array Value) (B : Nat → Value) (V : World) : Prop where
 t : TbO V T
 p : ProgC V (.slice pf P.funcs.length cf) (.slice pe P.externs.length ce) P A E
 d : FuncD V fn (.slice qp fn.params.length qc) (.slice qh fn.homes.length ch) (.slice qs fn.slots.length cs) (.slice qb fn.blocks.length cb) B
 r0 : V.heap[b0]? = some (.cells #[.int .i64 T.r, .int .i64 T.sp, .int .i64 T.lk, .int .i64 T.t0, .int .i64 T.t1, .slice T.pa T.ag.length T.ca, .slice T.pr T.rs.length T.cr, .slice T.ps T.ss.length T.cs, .int .i64 T.al, .int .i64 T.sh, .int .i64 T.br, .bool T.pairs] 25 (0, 0))
 r1 : V.heap[b0 + 1]? = some (.cells #[.slice pf P.funcs.length cf, .slice pe P.externs.length ce] 29 (0, 0))
 r3 : V.heap[b0 + 3]? = some (.cells #[.slice qp fn.params.length qc, .int .i64 fn.results, .slice qh fn.homes.length ch, .slice qs fn.slots.length cs, .slice qb fn.blocks.length cb] 70 (0, 0))
/-- What region 13 reads. -/
def RfS (b0 bi sb o : Nat) (R0 R1 R3 RI cal : Array Value) (V : World) : Prop :=
 V.heap[b0]? = some (.cells R0 25 (0, 0)) ∧ V.heap[b0 + 1]? = some (.cells R1 29 (0, 0)) ∧ V.heap[b0 + 3]? = some (.cells R3 70 (0, 0)) ∧ V.heap[bi]? = some (.cells RI 76 (0, 0)) ∧ ∀ j x, cal[j]? = some x → V.cell? ⟨sb, o + j, none⟩ = some x
theorem rfS_below {b0 bi sb o : Nat} {R0 R1 R3 RI cal : Array Value} {V V' : World} (h : RfS b0 bi sb o R0 R1 R3 RI cal V) (hb : Below V.heap.size V V') : RfS b0 bi sb o R0 R1 R3 RI cal V' := by
 obtain ⟨h0, h1, h3, hi, hc⟩ := h
 exact ⟨(hb.block _ (row_lt h0)).trans h0, (hb.block _ (row_lt h1)).trans h1, (hb.block _ (row_lt h3)).trans h3, (hb.block _ (row_lt hi)).trans hi, fun j x hx => (hb.cell (World.block_lt_of_cell? V _ (hc j x hx))).trans (hc j x hx)⟩
theorem realS_some {T : TbE} {P : ProgE} {own : List Int × Int} {i : InsE} {s : List Int × Int} (h : sigAt P i = some s) (hj : (decide (i.op = 17) && jumpB T own s) = false) : realS T P own i = some s := by
 unfold realS
 rw [h]
 simp only [hj]
 rfl
theorem realS_jump {T : TbE} {P : ProgE} {own : List Int × Int} {i : InsE} {s : List Int × Int} (h : sigAt P i = some s) (hj : (decide (i.op = 17) && jumpB T own s) = true) : realS T P own i = none := by
 unfold realS
 rw [h]
 simp only [hj]
 rfl
theorem realS_no {T : TbE} {P : ProgE} {own : List Int × Int} {i : InsE} (h : sigAt P i = none) : realS T P own i = none := by
 unfold realS
 rw [h]
set_option maxHeartbeats 16000000 in
set_option maxRecDepth 100000 in
theorem rfIn (T : TbE) (P : ProgE) (fn : FuncE) (b0 : Nat) (W : World) (pf pe qp qh qs qb : Option Addr) (cf ce qc ch cs cb : Nat) (A E : Nat → Array Value) (B : Nat → Value) (bk : List InsE) (k : Nat) (u : World) (ip : Option Addr) (ic : Nat) (IA : Nat → Array Value) (cb0 : Bool) (Q0 : Exit → Act → World → Prop) (s0 s1 s2 s5 s6 s10 s11 s12 s13 s14 s15 s16 s17 s18 s19 s20 s21 s22 s23 s24 s25 s26 s27 s28 s29 s30 s31 s32 s33 s37 s38 s39 s40 s41 s42 s43 s44 s45 s46 s47 s48 s49 s50 s51 s52 s53 s54 s55 s56 s57 s58 s59 s60 s61 s62 s63 s64 s65 s66 s67 s68 s69 s70 s71 s72 s73 s74 s75 s76 s77 s78 s79 s80 s81 s82 s83 s84 s85 s86 s87 s88 s89 s90 s91 s92 s93 s94 s95 s96 s97 s98 s99 s100 s101 s102 s103 s104 s105 s106 s107 s108 s109 s110 s111 s112 s113 s114 s115 s116 s117 s118 s119 s120 s121 s122 s123 s124 s125 s126 s127 s128 s129 s130 s131 s132 s133 s134 s135 s136 s137 s138 s139 s140 s141 s142 s143 s144 s145 s146 s147 s148 s149 s150 s151 s152 s153 s154 s155 s156 s157 s158 s159 s160 s161 s162 s163 s164 s165 s166 s167 s168 s169 s170 s171 s172 s173 s174 s175 s176 s177 s178 s179 s180 : Value)
 (hF : ∀ V, Below (b0 + 4) W V → RfF b0 T P fn pf pe qp qh qs qb cf ce qc ch cs cb A E B V) (hto : TbOk T) (hok : CallsOk P fn) (hpl : ∀ k, (P.funcs.getD k Zaj).params.length ≤ 8796093022208) (hfl : fn.params.length ≤ 8796093022208) (hkl : k < fn.blocks.length) (hbk : fn.blocks.getD k [] = bk)
 (hI : ∀ V, Below (b0 + 4) W V → LS 8 V (.slice ip bk.length ic) bk.length IA ∧ ∀ j (h : j < bk.length), InsC V (IA j) bk[j])
 (hu : PtI W (b0 + 4) (outT T (accI T P (sigE fn) fn.blocks k 0)) (copT T (accI T P (sigE fn) fn.blocks k 0)) 0 (.slice none 0 0) (.slice none 0 0) (-1) 0 0 [] [] u) (hcb : cb0 = decide (0 < (accI T P (sigE fn) fn.blocks k 0).length))
 (hexit : ∀ (w' : World) (cb1 : Bool), cb1 = decide (0 < (accI T P (sigE fn) fn.blocks k bk.length).length) → PtI W (b0 + 4) (outT T (accI T P (sigE fn) fn.blocks k bk.length)) (copT T (accI T P (sigE fn) fn.blocks k bk.length)) 0 (.slice none 0 0) (.slice none 0 0) (-1) 0 0 [] [] w' → ∀ (u13 u14 u15 u36 u37 u38 u39 u40 u41 u42 u43 u44 u45 u46 u47 u48 u49 u50 u51 u52 u53 u54 u55 u56 u57 u58 u59 u60 u61 u62 u63 u64 u65 u66 u67 u68 u69 u70 u71 u72 u73 u74 u75 u76 u77 u78 u79 u80 u81 u82 u83 u84 u85 u86 u87 u88 u89 u90 u91 u92 u93 u94 u95 : Value), Q0 (.exit 2) ⟨List.toArray (s0 :: s1 :: s2 :: .pointer (some ⟨b0, 0, none⟩) :: .pointer (some ⟨b0 + 1, 0, none⟩) :: s5 :: s6 :: .pointer (some ⟨b0 + 3, 0, none⟩) :: .pointer (some ⟨b0 + 4, 0, none⟩) :: .bool cb1 :: s10 :: s11 :: s12 :: u13 :: u14 :: u15 :: s16 :: s17 :: s18 :: s19 :: s20 :: s21 :: s22 :: s23 :: s24 :: s25 :: s26 :: s27 :: s28 :: s29 :: s30 :: s31 :: s32 :: s33 :: .slice ip bk.length ic :: .int .i64 bk.length :: u36 :: u37 :: u38 :: u39 :: u40 :: u41 :: u42 :: u43 :: u44 :: u45 :: u46 :: u47 :: u48 :: u49 :: u50 :: u51 :: u52 :: u53 :: u54 :: u55 :: u56 :: u57 :: u58 :: u59 :: u60 :: u61 :: u62 :: u63 :: u64 :: u65 :: u66 :: u67 :: u68 :: u69 :: u70 :: u71 :: u72 :: u73 :: u74 :: u75 :: u76 :: u77 :: u78 :: u79 :: u80 :: u81 :: u82 :: u83 :: u84 :: u85 :: u86 :: u87 :: u88 :: u89 :: u90 :: u91 :: u92 :: u93 :: u94 :: u95 :: s96 :: s97 :: s98 :: s99 :: s100 :: s101 :: s102 :: s103 :: s104 :: s105 :: s106 :: s107 :: s108 :: s109 :: s110 :: s111 :: s112 :: s113 :: s114 :: s115 :: s116 :: s117 :: s118 :: s119 :: s120 :: s121 :: s122 :: s123 :: s124 :: s125 :: s126 :: s127 :: s128 :: s129 :: s130 :: s131 :: s132 :: s133 :: s134 :: s135 :: s136 :: s137 :: s138 :: s139 :: s140 :: s141 :: s142 :: s143 :: s144 :: s145 :: s146 :: s147 :: s148 :: s149 :: s150 :: s151 :: s152 :: s153 :: s154 :: s155 :: s156 :: s157 :: s158 :: s159 :: s160 :: s161 :: s162 :: s163 :: s164 :: s165 :: s166 :: s167 :: s168 :: s169 :: s170 :: s171 :: s172 :: s173 :: s174 :: s175 :: s176 :: s177 :: s178 :: s179 :: s180 :: []), []⟩ w') :
 Code.wp Tryz.prog (fLoop Tryz.f14 1) Q0 ⟨List.toArray (s0 :: s1 :: s2 :: .pointer (some ⟨b0, 0, none⟩) :: .pointer (some ⟨b0 + 1, 0, none⟩) :: s5 :: s6 :: .pointer (some ⟨b0 + 3, 0, none⟩) :: .pointer (some ⟨b0 + 4, 0, none⟩) :: .bool cb0 :: s10 :: s11 :: s12 :: s13 :: s14 :: s15 :: s16 :: s17 :: s18 :: s19 :: s20 :: s21 :: s22 :: s23 :: s24 :: s25 :: s26 :: s27 :: s28 :: s29 :: s30 :: s31 :: s32 :: s33 :: .slice ip bk.length ic :: .int .i64 bk.length :: .int .i64 0 :: s37 :: s38 :: s39 :: s40 :: s41 :: s42 :: s43 :: s44 :: s45 :: s46 :: s47 :: s48 :: s49 :: s50 :: s51 :: s52 :: s53 :: s54 :: s55 :: s56 :: s57 :: s58 :: s59 :: s60 :: s61 :: s62 :: s63 :: s64 :: s65 :: s66 :: s67 :: s68 :: s69 :: s70 :: s71 :: s72 :: s73 :: s74 :: s75 :: s76 :: s77 :: s78 :: s79 :: s80 :: s81 :: s82 :: s83 :: s84 :: s85 :: s86 :: s87 :: s88 :: s89 :: s90 :: s91 :: s92 :: s93 :: s94 :: s95 :: s96 :: s97 :: s98 :: s99 :: s100 :: s101 :: s102 :: s103 :: s104 :: s105 :: s106 :: s107 :: s108 :: s109 :: s110 :: s111 :: s112 :: s113 :: s114 :: s115 :: s116 :: s117 :: s118 :: s119 :: s120 :: s121 :: s122 :: s123 :: s124 :: s125 :: s126 :: s127 :: s128 :: s129 :: s130 :: s131 :: s132 :: s133 :: s134 :: s135 :: s136 :: s137 :: s138 :: s139 :: s140 :: s141 :: s142 :: s143 :: s144 :: s145 :: s146 :: s147 :: s148 :: s149 :: s150 :: s151 :: s152 :: s153 :: s154 :: s155 :: s156 :: s157 :: s158 :: s159 :: s160 :: s161 :: s162 :: s163 :: s164 :: s165 :: s166 :: s167 :: s168 :: s169 :: s170 :: s171 :: s172 :: s173 :: s174 :: s175 :: s176 :: s177 :: s178 :: s179 :: s180 :: []), []⟩ u := by
 have HF := Zac hF
 have HI := Zac hI
 have HU := Zac hu
 have HEX := Zac hexit
 have HCB := Zac hcb
 have HOK := Zac hok
 have HPL := Zac hpl
 have HBK := Zac hbk
 have hlk : bk.length ≤ 24 := by have := hok.len k hkl; rw [hbk] at this; exact this
 have HSG := Zac (fun (V : World) (hV : RfF b0 T P fn pf pe qp qh qs qb cf ce qc ch cs cb A E B V) => sigR2_c fn _ (.slice qh fn.homes.length ch) (.slice qs fn.slots.length cs) (.slice qb fn.blocks.length cb) V hV.d.ps hfl)
 have HLY := Zac (fun (V : World) (hV : RfF b0 T P fn pf pe qp qh qs qb cf ce qc ch cs cb A E B V) (s : List Int × Int) (lp : Option Addr) (lc : Nat) (hs : SgOk s) (hl : Li V (.slice lp s.1.length lc) s.1) => show Calls Tryz.prog 26 #[.agg #[.int .i64 T.r, .int .i64 T.sp, .int .i64 T.lk, .int .i64 T.t0, .int .i64 T.t1, .slice T.pa T.ag.length T.ca, .slice T.pr T.rs.length T.cr, .slice T.ps T.ss.length T.cs, .int .i64 T.al, .int .i64 T.sh, .int .i64 T.br, .bool T.pairs], .agg #[.slice lp s.1.length lc, .int .i64 s.2]] V (fun e w' => ∃ av rv pvs, e = .returned (.agg #[av, rv, .int .i64 (layT T s).size, .int .i64 (layT T s).copies]) ∧ LayO w' V.heap.size av rv (layT T s) pvs ∧ Below V.heap.size V w') from rlay_c T s.1 lp lc s.2 V hV.t.low hl hs.n hs.l hs.r0 hs.r4 hto.a hto.r hto.s0 hto.s1)
 have HJP := Zac (fun (V : World) (hV : RfF b0 T P fn pf pe qp qh qs qb cf ce qc ch cs cb A E B V) (own s : List Int × Int) (oq lp : Option Addr) (oc lc : Nat) (hoo : SgOk own) (hs : SgOk s) (ho : Li V (.slice oq own.1.length oc) own.1) (hl : Li V (.slice lp s.1.length lc) s.1) => show Calls Tryz.prog 24 #[.agg #[.int .i64 T.r, .int .i64 T.sp, .int .i64 T.lk, .int .i64 T.t0, .int .i64 T.t1, .slice T.pa T.ag.length T.ca, .slice T.pr T.rs.length T.cr, .slice T.ps T.ss.length T.cs, .int .i64 T.al, .int .i64 T.sh, .int .i64 T.br, .bool T.pairs], .agg #[.slice oq own.1.length oc, .int .i64 own.2], .agg #[.slice lp s.1.length lc, .int .i64 s.2]] V (fun e w' => e = .returned (.bool (jumpB T own s)) ∧ Below V.heap.size V w') from jumps_c T own s oq lp oc lc V hV.t ho hl hto hoo hs)
 have hlf : P.funcs.length < 9223372036854775808 := by obtain ⟨_, _, _, _, h, _⟩ := (hF W (Below.refl _ _)).p.fs; exact h
 have hle : P.externs.length < 9223372036854775808 := by obtain ⟨_, _, _, _, h, _⟩ := (hF W (Below.refl _ _)).p.es; exact h
 clear hF hI hu hexit hcb hok hpl hbk hto hfl
 refine onlyX_wp (id := 2) ?_
 conv => arg 2; whnf
 go_loopw [36, 9] (fun sj s9 w' => ∃ (j : Nat) (cb : Bool), sj = .int .i64 j ∧ s9 = .bool cb ∧ j ≤ bk.length ∧ cb = decide (0 < (accI T P (sigE fn) fn.blocks k j).length) ∧ PtI W (b0 + 4) (outT T (accI T P (sigE fn) fn.blocks k j)) (copT T (accI T P (sigE fn) fn.blocks k j)) 0 (.slice none 0 0) (.slice none 0 0) (-1) 0 0 [] [] w') (fun sj _ _ => bk.length - (intOf sj).toNat)
 case atStart => exact ⟨0, _, rfl, rfl, by omega, Zaa HCB, Zaa HU⟩
 case round =>
  clear HU HCB
  obtain ⟨j, cb9, rfl, rfl, hj, hcb9, hP⟩ := hrel
  by_cases hj2 : j < bk.length
  ·
   clear HEX
   have HCB9 := Zac hcb9
   obtain ⟨hIL, hIE⟩ := Zaa HI wr hP.low
   obtain ⟨ip', ic', hie, -, hin, hicell⟩ := hIL
   injection hie with e1 e2 e3
   subst e1 e3
   clear e2
   obtain ⟨isb, iso, hip, hisb, hic2⟩ := hicell (by omega)
   subst hip
   have hrg := hic2 j hj2
   obtain ⟨xav, xov, hIA, hxa, hxo⟩ := hIE j hj2
   obtain ⟨xap, xac, hxa2⟩ := hxa.shape
   obtain ⟨xop, xoc, hxo2⟩ := hxo.shape
   subst hxa2 hxo2
   rw [hIA] at hrg
   have hge : bk.getD j noIns = bk[j] := getD_at _ _ _ hj2
   have HFI := Zac ((Zaa HOK).f k j hkl (by rw [Zaa HBK]; exact hj2))
   have HEI := Zac ((Zaa HOK).e k j hkl (by rw [Zaa HBK]; exact hj2))
   have HSI := Zac (fun s => (Zaa HOK).s k j s hkl (by rw [Zaa HBK]; exact hj2))
   have HNX := Zac (accI_next T P (sigE fn) fn.blocks k j (by rw [Zaa HBK]; exact hj2))
   rw [Zaa HBK, hge] at HFI HEI HSI HNX
   clear hge hIA hxa hxo hicell hic2 hcb9 hIE hin
   generalize bk[j] = i at hrg HFI HEI HSI HNX
   have d0 := hrg 0 _ rfl
   have d1 := hrg 1 _ rfl
   have d2 := hrg 2 _ rfl
   have d3 := hrg 3 _ rfl
   have d4 := hrg 4 _ rfl
   have d5 := hrg 5 _ rfl
   have d6 := hrg 6 _ rfl
   have d7 := hrg 7 _ rfl
   rw [Nat.add_zero] at d0
   have HPW := Zac hP
   clear hP hrg
   generalize hxan : i.args.length = xan at d6
   clear hxan
   generalize hxon : i.outs.length = xon at d7
   clear hxon
   generalize accI T P (sigE fn) fn.blocks k j = ac at HCB9 HNX HPW
   have hali := al0 wr (.cells #[.int .i64 0, .int .i64 0, .int .i64 0, .int .i64 0, .int .u64 0, .int .i64 0, .slice none 0 0, .slice none 0 0] 76 (0, 0))
   have HALi := Zac hali
   clear hali
   go_upto_region 10 with (refine wpList_store_row rfl 76 _ _ rfl wr.heap.size #[.int .i64 i.op, .int .i64 i.d, .int .i64 i.a, .int .i64 i.bb, .int .u64 i.n, .int .i64 i.f, .slice xap xan xac, .slice xop xon xoc] rfl rfl 76 _ (Zaa HALi).1 (Tryz.infInsF.trans rfl) rfl (by simp [Value.oneCell']) ?_)
   have hrwi := setRow_heap _ _ _ #[.int .i64 i.op, .int .i64 i.d, .int .i64 i.a, .int .i64 i.bb, .int .u64 i.n, .int .i64 i.f, .slice xap xan xac, .slice xop xon xoc] _ _ (Zaa HALi).1
   have hbli := Zag (T := wr.heap.size) (cs := #[.int .i64 i.op, .int .i64 i.d, .int .i64 i.a, .int .i64 i.bb, .int .u64 i.n, .int .i64 i.f, .slice xap xan xac, .slice xop xon xoc]) (Zaa HALi).2.1 (Nat.le_refl _)
   clear HALi d0 d1 d2 d3 d4 d5 d6 d7
   generalize World.setRow (World.alloc wr _) _ _ = V1 at hrwi hbli ⊢
   obtain ⟨hs1, hs2, hs3⟩ := al0 V1 (.cells #[.slice none 0 0, .int .i64 0] 79 (0, 0))
   have hltbi := row_lt hrwi
   have HRI := Zac ((hs2.block _ hltbi).trans hrwi)
   have HRS := Zac hs1
   have HBW := Zac (Zad hbli hs2 hbli.size)
   have hw1 := hbli.size
   clear hrwi hbli hs1 hs2
   go_upto_block 4 with fail
   generalize World.alloc V1 _ = V2 at HRI HRS HBW hs3 ⊢
   have hbs : wr.heap.size < V1.heap.size := hltbi
   have HP2 := Zac ((Zaa HPW).next (Zaa HBW))
   generalize V1.heap.size = bs at HRS hs3 hbs ⊢
   have hbi0 : b0 + 4 < wr.heap.size := (Zaa HPW).size
   generalize hbie : wr.heap.size = bi at HRI hbs hbi0 ⊢
   have HBIE := Zac hbie
   clear hbie hltbi hw1
   have HF2 := Zac (Zaa HF V2 (Zaa HP2).low)
   have HXX := Zac (Zaa HSI)
   go_cut [] from 40 to 80 (fun wd => ∃ (s : List Int × Int) (lp : Option Addr) (lc : Nat), realS T P (sigE fn) i = some s ∧ SgOk s ∧ wd.heap[bs]? = some (.cells #[.slice lp s.1.length lc, .int .i64 s.2] 79 (0, 0)) ∧ Li wd (.slice lp s.1.length lc) s.1 ∧ PtI W (b0 + 4) (outT T (ac)) (copT T (ac)) 0 (.slice none 0 0) (.slice none 0 0) (-1) 0 0 [] [] wd)
   case first =>
    have x0 : V2.cell? ⟨bi, 0, none⟩ = some (.int .i64 i.op) := (Zab (Zaa HRI) 0).trans rfl
    by_cases h13 : i.op = 13
    ·
     obtain ⟨f0, f1⟩ := Zaa HEI h13
     obtain ⟨k1, hk1⟩ : ∃ k1 : Nat, i.f = k1 := ⟨i.f.toNat, by omega⟩
     have hk1l : k1 < P.externs.length := by omega
     have HRE := Zac (realS_some (T := T) (own := sigE fn) (show sigAt P i = some P.externs[k1] by rw [sigAt_ext h13, hk1, Int.toNat_natCast, getD_at _ _ _ hk1l]) (by rw [h13]; rfl))
     have HSO := Zac (Zaa HXX P.externs[k1] (by rw [sigAt_ext h13, hk1, Int.toNat_natCast, getD_at _ _ _ hk1l]))
     have hPe := (Zaa HF wr (Zaa HPW).low).p
     obtain ⟨pe', ce', hes, -, -, hce⟩ := hPe.es
     injection hes with e1 e2 e3
     subst e1 e3
     clear e2
     obtain ⟨sb, so, hpe, hsb, hc⟩ := hce (by omega)
     obtain ⟨lv, hE, hL⟩ := hPe.eeach k1 hk1l
     obtain ⟨lp, lc, rfl⟩ := hL.shape
     have hck := hc k1 hk1l
     rw [hE] at hck
     have HBWr := Zaa HBW
     have c0 := (HBWr.cell (p := ⟨sb, so + k1 * 2 + 0, none⟩) hsb).trans (hck 0 _ rfl)
     have c1 := (HBWr.cell (p := ⟨sb, so + k1 * 2 + 1, none⟩) hsb).trans (hck 1 _ rfl)
     rw [Nat.add_zero] at c0
     have p1 : V2.cell? ⟨b0 + 1, 1, none⟩ = some (.slice pe P.externs.length ce) := (Zab (Zaa HF2).r1 1).trans rfl
     rw [hpe] at p1
     have x5 : V2.cell? ⟨bi, 5, none⟩ = some (.int .i64 (k1 : Int)) := by rw [← hk1]; exact (Zab (Zaa HRI) 5).trans rfl
     have HLI := Zac hL
     have z13 : (i.op == 13) = true := by simp [h13]
     clear hck hE hL hc hce hPe f0 f1 h13 hk1 HBWr hsb
     generalize P.externs[k1] = sg at c0 c1 HRE HSO HLI
     go_wp2_with (refine wpList_store_row rfl 79 _ _ rfl bs #[.slice lp sg.1.length lc, .int .i64 sg.2] rfl rfl 79 _ (Zaa HRS) (Tryz.infSigK.trans rfl) rfl (by simp [Value.oneCell']) ?_)
     go_meet
     case rel =>
      have hbb : Below bi wr (V2.setRow bs #[.slice lp sg.1.length lc, .int .i64 sg.2]) := Zag (by rw [← Zaa HBIE]; exact Zaa HBW) (by omega)
      rw [← Zaa HBIE] at hbb
      exact ⟨sg, lp, lc, Zaa HRE, Zaa HSO, setRow_heap _ _ _ _ _ _ (Zaa HRS), (Zaa HLI).below hbb, (Zaa HPW).next hbb⟩
    ·
     have z13 : (i.op == 13) = false := by simp [h13]
     by_cases hcl : i.op = 12 ∨ i.op = 17
     ·
      obtain ⟨f0, f1⟩ := Zaa HFI hcl
      obtain ⟨k1, hk1⟩ : ∃ k1 : Nat, i.f = k1 := ⟨i.f.toNat, by omega⟩
      have hk1l : k1 < P.funcs.length := by omega
      have HSA := Zac (show sigAt P i = some (sigE P.funcs[k1]) by rw [sigAt_call hcl, hk1, Int.toNat_natCast, getD_at _ _ _ hk1l])
      have HSO := Zac (Zaa HXX (sigE P.funcs[k1]) (Zaa HSA))
      have hPe := (Zaa HF2).p
      obtain ⟨pf', cf', hes, -, -, hce⟩ := hPe.fs
      injection hes with e1 e2 e3
      subst e1 e3
      clear e2
      obtain ⟨sb, so, hpf, hsb, hc⟩ := hce (by omega)
      obtain ⟨yv, hv, sv, bv, Bv, hA, hD⟩ := hPe.feach k1 hk1l
      have hyl : P.funcs[k1].params.length ≤ 8796093022208 := by have := Zaa HPL k1; rw [getD_at _ _ _ hk1l] at this; exact this
      obtain ⟨yp, yc, hpv⟩ := hD.ps.shape
      obtain ⟨yh, dh, hhv⟩ := hD.hs.shape
      obtain ⟨ys, ds, hsv⟩ := hD.ss.shape
      obtain ⟨yb, db, hbv⟩ := hD.bs.shape
      subst hpv hhv hsv hbv
      have hck := hc k1 hk1l
      rw [hA] at hck
      have hr1 := (Zaa HF2).r1
      have HRS2 := Zac (show RfS b0 bi sb (so + k1 * 5) #[.int .i64 T.r, .int .i64 T.sp, .int .i64 T.lk, .int .i64 T.t0, .int .i64 T.t1, .slice T.pa T.ag.length T.ca, .slice T.pr T.rs.length T.cr, .slice T.ps T.ss.length T.cs, .int .i64 T.al, .int .i64 T.sh, .int .i64 T.br, .bool T.pairs] #[.slice (some ⟨sb, so, none⟩) P.funcs.length cf, .slice pe P.externs.length ce] #[.slice qp fn.params.length qc, .int .i64 fn.results, .slice qh fn.homes.length ch, .slice qs fn.slots.length cs, .slice qb fn.blocks.length cb] #[.int .i64 i.op, .int .i64 i.d, .int .i64 i.a, .int .i64 i.bb, .int .u64 i.n, .int .i64 (k1 : Int), .slice xap xan xac, .slice xop xon xoc] #[.slice yp (P.funcs[k1]).params.length yc, .int .i64 (P.funcs[k1]).results, .slice yh (P.funcs[k1]).homes.length dh, .slice ys (P.funcs[k1]).slots.length ds, .slice yb (P.funcs[k1]).blocks.length db] V2 from ⟨(Zaa HF2).r0, by rw [← hpf]; exact hr1, (Zaa HF2).r3, by rw [← hk1]; exact Zaa HRI, fun q x hx => hck q x (by simpa using hx)⟩)
      have HSC := Zac (fun (V : World) (hV : Below V2.heap.size V2 V) => sigR2_c P.funcs[k1] _ (.slice yh (P.funcs[k1]).homes.length dh) (.slice ys (P.funcs[k1]).slots.length ds) (.slice yb (P.funcs[k1]).blocks.length db) V (hD.ps.below hV) hyl)
      have h16 : ¬ i.op = 13 := h13
      clear hck hA hD hc hce hPe f0 f1 h13 hsb hr1 hyl hpf hk1
      generalize P.funcs[k1] = cal at HRS2 HSC HSA HSO
      by_cases h12 : i.op = 12
      ·
       have HRE := Zac (realS_some (T := T) (own := sigE fn) (Zaa HSA) (by rw [h12]; rfl))
       have z12 : (i.op == 12) = true := by simp [h12]
       clear hcl h12 h16 HSA
       go_upto_region 13 with fail
       go_quiet (fail)
       generalize hX : World.drewN V2 _ = V3
       have HBD := Zac (show Below V2.heap.size V2 V3 by rw [← hX]; exact Zah (Below.refl _ _) _)
       have HV := Zac (rfS_below (Zaa HRS2) (Zaa HBD))
       clear hX
       obtain ⟨-, g1, -, gi, gc⟩ := Zaa HV
       have p0 : V3.cell? ⟨b0 + 1, 0, none⟩ = some (.slice (some ⟨sb, so, none⟩) P.funcs.length cf) := (Zab g1 0).trans rfl
       have x5 : V3.cell? ⟨bi, 5, none⟩ = some (.int .i64 (k1 : Int)) := (Zab gi 5).trans rfl
       have c0 := gc 0 _ rfl
       have c1 := gc 1 _ rfl
       have c2 := gc 2 _ rfl
       have c3 := gc 3 _ rfl
       have c4 := gc 4 _ rfl
       rw [Nat.add_zero] at c0
       have HC4 := Zac (Zaa HSC V3 (Zaa HBD))
       have HRS3 := Zac (((Zaa HBD).block bs (by omega)).trans (Zaa HRS))
       have hz3 := (Zaa HBD).size
       have HB3 := Zac (Zaa HBD)
       clear g1 gi gc
       go_wp2_with fail
       clear p0 x5 c0 c1 c2 c3 c4
       refine (Zaa HC4).mono ?_
       rintro e w4 ⟨lv, rfl, hli, hb4, hnew⟩
       obtain ⟨lp, lc, rfl⟩ := hli.shape
       have HLI := Zac hli
       have HNEW := Zac hnew
       have HRS4 := Zac ((hb4.block bs (by omega)).trans (Zaa HRS3))
       have HB4 := Zac (Zad (Zaa HBW) (Zad (Zaa HB3) hb4 (by omega)) (Zaa HBW).size)
       clear hli hb4 hnew HC4 HRS3
       go_wp2_with (refine wpList_store_row rfl 79 _ _ rfl bs #[.slice lp (sigE cal).1.length lc, .int .i64 cal.results] rfl rfl 79 _ (Zaa HRS4) (Tryz.infSigK.trans rfl) rfl (by simp [Value.oneCell']) ?_)
       go_meet
       case rel =>
        have hbb := Zag (T := bs) (cs := #[.slice lp (sigE cal).1.length lc, .int .i64 cal.results]) (Zaa HB4) (by have := Zaa HBIE; omega)
        exact ⟨sigE cal, lp, lc, Zaa HRE, Zaa HSO, setRow_heap _ _ _ _ _ _ (Zaa HRS4), Li.setRow (Zaa HLI) (fun sb so n c e _ => by have := Zaa HNEW sb so n c e; omega), (Zaa HPW).next hbb⟩
      ·
       have h17 : i.op = 17 := by omega
       have z12 : (i.op == 12) = false := by simp [h12]
       have z17 : (i.op == 17) = true := by simp [h17]
       obtain ⟨jb, hjb⟩ : ∃ jb, jb = jumpB T (sigE fn) (sigE cal) := ⟨_, rfl⟩
       have HJB := Zac hjb
       have HJ17 := Zac h17
       have hfk1 : k1 < P.funcs.length := hk1l
       have HOWN := Zac (Zaa HOK).own
       clear hcl h12 h16 h17 hjb
       go_upto_region 13 with fail
       clear x0
       have HVD := Zac (rfS_below (Zaa HRS2) (Below.refl V2.heap.size V2).drew)
       have HPD := Zac ((Zaa HP2).next (Below.refl V2.heap.size V2).drew)
       have HBD := Zac (Below.refl V2.heap.size V2).drew
       have HC1 := Zac (Zaa HSG V2.drew (Zaa HF V2.drew (Zaa HPD).low))
       refine wp_region_held_drew (S := RfS b0 bi sb (so + k1 * 5) #[.int .i64 T.r, .int .i64 T.sp, .int .i64 T.lk, .int .i64 T.t0, .int .i64 T.t1, .slice T.pa T.ag.length T.ca, .slice T.pr T.rs.length T.cr, .slice T.ps T.ss.length T.cs, .int .i64 T.al, .int .i64 T.sh, .int .i64 T.br, .bool T.pairs] #[.slice (some ⟨sb, so, none⟩) P.funcs.length cf, .slice pe P.externs.length ce] #[.slice qp fn.params.length qc, .int .i64 fn.results, .slice qh fn.homes.length ch, .slice qs fn.slots.length cs, .slice qb fn.blocks.length cb] #[.int .i64 i.op, .int .i64 i.d, .int .i64 i.a, .int .i64 i.bb, .int .u64 i.n, .int .i64 (k1 : Int), .slice xap xan xac, .slice xop xon xoc] #[.slice yp cal.params.length yc, .int .i64 cal.results, .slice yh cal.homes.length dh, .slice ys cal.slots.length ds, .slice yb cal.blocks.length db]) (by kernel_rfl) (Zaa HVD) (fun hHeld => ?_)
       refine tT 0 ?vg0 rfl (by kernel_rfl) (fun _ _ _ h => h) (by rfl) ?hyg0 (by assumption) ?_
       case hyg0 =>
        intro V hV
        obtain ⟨g0, g1, g3, gi, gc⟩ := hV
        clear g0 g1 g3 gi gc
        go_simp
        all_goals (with_reducible rfl)
       simp only [Act.put, zA, zB, zC, zD, zE]
       refine tT 1 ?vg1 rfl (by kernel_rfl) (fun _ _ _ h => h) (by rfl) ?hyg1 (by assumption) ?_
       case hyg1 =>
        intro V hV
        obtain ⟨g0, g1, g3, gi, gc⟩ := hV
        have c0 : V.cell? ⟨bi, 0, none⟩ = some (.int .i64 i.op) := (Zab gi 0).trans rfl
        clear g0 g1 g3 gi gc
        go_simp
        all_goals (with_reducible rfl)
       simp only [Act.put, zA, zB, zC, zD, zE, zF]
       refine tT 2 ?vg2 rfl (by kernel_rfl) (fun _ _ _ h => h) (by rfl) ?hyg2 (by assumption) ?_
       case hyg2 =>
        intro V hV
        obtain ⟨g0, g1, g3, gi, gc⟩ := hV
        clear g0 g1 g3 gi gc
        go_simp
        all_goals (with_reducible rfl)
       simp only [Act.put, zA, zB, zC, zD, zE, zF]
       refine tT 3 ?vg3 rfl (by kernel_rfl) (fun _ _ _ h => h) (by rfl) ?hyg3 (by assumption) ?_
       case hyg3 =>
        intro V hV
        obtain ⟨g0, g1, g3, gi, gc⟩ := hV
        clear g0 g1 g3 gi gc
        go_simp
        all_goals (with_reducible rfl)
       simp only [Act.put, zA, zB, zC, zD, zE, zF]
       refine tT 4 ?vg4 rfl (by kernel_rfl) (fun _ _ _ h => h) (by rfl) ?hyg4 (by assumption) ?_
       case hyg4 =>
        intro V hV
        obtain ⟨g0, g1, g3, gi, gc⟩ := hV
        clear g0 g1 g3 gi gc
        go_simp
        all_goals (with_reducible rfl)
       simp only [Act.put, zA, zB, zC, zD, zE, zF]
       refine tT 5 ?vg5 rfl (by kernel_rfl) (fun _ _ _ h => h) (by rfl) ?hyg5 (by assumption) ?_
       case hyg5 =>
        intro V hV
        obtain ⟨g0, g1, g3, gi, gc⟩ := hV
        have c0 : V.cell? ⟨bi, 0, none⟩ = some (.int .i64 i.op) := (Zab gi 0).trans rfl
        clear g0 g1 g3 gi gc
        go_simp
        all_goals (with_reducible rfl)
       simp only [Act.put, zA, zB, zC, zD, zE, zF]
       refine tT 6 ?vg6 rfl (by kernel_rfl) (fun _ _ _ h => h) (by rfl) ?hyg6 (by assumption) ?_
       case hyg6 =>
        intro V hV
        obtain ⟨g0, g1, g3, gi, gc⟩ := hV
        clear g0 g1 g3 gi gc
        go_simp
        all_goals (with_reducible rfl)
       simp only [Act.put, zA, zB, zC, zD, zE, zF]
       refine tT 7 ?vg7 rfl (by kernel_rfl) (fun _ _ _ h => h) (by rfl) ?hyg7 (by assumption) ?_
       case hyg7 =>
        intro V hV
        obtain ⟨g0, g1, g3, gi, gc⟩ := hV
        clear g0 g1 g3 gi gc
        go_simp
        all_goals (with_reducible rfl)
       simp only [Act.put, zA, zB, zC, zD, zE, zF]
       refine tT 8 ?vg8 rfl (by kernel_rfl) (fun _ _ _ h => h) (by rfl) ?hyg8 (by assumption) ?_
       case hyg8 =>
        intro V hV
        obtain ⟨g0, g1, g3, gi, gc⟩ := hV
        have c0 : V.cell? ⟨b0, 0, none⟩ = some (.int .i64 T.r) := (Zab g0 0).trans rfl
        have c1 : V.cell? ⟨b0, 1, none⟩ = some (.int .i64 T.sp) := (Zab g0 1).trans rfl
        have c2 : V.cell? ⟨b0, 2, none⟩ = some (.int .i64 T.lk) := (Zab g0 2).trans rfl
        have c3 : V.cell? ⟨b0, 3, none⟩ = some (.int .i64 T.t0) := (Zab g0 3).trans rfl
        have c4 : V.cell? ⟨b0, 4, none⟩ = some (.int .i64 T.t1) := (Zab g0 4).trans rfl
        have c5 : V.cell? ⟨b0, 5, none⟩ = some (.slice T.pa T.ag.length T.ca) := (Zab g0 5).trans rfl
        have c6 : V.cell? ⟨b0, 6, none⟩ = some (.slice T.pr T.rs.length T.cr) := (Zab g0 6).trans rfl
        have c7 : V.cell? ⟨b0, 7, none⟩ = some (.slice T.ps T.ss.length T.cs) := (Zab g0 7).trans rfl
        have c8 : V.cell? ⟨b0, 8, none⟩ = some (.int .i64 T.al) := (Zab g0 8).trans rfl
        have c9 : V.cell? ⟨b0, 9, none⟩ = some (.int .i64 T.sh) := (Zab g0 9).trans rfl
        have c10 : V.cell? ⟨b0, 10, none⟩ = some (.int .i64 T.br) := (Zab g0 10).trans rfl
        have c11 : V.cell? ⟨b0, 11, none⟩ = some (.bool T.pairs) := (Zab g0 11).trans rfl
        clear g0 g1 g3 gi gc
        go_simp
        all_goals (with_reducible rfl)
       simp only [Act.put, zA, zB, zC, zD, zE, zF]
       refine tT 9 ?vg9 rfl (by kernel_rfl) (fun _ _ _ h => h) (by rfl) ?hyg9 (by assumption) ?_
       case hyg9 =>
        intro V hV
        obtain ⟨g0, g1, g3, gi, gc⟩ := hV
        have c0 : V.cell? ⟨b0 + 3, 0, none⟩ = some (.slice qp fn.params.length qc) := (Zab g3 0).trans rfl
        have c1 : V.cell? ⟨b0 + 3, 1, none⟩ = some (.int .i64 fn.results) := (Zab g3 1).trans rfl
        have c2 : V.cell? ⟨b0 + 3, 2, none⟩ = some (.slice qh fn.homes.length ch) := (Zab g3 2).trans rfl
        have c3 : V.cell? ⟨b0 + 3, 3, none⟩ = some (.slice qs fn.slots.length cs) := (Zab g3 3).trans rfl
        have c4 : V.cell? ⟨b0 + 3, 4, none⟩ = some (.slice qb fn.blocks.length cb) := (Zab g3 4).trans rfl
        clear g0 g1 g3 gi gc
        go_simp
        all_goals (with_reducible rfl)
       simp only [Act.put, zA, zB, zC, zD, zE, zF]
       refine tT 11 ?vg11 rfl (by kernel_rfl) (fun _ _ _ h => h) (by rfl) ?hyg11 (by assumption) ?_
       case hyg11 =>
        intro V hV
        obtain ⟨g0, g1, g3, gi, gc⟩ := hV
        clear g0 g1 g3 gi gc
        go_simp
        all_goals (with_reducible rfl)
       simp only [Act.put, zA, zB, zC, zD, zE, zF]
       refine tT 12 ?vg12 rfl (by kernel_rfl) (fun _ _ _ h => h) (by rfl) ?hyg12 (by assumption) ?_
       case hyg12 =>
        intro V hV
        obtain ⟨g0, g1, g3, gi, gc⟩ := hV
        have c0 : V.cell? ⟨b0 + 1, 0, none⟩ = some (.slice (some ⟨sb, so, none⟩) P.funcs.length cf) := (Zab g1 0).trans rfl
        clear g0 g1 g3 gi gc
        go_simp
        all_goals (with_reducible rfl)
       simp only [Act.put, zA, zB, zC, zD, zE, zF]
       refine tT 13 ?vg13 rfl (by kernel_rfl) (fun _ _ _ h => h) (by rfl) ?hyg13 (by assumption) ?_
       case hyg13 =>
        intro V hV
        obtain ⟨g0, g1, g3, gi, gc⟩ := hV
        clear g0 g1 g3 gi gc
        go_simp
        all_goals (with_reducible rfl)
       simp only [Act.put, zA, zB, zC, zD, zE, zF]
       refine tT 14 ?vg14 rfl (by kernel_rfl) (fun _ _ _ h => h) (by rfl) ?hyg14 (by assumption) ?_
       case hyg14 =>
        intro V hV
        obtain ⟨g0, g1, g3, gi, gc⟩ := hV
        have c5 : V.cell? ⟨bi, 5, none⟩ = some (.int .i64 (k1 : Int)) := (Zab gi 5).trans rfl
        clear g0 g1 g3 gi gc
        go_simp
        all_goals (with_reducible rfl)
       simp only [Act.put, zA, zB, zC, zD, zE, zF]
       refine tT 15 ?vg15 rfl (by kernel_rfl) (fun _ _ _ h => h) (by rfl) ?hyg15 (by assumption) ?_
       case hyg15 =>
        intro V hV
        obtain ⟨g0, g1, g3, gi, gc⟩ := hV
        clear g0 g1 g3 gi gc
        go_simp
        all_goals (with_reducible rfl)
       simp only [Act.put, zA, zB, zC, zD, zE, zF]
       refine tT 16 ?vg16 rfl (by kernel_rfl) (fun _ _ _ h => h) (by rfl) ?hyg16 (by assumption) ?_
       case hyg16 =>
        intro V hV
        obtain ⟨g0, g1, g3, gi, gc⟩ := hV
        have c0 := gc 0 _ rfl
        have c1 := gc 1 _ rfl
        have c2 := gc 2 _ rfl
        have c3 := gc 3 _ rfl
        have c4 := gc 4 _ rfl
        rw [Nat.add_zero] at c0
        clear g0 g1 g3 gi gc
        go_simp
        all_goals (with_reducible rfl)
       simp only [Act.put, zA, zB, zC, zD, zE, zF]
       refine wpAnyH_ready (rs := [10]) (by kernel_rfl) (by simp) ?_
       refine AllReadyH.cons rfl (fun K hK => ?_) AllReadyH.nil
       go_simp
       refine (Zaa HC1).mono ?_
       rintro e y1 ⟨ov, rfl, hoi, hb1, -⟩
       obtain ⟨oq, oc, rfl⟩ := hoi.shape
       have HOI := Zac hoi
       have HV1 := Zac (rfS_below (Zaa HVD) hb1)
       have HP1 := Zac ((Zaa HPD).next hb1)
       have HB1 := Zac (Zad (Zaa HBD) hb1 (Nat.le_refl _))
       have HC2 := Zac (Zaa HSC y1 (Zaa HB1))
       clear hoi hb1
       refine hK.out _ _ (Zaa HV1) (fun hHeld2 => ?_)
       clear hK K
       try simp only [Act.put, zA, zB, zC, zD, zE, zF]
       refine wpAnyH_ready (rs := [17]) (by kernel_rfl) (by simp) ?_
       refine AllReadyH.cons rfl (fun K hK => ?_) AllReadyH.nil
       go_simp
       refine (Zaa HC2).mono ?_
       rintro e y2 ⟨lv, rfl, hli, hb2, -⟩
       obtain ⟨lp, lc, rfl⟩ := hli.shape
       have HV2 := Zac (rfS_below (Zaa HV1) hb2)
       have HP22 := Zac ((Zaa HP1).next hb2)
       have HB2 := Zac (Zad (Zaa HB1) hb2 (Zaa HB1).size)
       have HC3 := Zac (Zaa HJP y2 (Zaa HF y2 (Zaa HP22).low) (sigE fn) (sigE cal) oq lp oc lc (Zaa HOWN) (Zaa HSO) ((Zaa HOI).below hb2) hli)
       rw [← Zaa HJB] at HC3
       clear hli hb2
       refine hK.out _ _ (Zaa HV2) (fun hHeld2 => ?_)
       clear hK K
       try simp only [Act.put, zA, zB, zC, zD, zE, zF]
       refine wpAnyH_ready (rs := [18]) (by kernel_rfl) (by simp) ?_
       refine AllReadyH.cons rfl (fun K hK => ?_) AllReadyH.nil
       go_simp
       refine (Zaa HC3).mono ?_
       rintro e y3 ⟨rfl, hb3⟩
       have HV := Zac (rfS_below (Zaa HV2) hb3)
       have HPZ := Zac ((Zaa HP22).next hb3)
       have HB3 := Zac (Zad (Zaa HB2) hb3 (Zaa HB2).size)
       clear hb3
       refine hK.out _ _ (Zaa HV) (fun hHeld2 => ?_)
       clear hK K
       try simp only [Act.put, zA, zB, zC, zD, zE, zF]
       refine tT 19 ?vg19 rfl (by kernel_rfl) (fun _ _ _ h => h) (by rfl) ?hyg19 (by assumption) ?_
       case hyg19 =>
        intro V hV
        obtain ⟨g0, g1, g3, gi, gc⟩ := hV
        clear g0 g1 g3 gi gc
        go_simp
        all_goals (with_reducible rfl)
       simp only [Act.put, zA, zB, zC, zD, zE, zF]
       refine tT 20 ?vg20 rfl (by kernel_rfl) (fun _ _ _ h => h) (by rfl) ?hyg20 (by assumption) ?_
       case hyg20 =>
        intro V hV
        obtain ⟨g0, g1, g3, gi, gc⟩ := hV
        clear g0 g1 g3 gi gc
        go_simp
        all_goals (with_reducible rfl)
       simp only [Act.put, zA, zB, zC, zD, zE, zF]
       refine tT 21 ?vg21 rfl (by kernel_rfl) (fun _ _ _ h => h) (by rfl) ?hyg21 (by assumption) ?_
       case hyg21 =>
        intro V hV
        obtain ⟨g0, g1, g3, gi, gc⟩ := hV
        clear g0 g1 g3 gi gc
        go_simp
        all_goals (with_reducible rfl)
       simp only [Act.put, zA, zB, zC, zD, zE, zF]
       refine tT 22 ?vg22 rfl (by kernel_rfl) (fun _ _ _ h => h) (by rfl) ?hyg22 (by assumption) ?_
       case hyg22 =>
        intro V hV
        obtain ⟨g0, g1, g3, gi, gc⟩ := hV
        clear g0 g1 g3 gi gc
        go_simp
        all_goals (with_reducible rfl)
       simp only [Act.put, zA, zB, zC, zD, zE, zF]
       refine wpAnyH_done (by kernel_rfl) ?_ _
       clear HC1 HC2 HC3 hHeld HVD HV1 HV2
       cases jb with
       | true =>
        have HN := Zac (realS_jump (T := T) (own := sigE fn) (Zaa HSA) (by rw [Zaa HJ17, ← Zaa HJB]; rfl))
        go_wp2
        go_roundw
        case rel => exact ⟨j + 1, cb9, by go_num, rfl, by omega, by rw [Zaa HNX, Zaa HN]; simpa using Zaa HCB9, by rw [Zaa HNX, Zaa HN]; simpa using Zaa HPZ⟩
        case measure => simp [intOf]; omega
       | false =>
        have HRE := Zac (realS_some (T := T) (own := sigE fn) (Zaa HSA) (by rw [← Zaa HJB]; simp))
        have hzd : V2.heap.size ≤ y3.heap.size := (Zaa HB3).size
        have HBZ := HB3
        clear HB3
        obtain ⟨-, g1, -, gi, gc⟩ := Zaa HV
        have p0 : y3.cell? ⟨b0 + 1, 0, none⟩ = some (.slice (some ⟨sb, so, none⟩) P.funcs.length cf) := (Zab g1 0).trans rfl
        have x5 : y3.cell? ⟨bi, 5, none⟩ = some (.int .i64 (k1 : Int)) := (Zab gi 5).trans rfl
        have c0 := gc 0 _ rfl
        have c1 := gc 1 _ rfl
        have c2 := gc 2 _ rfl
        have c3 := gc 3 _ rfl
        have c4 := gc 4 _ rfl
        rw [Nat.add_zero] at c0
        have HC4 := Zac (Zaa HSC y3 (Zaa HBZ))
        have HRS3 := Zac (((Zaa HBZ).block bs (by omega)).trans (Zaa HRS))
        have hz3 := (Zaa HBZ).size
        have HB3 := Zac (Zaa HBZ)
        clear g1 gi gc
        go_wp2_with fail
        clear p0 x5 c0 c1 c2 c3 c4
        refine (Zaa HC4).mono ?_
        rintro e w4 ⟨lv, rfl, hli, hb4, hnew⟩
        obtain ⟨lp, lc, rfl⟩ := hli.shape
        have HLI := Zac hli
        have HNEW := Zac hnew
        have HRS4 := Zac ((hb4.block bs (by omega)).trans (Zaa HRS3))
        have HB4 := Zac (Zad (Zaa HBW) (Zad (Zaa HB3) hb4 (by omega)) (Zaa HBW).size)
        clear hli hb4 hnew HC4 HRS3
        go_wp2_with (refine wpList_store_row rfl 79 _ _ rfl bs #[.slice lp (sigE cal).1.length lc, .int .i64 cal.results] rfl rfl 79 _ (Zaa HRS4) (Tryz.infSigK.trans rfl) rfl (by simp [Value.oneCell']) ?_)
        go_meet
        case rel =>
         have hbb := Zag (T := bs) (cs := #[.slice lp (sigE cal).1.length lc, .int .i64 cal.results]) (Zaa HB4) (by have := Zaa HBIE; omega)
         exact ⟨sigE cal, lp, lc, Zaa HRE, Zaa HSO, setRow_heap _ _ _ _ _ _ (Zaa HRS4), Li.setRow (Zaa HLI) (fun sb so n c e _ => by have := Zaa HNEW sb so n c e; omega), (Zaa HPW).next hbb⟩
     ·
      have z12 : (i.op == 12) = false := by simp; omega
      have z17 : (i.op == 17) = false := by simp; omega
      have HN := Zac (realS_no (T := T) (P := P) (own := sigE fn) (sigAt_no hcl h13))
      clear hcl h13
      go_upto_region 13 with fail
      go_quiet (fail)
      go_wp2
      go_roundw
      case rel => exact ⟨j + 1, cb9, by go_num, rfl, by omega, by rw [Zaa HNX, Zaa HN]; simpa using Zaa HCB9, by rw [Zaa HNX, Zaa HN]; simpa using (Zaa HP2).next (Zah (Below.refl _ _) _)⟩
      case measure => simp [intOf]; omega
   case rest =>
    obtain ⟨s, lp, lc, hre, hso, hrow, hli, hpt⟩ := hcut
    have HNX2 := Zac (show accI T P (sigE fn) fn.blocks k (j + 1) = ac ++ [s] by rw [Zaa HNX, hre]; rfl)
    have HC := Zac (Zaa HLY wc (Zaa HF wc hpt.low) s lp lc hso hli)
    have HPT := Zac hpt
    have hr0 := (Zaa HF wc hpt.low).r0
    have t0 : wc.cell? ⟨b0, 0, none⟩ = some (.int .i64 T.r) := (Zab hr0 0).trans rfl
    have t1 : wc.cell? ⟨b0, 1, none⟩ = some (.int .i64 T.sp) := (Zab hr0 1).trans rfl
    have t2 : wc.cell? ⟨b0, 2, none⟩ = some (.int .i64 T.lk) := (Zab hr0 2).trans rfl
    have t3 : wc.cell? ⟨b0, 3, none⟩ = some (.int .i64 T.t0) := (Zab hr0 3).trans rfl
    have t4 : wc.cell? ⟨b0, 4, none⟩ = some (.int .i64 T.t1) := (Zab hr0 4).trans rfl
    have t5 : wc.cell? ⟨b0, 5, none⟩ = some (.slice T.pa T.ag.length T.ca) := (Zab hr0 5).trans rfl
    have t6 : wc.cell? ⟨b0, 6, none⟩ = some (.slice T.pr T.rs.length T.cr) := (Zab hr0 6).trans rfl
    have t7 : wc.cell? ⟨b0, 7, none⟩ = some (.slice T.ps T.ss.length T.cs) := (Zab hr0 7).trans rfl
    have t8 : wc.cell? ⟨b0, 8, none⟩ = some (.int .i64 T.al) := (Zab hr0 8).trans rfl
    have t9 : wc.cell? ⟨b0, 9, none⟩ = some (.int .i64 T.sh) := (Zab hr0 9).trans rfl
    have t10 : wc.cell? ⟨b0, 10, none⟩ = some (.int .i64 T.br) := (Zab hr0 10).trans rfl
    have t11 : wc.cell? ⟨b0, 11, none⟩ = some (.bool T.pairs) := (Zab hr0 11).trans rfl
    have s0 : wc.cell? ⟨bs, 0, none⟩ = some (.slice lp s.1.length lc) := (Zab hrow 0).trans rfl
    have s1 : wc.cell? ⟨bs, 1, none⟩ = some (.int .i64 s.2) := (Zab hrow 1).trans rfl
    clear hre hso hrow hli hpt hr0 HNX HP2 HPW HF2 HRI HRS HXX HSI HFI HEI HBW
    go_wp2_with fail
    clear t0 t1 t2 t3 t4 t5 t6 t7 t8 t9 t10 t11
    clear s0 s1
    refine (Zaa HC).mono ?_
    rintro e w5 ⟨av, rv, pvs, rfl, hlay, hb5⟩
    obtain ⟨⟨ap, an, aq, rfl⟩, rp, rn, rq, rfl⟩ := lay_sh hlay
    have HP5 := Zac ((Zaa HPT).next hb5)
    clear hlay hb5 HC HPT
    have HO := Zac (show outT T (accI T P (sigE fn) fn.blocks k (j + 1)) = max (outT T ac) (layT T s).size by rw [Zaa HNX2, outT_snoc])
    have HCO := Zac (show copT T (accI T P (sigE fn) fn.blocks k (j + 1)) = max (copT T ac) (layT T s).copies by rw [Zaa HNX2, copT_snoc])
    have HNE := Zac (show true = decide (0 < (accI T P (sigE fn) fn.blocks k (j + 1)).length) by rw [Zaa HNX2]; simp)
    clear HNX2
    generalize layT T s = lt at HO HCO ⊢
    generalize outT T ac = oo at HO HP5
    generalize copT T ac = cc at HCO HP5
    have hal := al0 w5 (.cells #[.slice none 0 0, .slice none 0 0, .int .i64 0, .int .i64 0] 85 (0, 0))
    have HAL := Zac hal
    clear hal
    go_upto_region 17 with (refine wpList_store_row rfl 85 _ _ rfl w5.heap.size #[.slice ap an aq, .slice rp rn rq, .int .i64 lt.size, .int .i64 lt.copies] rfl rfl 85 _ (Zaa HAL).1 (Tryz.infLyK.trans rfl) rfl (by simp [Value.oneCell']) ?_)
    have hrl := setRow_heap _ _ _ #[.slice ap an aq, .slice rp rn rq, .int .i64 lt.size, .int .i64 lt.copies] _ _ (Zaa HAL).1
    have hbl := Zag (T := w5.heap.size) (cs := #[.slice ap an aq, .slice rp rn rq, .int .i64 lt.size, .int .i64 lt.copies]) (Zaa HAL).2.1 (Nat.le_refl _)
    clear HAL
    generalize World.setRow (World.alloc w5 _) _ _ = V6 at hrl hbl ⊢
    have HP6 := Zac ((Zaa HP5).next hbl)
    have hne : w5.heap.size ≠ b0 + 4 := by have := (Zaa HP5).size; omega
    clear hbl HP5
    generalize w5.heap.size = bl at hrl hne ⊢
    have HP7 := Zac ((Zaa HP6).s0 (max oo lt.size))
    have l0 : V6.cell? ⟨b0 + 4, 0, none⟩ = some (.int .i64 oo) := (Zab (Zaa HP6).row 0).trans rfl
    have l1 : (V6.setCell ⟨b0 + 4, 0, none⟩ (.int .i64 (max oo lt.size))).cell? ⟨b0 + 4, 1, none⟩ = some (.int .i64 cc) := (Zab (Zaa HP7).row 1).trans rfl
    have a2 : V6.cell? ⟨bl, 2, none⟩ = some (.int .i64 lt.size) := (Zab hrl 2).trans rfl
    have a3 : (V6.setCell ⟨b0 + 4, 0, none⟩ (.int .i64 (max oo lt.size))).cell? ⟨bl, 3, none⟩ = some (.int .i64 lt.copies) := (Zab ((heap_setCell_other _ _ _ _ hne).trans hrl) 3).trans rfl
    have z0 := frozen_of_row _ _ 0 _ _ (Zaa HP6).row
    have z1 := frozen_of_row _ _ 1 _ _ (Zaa HP7).row
    clear hrl
    go_wp2
    go_roundw
    case rel => exact ⟨j + 1, true, by go_num, rfl, by omega, Zaa HNE, by rw [Zaa HO, Zaa HCO]; exact (Zaa HP7).s1 _⟩
    case measure => simp [intOf]; omega
  ·
   have hjn : j = bk.length := by omega
   subst hjn
   have HX := Zac (Zaa HEX wr cb9 hcb9 hP)
   clear hP hcb9
   go_wp2_with fail
   exact ⟨rfl, Zaa HX _ _ _ _ _ _ _ _ _ _ _ _ _ _ _ _ _ _ _ _ _ _ _ _ _ _ _ _ _ _ _ _ _ _ _ _ _ _ _ _ _ _ _ _ _ _ _ _ _ _ _ _ _ _ _ _ _ _ _ _ _ _ _⟩
end Go.Proofs.YtffemeicclhioaaGreatDoor
