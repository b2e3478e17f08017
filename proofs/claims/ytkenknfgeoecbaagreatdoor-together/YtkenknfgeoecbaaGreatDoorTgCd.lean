import Derived.Test.YtkenknfgeoecbaaGreatDoorJ40
namespace Go.Proofs.YtkenknfgeoecbaaGreatDoor
open Go.ChangeShapes Go.WideShapes Go.ChangeAt Go.RowKit Go.Deep
set_option maxRecDepth 100000
theorem Tryz.gPowTQ:(Tryz.prog.globals[6]?).map (·.type)=some 489:=by kernel_rfl
theorem Zrv {H:Type}:(Rows.laid_internal_strconv_uint64pow10:DataW H)=Lib.tabData .u64 Lib.pow10Tab:=by kernel_rfl
theorem Zgx {W : World} (h : Lib.VarReads Tryz.prog W "internal/strconv.uint64pow10" Rows.laid_internal_strconv_uint64pow10) : Lib.TabIs Tryz.prog W "internal/strconv.uint64pow10" .u64 Lib.pow10Tab := by obtain⟨g,t,cs,fuel,p,hg,ht,hv,hd⟩:=h;obtain rfl:=Option.some.inj (Tryz.gPow.symm.trans hg);obtain rfl:=Option.some.inj (Tryz.gPowTQ.symm.trans ht);rw [Zrv] at hd;unfold Lib.TabIs;rw [hv,← Lib.cells_of_tab Tryz.underlying489 Tryz.underlying90 (by kernel_rfl) (by kernel_rfl) hd]
theorem Zab {W:World}(h:laidMetH Tryz.prog Rows.togetherRow.laid W):Env W∧Zo W:=by have h1:=(laidMetH_iff.1 h).1;have hI:Ck W:=Zgv (Lib.laidMet.reads h1 (List.mem_filter.2 ⟨by simp [Rows.togetherRow],by kernel_rfl⟩));refine⟨⟨?_,hI,Ztj h (List.mem_filter.2 ⟨by simp [Rows.togetherRow],by kernel_rfl⟩),hI.items,Zgx (Lib.laidMet.reads h1 (List.mem_filter.2 ⟨by simp [Rows.togetherRow],by kernel_rfl⟩))⟩,Zbv (Lib.laidMet.reads h1 (List.mem_filter.2 ⟨by simp [Rows.togetherRow],by kernel_rfl⟩))⟩;exact utf8Tabs_of_reads Tryz.lays260 Tryz.u8X (Ydz ▸ Lib.laidMet.reads h1 (d:=Rows.laid_unicode_utf8_first) (List.mem_filter.2 ⟨by simp [Rows.togetherRow],by kernel_rfl⟩)) (Yai ▸ Lib.laidMet.reads h1 (d:=Rows.laid_unicode_utf8_acceptRanges) (List.mem_filter.2 ⟨by simp [Rows.togetherRow],by kernel_rfl⟩))
section
variable {H:Type} {enc:TypeId×Value->H} {w:World} {held:Bool}
theorem Tryz.cellsPlT:Tryz.prog.cellsOf 34=2:=by kernel_rfl
theorem Zrw {n:Nat}{cs:List Value}{y:DataW H×List MemPlace}(hl:cs.length=4)(h:TrE enc w held n 36 cs y):∃ x:Yx,cs.toArray=(Rk x).toArray:=by
 match cs,hl with
 | [c0,c1,c2,c3],_=>obtain⟨xs,k,-,hx,-,hxl,hall⟩:=DataW.trod_struct Tryz.underlying36 h;obtain⟨y0,y1,rfl⟩:=Zlr hxl;have f0:TrE enc w held k 34 [c0,c1] y0:=Zel hall (i:=0) rfl Tryz.cellsPlT rfl;have f1:TrE enc w held k 34 [c2,c3] y1:=Zel hall (i:=1) rfl Tryz.cellsPlT rfl;obtain⟨x,⟨e0,-⟩,-⟩:=Zem Tryz.underlying34 rfl rfl rfl rfl rfl rfl f0;obtain⟨z,⟨e1,-⟩,-⟩:=Zem Tryz.underlying34 rfl rfl rfl rfl rfl rfl f1;simp at e0 e1;exact⟨(x,z),by rw [e0.1,e0.2,e1.1,e1.2]; rfl⟩
theorem Zwk {b0:Nat}{r:Reach}{v:Value}{d:DataW H}{p:List MemPlace}(hv:Value.okWide Tryz.prog w r b0 26 v)(h:DataW.Trod enc Tryz.prog w 0 (fun _=>true) held 26 v d p)(hw:Zla 26 d) :
 ∃(l:List Yx) (lp:Option Addr) (lc:Nat),v=.slice lp l.length lc∧PrS w (.slice lp l.length lc) l:=by
 obtain⟨a0,len0,cap0,rfl⟩:=okWide_slice Tryz.underlying26 hv;obtain⟨fuel,hf⟩:=h;obtain⟨ps,h1,h2,-⟩:=Zbn (One:=fun q:Array Value×Yx=>q.1=(Rk q.2).toArray) Tryz.underlying26 (show Tryz.prog.cellsOf 36=4 by kernel_rfl) (by decide) (show Tryz.prog.bytesOf 36=32 by kernel_rfl) (fun n cs y hl hy _=>Zrw hl hy) (v:=.slice a0 len0 cap0) (y:=(d,p)) hf hw;have hl:(ps.map (·.2)).length=ps.length:=by simp
 have hP:PrS w (.slice a0 len0 cap0) (ps.map (·.2)):=by
  unfold PrS;rw [hl];exact h1.congr (fun i hi=>by
   show(ps.getD i (#[],Yb)).1=(Rk ((ps.map (·.2)).getD i Yb)).toArray;rw [Zef ps #[]];exact h2 _ (Zeg _ _ _ hi))
 obtain⟨lp,lc,e,-⟩:=hP.shape;rw [e] at hP ⊢;exact⟨_,lp,lc,rfl,hP⟩
end
def Yfy:Array Value:=#[.agg #[.int .i64 0,.int .i64 0,.int .i64 0,.int .i64 0,.int .i64 0,.slice none 0 0,.slice none 0 0,.slice none 0 0,.int .i64 0,.int .i64 0,.int .i64 0,.bool false],.slice none 0 0]
theorem Zaw (os:Os)(started:os.Started)(H:Type)(enc:TypeId×Value->H) :
 ReturnsInHanded {} Tryz.checked os 3 .any (fun w args=>(Rows.togetherSpec.pre enc Tryz.prog Tryz.f3 [] false w args∧laidMetH Tryz.prog Rows.togetherRow.laid w)∧sizedMet enc Tryz.prog Tryz.f3 (OpenSpec.ofChange Rows.togetherSpec) false w args)
  (Rows.togetherSpec.post enc Tryz.prog Tryz.f3 false true false false):=by
 refine returnsInHanded_of_change_and (C:=Tryz.checked) (X:=fun w _=>laidMetH Tryz.prog Rows.togetherRow.laid w) (fun _ _ _ hh h=>h.of_heap hh) Tryz.ownE started (by kernel_rfl) Tryz.func3
  (ChangeSpec.witness_at (enc:=enc) (C:=Tryz.checked) (os:=os) (X:=fun w _=>laidMetH Tryz.prog Rows.togetherRow.laid w) false (Znx (World.laidAll Tryz.prog os Zpo)) Yfy 8 rfl (by kernel_rfl) (by kernel_rfl) (by kernel_rfl) (by kernel_rfl) (by kernel_rfl) (Zhh os _)) ?_
 intro W base args ds gs before hval0 hW _ hsz0 hL _;have hval:∀(j:Nat) t v,Tryz.f3.params[j]?=some t->args[j]?=some v->Value.okWide Tryz.prog W .any base t v:=hval0;have hW':=hW;obtain⟨p,q,hA0,hV0,rfl,hfz,hnd⟩:=hW;have hA:DataW.TrodAll enc Tryz.prog W 0 (fun _=>true) true Tryz.f3.params.toList args.toList ds p:=hA0;have hV:DataW.TrodVars enc Tryz.prog W (fun _=>true) [] gs q:=hV0;have hlt:=DataW.TrodAll.lt hA;have hsz1:(DataW.weightsEach Tryz.prog (Tryz.f3.params.toList++Rows.togetherSpec.plain.varTypes Tryz.prog) (ds++gs)).all (·<=reachBytes)=true:=hsz0;rw [Tryz.params3] at hA hval hsz1;obtain⟨v0,v1,d0,d1,p0,p1,rfl,rfl,rfl,h0,h1⟩:=trodAll_two hA;obtain⟨rfl,rfl⟩:=trodVars_none hV;clear hA0 hval0 hV0;simp only [List.append_nil] at hW' hlt;have hlite0:∀ x ∈ d0.weights Tryz.prog 25,x<=reachBytes:=fun x hx=>by
  have:=List.all_eq_true.1 hsz1 x (by
   simp only [List.cons_append,List.nil_append,DataW.weightsEach,List.mem_append];exact Or.inl hx)
  simpa using this
 have hlite1:∀ x ∈ d1.weights Tryz.prog 26,x<=reachBytes:=fun x hx=>by
  have:=List.all_eq_true.1 hsz1 x (by
   simp only [List.cons_append,List.nil_append,DataW.weightsEach,List.mem_append];exact Or.inr (Or.inl hx))
  simpa using this
 obtain⟨hE,hN⟩:=Zab hL;obtain⟨T,rfl,hT,-⟩:=Zhz (hval 0 25 v0 rfl rfl) h0 hlite0;obtain⟨l,lp,lc,rfl,hl⟩:=Zwk (hval 1 26 v1 rfl rfl) h1 hlite1;refine(Zed T l lp lc W hE hN hT hl).mono fun e W' ⟨he,hb⟩=>?_;subst he;have e1:Rows.togetherSpec.fn H ([d0,d1]++[])={ results:=[.lit (.bool true)],args:=[d0,d1] }:=by simp [Rows.togetherSpec]
 have hl0:∀ x ∈ p0,x.block<W.heap.size:=fun x hx=>hlt x (List.mem_append.2 (Or.inl hx));have hl1:∀ x ∈ p1,x.block<W.heap.size:=fun x hx=>hlt x (List.mem_append.2 (Or.inr hx));refine⟨_,rfl,_,_,_,[],p0++p1,[],hW',?_,?_,?_,hb.frame _,fun h=>by cases h⟩
 ·rw [e1]; exact trodAll_cons_mk (shut_bool Tryz.underlying4 _) trodAll_mk0
 ·rw [e1];exact trodAll_mk2 (p:=p0) (p':=p1) (Below.trod Tryz.laidOutE (by kernel_rfl) (by rw [Tryz.sizeE]; decide) h0 hb hl0) (Below.trod Tryz.laidOutE (by kernel_rfl) (by rw [Tryz.sizeE]; decide) h1 hb hl1)
 ·rw [e1]; rfl
theorem Zas:Tryz.pinned.checked.prog.funcNamed Rows.togetherRow.func=some 3:=by kernel_rfl
theorem Zkb:Tryz.f3.isInstance Tryz.pinned.checked.prog Rows.togetherRow.origin Rows.togetherRow.targs:=of_decide_eq_true (by kernel_rfl)
theorem Zkc:Tryz.f3.isWrapper Tryz.pinned.checked.prog Rows.togetherRow.wrapper Rows.togetherRow.mainSum:=by unfold Func.isWrapper; rw [if_neg (of_decide_eq_false (by kernel_rfl))]; exact⟨rfl,rfl⟩
theorem Zkd:joinedFacts Tryz.pinned.checked.prog 3 Tryz.f3 Rows.togetherSpec Rows.togetherRow=true:=by unfold joinedFacts;rw [Zkk,Zkl,Zkm,Zkn,Zko,Zkp,Zkq,Zkr,Zks,Zkt,Zgz,Zha,Zhb,Zhc,Zhd,Zhe,Zhf,Zhg];simp only [Bool.true_and];kernel_rfl
theorem Zgy:Rows.TogetherSaid :=
 OpenClaim.holds_of_wide 3 Tryz.f3 rfl rfl rfl rfl rfl rfl rfl ⟨rfl,rfl,rfl,rfl,rfl⟩ rfl rfl rfl rfl rfl Zas Tryz.func3 Zkd
  Zkb Zkc
  (fun os started H enc _=>Zaw os started H enc)
theorem Zke:OpenClaim.wfByText (OpenSpec.ofChange Rows.togetherSpec) Rows.togetherRow=true:=by kernel_rfl
theorem Zkf:Tryz.pinned.checked.prog.mainIs=some (Rows.togetherCard.stood.harness.1,Rows.togetherCard.stood.harness.2.toList):=by kernel_rfl
theorem Zkg:Rows.togetherCard.stood.looks=Tryz.pinned.checked.prog.looks []:=by kernel_rfl
theorem Zkh:Tryz.prog.wantsStandIn 25=false:=by kernel_rfl
theorem Zki:Tryz.prog.wantsStandIn 26=false:=by kernel_rfl
theorem together_card:Rows.TogetherCardSaid :=
 Claim7.holds_tied_plain_at .later [] _ _ _ _ Zgy (fun _ h=>by cases h) Zke (fun _ h=>by cases h) together_row_tie rfl ⟨rfl,rfl⟩ Zkf rfl
  (fun f fn hf hfn=>by
   obtain rfl:f=3:=Option.some.inj (Zas.symm.trans hf) |>.symm;obtain rfl:fn=Tryz.f3:=(Option.some.inj (Tryz.func3.symm.trans hfn)).symm;exact⟨Zkg,fun j t ht=>by
    rw [Tryz.params3] at ht;have h3:t=25∨t=26:=by
     rcases j with _ | _ | j
     ·exact Or.inl (by simpa using ht.symm)
     ·exact Or.inr (by simpa using ht.symm)
     ·simp at ht
    rcases h3 with rfl | rfl
    ·exact Zkh
    ·exact Zki⟩)
  Zkj
#print axioms together_card
end Go.Proofs.YtkenknfgeoecbaaGreatDoor
