import Derived.Test.YtkenknfgeoecbaaGreatDoorJ55
namespace Go.Proofs.YtkenknfgeoecbaaGreatDoor
open Go.ChangeShapes Go.WideShapes Go.ChangeAt Go.RowKit Go.Deep
set_option maxRecDepth 100000
theorem Tryz.gPowTQ:(Tryz.prog.globals[6]?).map (·.type)=some 489:=by kernel_rfl
theorem Zrj {H:Type}:(Rows.laid_internal_strconv_uint64pow10:DataW H)=Lib.tabData .u64 Lib.pow10Tab:=by kernel_rfl
theorem Zgq {W : World} (h : Lib.VarReads Tryz.prog W "internal/strconv.uint64pow10" Rows.laid_internal_strconv_uint64pow10) : Lib.TabIs Tryz.prog W "internal/strconv.uint64pow10" .u64 Lib.pow10Tab := by obtain⟨g,t,cs,fuel,p,hg,ht,hv,hd⟩:=h;obtain rfl:=Option.some.inj (Tryz.gPow.symm.trans hg);obtain rfl:=Option.some.inj (Tryz.gPowTQ.symm.trans ht);rw [Zrj] at hd;unfold Lib.TabIs;rw [hv,← Lib.cells_of_tab Tryz.underlying489 Tryz.underlying90 (by kernel_rfl) (by kernel_rfl) hd]
theorem Zdk {W:World}(h:laidMetH Tryz.prog Rows.placedRow.laid W):Env W∧Zo W:=by have h1:=(laidMetH_iff.1 h).1;have hI:Ia W:=Zhh (Lib.laidMet.reads h1 (List.mem_filter.2 ⟨by simp [Rows.placedRow],by kernel_rfl⟩));refine⟨⟨?_,hI,Zue h (List.mem_filter.2 ⟨by simp [Rows.placedRow],by kernel_rfl⟩),hI.items,Zgq (Lib.laidMet.reads h1 (List.mem_filter.2 ⟨by simp [Rows.placedRow],by kernel_rfl⟩))⟩,Zcm (Lib.laidMet.reads h1 (List.mem_filter.2 ⟨by simp [Rows.placedRow],by kernel_rfl⟩))⟩;exact utf8Tabs_of_reads Tryz.lays260 Tryz.u8X (Yev ▸ Lib.laidMet.reads h1 (d:=Rows.laid_unicode_utf8_first) (List.mem_filter.2 ⟨by simp [Rows.placedRow],by kernel_rfl⟩)) (Yaz ▸ Lib.laidMet.reads h1 (d:=Rows.laid_unicode_utf8_acceptRanges) (List.mem_filter.2 ⟨by simp [Rows.placedRow],by kernel_rfl⟩))
def Ygi:Array Value:=#[.agg #[.int .i64 0,.int .i64 0,.int .i64 0,.int .i64 0,.int .i64 0,.slice none 0 0,.slice none 0 0,.slice none 0 0,.int .i64 0,.int .i64 0,.int .i64 0,.bool false],.agg #[.slice none 0 0,.int .i64 0]]
theorem Zen (os:Os)(started:os.Started)(H:Type)(enc:TypeId×Value→H) :
 ReturnsInHanded {} Tryz.checked os 4 .any (fun w args=>(Rows.placedSpec.pre enc Tryz.prog Tryz.f4 [] false w args∧laidMetH Tryz.prog Rows.placedRow.laid w)∧sizedMet enc Tryz.prog Tryz.f4 (OpenSpec.ofChange Rows.placedSpec) false w args)
  (Rows.placedSpec.post enc Tryz.prog Tryz.f4 false true false false):=by
 refine returnsInHanded_of_change_and (C:=Tryz.checked) (X:=fun w _=>laidMetH Tryz.prog Rows.placedRow.laid w) (fun _ _ _ hh h=>h.of_heap hh) Tryz.ownE started (by kernel_rfl) Tryz.func4
  (ChangeSpec.witness_at (enc:=enc) (C:=Tryz.checked) (os:=os) (X:=fun w _=>laidMetH Tryz.prog Rows.placedRow.laid w) false (Zny (World.laidAll Tryz.prog os Zox)) Ygi 8 rfl (by kernel_rfl) (by kernel_rfl) (by kernel_rfl) (by kernel_rfl) (by kernel_rfl) (Zmm os _)) ?_
 intro W base args ds gs before hval0 hW _ hsz0 hL _;have hval:∀(j:Nat) t v,Tryz.f4.params[j]?=some t→args[j]?=some v→Value.okWide Tryz.prog W .any base t v:=hval0;have hW':=hW;obtain⟨p,q,hA0,hV0,rfl,hfz,hnd⟩:=hW;have hA:DataW.TrodAll enc Tryz.prog W 0 (fun _=>true) true Tryz.f4.params.toList args.toList ds p:=hA0;have hV:DataW.TrodVars enc Tryz.prog W (fun _=>true) [] gs q:=hV0;have hlt:=DataW.TrodAll.lt hA;have hsz1:(DataW.weightsEach Tryz.prog (Tryz.f4.params.toList++Rows.placedSpec.plain.varTypes Tryz.prog) (ds++gs)).all (·≤reachBytes)=true:=hsz0;rw [Tryz.params4] at hA hval hsz1;obtain⟨v0,v1,d0,d1,p0,p1,rfl,rfl,rfl,h0,h1⟩:=trodAll_two hA;obtain⟨rfl,rfl⟩:=trodVars_none hV;clear hA0 hval0 hV0;simp only [List.append_nil] at hW' hlt;have hlite0:∀ x ∈ d0.weights Tryz.prog 25,x≤reachBytes:=fun x hx=>by
  have:=List.all_eq_true.1 hsz1 x (by
   simp only [List.cons_append,List.nil_append,DataW.weightsEach,List.mem_append];exact Or.inl hx)
  simpa using this
 have hlite1:∀ x ∈ d1.weights Tryz.prog 43,x≤reachBytes:=fun x hx=>by
  have:=List.all_eq_true.1 hsz1 x (by
   simp only [List.cons_append,List.nil_append,DataW.weightsEach,List.mem_append];exact Or.inr (Or.inl hx))
  simpa using this
 obtain⟨hE,hN⟩:=Zdk hL;obtain⟨T,rfl,hT,-⟩:=Zhz (hval 0 25 v0 rfl rfl) h0 hlite0;obtain⟨ps,pq,cq,n,rfl,hps,-⟩:=Zpw (hval 1 43 v1 rfl rfl) h1 hlite1;refine(Zjk T ps pq cq n W hE hN hT hps).mono fun e W' ⟨he,hb⟩=>?_;subst he;have e1:Rows.placedSpec.fn H ([d0,d1]++[])={ results:=[.lit (.bool true)],args:=[d0,d1] }:=by simp [Rows.placedSpec]
 have hl0:∀ x ∈ p0,x.block<W.heap.size:=fun x hx=>hlt x (List.mem_append.2 (Or.inl hx));have hl1:∀ x ∈ p1,x.block<W.heap.size:=fun x hx=>hlt x (List.mem_append.2 (Or.inr hx));refine⟨_,rfl,_,_,_,[],p0++p1,[],hW',?_,?_,?_,hb.frame _,fun h=>by cases h⟩
 ·rw [e1]; exact trodAll_cons_mk (shut_bool Tryz.underlying4 _) trodAll_mk0
 ·rw [e1];exact trodAll_mk2 (p:=p0) (p':=p1) (Below.trod Tryz.laidOutE (by kernel_rfl) (by rw [Tryz.sizeE]; decide) h0 hb hl0) (Below.trod Tryz.laidOutE (by kernel_rfl) (by rw [Tryz.sizeE]; decide) h1 hb hl1)
 ·rw [e1]; rfl
theorem Zfl:Tryz.pinned.checked.prog.funcNamed Rows.placedRow.func=some 4:=by kernel_rfl
theorem Zrk:Tryz.f4.isInstance Tryz.pinned.checked.prog Rows.placedRow.origin Rows.placedRow.targs:=of_decide_eq_true (by kernel_rfl)
theorem Zrl:Tryz.f4.isWrapper Tryz.pinned.checked.prog Rows.placedRow.wrapper Rows.placedRow.mainSum:=by unfold Func.isWrapper; rw [if_neg (of_decide_eq_false (by kernel_rfl))]; exact⟨rfl,rfl⟩
theorem Zrm:joinedFacts Tryz.pinned.checked.prog 4 Tryz.f4 Rows.placedSpec Rows.placedRow=true:=by unfold joinedFacts;rw [Zru,Zrv,Zrw,Zrx,Zry,Zrz,Zsa,Zsb,Zsc,Zsd,Zme,Zmf,Zmg,Zmh,Zmi,Zmj,Zmk,Zml];simp only [Bool.true_and];kernel_rfl
theorem Zmd:Rows.PlacedSaid :=
 OpenClaim.holds_of_wide 4 Tryz.f4 rfl rfl rfl rfl rfl rfl rfl ⟨rfl,rfl,rfl,rfl,rfl⟩ rfl rfl rfl rfl rfl Zfl Tryz.func4 Zrm
  Zrk Zrl
  (fun os started H enc _=>Zen os started H enc)
theorem Zrn:OpenClaim.wfByText (OpenSpec.ofChange Rows.placedSpec) Rows.placedRow=true:=by kernel_rfl
theorem Zro:Tryz.pinned.checked.prog.mainIs=some (Rows.placedCard.stood.harness.1,Rows.placedCard.stood.harness.2.toList):=by kernel_rfl
theorem Zrp:Rows.placedCard.stood.looks=Tryz.pinned.checked.prog.looks []:=by kernel_rfl
theorem Zrq:Tryz.prog.wantsStandIn 25=false:=by kernel_rfl
theorem Zrr:Tryz.prog.wantsStandIn 43=false:=by kernel_rfl
theorem placed_card:Rows.PlacedCardSaid :=
 Claim7.holds_tied_plain_at .later [] _ _ _ _ Zmd (fun _ h=>by cases h) Zrn (fun _ h=>by cases h) placed_row_tie rfl ⟨rfl,rfl⟩ Zro rfl
  (fun f fn hf hfn=>by
   obtain rfl:f=4:=Option.some.inj (Zfl.symm.trans hf) |>.symm;obtain rfl:fn=Tryz.f4:=(Option.some.inj (Tryz.func4.symm.trans hfn)).symm;exact⟨Zrp,fun j t ht=>by
    rw [Tryz.params4] at ht;have h3:t=25∨t=43:=by
     rcases j with _ | _ | j
     ·exact Or.inl (by simpa using ht.symm)
     ·exact Or.inr (by simpa using ht.symm)
     ·simp at ht
    rcases h3 with rfl | rfl
    ·exact Zrq
    ·exact Zrr⟩)
  Zrt
#print axioms placed_card
end Go.Proofs.YtkenknfgeoecbaaGreatDoor
