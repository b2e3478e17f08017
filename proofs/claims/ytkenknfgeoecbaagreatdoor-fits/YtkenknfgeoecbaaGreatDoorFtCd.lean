import Derived.Test.YtkenknfgeoecbaaGreatDoorJ39
namespace Go.Proofs.YtkenknfgeoecbaaGreatDoor
open Go.ChangeShapes Go.WideShapes Go.ChangeAt Go.RowKit Go.Deep
set_option maxRecDepth 100000
theorem Tryz.gPowTQ:(Tryz.prog.globals[6]?).map (·.type)=some 489:=by kernel_rfl
theorem Zrb {H:Type}:(Rows.laid_internal_strconv_uint64pow10:DataW H)=Lib.tabData .u64 Lib.pow10Tab:=by kernel_rfl
theorem Zha {W : World} (h : Lib.VarReads Tryz.prog W "internal/strconv.uint64pow10" Rows.laid_internal_strconv_uint64pow10) : Lib.TabIs Tryz.prog W "internal/strconv.uint64pow10" .u64 Lib.pow10Tab := by obtain⟨g,t,cs,fuel,p,hg,ht,hv,hd⟩:=h;obtain rfl:=Option.some.inj (Tryz.gPow.symm.trans hg);obtain rfl:=Option.some.inj (Tryz.gPowTQ.symm.trans ht);rw [Zrb] at hd;unfold Lib.TabIs;rw [hv,← Lib.cells_of_tab Tryz.underlying489 Tryz.underlying90 (by kernel_rfl) (by kernel_rfl) hd]
theorem Zhb {W:World}(h:laidMetH Tryz.prog Rows.fitsRow.laid W):Env W∧Zp W:=by have h1:=(laidMetH_iff.1 h).1;have hI:Itm W:=Zhw (Lib.laidMet.reads h1 (List.mem_filter.2 ⟨by simp [Rows.fitsRow],by kernel_rfl⟩));refine⟨⟨?_,hI,Ztt h (List.mem_filter.2 ⟨by simp [Rows.fitsRow],by kernel_rfl⟩),hI.items,Zha (Lib.laidMet.reads h1 (List.mem_filter.2 ⟨by simp [Rows.fitsRow],by kernel_rfl⟩))⟩,Zcw (Lib.laidMet.reads h1 (List.mem_filter.2 ⟨by simp [Rows.fitsRow],by kernel_rfl⟩))⟩;exact utf8Tabs_of_reads Tryz.lays260 Tryz.u8X (Yfn ▸ Lib.laidMet.reads h1 (d:=Rows.laid_unicode_utf8_first) (List.mem_filter.2 ⟨by simp [Rows.fitsRow],by kernel_rfl⟩)) (Ybz ▸ Lib.laidMet.reads h1 (d:=Rows.laid_unicode_utf8_acceptRanges) (List.mem_filter.2 ⟨by simp [Rows.fitsRow],by kernel_rfl⟩))
def Ygn:Array Value:=#[.agg #[.int .i64 0,.int .i64 0,.int .i64 0,.int .i64 0,.int .i64 0,.slice none 0 0,.slice none 0 0,.slice none 0 0,.int .i64 0,.int .i64 0,.int .i64 0,.bool false],.agg #[.slice none 0 0,.slice none 0 0],.int .i64 0]
theorem Zjj (os:Os)(started:os.Started)(H:Type)(enc:TypeId×Value->H) :
 ReturnsInHanded {} Tryz.checked os 5 .any (fun w args=>(Rows.fitsSpec.pre enc Tryz.prog Tryz.f5 [] false w args∧laidMetH Tryz.prog Rows.fitsRow.laid w)∧sizedMet enc Tryz.prog Tryz.f5 (OpenSpec.ofChange Rows.fitsSpec) false w args)
  (Rows.fitsSpec.post enc Tryz.prog Tryz.f5 false true false false):=by
 refine returnsInHanded_of_change_and (C:=Tryz.checked) (X:=fun w _=>laidMetH Tryz.prog Rows.fitsRow.laid w) (fun _ _ _ hh h=>h.of_heap hh) Tryz.ownE started (by kernel_rfl) Tryz.func5
  (ChangeSpec.witness_at (enc:=enc) (C:=Tryz.checked) (os:=os) (X:=fun w _=>laidMetH Tryz.prog Rows.fitsRow.laid w) false (Zoh (World.laidAll Tryz.prog os Zos)) Ygn 8 rfl (by kernel_rfl) (by kernel_rfl) (by kernel_rfl) (by kernel_rfl) (by kernel_rfl) (Zuu os _)) ?_
 intro W base args ds gs before hval0 hW _ hsz0 hL _;have hval:∀(j:Nat) t v,Tryz.f5.params[j]?=some t->args[j]?=some v->Value.okWide Tryz.prog W .any base t v:=hval0;have hW':=hW;obtain⟨p,q,hA0,hV0,rfl,hfz,hnd⟩:=hW;have hA:DataW.TrodAll enc Tryz.prog W 0 (fun _=>true) true Tryz.f5.params.toList args.toList ds p:=hA0;have hV:DataW.TrodVars enc Tryz.prog W (fun _=>true) [] gs q:=hV0;have hlt:=DataW.TrodAll.lt hA;have hsz1:(DataW.weightsEach Tryz.prog (Tryz.f5.params.toList++Rows.fitsSpec.plain.varTypes Tryz.prog) (ds++gs)).all (·<=reachBytes)=true:=hsz0;rw [Tryz.params5] at hA hval hsz1;obtain⟨v0,v1,v2,d0,d1,d2,p0,p1,p2,rfl,rfl,rfl,h0,h1,h2⟩:=trodAll_three hA;obtain⟨rfl,rfl⟩:=trodVars_none hV;obtain⟨n,rfl,rfl,rfl,w0⟩:=open_int Tryz.underlying3 (hval 2 3 v2 rfl rfl) h2;clear hA0 hval0 hV0;simp only [List.append_nil] at hW' hlt;have hlite0:∀ x ∈ d0.weights Tryz.prog 25,x<=reachBytes:=fun x hx=>by
  have:=List.all_eq_true.1 hsz1 x (by
   simp only [List.cons_append,List.nil_append,DataW.weightsEach,List.mem_append];exact Or.inl hx)
  simpa using this
 have hlite:∀ x ∈ d1.weights Tryz.prog 62,x<=reachBytes:=fun x hx=>by
  have:=List.all_eq_true.1 hsz1 x (by
   simp only [List.cons_append,List.nil_append,DataW.weightsEach,List.mem_append];exact Or.inr (Or.inl hx))
  simpa using this
 obtain⟨hE,hN⟩:=Zhb hL;obtain⟨T,rfl,hT,-⟩:=Ziq (hval 0 25 v0 rfl rfl) h0 hlite0;obtain⟨fv,ev,P,A,E,rfl,hP,hnum,hpl⟩:=Zli (hval 1 62 v1 rfl rfl) h1 hlite;refine(Zre T P n fv ev A E W hE hN ⟨hT,hP,hnum,hN,World.block_lt_of_cell? W _ (hN 0 (by decide)),hE.er,hpl⟩).mono fun e W' ⟨he,hb⟩=>?_;subst he;have e1:Rows.fitsSpec.fn H ([d0,d1,.lit (.int .i64 n)]++[])={ results:=[.lit (.bool true)],args:=[d0,d1,.lit (.int .i64 n)] }:=by simp [Rows.fitsSpec]
 have hl0:∀ x ∈ p0,x.block<W.heap.size:=fun x hx=>hlt x (by simp [hx]);have hl1:∀ x ∈ p1,x.block<W.heap.size:=fun x hx=>hlt x (by simp [hx]);refine⟨_,rfl,_,_,_,[],p0++p1,[],hW',?_,?_,?_,hb.frame _,fun h=>by cases h⟩
 ·rw [e1]; exact trodAll_cons_mk (shut_bool Tryz.underlying4 _) trodAll_mk0
 ·rw [e1];have:=trodAll_mk3 (p:=p0) (p':=p1) (p'':=[]) (Below.trod Tryz.laidOutE (by kernel_rfl) (by rw [Tryz.sizeE]; decide) h0 hb hl0) (Below.trod Tryz.laidOutE (by kernel_rfl) (by rw [Tryz.sizeE]; decide) h1 hb hl1) (shut_int Tryz.underlying3 w0);simp only [List.append_nil] at this;exact this
 ·rw [e1]; rfl
theorem Zor:Tryz.pinned.checked.prog.funcNamed Rows.fitsRow.func=some 5:=by kernel_rfl
theorem Zzc:Tryz.f5.isInstance Tryz.pinned.checked.prog Rows.fitsRow.origin Rows.fitsRow.targs:=of_decide_eq_true (by kernel_rfl)
theorem Zzd:Tryz.f5.isWrapper Tryz.pinned.checked.prog Rows.fitsRow.wrapper Rows.fitsRow.mainSum:=by unfold Func.isWrapper; rw [if_neg (of_decide_eq_false (by kernel_rfl))]; exact⟨rfl,rfl⟩
theorem Zze:joinedFacts Tryz.pinned.checked.prog 5 Tryz.f5 Rows.fitsSpec Rows.fitsRow=true:=by unfold joinedFacts;rw [Zzn,Zzo,Zzp,Zzq,Zzr,Zzs,Zzt,Zzu,Zzv,Zzw,Zum,Zun,Zuo,Zup,Zuq,Zur,Zus,Zut];simp only [Bool.true_and];kernel_rfl
theorem Zul:Rows.FitsSaid :=
 OpenClaim.holds_of_wide 5 Tryz.f5 rfl rfl rfl rfl rfl rfl rfl ⟨rfl,rfl,rfl,rfl,rfl⟩ rfl rfl rfl rfl rfl Zor Tryz.func5 Zze
  Zzc Zzd
  (fun os started H enc _=>Zjj os started H enc)
theorem Zzf:OpenClaim.wfByText (OpenSpec.ofChange Rows.fitsSpec) Rows.fitsRow=true:=by kernel_rfl
theorem Zzg:Tryz.pinned.checked.prog.mainIs=some (Rows.fitsCard.stood.harness.1,Rows.fitsCard.stood.harness.2.toList):=by kernel_rfl
theorem Zzh:Rows.fitsCard.stood.looks=Tryz.pinned.checked.prog.looks []:=by kernel_rfl
theorem Zzi:Tryz.prog.wantsStandIn 25=false:=by kernel_rfl
theorem Zzj:Tryz.prog.wantsStandIn 62=false:=by kernel_rfl
theorem Zzk:Tryz.prog.wantsStandIn 3=false:=by kernel_rfl
theorem fits_card:Rows.FitsCardSaid :=
 Claim7.holds_tied_plain_at .later [] _ _ _ _ Zul (fun _ h=>by cases h) Zzf (fun _ h=>by cases h) fits_row_tie rfl ⟨rfl,rfl⟩ Zzg rfl
  (fun f fn hf hfn=>by
   obtain rfl:f=5:=Option.some.inj (Zor.symm.trans hf) |>.symm;obtain rfl:fn=Tryz.f5:=(Option.some.inj (Tryz.func5.symm.trans hfn)).symm;exact⟨Zzh,fun j t ht=>by
    rw [Tryz.params5] at ht;have h3:t=25∨t=62∨t=3:=by
     rcases j with _ | _ | _ | j
     ·exact Or.inl (by simpa using ht.symm)
     ·exact Or.inr (Or.inl (by simpa using ht.symm))
     ·exact Or.inr (Or.inr (by simpa using ht.symm))
     ·simp at ht
    rcases h3 with rfl | rfl | rfl
    ·exact Zzi
    ·exact Zzj
    ·exact Zzk⟩)
  Zzm
#print axioms fits_card
end Go.Proofs.YtkenknfgeoecbaaGreatDoor
