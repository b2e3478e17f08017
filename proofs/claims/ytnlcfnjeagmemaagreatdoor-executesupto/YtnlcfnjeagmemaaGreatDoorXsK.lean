import Derived.Test.YtnlcfnjeagmemaaGreatDoorCards
import Derived.Test.YtnlcfnjeagmemaaGreatDoorTie
import Derived.Test.YtnlcfnjeagmemaaGreatDoorXsJ
import Derived.WalkKit
import Derived.ProofKit
import Derived.OpenShut
import Derived.Carry
import Derived.LaidLaws
import Derived.LaidHandle
import Derived.LaidSub
import Derived.SizedLaws
import Derived.WideShapes
import Derived.Deep.DeepHandedRow
import Derived.Lib.LaidTab
import Derived.Lib.LaidU8
import Derived.Lay
import Derived.SevenTiedAt
namespace Go.Proofs.YtnlcfnjeagmemaaGreatDoor
open Go.ChangeShapes Go.WideShapes Go.ChangeAt Go.RowKit
set_option maxRecDepth 100000
theorem Tryz.ownX:ownKnob Tryz.prog.godebug=none:=by kernel_rfl
theorem Tryz.laidOutX:laidOutB Tryz.prog=true:=by kernel_rfl
theorem Tryz.etX : Tryz.prog.globalNamed "errors.errorType" = some 0 := by kernel_rfl
theorem Tryz.rtX : (Tryz.prog.cutTypes.find? (·.1 == "internal/reflectlite.rtype")).map (·.2) = some 165 := by kernel_rfl
theorem Tryz.oneRowX:((List.range 247).filter fun t=>Tryz.prog.rowNamed t [101,114,114,111,114])=[64]:=by kernel_rfl
theorem Tryz.sizeX:Tryz.prog.types.size=247:=by kernel_rfl
theorem Tryz.handX:typeHandle Tryz.prog 64=.pointer (some ⟨2,64,none⟩):=by kernel_rfl
theorem Tryz.gNamX : Tryz.prog.globalNamed "prologue/machine.named" = some 1 := by kernel_rfl
theorem Tryz.gNamTX:(Tryz.prog.globals[1]?).map (·.type)=some 196:=by kernel_rfl
theorem Tryz.cellsNamX:Tryz.prog.cellsOf 196=22:=by kernel_rfl
theorem Zrc:(Rows.laid_prologue_machine_named:DataW Unit)=Lib.tabData .i64 nmL:=by kernel_rfl
theorem Zeb {W : World} (h : Lib.VarReads Tryz.prog W "prologue/machine.named" Rows.laid_prologue_machine_named) : ∀ k, k < 22 → W.cell? ⟨1, k, none⟩ = some (.int .i64 (nmL.getD k 0)) := by
 obtain⟨g,t,cs,fuel,p,hg,ht,hv,hd⟩:=h;obtain rfl:=Option.some.inj (Tryz.gNamX.symm.trans hg);obtain rfl:=Option.some.inj (Tryz.gNamTX.symm.trans ht);rw [Zrc] at hd;have hc:=Lib.cells_of_tab Tryz.underlying196 Tryz.underlying3 Tryz.cellsIntX Tryz.cellsNamX hd;intro k hk;rw [World.var?_cell Tryz.gNamX hv k];have h1:cs[k]?=(nmL.map fun z=>Value.int .i64 z)[k]?:=by rw [← hc]; simp
 rw [h1,List.getElem?_map];have h2:nmL[k]?=some (nmL.getD k 0):=by
  have:k<nmL.length:=hk;simp [List.getD,this]
 rw [h2];rfl
theorem Znh {W : World} {l : List (String × DataW Unit)} (h : laidMetH Tryz.prog l W) (hm : ("errors.errorType", Rows.laid_errors_errorType) ∈ l.filter fun x => x.2.handleName?.isSome) : Jk W := by
 obtain ⟨-, h2⟩ := laidMetH_iff.1 h;obtain ⟨name, u, ty, e1, e2, e3, e4, e5⟩ := h2 ("errors.errorType", Rows.laid_errors_errorType) hm;have en : name = [101, 114, 114, 111, 114] := (Option.some.inj e1).symm;subst en;obtain rfl := Option.some.inj (Tryz.rtX.symm.trans e2);have hm : ty ∈ (List.range 247).filter fun t => Tryz.prog.rowNamed t [101, 114, 114, 111, 114] := List.mem_filter.2 ⟨List.mem_range.2 (by rw [← Tryz.sizeX]; exact e3), e4⟩;rw [Tryz.oneRowX] at hm;obtain rfl := List.mem_singleton.1 hm;rw [Tryz.handX] at e5;simpa using World.var?_cell Tryz.etX e5 0
def Zec (w:World):World :=
 { w with heap:=w.heap.modify 0 fun
  | .cells _ t frozen=>.cells #[.iface 165 (.agg #[.pointer (some ⟨2,64,none⟩)])] t frozen
  | o=>o }
theorem Ko {W:World}(h:laidMetH Tryz.prog Rows.executesUptoRow.laid W):(∀ k,k<22→W.cell? ⟨1,k,none⟩=some (.int .i64 (nmL.getD k 0)))∧Jk W :=
 ⟨Zeb (Lib.laidMet.reads (laidMetH_iff.1 h).1 (List.mem_filter.2 ⟨by simp [Rows.executesUptoRow],by kernel_rfl⟩)),Znh h (List.mem_filter.2 ⟨by simp [Rows.executesUptoRow],by kernel_rfl⟩)⟩
theorem Sr (H:Type)(enc:TypeId×Value→H)(W:World)(base:Nat)(args:Array Value)(ds gs:List (DataW H))(before:List MemPlace)
 (hval:∀(j:Nat) t v,Tryz.f3.params[j]?=some t→args[j]?=some v→Value.okWide Tryz.prog W .any base t v)
 (hW:DataW.Whole enc Tryz.prog Tryz.f3.params.toList Rows.executesSpec.vars false W args.toList ds gs before) (hcond:Rows.uptoSmall H (ds++gs)=true) (hL:laidMetH Tryz.prog Rows.executesUptoRow.laid W) :
 Calls Tryz.prog 3 args W fun e W'=>∃ v,e=.returned v∧Rows.executesSpec.post enc Tryz.prog Tryz.f3 false true false false W args v W':=by
 have hW':=hW;obtain⟨p,q,hA0,hV,rfl,hfz,hnd⟩:=hW;have hA:DataW.TrodAll enc Tryz.prog W 0 (fun _=>true) true Tryz.f3.params.toList args.toList ds p:=hA0;have hlt:=DataW.TrodAll.lt hA;rw [Tryz.params3] at hA hval;obtain⟨v0,v1,v2,d0,d1,d2,p0,p1,p2,rfl,rfl,rfl,h0,h1,h2⟩:=trodAll_three hA;obtain⟨rfl,rfl⟩:=trodVars_none hV;clear hA0;simp only [List.append_nil] at hW' hlt;have hb:Rows.uptoBulkAll [d0,d1,d2]≤1048576:=by simpa [Rows.uptoSmall] using hcond
 simp only [Rows.uptoBulkAll] at hb;obtain⟨T,rfl,hT,hTl⟩:=Zea (hval 0 25 v0 rfl rfl) h0 (by omega);obtain⟨C,csp,cfp,cep,csc,cfc,cec,rfl,hS,hF,hE,hLC,hln,hfl,hbl,hel⟩:=Zir (hval 1 29 v1 rfl rfl) h1 (by omega);obtain⟨T2,pf,nf,cf,pe,ne,ce,f,ap,ac,args,sp,scc,sc,fuel,st,sx,hX⟩:=Zbe (hval 2 35 v2 rfl rfl) h2 (by omega);obtain rfl:=hX.v;obtain⟨hN,hEr⟩:=Ko hL;have hga:1<W.heap.size:=World.block_lt_of_cell? W _ (hN 0 (by decide));refine(Zbd T C csp cfp cep csc cfc cec T2 pf nf cf pe ne ce f ap ac args sp scc sc fuel st sx W ⟨hT,Zip hT.s,hS,hE,hF,Nat.le_refl _,Cy hX.a,Cy hX.s,hbl,hel,hga,hN,hX.ar,hX.sr⟩ hTl hLC ⟨hln,hfl⟩ hX.a hX.s hX.al hX.sl hEr).mono fun e W' ⟨he,hb⟩=>?_;subst he;have e1:Rows.executesSpec.fn H ([d0,d1,d2]++[])={ results:=[.lit (.bool true)],args:=[d0,d1,d2] }:=by simp [Rows.executesSpec]
 have hl0:∀ x ∈ p0,x.block<W.heap.size:=fun x hx=>hlt x (by simp [hx]);have hl1:∀ x ∈ p1,x.block<W.heap.size:=fun x hx=>hlt x (by simp [hx]);have hl2:∀ x ∈ p2,x.block<W.heap.size:=fun x hx=>hlt x (by simp [hx]);refine⟨_,rfl,_,_,_,[],p0++(p1++p2),[],hW',?_,?_,?_,hb.frame _,fun h=>by cases h⟩
 ·
  rw [e1]; exact trodAll_cons_mk (shut_bool Tryz.underlying4 _) trodAll_mk0
 ·
  rw [e1];exact trodAll_mk3 (Below.trod Tryz.laidOutX (by kernel_rfl) (by rw [Tryz.sizeX]; decide) h0 hb hl0) (Below.trod Tryz.laidOutX (by kernel_rfl) (by rw [Tryz.sizeX]; decide) h1 hb hl1) (Below.trod Tryz.laidOutX (by kernel_rfl) (by rw [Tryz.sizeX]; decide) h2 hb hl2)
 ·
  rw [e1]; rfl
abbrev Zis:List (String×DataW Unit):=Rows.executesUptoRow.laid.filter fun x=>x.2.handleName?.isNone
def Zrd:Array Value:=#[.agg #[.int .i64 0,.int .i64 0,.int .i64 0,.int .i64 0,.int .i64 0,.slice none 0 0,.slice none 0 0,.slice none 0 0,.int .i64 0,.int .i64 0,.int .i64 0,.bool false],.agg #[.slice none 0 0,.slice none 0 0,.slice none 0 0],.agg #[.int .i64 0,.int .i64 0,.int .i64 0,.int .i64 0,.int .i64 0,.slice none 0 0,.slice none 0 0,.slice none 0 0,.int .i64 0,.int .i64 0,.int .i64 0,.bool false,.slice none 0 0,.slice none 0 0,.int .i64 0,.slice none 0 0,.slice none 0 0,.int .i64 0,.int .i64 0,.int .i64 0]]
theorem Zed (os:Os)(args:Array Value):laidMetH Tryz.prog Rows.executesUptoRow.laid ((Zec (World.laidAll Tryz.prog os Zis)).forCall (fun _ _=>0) ⟨#[],args,[]⟩).memory :=
 laidMetH_of_parts (laidMet_of_run' 16 (by kernel_rfl) (by kernel_rfl)) (by kernel_rfl)
theorem Zav (os:Os){H:Type}(enc:TypeId×Value→H):∃ places,DataW.whole enc Tryz.prog ((Zec (World.laidAll Tryz.prog os Zis)).forCall (fun _ _=>0) ⟨#[],Zrd,[]⟩).memory Tryz.f3.params.toList Rows.executesSpec.vars false Zrd.toList 8 =
 some ([.agg [.lit (.int .i64 0),.lit (.int .i64 0),.lit (.int .i64 0),.agg [.lit (.int .i64 0),.lit (.int .i64 0)],.nil,.nil,.nil,.lit (.int .i64 0),.lit (.int .i64 0),.lit (.int .i64 0),.lit (.bool false)],.agg [.nil,.nil,.nil],.agg [.agg [.lit (.int .i64 0),.lit (.int .i64 0),.lit (.int .i64 0),.agg [.lit (.int .i64 0),.lit (.int .i64 0)],.nil,.nil,.nil,.lit (.int .i64 0),.lit (.int .i64 0),.lit (.int .i64 0),.lit (.bool false)],.agg [.nil,.nil],.lit (.int .i64 0),.nil,.nil,.lit (.int .i64 0),.lit (.int .i64 0),.lit (.int .i64 0)]],[],places) :=
 ⟨[],by kernel_rfl⟩
theorem Cf (os:Os)(started:os.Started)(H:Type)(enc:TypeId×Value→H)(F:Stop.Interp) :
 ReturnsInHanded {} Tryz.checked os 3 .any ((Rows.OpenSpec.upto Rows.executesSpec).preRow enc Tryz.prog Tryz.f3 Rows.executesUptoRow.domain false Rows.executesUptoRow.laid) (((Rows.OpenSpec.upto Rows.executesSpec).at F).post enc Tryz.prog Tryz.f3 false true false false):=by
 obtain⟨places,hx⟩:=Zav os enc;refine returnsInHanded_of_row (C:=Tryz.checked) (s:=Rows.OpenSpec.upto Rows.executesSpec) Tryz.ownX started (by kernel_rfl) Tryz.func3
  (witness_row_at (enc:=enc) (C:=Tryz.checked) false (Zec (World.laidAll Tryz.prog os Zis)) Zrd (World.laidAll_os _ _ _) (by kernel_rfl) (by kernel_rfl) (by kernel_rfl)
   (OpenSpec.preRow_of_cond 8 hx (by kernel_rfl) (fun k hk=>by cases hk; kernel_rfl) (by kernel_rfl) (Zed os _))) ?_
 intro W base args ds gs before hval hW _ hcond _ hL _ _;exact Sr H enc W base args ds gs before hval hW (hcond _ rfl) hL
theorem Zee:Rows.ExecutesUptoSaid :=
 OpenClaim.holds_of_cond 3 Tryz.f3 rfl rfl rfl rfl rfl rfl rfl ⟨rfl,rfl,rfl,rfl,rfl⟩ rfl rfl rfl rfl rfl (by kernel_rfl) Tryz.func3 (by kernel_rfl)
  (of_decide_eq_true (by kernel_rfl)) (by unfold Func.isWrapper; first | (rw [if_pos (by decide +kernel)]; kernel_rfl) | (rw [if_neg (by decide +kernel)]; exact⟨rfl,rfl⟩))
  (fun os started H enc _ F=>by rw [OpenClaim.pre_eq_preRow]; exact Cf os started H enc F)
theorem executes_card:Rows.ExecutesUptoCardSaid :=
 Claim7.holds_tied_plain_at .later [] _ _ _ _ Zee (fun _ h=>by cases h) (by kernel_rfl) (fun _ h=>by cases h) executesUpto_row_tie rfl ⟨rfl,rfl⟩ (by kernel_rfl) rfl
  (fun f fn hf hfn=>by
   obtain rfl : f = 3 := Option.some.inj ((show Tryz.prog.funcNamed "prologue/prologuelaw.Executes" = some 3 by kernel_rfl).symm.trans hf) |>.symm;obtain rfl : fn = Tryz.f3 := (Option.some.inj (Tryz.func3.symm.trans hfn)).symm;exact ⟨by kernel_rfl, fun j t ht => by
    rw [Tryz.params3] at ht;have h3:t=25∨t=29∨t=35:=by simpa using Array.mem_of_getElem? ht
    rcases h3 with rfl | rfl | rfl
    ·
     exact(show Tryz.prog.wantsStandIn 25=false by kernel_rfl)
    ·
     exact(show Tryz.prog.wantsStandIn 29=false by kernel_rfl)
    ·
     exact(show Tryz.prog.wantsStandIn 35=false by kernel_rfl)⟩)
  (by kernel_rfl)
#print axioms executes_card
end Go.Proofs.YtnlcfnjeagmemaaGreatDoor
