import Derived.Test.YteddfaconabobaaGreatDoorRows
import Derived.Test.YteddfaconabobaaGreatDoorCards
import Derived.Test.YteddfaconabobaaGreatDoorTie
import Derived.ProofKit
import Derived.OpenShut
import Derived.ChangeSame
import Derived.ChangeSlices
import Derived.ChangeVars
import Derived.JoinedOf
import Derived.RowKit
import Derived.RowKitTokens
import Derived.LaidLaws
import Derived.LaidHandle
import Derived.LaidSub
import Derived.Stop.Joined
import Derived.SevenTiedAt
import Derived.SizedLaws
import Derived.WideShapes
import Derived.MakeChecks
import Derived.Lib.LaidU8
import Derived.Lay
import Derived.Test.YteddfaconabobaaGreatDoorJ23
import Derived.Test.YteddfaconabobaaGreatDoorStI
import Derived.Test.YteddfaconabobaaGreatDoorJ14
import Derived.Lib.LaidTab
namespace Go.Proofs.YteddfaconabobaaGreatDoor
open Go.ChangeShapes Go.WideShapes Go.ChangeAt Go.RowKit Go.Deep
section
variable {H:Type} {enc:TypeId×Value→H} {w:World} {held:Bool}
set_option maxRecDepth 100000 in
theorem Zdd {n0:Nat}{c0 c1 c2 c3 c4 c5 c6 c7 c8 c9 c10 c11:Value}{y:DataW H×List MemPlace}(hf:Mc enc w held n0 25 [c0,c1,c2,c3,c4,c5,c6,c7,c8,c9,c10,c11] y)(hw:Nc 25 y.1) :
 ∃ T:Lr,[c0,c1,c2,c3,c4,c5,c6,c7,c8,c9,c10,c11]=T.box.toList∧TbO w T∧Zeu T:=by
 obtain⟨xs,n,-,hx,-,hxl,hall⟩:=DataW.trod_struct Tryz.underlying25 hf;obtain⟨y0,y1,y2,y3,y4,y5,y6,y7,y8,y9,y10,rfl⟩:=Zmo hxl;have f0:Mc enc w held n 3 [c0] y0:=Jt hall (i:=0) rfl Tryz.cellsIntQ rfl;have f1:Mc enc w held n 3 [c1] y1:=Jt hall (i:=1) rfl Tryz.cellsIntQ rfl;have f2:Mc enc w held n 3 [c2] y2:=Jt hall (i:=2) rfl Tryz.cellsIntQ rfl;have f3:Mc enc w held n 22 [c3,c4] y3:=Jt hall (i:=3) rfl Tryz.cells2iQ rfl;have f4:Mc enc w held n 23 [c5] y4:=Jt hall (i:=4) rfl Tryz.cellsIntsQ rfl;have f5:Mc enc w held n 23 [c6] y5:=Jt hall (i:=5) rfl Tryz.cellsIntsQ rfl;have f6:Mc enc w held n 23 [c7] y6:=Jt hall (i:=6) rfl Tryz.cellsIntsQ rfl;have f7:Mc enc w held n 3 [c8] y7:=Jt hall (i:=7) rfl Tryz.cellsIntQ rfl;have f8:Mc enc w held n 3 [c9] y8:=Jt hall (i:=8) rfl Tryz.cellsIntQ rfl;have f9:Mc enc w held n 3 [c10] y9:=Jt hall (i:=9) rfl Tryz.cellsIntQ rfl;have f10:Mc enc w held n 4 [c11] y10:=Jt hall (i:=10) rfl Tryz.cellsBoolQ rfl;clear hall;rw [show y.1=_ from congrArg Prod.fst hx] at hw;unfold Nc at hw;simp only [DataW.weights,Tryz.underlying25,List.map_cons,List.map_nil,DataW.weightsEach,List.mem_append] at hw;obtain⟨i0,rfl⟩:=Lk (v:=c0) (y:=y0) f0;obtain⟨i1,rfl⟩:=Lk (v:=c1) (y:=y1) f1;obtain⟨i2,rfl⟩:=Lk (v:=c2) (y:=y2) f2;obtain⟨i3,i4,rfl,rfl⟩:=Zhj (v0:=c3) (v1:=c4) (y:=y3) f3;obtain⟨ag,l5,k5⟩:=Le f4 (fun z hz=>hw z (by simp only [hz,true_or,or_true]))
 obtain⟨rs,l6,k6⟩:=Le f5 (fun z hz=>hw z (by simp only [hz,true_or,or_true]));obtain⟨ss,l7,k7⟩:=Le f6 (fun z hz=>hw z (by simp only [hz,true_or,or_true]));obtain⟨i8,rfl⟩:=Lk (v:=c8) (y:=y7) f7;obtain⟨i9,rfl⟩:=Lk (v:=c9) (y:=y8) f8;obtain⟨i10,rfl⟩:=Lk (v:=c10) (y:=y9) f9;obtain⟨pr,hpr,-⟩:=DataW.trod_bool Tryz.underlying4 (cs:=[c11]) (x:=y10) f10;obtain rfl:=List.head_eq_of_cons_eq hpr;have m5:=l5;have m6:=l6;have m7:=l7;obtain⟨pa,ca,rfl,-⟩:=l5;obtain⟨pb,cb,rfl,-⟩:=l6;obtain⟨pc,cc,rfl,-⟩:=l7;exact⟨⟨i0,i1,i2,i3,i4,pa,ag,ca,pb,rs,cb,pc,ss,cc,i8,i9,i10,pr⟩,rfl,⟨m5,m6,m7⟩,⟨k5,k6,k7⟩⟩
theorem Sr {n:Nat}{v:Value}{y:DataW H×List MemPlace}(h:Mc enc w held n 30 [v] y)(hw:Nc 30 y.1):∃(ns:List Int) (p:Option Addr) (c:Nat),v=.slice p ns.length c∧Lv w (.slice p ns.length c) ns∧ns.length*8≤140737488351232∧∀ x ∈ ns,0≤x∧x<18446744073709551616:=by
 obtain⟨ps,h1,h2,h3⟩:=Lb (b:=8) (Ok:=fun q:Array Value×Int=>q.1=#[.int .u64 q.2]∧0≤q.2∧q.2<18446744073709551616) Tryz.underlying30 Tryz.cellsU64E (by decide) (by kernel_rfl) (fun n cs y hl hy _=>by
  match cs,hl with
  | [v],_ =>
   obtain⟨x,rfl,hx⟩:=Iy hy;exact⟨x,rfl,hx⟩) h hw
 have hl:(ps.map (·.2)).length=ps.length:=by simp
 obtain⟨p,cap,g1,g2,g3,g4⟩:=h1.congr (B:=fun k=>#[.int .u64 ((ps.map (·.2)).getD k 0)]) (fun i hi=>by rw [Rw ps #[]]; exact(h2 _ (Lh _ _ _ hi)).1);have h3':ps.length*8≤140737488351232:=h3;refine⟨ps.map (·.2),p,cap,by rw [hl]; exact g1,⟨p,cap,rfl,by rw [hl]; exact g2,by rw [hl]; omega,fun h0=>?_⟩,by rw [hl]; exact h3',fun x hx=>?_⟩
 ·
  rw [hl] at h0;obtain⟨sb,so,e,-,hc⟩:=g4 h0;refine⟨sb,so,e,fun i hi=>?_⟩;rw [hl] at hi;have:=hc i hi 0 _ rfl;simpa using this
 ·
  obtain⟨q,hq,rfl⟩:=List.mem_map.1 hx;exact(h2 q hq).2
theorem Tryz.cellsTbI:Tryz.prog.cellsOf 25=12:=by kernel_rfl
theorem Tryz.cellsPgI:Tryz.prog.cellsOf 29=2:=by kernel_rfl
theorem Tryz.cellsWsI:Tryz.prog.cellsOf 30=1:=by kernel_rfl
theorem Zmj {α:Type}{l:List α}(h:l.length=20):∃ a0 a1 a2 a3 a4 a5 a6 a7 a8 a9 a10 a11 a12 a13 a14 a15 a16 a17 a18 a19,l=[a0,a1,a2,a3,a4,a5,a6,a7,a8,a9,a10,a11,a12,a13,a14,a15,a16,a17,a18,a19]:=by
 match l,h with
 | [a0,a1,a2,a3,a4,a5,a6,a7,a8,a9,a10,a11,a12,a13,a14,a15,a16,a17,a18,a19],_=>exact⟨_,_,_,_,_,_,_,_,_,_,_,_,_,_,_,_,_,_,_,_,rfl⟩
structure Zrc (w:World)(v:Value)(T:Lr)(pf:Option Addr)(cf:Nat)(pe:Option Addr)(ce:Nat)(P:Zl)(f:Int)(ap:Option Addr)(ac:Nat)(args:List Int)(sp:Option Addr)(scc:Nat)(sc:List Int)(fuel st sx:Int)(A E:Nat→Array Value):Prop where
 v:v=.agg (bxI T pf cf pe ce P f ap ac args sp scc sc fuel st sx)
 t:TbO w T
 tl:Zeu T
 p:Lm w (.slice pf P.funcs.length cf) (.slice pe P.externs.length ce) P A E
 pl:Ie P
 a:Lv w (.slice ap args.length ac) args
 s:Lv w (.slice sp sc.length scc) sc
 al:args.length*8≤140737488351232
 sl:sc.length*8≤140737488351232
 ar:∀ n ∈ args,0≤n∧n<18446744073709551616
 sr:∀ n ∈ sc,0≤n∧n<18446744073709551616
set_option maxRecDepth 100000 in
theorem Zbq {b0:Nat}{r:Reach}{v:Value}{d:DataW H}{p:List MemPlace}(hv:Value.okWide Tryz.prog w r b0 32 v)(h:DataW.Trod enc Tryz.prog w 0 (fun _=>true) held 32 v d p)(hw:Nc 32 d) :
 ∃ T pf cf pe ce P f ap ac args sp scc sc fuel st sx A E,Zrc w v T pf cf pe ce P f ap ac args sp scc sc fuel st sx A E:=by
 obtain⟨cs,rfl,hsz⟩:=okWide_struct Tryz.underlying32 hv;obtain⟨l⟩:=cs;obtain⟨c0,c1,c2,c3,c4,c5,c6,c7,c8,c9,c10,c11,c12,c13,c14,c15,c16,c17,c18,c19,rfl⟩:=Zmj (l:=l) (hsz.trans (by kernel_rfl));obtain⟨fuel0,hf⟩:=h;obtain⟨xs,n,-,hx,-,hxl,hall⟩:=DataW.trod_struct Tryz.underlying32 hf;obtain⟨y0,y1,y2,y3,y4,y5,y6,y7,rfl⟩:=Zdv hxl;have f0:Mc enc w held n 25 [c0,c1,c2,c3,c4,c5,c6,c7,c8,c9,c10,c11] y0:=Ym hall (i:=0) rfl Tryz.cellsTbI rfl;have f1:Mc enc w held n 29 [c12,c13] y1:=Ym hall (i:=1) rfl Tryz.cellsPgI rfl;have f2:Mc enc w held n 3 [c14] y2:=Ym hall (i:=2) rfl Tryz.cellsIntE rfl;have f3:Mc enc w held n 30 [c15] y3:=Ym hall (i:=3) rfl Tryz.cellsWsI rfl;have f4:Mc enc w held n 30 [c16] y4:=Ym hall (i:=4) rfl Tryz.cellsWsI rfl;have f5:Mc enc w held n 3 [c17] y5:=Ym hall (i:=5) rfl Tryz.cellsIntE rfl;have f6:Mc enc w held n 3 [c18] y6:=Ym hall (i:=6) rfl Tryz.cellsIntE rfl;have f7:Mc enc w held n 3 [c19] y7:=Ym hall (i:=7) rfl Tryz.cellsIntE rfl;clear hall;rw [show d=_ from congrArg Prod.fst hx] at hw;unfold Nc at hw;simp only [DataW.weights,Tryz.underlying32,List.map_cons,List.map_nil,DataW.weightsEach,List.mem_append] at hw;obtain⟨T,e0,hT,hTl⟩:=Zdd f0 (fun z hz=>hw z (by first | exact Or.inl hz | simp only [hz,true_or,or_true]));obtain⟨P,A,E,hP,hPl⟩:=Zeo f1 (fun z hz=>hw z (by first | exact Or.inl hz | simp only [hz,true_or,or_true]));obtain⟨i2,rfl,-⟩:=Xq f2
 obtain⟨args,ap,ac,rfl,ha,hal,har⟩:=Sr f3 (fun z hz=>hw z (by first | exact Or.inl hz | simp only [hz,true_or,or_true]));obtain⟨sc,sp,scc,rfl,hs,hsl,hsr⟩:=Sr f4 (fun z hz=>hw z (by first | exact Or.inl hz | simp only [hz,true_or,or_true]));obtain⟨i5,rfl,-⟩:=Xq f5;obtain⟨i6,rfl,-⟩:=Xq f6;obtain⟨i7,rfl,-⟩:=Xq f7;obtain⟨pf,cf,rfl⟩:=hP.fs.shape;obtain⟨pe,ce,rfl⟩:=hP.es.shape;refine⟨T,pf,cf,pe,ce,P,i2,ap,ac,args,sp,scc,sc,i5,i6,i7,A,E,⟨?_,hT,hTl,hP,hPl,ha,hs,hal,hsl,har,hsr⟩⟩;unfold Lr.box at e0;simp only [List.cons.injEq,and_true] at e0;obtain⟨rfl,rfl,rfl,rfl,rfl,rfl,rfl,rfl,rfl,rfl,rfl,rfl⟩:=e0;rfl
end
theorem Du {W:World}(h:laidMetH Tryz.prog Rows.interpretsRow.laid W):Jb W∧Xx W :=
 ⟨Ko (Lib.laidMet.reads (laidMetH_iff.1 h).1 (List.mem_filter.2 ⟨by simp [Rows.interpretsRow],by kernel_rfl⟩)),Zie h (List.mem_filter.2 ⟨by simp [Rows.interpretsRow],by kernel_rfl⟩)⟩
abbrev Zfu:List (String×DataW Unit):=Rows.interpretsRow.laid.filter fun x=>x.2.handleName?.isNone
theorem Cr (os:Os)(args:Array Value):laidMetH Tryz.prog Rows.interpretsRow.laid ((Zey (World.laidAll Tryz.prog os Zfu)).forCall (fun _ _=>0) ⟨#[],args,[]⟩).memory :=
 laidMetH_of_parts (laidMet_of_run' 16 (by kernel_rfl) (by kernel_rfl)) (by kernel_rfl)
def Zps:Array Value:=#[.agg #[.int .i64 0,.int .i64 0,.int .i64 0,.int .i64 0,.int .i64 0,.slice none 0 0,.slice none 0 0,.slice none 0 0,.int .i64 0,.int .i64 0,.int .i64 0,.bool false,.slice none 0 0,.slice none 0 0,.int .i64 0,.slice none 0 0,.slice none 0 0,.int .i64 0,.int .i64 0,.int .i64 0]]
set_option maxRecDepth 100000 in
theorem Rq (os:Os)(started:os.Started)(H:Type)(enc:TypeId×Value→H) :
 ReturnsInHanded {} Tryz.checked os 3 .any (fun w args=>(Rows.interpretsSpec.pre enc Tryz.prog Tryz.f3 [] false w args∧laidMetH Tryz.prog Rows.interpretsRow.laid w)∧sizedMet enc Tryz.prog Tryz.f3 (OpenSpec.ofChange Rows.interpretsSpec) false w args)
  (Rows.interpretsSpec.post enc Tryz.prog Tryz.f3 false true false false):=by
 refine returnsInHanded_of_change_and (C:=Tryz.checked) (X:=fun w _=>laidMetH Tryz.prog Rows.interpretsRow.laid w) (fun _ _ _ hh h=>h.of_heap hh) Tryz.ownE started (by kernel_rfl) Tryz.func3
  (ChangeSpec.witness_at (enc:=enc) (C:=Tryz.checked) (os:=os) (X:=fun w _=>laidMetH Tryz.prog Rows.interpretsRow.laid w) false (Zey (World.laidAll Tryz.prog os Zfu)) Zps 8 rfl (by kernel_rfl) (by kernel_rfl) (by kernel_rfl) (by kernel_rfl) (by kernel_rfl) (Cr os _)) ?_
 intro W base args ds gs before hval0 hW _ hsz0 hL _;have hval:∀(j:Nat) t v,Tryz.f3.params[j]?=some t→args[j]?=some v→Value.okWide Tryz.prog W .any base t v:=hval0;have hW':=hW;obtain⟨p,q,hA0,hV0,rfl,hfz,hnd⟩:=hW;have hA:DataW.TrodAll enc Tryz.prog W 0 (fun _=>true) true Tryz.f3.params.toList args.toList ds p:=hA0;have hV:DataW.TrodVars enc Tryz.prog W (fun _=>true) [] gs q:=hV0;have hlt:=DataW.TrodAll.lt hA;have hsz1:(DataW.weightsEach Tryz.prog (Tryz.f3.params.toList++Rows.interpretsSpec.plain.varTypes Tryz.prog) (ds++gs)).all (·≤reachBytes)=true:=hsz0;rw [Tryz.params3] at hA hval hsz1;obtain⟨v0,d0,rfl,rfl,h0⟩:=trodAll_one hA;obtain⟨rfl,rfl⟩:=trodVars_none hV;clear hA0 hval0 hV0;simp only [List.append_nil] at hW' hlt;have hlite:∀ x ∈ d0.weights Tryz.prog 32,x≤reachBytes:=fun x hx=>by
  have:=List.all_eq_true.1 hsz1 x (by
   simp only [List.cons_append,List.nil_append,DataW.weightsEach,List.mem_append];exact Or.inl hx)
  simpa using this
 obtain⟨hN,hE⟩:=Du hL;have h1h:1<W.heap.size:=World.block_lt_of_cell? W _ (hN 0 (by decide));obtain⟨T,pf,cf,pe,ce,P,f,ap,ac,args,sp,scc,sc,fuel,st,sx,A,E,hS⟩:=Zbq (hval 0 32 v0 rfl rfl) h0 hlite;obtain rfl:=hS.v;refine(Sz T pf cf pe ce P f ap ac args sp scc sc fuel st sx A E W ⟨hS.t,hS.p,hS.pl.num,hN,h1h,hE,hS.pl.par⟩ hS.tl hS.pl hS.pl.word hS.a hS.s hS.ar hS.sr hS.al hS.sl).mono fun e W' ⟨he,hb⟩=>?_;subst he;have e1:Rows.interpretsSpec.fn H ([d0]++[])={ results:=[.lit (.bool true)],args:=[d0] }:=by simp [Rows.interpretsSpec]
 have hl0:∀ x ∈ p,x.block<W.heap.size:=fun x hx=>hlt x hx;refine⟨_,rfl,_,_,_,[],p,[],hW',?_,?_,?_,hb.frame _,fun h=>by cases h⟩
 ·
  rw [e1]; exact trodAll_cons_mk (shut_bool Tryz.underlying4 _) trodAll_mk0
 ·
  rw [e1];exact trodAll_mk1 (Below.trod Tryz.laidOutE (by kernel_rfl) (by rw [Tryz.sizeE]; decide) h0 hb hl0)
 ·
  rw [e1]; rfl
theorem Il:Tryz.pinned.checked.prog.funcNamed Rows.interpretsRow.func=some 3:=by kernel_rfl
theorem Im:joinedFacts Tryz.pinned.checked.prog 3 Tryz.f3 Rows.interpretsSpec Rows.interpretsRow=true:=by kernel_rfl
theorem Io:Tryz.f3.isInstance Tryz.pinned.checked.prog Rows.interpretsRow.origin Rows.interpretsRow.targs:=of_decide_eq_true (by kernel_rfl)
theorem Ip:Tryz.f3.isWrapper Tryz.pinned.checked.prog Rows.interpretsRow.wrapper Rows.interpretsRow.mainSum:=by unfold Func.isWrapper; rw [if_neg (of_decide_eq_false (by kernel_rfl))]; exact⟨rfl,rfl⟩
theorem Cs:Rows.InterpretsSaid :=
 OpenClaim.holds_of_wide 3 Tryz.f3 rfl rfl rfl rfl rfl rfl rfl ⟨rfl,rfl,rfl,rfl,rfl⟩ rfl rfl rfl rfl rfl Il Tryz.func3 Im
  Io Ip
  (fun os started H enc _=>Rq os started H enc)
theorem interprets_card:Rows.InterpretsCardSaid :=
 Claim7.holds_tied_plain_at .later [] _ _ _ _ Cs (fun _ h=>by cases h) (by kernel_rfl) (fun _ h=>by cases h) interprets_row_tie rfl ⟨rfl,rfl⟩ (by kernel_rfl) rfl
  (fun f fn hf hfn=>by
   obtain rfl : f = 3 := Option.some.inj ((show Tryz.prog.funcNamed "prologue/prologuelaw.Interprets" = some 3 by kernel_rfl).symm.trans hf) |>.symm;obtain rfl : fn = Tryz.f3 := (Option.some.inj (Tryz.func3.symm.trans hfn)).symm;exact ⟨by kernel_rfl, fun j t ht => by
    rw [Tryz.params3] at ht;have h3:t=32:=by
     rcases j with _ | j
     ·
      simpa using ht.symm
     ·
      simp at ht
    subst h3;exact(show Tryz.prog.wantsStandIn 32=false by kernel_rfl)⟩)
  (by kernel_rfl)
#print axioms interprets_card
end Go.Proofs.YteddfaconabobaaGreatDoor
