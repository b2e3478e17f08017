import Derived.Test.YtnlcfnjeagmemaaGreatDoorJ3
import Derived.Test.YtnlcfnjeagmemaaGreatDoorJ11
import Derived.Laws.CopyOwn
import Derived.Laws.MakeOwn
import Derived.Deep.QuietTactic
import Derived.BigQuiet
import Derived.Deep.RegionWith
import Derived.Deep.RegionHeld3
namespace Go.Proofs.YtnlcfnjeagmemaaGreatDoor
open Go.RowKit
set_option maxHeartbeats 4000000
set_option maxRecDepth 100000
def cpC (ns:List Int):List Value:=ns.map (fun x=>Value.int .i64 x)++[.int .i64 (-77),.int .i64 (-78)]
def cpV (g:Nat)(ns:List Int):Value:=.slice (some ⟨g,0,none⟩) ns.length (ns.length+2)
structure Cp (w:World)(g:Nat)(ns:List Int):Prop where
 row:w.heap[g]?=some (.cells (cpC ns).toArray 3 (0,0))
 lim:ns.length+2<9223372036854775808
theorem Ziy (ns:List Int)(i:Nat)(h:i<ns.length):(cpC ns).toArray[i]?=some (.int .i64 (ns.getD i 0)):=by
 simp [cpC,List.getElem?_append_left,h,List.getD]
theorem Cp.li {w:World}{g:Nat}{ns:List Int}(h:Cp w g ns):Li w (.slice (some ⟨g,0,none⟩) ns.length (ns.length+2)) ns :=
 ⟨_,_,rfl,by omega,by have:=h.lim; show ns.length<9223372036854775808; omega,fun _=>⟨g,0,rfl,fun i hi=>by rw [Nat.zero_add]; exact(Zd h.row i).trans (Ziy ns i hi)⟩⟩
theorem Cp.keep {w w':World}{g:Nat}{ns:List Int}(h:Cp w g ns)(e:w'.heap[g]?=w.heap[g]?):Cp w' g ns:=⟨e.trans h.row,h.lim⟩
theorem Zno (cur:List Value)(xs:List Value)(a b:Value)(hl:cur.length=xs.length+2):(((splice cur 0 xs).toArray.setIfInBounds xs.length a).setIfInBounds (xs.length+1) b)=(xs++[a,b]).toArray:=by
 have e:splice cur 0 xs=xs++cur.drop xs.length:=by simp [splice]
 obtain⟨c0,c1,hc⟩:∃ c0 c1,cur.drop xs.length=[c0,c1]:=by
  have hd:(cur.drop xs.length).length=2:=by simp; omega
  match hq:cur.drop xs.length,hd with
  | [c0,c1],_=>exact⟨c0,c1,rfl⟩
 rw [e,hc];simp
theorem Tryz.infoIntJ:(Tryz.prog.info? 3).map (·.size)=some 1:=by kernel_rfl
theorem Tryz.infoIntK:(Tryz.prog.info? 3).map (fun i=>(i.zero,i.size,i.bytes))=some (some (.int .i64 0),1,8):=by kernel_rfl
theorem Zzr (n:Nat)(hn:n*8≤140737488351232)(w:World):(Instr.makeSlice 23 (.int .i64 (n:Int)) (.int .i64 ((n:Int)+2))).run Tryz.prog w=.ok (.slice (some ⟨w.heap.size,0,none⟩) n (n+2)) (w.alloc (.cells (madeCells #[.int .i64 0] (n+2)) 3)):=by
 obtain⟨ti,hti,hz0,hz1,hz2⟩:=Yr Tryz.infoIntK;have h:=run_make (P:=Tryz.prog) w 23 3 ti _ Tryz.underlying23 hti hz0 .i64 .i64 (n:Int) ((n:Int)+2) (by omega) (by omega) (by rw [hz2]; omega) (by omega);rw [hz1,Int.toNat_natCast,show((n:Int)+2).toNat=n+2 by omega,Nat.mul_one] at h;exact h
theorem Mr (ns:List Int)(p:Option Addr)(c:Nat)(w:World)(h:Li w (.slice p ns.length c) ns)(hl:ns.length*8≤140737488351232) :
 Calls Tryz.prog 16 #[.slice p ns.length c] w fun e w'=>e=.returned (cpV w.heap.size ns)∧Cp w' w.heap.size ns∧Below w.heap.size w w':=by
 have hmk:=fun V=>Zzr ns.length hl V;have ha:=Zs w (.cells (madeCells #[.int .i64 0] (ns.length+2)) 3 (0,0));obtain⟨cur,hcur,hcl⟩:∃ cur:List Value,madeCells #[.int .i64 0] (ns.length+2)=cur.toArray∧cur.length=ns.length+2:=⟨(madeCells #[.int .i64 0] (ns.length+2)).toList,by simp,by rw [Array.length_toList,size_madeCells]⟩;rw [hcur] at ha;have HMK:=Y hcur;obtain⟨xs,hxs⟩:∃ xs:List Value,xs=ns.map (fun x=>Value.int .i64 x):=⟨_,rfl⟩;have hxl:xs.length=ns.length:=by rw [hxs]; simp
 have hx1:∀ v ∈ xs,v.oneCell'=true:=fun v hv=>by rw [hxs] at hv; obtain⟨x,-,rfl⟩:=List.mem_map.1 hv; rfl
 have HX1:=Y hx1;have HXS:=Y hxs;have HA:=Y ha;have HLI:=Y h;have HCL:=Y hcl;have HXL:=Y hxl;have hlt:ns.length<9223372036854775806:=by omega
 have hmin:Nat.min ns.length ns.length=ns.length:=Nat.min_self _;clear ha h hcur hx1 hxs hcl hxl;go_enter Tryz.func16,Tryz.ntmps16
 go_wp2_with (refine wpList_copy_splice rfl _ _ 23 23 rfl 3 Tryz.underlying23 (Tryz.infoIntJ.trans rfl) _ _ _ _ _ _ rfl rfl w.heap.size 0 cur 3 ?k1 xs ?k2 ?k3 ?k4 (O HX1) w.heap.size w ?k5 (Nat.le_refl _) ?_)
 case k1=>rw [O HMK]; exact(O HA).1
 case k2=>rw [O HXL,hmin]
 case k3 =>
  intro h0;rw [O HXL] at h0;obtain⟨p',c',e,h2,h3,h4⟩:=O HLI;injection e with e1 e2 e3;obtain⟨sb,so,e4,hc⟩:=h4 h0;refine⟨⟨sb,so,none⟩,by rw [e1,e4],fun j v hj=>?_⟩;rw [O HXS] at hj;have hj2:j<ns.length:=by
   have:=(List.getElem?_eq_some_iff.1 hj).1;simpa using this
  have hv:v=.int .i64 (ns.getD j 0):=by
   simp [hj2] at hj;rw [← hj];simp [List.getD,hj2]
  subst hv;have hcj:=hc j hj2;have hb:=World.block_lt_of_cell? w _ hcj;simp only at hb;rw [O HMK];show World.cell? _ (Addr.add ⟨sb,so,none⟩ j)=_;rw [Go.WideShapes.add_plain];exact(World.cell?_of_block ((O HA).2.1.block sb hb)).trans hcj
 case k4=>rw [O HXL,O HCL]; omega
 case k5=>rw [O HMK]; exact(O HA).2.1
 intro w2 HG2 hB2;have hrow:=HG2.out;have hcell:∀ j,j<ns.length+2→∃ v,w2.cell? ⟨w.heap.size,j,none⟩=some v:=fun j hj=>by
  have hsz:(splice cur 0 xs).length=ns.length+2:=by rw [length_splice _ _ _ (by rw [O HXL,O HCL]; omega),O HCL]
  exact⟨_,(Zd hrow j).trans (List.getElem?_toArray.trans (List.getElem?_eq_getElem (by rw [hsz]; exact hj)))⟩
 obtain⟨v0,c0⟩:=hcell ns.length (by omega);obtain⟨v1,c1⟩:=hcell (ns.length+1) (by omega);have z0:=frozen_of_row _ _ ns.length _ _ hrow;have z1:=frozen_of_row _ _ (ns.length+1) _ _ hrow;have hr3:=heap_setCell_same _ _ (ns.length+1) _ _ (.int .i64 (-78)) (heap_setCell_same _ _ ns.length _ _ (.int .i64 (-77)) hrow);have e3:=Zno cur xs (.int .i64 (-77)) (.int .i64 (-78)) (by rw [O HCL,O HXL]);rw [O HXL] at e3;rw [e3] at hr3;have HR3:=Y hr3;have HB3:=Y hB2;have hw1:IntKind.i64.wrap ((ns.length:Int)+1)=((ns.length+1:Nat):Int):=by rw [IntKind.wrap_of_boundsK (by omega) (by omega)]; omega
 have hw2:IntKind.i64.wrap ((ns.length:Int)+2)=((ns.length+2:Nat):Int):=by rw [IntKind.wrap_of_boundsK (by omega) (by omega)]; omega
 clear hrow hcell HG2 hB2 hr3 e3 hmk;go_wp2;go_ret;have hb:=O HB3;refine⟨rfl,⟨?_,by omega⟩,⟨hb.os,hb.tape,hb.output,by have:=hb.size; simpa using this,fun q hq=>(heap_setCell_other _ _ _ _ (by show q≠w.heap.size; omega)).trans ((heap_setCell_other _ _ _ _ (by show q≠w.heap.size; omega)).trans (hb.block q hq))⟩⟩;unfold cpC;rw [← O HXS];exact O HR3
theorem Zck (ns:List Int)(va vb:Value)(w:World)(ha:Li w va ns)(hb:Li w vb ns):Calls Tryz.prog 34 #[va,vb] w fun x w'=>x=.returned (.bool true)∧Below w.heap.size w w':=by
 obtain⟨pa,ca,rfl,-,hn,hca⟩:=ha;obtain⟨pb,cb,rfl,-,-,hcb⟩:=hb;have hn':ns.length<9223372036854775808:=hn;have hne:((ns.length:Int) != (ns.length:Int))=false:=by simp
 have HA:=Y hca;have HB:=Y hcb;clear hca hcb hn;go_enter Tryz.func34,Tryz.ntmps34
 go_wp2;go_loopw [13] (fun j w'=>∃(k m:Nat),j=.int .i64 k∧k≤ns.length∧w'=w.drewN m) (fun j _=>ns.length-(intOf j).toNat)
 case atStart=>exact⟨0,0,rfl,by omega,rfl⟩
 case round =>
  obtain⟨k,m,rfl,hk,hw⟩:=hrel;subst hw;by_cases hlt:k<ns.length
  ·
   obtain⟨sa,oa,e1,hca⟩:=O HA (by omega);obtain⟨sb,ob,e2,hcb⟩:=O HB (by omega);subst e1 e2;have c1:=hca k hlt;have c2:=hcb k hlt;have hxx:(ns.getD k 0 != ns.getD k 0)=false:=by simp
   clear hca hcb;generalize ns.getD k 0=x at c1 c2 hxx;go_wp2;go_quiet (fail)
   go_wp2;go_roundw
   case rel=>exact⟨k+1,_,by go_num,by omega,rfl⟩
   case measure=>simp [intOf]; omega
  ·
   obtain rfl:k=ns.length:=by omega
   go_wp2;go_ret;exact⟨rfl,⟨rfl,rfl,rfl,Nat.le_refl _,fun _ _=>rfl⟩⟩
theorem Zrh (n:Int)(d:Nat)(W:World):(Op.equalIn (d+1) 3 (.int .i64 n) (.int .i64 n)).run Tryz.prog W=.ok true W:=by
 rw [run_equalIn_int W d 3 .i64 .i64 n n Tryz.underlying3]; simp
theorem Zri (t0 t1:Int)(d:Nat)(W:World):(Op.equalIn (d+1+1) 22 (.agg #[.int .i64 t0,.int .i64 t1]) (.agg #[.int .i64 t0,.int .i64 t1])).run Tryz.prog W=.ok true W:=by
 rw [Op.equalIn.eq_def];simp only [Sem.run_bind,run_underlying Tryz.underlying22,Result.andThen_ok];simp [Std.Legacy.Range.forIn_eq_forIn_range',List.range',part,Tryz.isAgg3,Tryz.sizeOf3,Zrh]
theorem Ztw (w:World)(X0 X1:Obj):((w.alloc X0).alloc X1).heap[w.heap.size]?=some X0∧((w.alloc X0).alloc X1).heap[w.heap.size+1]?=some X1∧((w.alloc X0).alloc X1).heap.size=w.heap.size+1+1∧Below w.heap.size w ((w.alloc X0).alloc X1):=by
 obtain⟨r0,b0,s0⟩:=Zs w X0;obtain⟨r1,b1,s1⟩:=Zs (w.alloc X0) X1;rw [s0] at r1;exact⟨(b1.block _ (by omega)).trans r0,r1,by omega,Zb b0 b1 (by omega)⟩
theorem Znp (T:Zm)(pa pr ps:Option Addr)(ca cr cs:Nat)(w:World)(h1:TbO w { T with pa:=pa,ca:=ca,pr:=pr,cr:=cr,ps:=ps,cs:=cs })(h2:TbO w T) :
 Calls Tryz.prog 11 #[.agg ({ T with pa:=pa,ca:=ca,pr:=pr,cr:=cr,ps:=ps,cs:=cs }:Zm).box,.agg T.box] w fun e w'=>e=.returned (.bool true)∧Below w.heap.size w w':=by
 obtain⟨r,sp,lk,t0,t1,pa2,ag,ca2,pr2,rs,cr2,ps2,ss,cs2,al,sh,br,pairs⟩:=T;have HA:=Y h1.a;have HR:=Y h1.r;have HS:=Y h1.s;have KA:=Y h2.a;have KR:=Y h2.r;have KS:=Y h2.s;have heq:∀ W,(Op.equalIn 10000 22 (.agg #[.int .i64 t0,.int .i64 t1]) (.agg #[.int .i64 t0,.int .i64 t1])).run Tryz.prog W=.ok true W:=fun W=>Zri t0 t1 9998 W;clear h1 h2;unfold Zm.box;simp only at HA HR HS KA KR KS ⊢;obtain⟨q0,q1,hZ,hB⟩:=Ztw w (.cells #[.int .i64 r,.int .i64 sp,.int .i64 lk,.int .i64 t0,.int .i64 t1,.slice pa ag.length ca,.slice pr rs.length cr,.slice ps ss.length cs,.int .i64 al,.int .i64 sh,.int .i64 br,.bool pairs] 25 (0,0)) (.cells #[.int .i64 r,.int .i64 sp,.int .i64 lk,.int .i64 t0,.int .i64 t1,.slice pa2 ag.length ca2,.slice pr2 rs.length cr2,.slice ps2 ss.length cs2,.int .i64 al,.int .i64 sh,.int .i64 br,.bool pairs] 25 (0,0));have HQ0:=Y q0;have HQ1:=Y q1;have HB:=Y hB;clear q0 q1 hB;go_enter Tryz.func11,Tryz.ntmps11
 go_wp2_with fail
 generalize World.alloc (World.alloc w _) _=W at HQ0 HQ1 HB hZ ⊢;refine(Zck ag _ _ W ((O HA).below (O HB)) ((O KA).below (O HB))).mono ?_;rintro e w1 ⟨rfl,hb1⟩;have hz1:=hb1.size;have HB1:=Y (Zb (O HB) hb1 (by omega));have P0:=Y ((hb1.block w.heap.size (by omega)).trans (O HQ0));have P1:=Y ((hb1.block (w.heap.size+1) (by omega)).trans (O HQ1));have c06:=(cR (O P0) 6);have c16:=(cR (O P1) 6);clear hb1 HQ0 HQ1;go_wp2_with fail
 refine(Zck rs _ _ w1 ((O HR).below (O HB1)) ((O KR).below (O HB1))).mono ?_;rintro e w2 ⟨rfl,hb2⟩;have hz2:=hb2.size;have HB2:=Y (Zb (O HB1) hb2 (by omega));have R0:=Y ((hb2.block w.heap.size (by omega)).trans (O P0));have R1:=Y ((hb2.block (w.heap.size+1) (by omega)).trans (O P1));clear hb2 P0 P1 c06 c16;have c07:=(cR (O R0) 7);have c17:=(cR (O R1) 7);go_wp2_with fail
 refine(Zck ss _ _ w2 ((O HS).below (O HB2)) ((O KS).below (O HB2))).mono ?_;rintro e w3 ⟨rfl,hb3⟩;have hz3:=hb3.size;have HB3:=Y (Zb (O HB2) hb3 (by omega));have S0:=(hb3.block w.heap.size (by omega)).trans (O R0);have S1:=(hb3.block (w.heap.size+1) (by omega)).trans (O R1);clear hb3 R0 R1 c07 c17;have c08:=(cR S0 8);have c09:=(cR S0 9);have c10:=(cR S0 10);have c11:=(cR S0 11);have d08:=(cR S1 8);have d09:=(cR S1 9);have d10:=(cR S1 10);have d11:=(cR S1 11);clear S0 S1;go_wp2;go_ret;exact⟨by simp,O HB3⟩
set_option maxHeartbeats 8000000
set_option maxRecDepth 100000
def Gm (T:Zm)(ga gr gs:Nat):Zm:={ T with pa:=some ⟨ga,0,none⟩,ca:=T.ag.length+2,pr:=some ⟨gr,0,none⟩,cr:=T.rs.length+2,ps:=some ⟨gs,0,none⟩,cs:=T.ss.length+2 }
structure CpT (w:World)(T:Zm)(ga gr gs:Nat):Prop where
 a:Cp w ga T.ag
 r:Cp w gr T.rs
 s:Cp w gs T.ss
structure Ziz (T:Zm):Prop where
 a:T.ag.length*8≤140737488351232
 r:T.rs.length*8≤140737488351232
 s:T.ss.length*8≤140737488351232
theorem Tryz.infTbM:(Tryz.prog.info? 25).map (·.size)=some 12:=by kernel_rfl
structure CtI (w:World)(T:Zm)(w':World):Prop where
 low:Below w.heap.size w w'
 box:w'.heap[w.heap.size]?=some (.cells T.box 25 (0,0))
 res:w'.heap[w.heap.size+1]?=some (.cells #[.int .i64 0,.int .i64 0,.int .i64 0,.int .i64 0,.int .i64 0,.slice none 0 0,.slice none 0 0,.slice none 0 0,.int .i64 0,.int .i64 0,.int .i64 0,.bool false] 25 (0,0))
 size:w.heap.size+2≤w'.heap.size
theorem CtI.next {w w' w2:World}{T:Zm}(h:CtI w T w')(hb:Below w'.heap.size w' w2):CtI w T w2:=by
 have hz:=h.size;have hz2:=hb.size;exact⟨Zb h.low hb (by omega),(hb.block _ (by omega)).trans h.box,(hb.block _ (by omega)).trans h.res,by omega⟩
theorem CtI.drew {w w':World}{T:Zm}(h:CtI w T w'):CtI w T w'.drew:=⟨h.low.drew,h.box,h.res,h.size⟩
theorem CtI.k5 {w w':World}{T:Zm}(h:CtI w T w'):w'.cell? ⟨w.heap.size,5,none⟩=some (.slice T.pa T.ag.length T.ca):=(cR h.box 5)
theorem CtI.k6 {w w':World}{T:Zm}(h:CtI w T w'):w'.cell? ⟨w.heap.size,6,none⟩=some (.slice T.pr T.rs.length T.cr):=(cR h.box 6)
theorem CtI.k7 {w w':World}{T:Zm}(h:CtI w T w'):w'.cell? ⟨w.heap.size,7,none⟩=some (.slice T.ps T.ss.length T.cs):=(cR h.box 7)
structure CtQ (w:World)(T:Zm)(ga gr gs:Nat)(w':World):Prop where
 low:Below w.heap.size w w'
 box:w'.heap[w.heap.size]?=some (.cells (Gm T ga gr gs).box 25 (0,0))
 res:w'.heap[w.heap.size+1]?=some (.cells #[.int .i64 0,.int .i64 0,.int .i64 0,.int .i64 0,.int .i64 0,.slice none 0 0,.slice none 0 0,.slice none 0 0,.int .i64 0,.int .i64 0,.int .i64 0,.bool false] 25 (0,0))
 cp:CpT w' T ga gr gs
 la:w.heap.size+2≤ga
 lr:w.heap.size+2≤gr
 ls:w.heap.size+2≤gs
theorem CtQ.of {w w':World}{T:Zm}{ga gr gs:Nat}(h:CtI w T w')(ha:Cp w' ga T.ag)(hr:Cp w' gr T.rs)(hs:Cp w' gs T.ss)(la:w.heap.size+2≤ga)(lr:w.heap.size+2≤gr)(ls:w.heap.size+2≤gs) :
 CtQ w T ga gr gs (((w'.setCell ⟨w.heap.size,5,none⟩ (.slice (some ⟨ga,0,none⟩) T.ag.length (T.ag.length+2))).setCell ⟨w.heap.size,6,none⟩ (.slice (some ⟨gr,0,none⟩) T.rs.length (T.rs.length+2))).setCell ⟨w.heap.size,7,none⟩ (.slice (some ⟨gs,0,none⟩) T.ss.length (T.ss.length+2))):=by
 have ho:∀ q,q≠w.heap.size→(((w'.setCell ⟨w.heap.size,5,none⟩ (.slice (some ⟨ga,0,none⟩) T.ag.length (T.ag.length+2))).setCell ⟨w.heap.size,6,none⟩ (.slice (some ⟨gr,0,none⟩) T.rs.length (T.rs.length+2))).setCell ⟨w.heap.size,7,none⟩ (.slice (some ⟨gs,0,none⟩) T.ss.length (T.ss.length+2))).heap[q]?=w'.heap[q]?:=fun q hq=>(heap_setCell_other _ _ _ _ hq).trans ((heap_setCell_other _ _ _ _ hq).trans (heap_setCell_other _ _ _ _ hq));refine⟨⟨h.low.os,h.low.tape,h.low.output,by have:=h.low.size; simpa using this,fun q hq=>(ho q (by omega)).trans (h.low.block q hq)⟩,heap_setCell_same _ _ 7 _ _ _ (heap_setCell_same _ _ 6 _ _ _ (heap_setCell_same _ _ 5 _ _ _ h.box)),(ho _ (by omega)).trans h.res,⟨ha.keep (ho _ (by omega)),hr.keep (ho _ (by omega)),hs.keep (ho _ (by omega))⟩,la,lr,ls⟩
theorem Cp.below {w w':World}{g:Nat}{ns:List Int}(h:Cp w g ns)(hb:Below w.heap.size w w'):Cp w' g ns:=h.keep (hb.block g (Zc h.row))
section
variable {P:Program} {ops:Array Oper} {Q:Exit→Act→World→Prop} {md:Region.Mode} {C:World→Prop} {d:Nat}
def Ye (P:Program)(md:Region.Mode)(ops:Array Oper)(Q:Exit→Act→World→Prop)(C:World→Prop)(d:Nat):Nat→Array Bool→Act→World→Prop
 | 0,L,a,w=>Region.ready md ops L=[]∧Q .normal a w
 | n+1,L,a,w=>(Region.ready md ops L=[]→Q .normal a w)∧∀ i ∈ Region.ready md ops L,wpOp P ops Q i (fun a' w'=>((L.setIfInBounds i true).getD d true=false→C w')∧Ye P md ops Q C d n (L.setIfInBounds i true) a' w') a w
theorem Zej:∀(n:Nat) (L:Array Bool)(a:Act)(w:World),Ye P md ops Q C d n L a w→wpAny P md ops Q n L a w
 | 0,_,_,_,h=>h
 | n+1,_,_,_,h=>⟨h.1,fun i hi=>wpOp_mono (fun a' w' h'=>Zej n _ a' w' h'.2) (h.2 i hi)⟩
theorem Zhp {i:Nat}{oi od:Oper}{v:Value}(hi:ops[i]?=some oi)(hd:ops[d]?=some od)(hwait:∃ e ∈ od.after,Region.binds md e=true∧e.on=i)
 (hsel:∀(j:Nat) (o:Oper) cs b,ops[j]?=some o→o.op≠.select cs b) (hQ:∀ c a w,Q (.panic c) (a.put oi.dst v) w→Q (.panic c) a w) :
 ∀(n:Nat) (L:Array Bool) (a:Act) (w:World),(∀ j oj,ops[j]?=some oj→j≠i→L.getD j true=false→(∀ e ∈ oj.after,Region.binds md e=true→e.on≠i)→oi.apart ops oj=true) →
  i ∈ Region.ready md ops L→YieldsIf P ops C oi v a→L.getD d true=false→C w→Ye P md ops Q C d n (L.setIfInBounds i true) (a.put oi.dst v) w→Ye P md ops Q C d (n+1) L a w:=by
 intro n;induction n with
 | zero =>
  intro L a w _ hr hy _ hC H;refine⟨fun h=>(by rw [h] at hr; cases hr),fun j hj=>?_⟩;by_cases hji:j=i
  ·
   subst hji;exact hy.wpOp hi hC ⟨fun _=>hC,H⟩
  ·
   have hx:=ready_mono hj hji;rw [H.1] at hx;cases hx
 | succ n ih =>
  intro L a w hfree hr hy hLd hC H;refine⟨fun h=>(by rw [h] at hr; cases hr),fun j hj=>?_⟩;by_cases hji:j=i
  ·
   subst hji;exact hy.wpOp hi hC ⟨fun _=>hC,H⟩
  ·
   have h1:=H.2 j (ready_mono hj hji);obtain⟨hun,oj,hoj,hall⟩:=mem_ready.1 hj;have hiu:=(mem_ready.1 hr).1;have hnot:∀ e ∈ oj.after,Region.binds md e=true→e.on≠i:=fun e he hb hq=>by
    have k1:=hall e he hb;rw [hq] at k1;rcases Nat.lt_or_ge i L.size with h' | h'
    ·
     simp [h'] at hiu k1;rw [hiu] at k1;cases k1
    ·
     simp [Array.getElem?_eq_none h'] at k1
   have hjd:j≠d:=fun e=>by
    subst e;rw [hoj] at hd;injection hd with hd;subst hd;obtain⟨e,he,hb,hq⟩:=hwait;exact hnot e he hb hq
   have h2:=wpOp_putIf hoj (hfree j oj hoj hji hun hnot) (fun cs b=>hsel i oi cs b hi) (fun cs b=>hsel j oj cs b hoj) hQ hy h1;refine wpOp_mono (fun a' w' h3=>?_) h2;have hLj:(L.setIfInBounds j true).getD d true=false:=by rw [getD_set_ne true hjd]; exact hLd
   have hid:i≠d:=fun e=>by
    subst e;rw [hi] at hd;injection hd with hd;subst hd;obtain⟨e,he,hb,hq⟩:=hwait;obtain⟨-,oi',hoi',hall'⟩:=mem_ready.1 hr;rw [hi] at hoi';injection hoi' with hoi';subst hoi';have k1:=hall' e he hb;rw [hq] at k1;rcases Nat.lt_or_ge i L.size with h' | h'
    ·
     simp [h'] at hiu k1;rw [hiu] at k1;cases k1
    ·
     simp [Array.getElem?_eq_none h'] at k1
   have hC':C w':=h3.2.1 (by rw [getD_set_ne true hjd,getD_set_ne true hid]; exact hLd);refine⟨fun _=>hC',ih (L.setIfInBounds j true) a' w' (fun k ok hk hki hku hno=>?_) (ready_mono hr (Ne.symm hji)) h3.1 hLj hC' ?_⟩
   ·
    refine hfree k ok hk hki ?_ hno;by_cases hjk:j=k
    ·
     subst hjk; exact hun
    ·
     rw [getD_set_ne true hjk] at hku; exact hku
   ·
    rw [Array.setIfInBounds_comm _ _ hji];exact h3.2.2
theorem Lm {i:Nat}{oi od:Oper}{v:Value}{n:Nat}{L:Array Bool}{a:Act}{w:World}(hi:ops[i]?=some oi)(hd:ops[d]?=some od)(hw:(od.after.any fun e=>Region.binds md e&&e.on==i)=true)
 (hs:Region.noSelect ops=true) (hf:Region.free md ops L i=true) (hr:(Region.ready md ops L).contains i=true) (hLd:L.getD d true=false)
 (hQ:∀ c a w,Q (.panic c) (a.put oi.dst v) w→Q (.panic c) a w) (hy:YieldsIf P ops C oi v a) (hC:C w)
 (h:Ye P md ops Q C d n (L.setIfInBounds i true) (a.put oi.dst v) w):Ye P md ops Q C d (n+1) L a w :=
 Zhp hi hd (by
  obtain⟨k,hk,hq⟩:=Array.any_eq_true.1 hw;simp only [Bool.and_eq_true,beq_iff_eq] at hq;exact⟨_,Array.getElem_mem hk,hq.1,hq.2⟩) (Region.noSelect_spec hs) hQ n L a w (Region.free_spec hi hf) (by simpa using hr) hy hLd hC h
theorem Gw {i:Nat}{o:Oper}{n:Nat}{L:Array Bool}{a:Act}{w:World}(hr:Region.ready md ops L=[i])(ho:ops[i]?=some o)
 (h:∀ K':Act→World→Prop,_root_.Go.Shut (∀ a w,((L.setIfInBounds i true).getD d true=false→C w)→Ye P md ops Q C d n (L.setIfInBounds i true) a w→K' a w)→if Region.wanted o (yielded ops a.tmps)=true then Oper.wp P o a w K' Q else K' (a.put o.dst undef) w):Ye P md ops Q C d (n+1) L a w:=by
 refine⟨fun h0=>(by rw [hr] at h0; cases h0),fun j hj=>?_⟩;rw [hr] at hj;obtain rfl:j=i:=by simpa using hj
 exact wpOp_step ho (fun K' hK=>h K' (fun a w h1 h2=>hK a w ⟨h1,h2⟩))
theorem Zi {L:Array Bool}{a:Act}{w:World}(hr:Region.ready md ops L=[])(h:Q .normal a w):∀ n,Ye P md ops Q C d n L a w
 | 0=>⟨hr,h⟩
 | _+1=>⟨fun _=>h,by rw [hr]; simp⟩
theorem Zh {id:Nat}{a:Act}{w:World}(hm:P.follows .mixedOrders=true)(h:Ye P .any ops Q C d ops.size (Array.replicate ops.size false) a w.drew):(Code.region id ops true).wp P Q a w :=
 wp_region_any hm (Zej _ _ _ _ h)
end
theorem Zek (T:Zm)(w:World)(hT:TbO w T)(hl:Ziz T) :
 Calls Tryz.prog 4 #[.agg T.box] w fun e w'=>∃ ga gr gs,e=.returned (.agg (Gm T ga gr gs).box)∧CpT w' T ga gr gs∧w.heap.size≤ga∧w.heap.size≤gr∧w.heap.size≤gs∧Below w.heap.size w w':=by
 obtain⟨r0,r1,hZ,hB⟩:=Ztw w (.cells T.box 25 (0,0)) (.cells #[.int .i64 0,.int .i64 0,.int .i64 0,.int .i64 0,.int .i64 0,.slice none 0 0,.slice none 0 0,.slice none 0 0,.int .i64 0,.int .i64 0,.int .i64 0,.bool false] 25 (0,0));have hI0:CtI w T _:=⟨hB,r0,r1,by omega⟩;have HI0:=Y hI0;have HFA:=Y (fun V (hV:CtI w T V)=>Mr T.ag T.pa T.ca V (hT.a.below hV.low) hl.a);have HFR:=Y (fun V (hV:CtI w T V)=>Mr T.rs T.pr T.cr V (hT.r.below hV.low) hl.r);have HFS:=Y (fun V (hV:CtI w T V)=>Mr T.ss T.ps T.cs V (hT.s.below hV.low) hl.s);clear r0 r1 hB hT hl hI0;have HBX:=Y (show T.box=#[.int .i64 T.r,.int .i64 T.sp,.int .i64 T.lk,.int .i64 T.t0,.int .i64 T.t1,.slice T.pa T.ag.length T.ca,.slice T.pr T.rs.length T.cr,.slice T.ps T.ss.length T.cs,.int .i64 T.al,.int .i64 T.sh,.int .i64 T.br,.bool T.pairs] from rfl);rw [O HBX] at HI0 ⊢;go_enter Tryz.func4,Tryz.ntmps4
 go_wp2_with fail
 generalize World.alloc (World.alloc w _) _=W at HI0 ⊢;have hs0:=(O HI0).drew.size;have HC0:=Y (show W.drew.cell? ⟨w.heap.size,5,none⟩=some (.slice T.pa T.ag.length T.ca)∧W.drew.cell? ⟨w.heap.size,6,none⟩=some (.slice T.pr T.rs.length T.cr)∧W.drew.cell? ⟨w.heap.size,7,none⟩=some (.slice T.ps T.ss.length T.cs) from⟨(O HI0).drew.k5,(O HI0).drew.k6,(O HI0).drew.k7⟩);refine Zh (C:=fun V=>V.cell? ⟨w.heap.size,5,none⟩=some (.slice T.pa T.ag.length T.ca)∧V.cell? ⟨w.heap.size,6,none⟩=some (.slice T.pr T.rs.length T.cr)∧V.cell? ⟨w.heap.size,7,none⟩=some (.slice T.ps T.ss.length T.cs)) (d:=10) (by kernel_rfl) ?_;refine Lm (i:=0) (v:=?v0) rfl rfl (by kernel_rfl) (by kernel_rfl) (by kernel_rfl) (by kernel_rfl) (by kernel_rfl) (fun _ _ _ h=>h) (Or.inl ⟨by rfl,?hy0⟩) (O HC0) ?_;case hy0 =>
  intro V hV;obtain⟨e5,e6,e7⟩:=hV;go_simp;all_goals (with_reducible rfl)
 simp only [Act.put,zA,zB,zC,zD,zE];refine Lm (i:=1) (v:=?v1) rfl rfl (by kernel_rfl) (by kernel_rfl) (by kernel_rfl) (by kernel_rfl) (by kernel_rfl) (fun _ _ _ h=>h) (Or.inl ⟨by rfl,?hy1⟩) (O HC0) ?_;case hy1 =>
  intro V hV;obtain⟨e5,e6,e7⟩:=hV;go_simp;all_goals (with_reducible rfl)
 simp only [Act.put,zA,zB,zC,zD,zE,zF];refine Lm (i:=3) (v:=?v3) rfl rfl (by kernel_rfl) (by kernel_rfl) (by kernel_rfl) (by kernel_rfl) (by kernel_rfl) (fun _ _ _ h=>h) (Or.inl ⟨by rfl,?hy3⟩) (O HC0) ?_;case hy3 =>
  intro V hV;obtain⟨e5,e6,e7⟩:=hV;go_simp;all_goals (with_reducible rfl)
 simp only [Act.put,zA,zB,zC,zD,zE,zF];refine Lm (i:=4) (v:=?v4) rfl rfl (by kernel_rfl) (by kernel_rfl) (by kernel_rfl) (by kernel_rfl) (by kernel_rfl) (fun _ _ _ h=>h) (Or.inl ⟨by rfl,?hy4⟩) (O HC0) ?_;case hy4 =>
  intro V hV;obtain⟨e5,e6,e7⟩:=hV;go_simp;all_goals (with_reducible rfl)
 simp only [Act.put,zA,zB,zC,zD,zE,zF];refine Lm (i:=6) (v:=?v6) rfl rfl (by kernel_rfl) (by kernel_rfl) (by kernel_rfl) (by kernel_rfl) (by kernel_rfl) (fun _ _ _ h=>h) (Or.inl ⟨by rfl,?hy6⟩) (O HC0) ?_;case hy6 =>
  intro V hV;obtain⟨e5,e6,e7⟩:=hV;go_simp;all_goals (with_reducible rfl)
 simp only [Act.put,zA,zB,zC,zD,zE,zF];refine Lm (i:=7) (v:=?v7) rfl rfl (by kernel_rfl) (by kernel_rfl) (by kernel_rfl) (by kernel_rfl) (by kernel_rfl) (fun _ _ _ h=>h) (Or.inl ⟨by rfl,?hy7⟩) (O HC0) ?_;case hy7 =>
  intro V hV;obtain⟨e5,e6,e7⟩:=hV;go_simp;all_goals (with_reducible rfl)
 simp only [Act.put,zA,zB,zC,zD,zE,zF];refine Gw (i:=2) (by kernel_rfl) rfl (fun K hK=>?_);go_simp;refine(O HFA _ (O HI0).drew).mono ?_;rintro e w1 ⟨he,hcp,hb⟩;unfold cpV at he;subst he;have hi1:=CtI.next (O HI0).drew hb;have hs1:=hi1.size;have HI1:=Y hi1;have HC1:=Y hcp;clear hcp hb hi1;refine kO hK (fun _=>⟨(O HI1).k5,(O HI1).k6,(O HI1).k7⟩) ?_;clear hK K;refine Lm (i:=9) (v:=?v9) rfl rfl (by kernel_rfl) (by kernel_rfl) (by kernel_rfl) (by kernel_rfl) (by kernel_rfl) (fun _ _ _ h=>h) (Or.inl ⟨by rfl,?hy9⟩) ⟨(O HI1).k5,(O HI1).k6,(O HI1).k7⟩ ?_;case hy9 =>
  intro V hV;obtain⟨e5,e6,e7⟩:=hV;go_simp;all_goals (with_reducible rfl)
 simp only [Act.put,zA,zB,zC,zD,zE,zF];refine Gw (i:=5) (by kernel_rfl) rfl (fun K hK=>?_);go_simp;refine(O HFR _ (O HI1)).mono ?_;rintro e w2 ⟨he,hcp,hb⟩;unfold cpV at he;subst he;have hi2:=CtI.next (O HI1) hb;have hs2:=hi2.size;have HI2:=Y hi2;have HC2:=Y hcp;have HC12:=Y ((O HC1).below hb);clear hcp hb hi2;refine kO hK (fun _=>⟨(O HI2).k5,(O HI2).k6,(O HI2).k7⟩) ?_;clear hK K;refine Gw (i:=8) (by kernel_rfl) rfl (fun K hK=>?_);go_simp;refine(O HFS _ (O HI2)).mono ?_;rintro e w3 ⟨he,hcp,hb⟩;unfold cpV at he;subst he;have hi3:=CtI.next (O HI2) hb;have k35:=hi3.k5;have k36:=hi3.k6;have k37:=hi3.k7;have z5:=frozen_of_row _ _ 5 _ _ hi3.box;have z6:=frozen_of_row _ _ 6 _ _ hi3.box;have z7:=frozen_of_row _ _ 7 _ _ hi3.box;have HQ:=Y (CtQ.of (ga:=W.heap.size) hi3 ((O HC12).below hb) ((O HC2).below hb) hcp hs0 hs1 hs2);have HI3:=Y hi3;clear hcp hb hi3;refine kO hK (fun _=>⟨(O HI3).k5,(O HI3).k6,(O HI3).k7⟩) ?_;clear hK K;refine Gw (i:=10) (by kernel_rfl) rfl (fun K hK=>?_);go_simp;refine kO hK (fun h=>absurd h (by simp)) ?_;clear hK K;refine Gw (i:=11) (by kernel_rfl) rfl (fun K hK=>?_);go_simp;refine kO hK (fun h=>absurd h (by simp)) ?_;clear hK K;refine Gw (i:=12) (by kernel_rfl) rfl (fun K hK=>?_);go_simp;refine kO hK (fun h=>absurd h (by simp)) ?_;clear hK K;refine Gw (i:=13) (by kernel_rfl) rfl (fun K hK=>?_);go_simp;refine kO hK (fun h=>absurd h (by simp)) ?_;clear hK K;refine Gw (i:=14) (by kernel_rfl) rfl (fun K hK=>?_)
 go_simp;refine kO hK (fun h=>absurd h (by simp)) ?_;clear hK K;refine Zi (by kernel_rfl) ?_ _;clear k35 k36 k37 z5 z6 z7 HC1 HC2 HC12 HI1 HI2 HI3 HFA HFR HFS HC0;generalize World.setCell (World.setCell (World.setCell w3 _ _) _ _) _ _=Z at HQ ⊢;generalize W.heap.size=ga at HQ ⊢;generalize w1.heap.size=gr at HQ ⊢;generalize w2.heap.size=gs at HQ ⊢;have hQ:=O HQ;have hbx:=hQ.box;have HRES:=Y hQ.res;have e0:=cR hbx 0;have e1:=cR hbx 1;have e2:=cR hbx 2;have e3:=cR hbx 3;have e4:=cR hbx 4;have e5:=cR hbx 5;have e6:=cR hbx 6;have e7:=cR hbx 7;have e8:=cR hbx 8;have e9:=cR hbx 9;have e10:=cR hbx 10;have e11:=cR hbx 11;clear hbx hQ;go_wp2_with (refine wpList_store_row rfl 25 _ _ rfl (w.heap.size+1) (Gm T ga gr gs).box rfl rfl 25 _ (O HRES) (Tryz.infTbM.trans rfl) rfl (by simp [Value.oneCell',Zm.box,Gm]) ?_)
 refine bodyPost_ret (Xu (fn:=Tryz.f4) (q:=2) (uy:=25) rfl _ _ (w.heap.size+1) 25 (Gm T ga gr gs).box (0,0) _ rfl (setRow_heap _ _ _ _ _ _ (O HRES)) Tryz.underlying25 rfl (Tryz.infTbM.trans rfl)) rfl ?_;have hQ:=O HQ;have ho:∀ q,q≠w.heap.size+1→(Z.setRow (w.heap.size+1) (Gm T ga gr gs).box).heap[q]?=Z.heap[q]?:=fun q hq=>setRow_other _ _ _ _ hq;exact⟨ga,gr,gs,rfl,⟨hQ.cp.a.keep (ho _ (by have:=hQ.la; omega)),hQ.cp.r.keep (ho _ (by have:=hQ.lr; omega)),hQ.cp.s.keep (ho _ (by have:=hQ.ls; omega))⟩,by have:=hQ.la; omega,by have:=hQ.lr; omega,by have:=hQ.ls; omega,Zp hQ.low (by omega)⟩
end Go.Proofs.YtnlcfnjeagmemaaGreatDoor
