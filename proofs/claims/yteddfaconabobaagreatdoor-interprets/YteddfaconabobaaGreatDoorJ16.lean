import Derived.Test.YteddfaconabobaaGreatDoorFrC
import Derived.Test.YteddfaconabobaaGreatDoorJ3
import Derived.Test.YteddfaconabobaaGreatDoorPk
import Derived.Test.YteddfaconabobaaGreatDoorJ14
import Derived.Laws.CopyOwn
import Derived.Laws.MakeOwn
import Derived.Deep.QuietTactic
import Derived.BigQuiet
import Derived.Deep.CutRange
import Derived.Deep.RegionLaw
import Derived.Below
import Derived.WalkSmall
import Derived.Deep.RegionHeld3
namespace Go.Proofs.YteddfaconabobaaGreatDoor
open Go.RowKit
theorem Zon {w:World}{B e size n:Nat}{v:Value}{xs:List Value}(h:w.ownsRow B e size v n xs):∃ p c,v=.slice p n c:=by
 rcases h.2 with⟨e,e0⟩ | ⟨g,cap,cur,e,-⟩
 ·
  exact⟨none,0,by rw [e0]; exact e⟩
 ·
  exact⟨_,_,e⟩
def cpC (ns:List Int):List Value:=ns.map (fun x=>Value.int .i64 x)++[.int .i64 (-77),.int .i64 (-78)]
def cpV (g:Nat)(ns:List Int):Value:=.slice (some ⟨g,0,none⟩) ns.length (ns.length+2)
structure Cp (w:World)(g:Nat)(ns:List Int):Prop where
 row:w.heap[g]?=some (.cells (cpC ns).toArray 3 (0,0))
 lim:ns.length+2<9223372036854775808
theorem Zkn (ns:List Int)(i:Nat)(h:i<ns.length):(cpC ns).toArray[i]?=some (.int .i64 (ns.getD i 0)):=by
 simp [cpC,List.getElem?_append_left,h,List.getD]
theorem Cp.li {w:World}{g:Nat}{ns:List Int}(h:Cp w g ns):Li w (.slice (some ⟨g,0,none⟩) ns.length (ns.length+2)) ns :=
 ⟨_,_,rfl,by omega,by have:=h.lim; show ns.length<9223372036854775808; omega,fun _=>⟨g,0,rfl,fun i hi=>by rw [Nat.zero_add]; exact(Zi h.row i).trans (Zkn ns i hi)⟩⟩
theorem Cp.keep {w w':World}{g:Nat}{ns:List Int}(h:Cp w g ns)(e:w'.heap[g]?=w.heap[g]?):Cp w' g ns:=⟨e.trans h.row,h.lim⟩
theorem Zhz (cur:List Value)(xs:List Value)(a b:Value)(hl:cur.length=xs.length+2):(((splice cur 0 xs).toArray.setIfInBounds xs.length a).setIfInBounds (xs.length+1) b)=(xs++[a,b]).toArray:=by
 have e:splice cur 0 xs=xs++cur.drop xs.length:=by simp [splice]
 obtain⟨c0,c1,hc⟩:∃ c0 c1,cur.drop xs.length=[c0,c1]:=by
  have hd:(cur.drop xs.length).length=2:=by simp; omega
  match hq:cur.drop xs.length,hd with
  | [c0,c1],_=>exact⟨c0,c1,rfl⟩
 rw [e,hc];simp
theorem Tryz.infoIntJ:(Tryz.prog.info? 3).map (·.size)=some 1:=by kernel_rfl
theorem Tryz.infoIntK:(Tryz.prog.info? 3).map (fun i=>(i.zero,i.size,i.bytes))=some (some (.int .i64 0),1,8):=by kernel_rfl
theorem Zpv (n:Nat)(hn:n*8≤140737488351232)(w:World):(Instr.makeSlice 23 (.int .i64 (n:Int)) (.int .i64 ((n:Int)+2))).run Tryz.prog w=.ok (.slice (some ⟨w.heap.size,0,none⟩) n (n+2)) (w.alloc (.cells (madeCells #[.int .i64 0] (n+2)) 3)):=by
 obtain⟨ti,hti,hz0,hz1,hz2⟩:=Xs Tryz.infoIntK;have h:=run_make (P:=Tryz.prog) w 23 3 ti _ Tryz.underlying23 hti hz0 .i64 .i64 (n:Int) ((n:Int)+2) (by omega) (by omega) (by rw [hz2]; omega) (by omega);rw [hz1,Int.toNat_natCast,show((n:Int)+2).toNat=n+2 by omega,Nat.mul_one] at h;exact h
set_option maxHeartbeats 4000000 in
set_option maxRecDepth 100000 in
theorem Lc (ns:List Int)(p:Option Addr)(c:Nat)(w:World)(h:Li w (.slice p ns.length c) ns)(hl:ns.length*8≤140737488351232) :
 Calls Tryz.prog 16 #[.slice p ns.length c] w fun e w'=>e=.returned (cpV w.heap.size ns)∧Cp w' w.heap.size ns∧Below w.heap.size w w':=by
 have hmk:=fun V=>Zpv ns.length hl V;have ha:=Yj w (.cells (madeCells #[.int .i64 0] (ns.length+2)) 3 (0,0));obtain⟨cur,hcur,hcl⟩:∃ cur:List Value,madeCells #[.int .i64 0] (ns.length+2)=cur.toArray∧cur.length=ns.length+2:=⟨(madeCells #[.int .i64 0] (ns.length+2)).toList,by simp,by rw [Array.length_toList,size_madeCells]⟩;rw [hcur] at ha;have HMK:=J hcur;obtain⟨xs,hxs⟩:∃ xs:List Value,xs=ns.map (fun x=>Value.int .i64 x):=⟨_,rfl⟩;have hxl:xs.length=ns.length:=by rw [hxs]; simp
 have hx1:∀ v ∈ xs,v.oneCell'=true:=fun v hv=>by rw [hxs] at hv; obtain⟨x,-,rfl⟩:=List.mem_map.1 hv; rfl
 have HX1:=J hx1;have HXS:=J hxs;have HA:=J ha;have HLI:=J h;have HCL:=J hcl;have HXL:=J hxl;have hlt:ns.length<9223372036854775806:=by omega
 have hmin:Nat.min ns.length ns.length=ns.length:=Nat.min_self _;clear ha h hcur hx1 hxs hcl hxl;go_enter Tryz.func16,Tryz.ntmps16
 go_wp2_with (refine wpList_copy_splice rfl _ _ 23 23 rfl 3 Tryz.underlying23 (Tryz.infoIntJ.trans rfl) _ _ _ _ _ _ rfl rfl w.heap.size 0 cur 3 ?k1 xs ?k2 ?k3 ?k4 (G HX1) w.heap.size w ?k5 (Nat.le_refl _) ?_)
 case k1=>rw [G HMK]; exact(G HA).1
 case k2=>rw [G HXL,hmin]
 case k3 =>
  intro h0;rw [G HXL] at h0;obtain⟨p',c',e,h2,h3,h4⟩:=G HLI;injection e with e1 e2 e3;obtain⟨sb,so,e4,hc⟩:=h4 h0;refine⟨⟨sb,so,none⟩,by rw [e1,e4],fun j v hj=>?_⟩;rw [G HXS] at hj;have hj2:j<ns.length:=by
   have:=(List.getElem?_eq_some_iff.1 hj).1;simpa using this
  have hv:v=.int .i64 (ns.getD j 0):=by
   simp [hj2] at hj;rw [← hj];simp [List.getD,hj2]
  subst hv;have hcj:=hc j hj2;have hb:=World.block_lt_of_cell? w _ hcj;simp only at hb;rw [G HMK];show World.cell? _ (Addr.add ⟨sb,so,none⟩ j)=_;rw [Go.WideShapes.add_plain];exact(World.cell?_of_block ((G HA).2.1.block sb hb)).trans hcj
 case k4=>rw [G HXL,G HCL]; omega
 case k5=>rw [G HMK]; exact(G HA).2.1
 intro w2 HG2 hB2;have hrow:=HG2.out;have hcell:∀ j,j<ns.length+2→∃ v,w2.cell? ⟨w.heap.size,j,none⟩=some v:=fun j hj=>by
  have hsz:(splice cur 0 xs).length=ns.length+2:=by rw [length_splice _ _ _ (by rw [G HXL,G HCL]; omega),G HCL]
  exact⟨_,(Zi hrow j).trans (List.getElem?_toArray.trans (List.getElem?_eq_getElem (by rw [hsz]; exact hj)))⟩
 obtain⟨v0,c0⟩:=hcell ns.length (by omega);obtain⟨v1,c1⟩:=hcell (ns.length+1) (by omega);have z0:=frozen_of_row _ _ ns.length _ _ hrow;have z1:=frozen_of_row _ _ (ns.length+1) _ _ hrow;have hr3:=heap_setCell_same _ _ (ns.length+1) _ _ (.int .i64 (-78)) (heap_setCell_same _ _ ns.length _ _ (.int .i64 (-77)) hrow);have e3:=Zhz cur xs (.int .i64 (-77)) (.int .i64 (-78)) (by rw [G HCL,G HXL]);rw [G HXL] at e3;rw [e3] at hr3;have HR3:=J hr3;have HB3:=J hB2;have hw1:IntKind.i64.wrap ((ns.length:Int)+1)=((ns.length+1:Nat):Int):=by rw [IntKind.wrap_of_boundsK (by omega) (by omega)]; omega
 have hw2:IntKind.i64.wrap ((ns.length:Int)+2)=((ns.length+2:Nat):Int):=by rw [IntKind.wrap_of_boundsK (by omega) (by omega)]; omega
 clear hrow hcell HG2 hB2 hr3 e3 hmk;go_wp2;go_ret;have hb:=G HB3;refine⟨rfl,⟨?_,by omega⟩,⟨hb.os,hb.tape,hb.output,by have:=hb.size; simpa using this,fun q hq=>(heap_setCell_other _ _ _ _ (by show q≠w.heap.size; omega)).trans ((heap_setCell_other _ _ _ _ (by show q≠w.heap.size; omega)).trans (hb.block q hq))⟩⟩;unfold cpC;rw [← G HXS];exact G HR3
set_option maxHeartbeats 2000000 in
set_option maxRecDepth 100000 in
theorem Zdq (ns:List Int)(va vb:Value)(w:World)(ha:Li w va ns)(hb:Li w vb ns):Calls Tryz.prog 26 #[va,vb] w fun x w'=>x=.returned (.bool true)∧Below w.heap.size w w':=by
 obtain⟨pa,ca,rfl,-,hn,hca⟩:=ha;obtain⟨pb,cb,rfl,-,-,hcb⟩:=hb;have hn':ns.length<9223372036854775808:=hn;have hne:((ns.length:Int) != (ns.length:Int))=false:=by simp
 have HA:=J hca;have HB:=J hcb;clear hca hcb hn;go_enter Tryz.func26,Tryz.ntmps26
 go_wp2;go_loopw [13] (fun j w'=>∃(k m:Nat),j=.int .i64 k∧k≤ns.length∧w'=w.drewN m) (fun j _=>ns.length-(intOf j).toNat)
 case atStart=>exact⟨0,0,rfl,by omega,rfl⟩
 case round =>
  obtain⟨k,m,rfl,hk,hw⟩:=hrel;subst hw;by_cases hlt:k<ns.length
  ·
   obtain⟨sa,oa,e1,hca⟩:=G HA (by omega);obtain⟨sb,ob,e2,hcb⟩:=G HB (by omega);subst e1 e2;have c1:=hca k hlt;have c2:=hcb k hlt;have hxx:(ns.getD k 0 != ns.getD k 0)=false:=by simp
   clear hca hcb;generalize ns.getD k 0=x at c1 c2 hxx;go_wp2;go_quiet (fail)
   go_wp2;go_roundw
   case rel=>exact⟨k+1,_,by go_num,by omega,rfl⟩
   case measure=>simp [intOf]; omega
  ·
   obtain rfl:k=ns.length:=by omega
   go_wp2;go_ret;exact⟨rfl,⟨rfl,rfl,rfl,Nat.le_refl _,fun _ _=>rfl⟩⟩
theorem Zko (n:Int)(d:Nat)(W:World):(Op.equalIn (d+1) 3 (.int .i64 n) (.int .i64 n)).run Tryz.prog W=.ok true W:=by
 rw [run_equalIn_int W d 3 .i64 .i64 n n Tryz.underlying3]; simp
theorem Zkp (t0 t1:Int)(d:Nat)(W:World):(Op.equalIn (d+1+1) 22 (.agg #[.int .i64 t0,.int .i64 t1]) (.agg #[.int .i64 t0,.int .i64 t1])).run Tryz.prog W=.ok true W:=by
 rw [Op.equalIn.eq_def];simp only [Sem.run_bind,run_underlying Tryz.underlying22,Result.andThen_ok];simp [Std.Legacy.Range.forIn_eq_forIn_range',List.range',part,Tryz.isAgg3,Tryz.sizeOf3,Zko]
theorem Kl (w:World)(X0 X1:Obj):((w.alloc X0).alloc X1).heap[w.heap.size]?=some X0∧((w.alloc X0).alloc X1).heap[w.heap.size+1]?=some X1∧((w.alloc X0).alloc X1).heap.size=w.heap.size+1+1∧Below w.heap.size w ((w.alloc X0).alloc X1):=by
 obtain⟨r0,b0,s0⟩:=Yj w X0;obtain⟨r1,b1,s1⟩:=Yj (w.alloc X0) X1;rw [s0] at r1;exact⟨(b1.block _ (by omega)).trans r0,r1,by omega,Za b0 b1 (by omega)⟩
set_option maxHeartbeats 4000000 in
set_option maxRecDepth 100000 in
theorem Zia (T:Lr)(pa pr ps:Option Addr)(ca cr cs:Nat)(w:World)(h1:TbO w { T with pa:=pa,ca:=ca,pr:=pr,cr:=cr,ps:=ps,cs:=cs })(h2:TbO w T) :
 Calls Tryz.prog 11 #[.agg ({ T with pa:=pa,ca:=ca,pr:=pr,cr:=cr,ps:=ps,cs:=cs }:Lr).box,.agg T.box] w fun e w'=>e=.returned (.bool true)∧Below w.heap.size w w':=by
 obtain⟨r,sp,lk,t0,t1,pa2,ag,ca2,pr2,rs,cr2,ps2,ss,cs2,al,sh,br,pairs⟩:=T;have HA:=J h1.a;have HR:=J h1.r;have HS:=J h1.s;have KA:=J h2.a;have KR:=J h2.r;have KS:=J h2.s;have heq:∀ W,(Op.equalIn 10000 22 (.agg #[.int .i64 t0,.int .i64 t1]) (.agg #[.int .i64 t0,.int .i64 t1])).run Tryz.prog W=.ok true W:=fun W=>Zkp t0 t1 9998 W;clear h1 h2;unfold Lr.box;simp only at HA HR HS KA KR KS ⊢;obtain⟨q0,q1,hZ,hB⟩:=Kl w (.cells #[.int .i64 r,.int .i64 sp,.int .i64 lk,.int .i64 t0,.int .i64 t1,.slice pa ag.length ca,.slice pr rs.length cr,.slice ps ss.length cs,.int .i64 al,.int .i64 sh,.int .i64 br,.bool pairs] 25 (0,0)) (.cells #[.int .i64 r,.int .i64 sp,.int .i64 lk,.int .i64 t0,.int .i64 t1,.slice pa2 ag.length ca2,.slice pr2 rs.length cr2,.slice ps2 ss.length cs2,.int .i64 al,.int .i64 sh,.int .i64 br,.bool pairs] 25 (0,0));have HQ0:=J q0;have HQ1:=J q1;have HB:=J hB;clear q0 q1 hB;go_enter Tryz.func11,Tryz.ntmps11
 go_wp2_with fail
 generalize World.alloc (World.alloc w _) _=W at HQ0 HQ1 HB hZ ⊢;refine(Zdq ag _ _ W ((G HA).below (G HB)) ((G KA).below (G HB))).mono ?_;rintro e w1 ⟨rfl,hb1⟩;have hz1:=hb1.size;have HB1:=J (Za (G HB) hb1 (by omega));have P0:=J ((hb1.block w.heap.size (by omega)).trans (G HQ0));have P1:=J ((hb1.block (w.heap.size+1) (by omega)).trans (G HQ1));have c06:=(cR (G P0) 6);have c16:=(cR (G P1) 6);clear hb1 HQ0 HQ1;go_wp2_with fail
 refine(Zdq rs _ _ w1 ((G HR).below (G HB1)) ((G KR).below (G HB1))).mono ?_;rintro e w2 ⟨rfl,hb2⟩;have hz2:=hb2.size;have HB2:=J (Za (G HB1) hb2 (by omega));have R0:=J ((hb2.block w.heap.size (by omega)).trans (G P0));have R1:=J ((hb2.block (w.heap.size+1) (by omega)).trans (G P1));clear hb2 P0 P1 c06 c16;have c07:=(cR (G R0) 7);have c17:=(cR (G R1) 7);go_wp2_with fail
 refine(Zdq ss _ _ w2 ((G HS).below (G HB2)) ((G KS).below (G HB2))).mono ?_;rintro e w3 ⟨rfl,hb3⟩;have hz3:=hb3.size;have HB3:=J (Za (G HB2) hb3 (by omega));have S0:=(hb3.block w.heap.size (by omega)).trans (G R0);have S1:=(hb3.block (w.heap.size+1) (by omega)).trans (G R1);clear hb3 R0 R1 c07 c17;have c08:=(cR S0 8);have c09:=(cR S0 9);have c10:=(cR S0 10);have c11:=(cR S0 11);have d08:=(cR S1 8);have d09:=(cR S1 9);have d10:=(cR S1 10);have d11:=(cR S1 11);clear S0 S1;go_wp2;go_ret;exact⟨by simp,G HB3⟩
def Zoz (id:Nat)(X:Act→World→Prop):Exit→Act→World→Prop
 | .exit n,a,w=>n=id∧X a w
 | _,_,_=>False
theorem Zcb {P:Program}{c:Code}{id:Nat}{Q0:Exit→Act→World→Prop}{a:Act}{w:World}(h:c.wp P (Zoz id fun a w=>Q0 (.exit id) a w) a w):c.wp P Q0 a w:=wp_mono h (fun e a w hq=>by
 cases e with
 | exit n=>obtain⟨rfl,hx⟩:=hq; exact hx
 | normal=>exact hq.elim
 | goto l=>exact hq.elim
 | ret=>exact hq.elim
 | panic c=>exact hq.elim
 | outgrown=>exact hq.elim)
def Ui:Code→List Code
 | .loop c=>.loop c :: Ui c
 | .seq a b=>Ui a++Ui b
 | .block _ c=>Ui c
 | .scope c=>Ui c
 | .cond _ a b=>Ui a++Ui b
 | _=>[]
theorem Zib {w:World}{B e size n:Nat}{v:Value}{xs:List Value}(h:w.ownsRow B e size v n xs)(hn:0<n):∃ g c,v=.slice (some ⟨g,0,none⟩) n c∧B≤g∧g<w.heap.size∧∀ j,j<n*size→w.cell? ⟨g,j,none⟩=xs[j]?:=by
 rcases h.2 with⟨-,e0⟩ | ⟨g,cap,cur,e,h2,h3,-⟩
 ·
  omega
 ·
  subst e;exact⟨g,cap,rfl,h2,Zd h3,fun j hj=>h.cellAt j hj⟩
end Go.Proofs.YteddfaconabobaaGreatDoor
