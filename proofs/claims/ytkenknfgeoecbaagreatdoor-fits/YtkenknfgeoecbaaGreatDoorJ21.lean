import Derived.Test.YtkenknfgeoecbaaGreatDoorJ19
import Derived.Test.YtkenknfgeoecbaaGreatDoorJ17
import Derived.Test.YtkenknfgeoecbaaGreatDoorTie
import Derived.Deep.DeepHandedRow
import Derived.Deep.CutRange
namespace Go.Proofs.YtkenknfgeoecbaaGreatDoor
open Go.RowKit
theorem al1 (w:World)(X:Obj):(w.alloc X).heap[w.heap.size]?=some X∧Below w.heap.size w (w.alloc X)∧(w.alloc X).heap.size=w.heap.size+1 :=
 ⟨heap_alloc_new w _,(Below.refl w.heap.size w).alloc (Nat.le_refl _) _,by simp⟩
theorem Li.setRow {w:World}{T:Nat}{cs:Array Value}{v:Value}{ns:List Int}(h:Li w v ns)(hne:∀ sb so n c,v=.slice (some ⟨sb,so,none⟩) n c->0<ns.length->sb≠T):Li (w.setRow T cs) v ns:=by obtain⟨p,cap,h1,h2,h3,h4⟩:=h;refine⟨p,cap,h1,h2,h3,fun h0=>?_⟩;obtain⟨sb,so,e,hc⟩:=h4 h0;subst e;have hn:=hne sb so _ _ h1 h0;refine⟨sb,so,rfl,fun i hi=>?_⟩;rw [← hc i hi];unfold World.cell?;simp only [setRow_other w T sb cs hn]
theorem Yga (w:World)(X0 X1 X2 X3 X4:Obj):(((((w.alloc X0).alloc X1).alloc X2).alloc X3).alloc X4).heap[w.heap.size]?=some X0∧(((((w.alloc X0).alloc X1).alloc X2).alloc X3).alloc X4).heap[w.heap.size+1]?=some X1∧(((((w.alloc X0).alloc X1).alloc X2).alloc X3).alloc X4).heap[w.heap.size+1+1]?=some X2∧(((((w.alloc X0).alloc X1).alloc X2).alloc X3).alloc X4).heap[w.heap.size+1+1+1]?=some X3∧(((((w.alloc X0).alloc X1).alloc X2).alloc X3).alloc X4).heap.size=w.heap.size+1+1+1+1+1:=by obtain⟨r0,b0,s0⟩:=al0 w X0;obtain⟨r1,b1,s1⟩:=al0 (w.alloc X0) X1;obtain⟨r2,b2,s2⟩:=al0 ((w.alloc X0).alloc X1) X2;obtain⟨r3,b3,s3⟩:=al0 (((w.alloc X0).alloc X1).alloc X2) X3;obtain⟨r4,b4,s4⟩:=al0 ((((w.alloc X0).alloc X1).alloc X2).alloc X3) X4;rw [s0] at r1;rw [s1,s0] at r2;rw [s2,s1,s0] at r3;exact⟨(b4.block _ (by omega)).trans ((b3.block _ (by omega)).trans ((b2.block _ (by omega)).trans ((b1.block _ (by omega)).trans r0))),(b4.block _ (by omega)).trans ((b3.block _ (by omega)).trans ((b2.block _ (by omega)).trans r1)),(b4.block _ (by omega)).trans ((b3.block _ (by omega)).trans r2),(b4.block _ (by omega)).trans r3,by omega⟩
theorem Zhc {V:World}{B n size g:Nat}{e t:TypeId}{v:Value}{xs:List Value}{cs:Array Value}{fr:Nat×Nat}(h:V.ownsRow B e size v n xs)(hr:V.heap[g]?=some (.cells cs t fr))(hne:e≠t):v.ownBlock≠some g:=fun hv=>by
 rcases h.2 with⟨e1,-⟩ | ⟨g1,c1,cur1,e1,-,r1,-⟩
 ·rw [e1] at hv; cases hv
 ·rw [e1] at hv;injection hv with hv;simp only at hv;rw [hv,hr] at r1;injection r1 with r1;injection r1 with _ r1 _;exact hne r1.symm
theorem Nx {V V':World}{B n size:Nat}{e:TypeId}{v:Value}{xs:List Value}(h:V.ownsRow B e size v n xs)(hk:∀ g,v.ownBlock=some g->V'.heap[g]?=V.heap[g]?):V'.ownsRow B e size v n xs:=by
 obtain⟨h1,h2 | ⟨g,cap,cur,e1,e2,e3,e4⟩⟩:=h
 ·exact⟨h1,Or.inl h2⟩
 ·exact⟨h1,Or.inr ⟨g,cap,cur,e1,e2,(hk g (by rw [e1]; rfl)).trans e3,e4⟩⟩
theorem Zvc (lo hi:Nat)(w:World):OnB lo hi w w:=⟨rfl,rfl,rfl,Nat.le_refl _,fun _ _ _=>rfl⟩
theorem Zas {lo hi:Nat}{a b c:World}(h:OnB lo hi a b)(k:OnB lo hi b c):OnB lo hi a c:=⟨k.os.trans h.os,k.tape.trans h.tape,k.output.trans h.output,Nat.le_trans h.size k.size,fun q hq hd=>(k.oth q (Nat.lt_of_lt_of_le hq h.size) hd).trans (h.oth q hq hd)⟩
theorem Zot {lo hi g:Nat}(w:World)(j:Nat)(v:Value)(h1:lo<=g)(h2:g<hi):OnB lo hi w (w.setCell ⟨g,j,none⟩ v):=⟨rfl,rfl,rfl,by simp,fun q _ hd=>heap_setCell_other _ _ _ _ (by show q≠g; omega)⟩
theorem Zfu {lo hi:Nat}{w w':World}(h:Below w.heap.size w w'):OnB lo hi w w':=⟨h.os,h.tape,h.output,h.size,fun q hq _=>h.block q hq⟩
section
variable {w0 V V':World} {x:Ud} {q lo hi lg bc sc oc:Nat} {bp sp op:Option Addr} {gs:List Nat} {B:Nat->Value}
theorem Sw (h:Ia w0 V x q lo hi lg bp sp op bc sc oc gs B)(hk:∀ g,lo<=g->g<hi->V'.heap[g]?=V.heap[g]?)(hz:V.heap.size<=V'.heap.size):Ia w0 V' x q lo hi lg bp sp op bc sc oc gs B :=
 ⟨h.ql,h.qh,h.gl,h.gh,h.gq,Nat.le_trans h.hs hz,(hk q h.ql h.qh).trans h.row,(hk lg h.gl h.gh).trans h.loc,Nx h.slo (fun g e=>hk g (World.ownsRow.lt h.slo g e).1 (h.sb g e)),h.sb,h.len,fun k hk2=>⟨(hk _ (h.each k hk2).2.1 (h.each k hk2).2.2).trans (h.each k hk2).1,(h.each k hk2).2⟩,h.inj,h.bls,h.blk,h.ous⟩
theorem Zbp (h:Ia w0 V x q lo hi lg bp sp op bc sc oc gs B){g:Nat}{t:TypeId}{cs:Array Value}(hr:V.heap[g]?=some (.cells cs t (0,0)))(ht:297≠t):∀ b,(Value.slice sp x.s.length sc).ownBlock=some b->b≠g:=fun b e hb=>Zhc h.slo hr ht (by rw [e,hb])
theorem Zat {V:World}{a b:Nat}{s t:TypeId}{c d:Array Value}(h:V.heap[a]?=some (.cells c s (0,0)))(k:V.heap[b]?=some (.cells d t (0,0)))(hne:s≠t):a≠b:=fun e=>by
 subst e;rw [h] at k;injection k with k;injection k with _ k _;exact hne k
theorem Ygp (h:Ia w0 V x q lo hi lg bp sp op bc sc oc gs B){j:Nat}{v:Value}{y:Ud}(hv:y.v=x.v)(hs:y.s=x.s)(ho:y.o=x.o)(hf:y.fn=x.fn)
 (hrow:(V.setCell ⟨q,j,none⟩ v).heap[q]?=some (.cells #[.slice bp x.fn.blocks.length bc,.int .i64 y.b,.int .i64 y.i,.slice (some ⟨lg,0,none⟩) x.v.length x.v.length,.slice sp x.s.length sc,.slice op x.o.length oc] 328 (0,0))):Ia w0 (V.setCell ⟨q,j,none⟩ v) y q lo hi lg bp sp op bc sc oc gs B:=by
 obtain⟨yf,yb,yi,yv,ys,yo⟩:=y;simp only at hv hs ho hf;subst hv hs ho hf;have ot:∀ g,g≠q->(V.setCell ⟨q,j,none⟩ v).heap[g]?=V.heap[g]?:=fun g hg=>heap_setCell_other _ _ _ _ hg;exact⟨h.ql,h.qh,h.gl,h.gh,h.gq,by simpa using h.hs,hrow,(ot _ h.gq).trans h.loc,Nx h.slo (fun g e=>ot g (Zbp h h.row (by decide) g e)),h.sb,h.len,fun k hk=>⟨(ot _ (Zat (h.each k hk).1 h.row (by decide))).trans (h.each k hk).1,(h.each k hk).2⟩,h.inj,h.bls,h.blk,h.ous⟩
theorem Ygq (h:Ia w0 V x q lo hi lg bp sp op bc sc oc gs B)(n:Int):Ia w0 (V.setCell ⟨q,2,none⟩ (.int .i64 n)) { x with i:=n } q lo hi lg bp sp op bc sc oc gs B:=Ygp h rfl rfl rfl rfl (heap_setCell_same _ _ 2 _ _ _ h.row)
theorem Ycj (h:Ia w0 V x q lo hi lg bp sp op bc sc oc gs B)(d:Nat)(n:Int):Ia w0 (V.setCell ⟨lg,d,none⟩ (.int .u64 n)) { x with v:=x.v.set d n } q lo hi lg bp sp op bc sc oc gs B:=by
 have ot:∀ g,g≠lg->(V.setCell ⟨lg,d,none⟩ (.int .u64 n)).heap[g]?=V.heap[g]?:=fun g hg=>heap_setCell_other _ _ _ _ hg;refine⟨h.ql,h.qh,h.gl,h.gh,h.gq,by simpa using h.hs,?_,?_,Nx h.slo (fun g e=>ot g (Zbp h h.loc (by decide) g e)),h.sb,h.len,fun k hk=>⟨(ot _ (Zat (h.each k hk).1 h.loc (by decide))).trans (h.each k hk).1,(h.each k hk).2⟩,h.inj,h.bls,h.blk,h.ous⟩
 ·rw [show({ x with v:=x.v.set d n }:Ud).v.length=x.v.length by simp];exact(ot _ (Ne.symm h.gq)).trans h.row
 ·have:=heap_setCell_same _ _ d _ _ (.int .u64 n) h.loc;rw [Yef] at this;exact this
theorem Yaa (ss:List (List Int))(k:Nat)(l:List Int)(h:l.length=(ss.getD k []).length):(ss.set k l).map List.length=ss.map List.length:=by
 apply List.ext_getElem?
 intro j;rw [List.getElem?_map,List.getElem?_map,List.getElem?_set];by_cases hj:k=j
 ·subst hj;rw [if_pos rfl];by_cases hk:k<ss.length
  ·rw [if_pos hk,List.getElem?_eq_getElem hk];simp only [Option.map_some,h,List.getD,List.getElem?_eq_getElem hk,Option.getD_some]
  ·rw [if_neg hk,List.getElem?_eq_none (by omega)]
 ·rw [if_neg hj]
theorem Mf (h:Ia w0 V x q lo hi lg bp sp op bc sc oc gs B)(hb:Below V.heap.size V V'):Ia w0 V' x q lo hi lg bp sp op bc sc oc gs B :=
 ⟨h.ql,h.qh,h.gl,h.gh,h.gq,Nat.le_trans h.hs hb.size,(hb.block q (Zi h.row)).trans h.row,(hb.block lg (Zi h.loc)).trans h.loc,Nx h.slo (fun g e=>hb.block g (World.ownsRow.lt h.slo g e).2),h.sb,h.len,fun k hk=>⟨(hb.block _ (Zi (h.each k hk).1)).trans (h.each k hk).1,(h.each k hk).2⟩,h.inj,h.bls,h.blk,h.ous⟩
end
theorem Yab {w0 V:World}{x:Ud}{q lo hi lg bc sc oc:Nat}{bp sp op:Option Addr}{gs:List Nat}{B:Nat->Value}(h:Ia w0 V x q lo hi lg bp sp op bc sc oc gs B){g:Nat}(hg:hi<=g)(cs:Array Value):Ia w0 (V.setRow g cs) x q lo hi lg bp sp op bc sc oc gs B :=
 Sw h (fun b _ h2=>setRow_other _ _ _ _ (by omega)) (by simp [World.setRow])
set_option maxHeartbeats 4000000
set_option maxRecDepth 100000
theorem Ma {α:Type}(l:List α)(d:α)(k:Nat)(h:k<l.length):l.getD k d=l[k]:=by simp [List.getD,h]
theorem Tryz.infInsI:(Tryz.prog.info? 110).map (·.size)=some 8:=by kernel_rfl
def FtS (q bb bo ib io:Nat)(R:Array Value)(bv:Value)(I:Array Value)(V:World):Prop :=
 V.heap[q]?=some (.cells R 328 (0,0))∧V.cell? ⟨bb,bo,none⟩=some bv∧∀ j y,I[j]?=some y->V.cell? ⟨ib,io+j,none⟩=some y
theorem Ds {q bb bo ib io:Nat}{R I:Array Value}{bv:Value}{V V':World}(h:FtS q bb bo ib io R bv I V)(hb:Below V.heap.size V V'):FtS q bb bo ib io R bv I V':=by obtain⟨h0,h1,h2⟩:=h;exact⟨(hb.block _ (Zi h0)).trans h0,(hb.cell (World.block_lt_of_cell? V _ h1)).trans h1,fun j y hy=>(hb.cell (World.block_lt_of_cell? V _ (h2 j y hy))).trans (h2 j y hy)⟩
theorem Yac (w0:World)(x:Ud)(q lo hi lg:Nat)(bp sp op:Option Addr)(bc sc oc:Nat)(gs:List Nat)(B:Nat->Value)(bn nx:Nat)(w:World)(h:Ia w0 w x q lo hi lg bp sp op bc sc oc gs B)(hbw:Below w0.heap.size w0 w)(hb:x.b=bn)(hi_:x.i=nx)(hbl:bn<x.fn.blocks.length)(hnl:nx<(x.fn.blocks.getD bn []).length)(hsm:x.fn.blocks.length<=12)(hsk:(x.fn.blocks.getD bn []).length<=24) :
 Calls Tryz.prog 184 #[.pointer (some ⟨q,0,none⟩)] w fun e w'=>∃ xap xac xop xoc,e=.returned (.agg #[.int .i64 (Yi x).op,.int .i64 (Yi x).d,.int .i64 (Yi x).a,.int .i64 (Yi x).bb,.int .u64 (Yi x).n,.int .i64 (Yi x).f,.slice xap (Yi x).args.length xac,.slice xop (Yi x).outs.length xoc])∧LS 2 w0 (.slice xap (Yi x).args.length xac) (Yi x).args.length (fun k=>La ((Yi x).args.getD k (0,0)))∧Li w0 (.slice xop (Yi x).outs.length xoc) (Yi x).outs∧Ia w0 w' (Ju x) q lo hi lg bp sp op bc sc oc gs B∧OnB lo hi w w':=by
 have hins:Yi x=(x.fn.blocks.getD bn []).getD nx Jo:=by unfold Yi; rw [hb,hi_]; rfl
 have hnxt:Ju x={ x with i:=(nx:Int)+1 }:=by unfold Ju; rw [hi_]
 obtain⟨bp',bcap,hbe,-,-,hbc⟩:=h.bls.ones;injection hbe with e1 e2 e3;subst e1 e3;obtain⟨bb,bo,hbp,hbcell⟩:=hbc (by omega);subst hbp;obtain⟨IA,hIL,hIE⟩:=h.blk bn hbl;have hge:x.fn.blocks.getD bn []=x.fn.blocks[bn]:=Ma _ _ _ hbl;rw [hge] at hnl hins hsk;obtain⟨ip,ic,hBk⟩:=hIL.shape;rw [hBk] at hIL;obtain⟨ip',ic',hie,-,-,hicell⟩:=hIL;injection hie with f1 f2 f3;subst f1 f3;obtain⟨isb,iso,hip,-,hic2⟩:=hicell (by omega);subst hip;have hrg:=hic2 nx hnl;obtain⟨av,ov,hIA,hxa,hxo⟩:=hIE nx hnl;have hgi:(x.fn.blocks[bn]).getD nx Jo=(x.fn.blocks[bn])[nx]:=Ma _ _ _ hnl;rw [hgi] at hins;have hc1:=hbcell bn hbl;rw [hBk] at hc1;generalize hbk:x.fn.blocks[bn]=bk at *;generalize hii:bk[nx]=i at *;obtain⟨xap,xac,rfl⟩:=hxa.shape;obtain⟨xop,xoc,rfl⟩:=hxo.shape;rw [hIA] at hrg;have hrow:=h.row;rw [hb,hi_] at hrow;have HS0:=O (show FtS q bb (bo+bn) isb (iso+nx*8) #[.slice (some ⟨bb,bo,none⟩) x.fn.blocks.length bc,.int .i64 (bn:Int),.int .i64 (nx:Int),.slice (some ⟨lg,0,none⟩) x.v.length x.v.length,.slice sp x.s.length sc,.slice op x.o.length oc] (.slice (some ⟨isb,iso,none⟩) bk.length ic) #[.int .i64 i.op,.int .i64 i.d,.int .i64 i.a,.int .i64 i.bb,.int .u64 i.n,.int .i64 i.f,.slice xap i.args.length xac,.slice xop i.outs.length xoc] w from⟨hrow,(hbw.cell (World.block_lt_of_cell? _ _ hc1)).trans hc1,fun j y hy=>by
  have:=hrg j y (by simpa using hy);exact(hbw.cell (World.block_lt_of_cell? _ _ this)).trans this⟩)
 have HXA:=O hxa;have HXO:=O hxo;have H:=O h;have HNX:=O hnxt;have hqw:=Zi h.row;rw [hins];obtain⟨r0,hb0,hz0⟩:=al0 w (.cells #[.int .i64 0,.int .i64 0,.int .i64 0,.int .i64 0,.int .u64 0,.int .i64 0,.slice none 0 0,.slice none 0 0] 110 (0,0));have HR0:=O r0;have HB0:=O hb0;clear h hbw hb hi_ hins hnxt hbc hbcell hIE hge hBk hicell hic2 hrg hIA hxa hxo hgi hc1 hrow hbk hii r0 hb0 e2 f2;go_enter Tryz.func184,Tryz.ntmps184
 go_upto_region 1 with fail
 generalize World.alloc w _=W at HR0 HB0 hz0 ⊢;have HZ0:=O hz0;clear hz0;have HSW:=O (Ds (Ds (J HS0) (J HB0)) (Below.refl _ _).drew);refine wp_region_held_drew (S:=FtS q bb (bo+bn) isb (iso+nx*8) #[.slice (some ⟨bb,bo,none⟩) x.fn.blocks.length bc,.int .i64 (bn:Int),.int .i64 (nx:Int),.slice (some ⟨lg,0,none⟩) x.v.length x.v.length,.slice sp x.s.length sc,.slice op x.o.length oc] (.slice (some ⟨isb,iso,none⟩) bk.length ic) #[.int .i64 i.op,.int .i64 i.d,.int .i64 i.a,.int .i64 i.bb,.int .u64 i.n,.int .i64 i.f,.slice xap i.args.length xac,.slice xop i.outs.length xoc]) (by kernel_rfl) (J HSW) (fun hHeld=>?_);refine tV 0 ?v0 ?hy0 ?_;case hy0=>intro V hV;obtain⟨g0,g1,g2⟩:=hV;clear g0 g1 g2;go_simp;all_goals (with_reducible rfl)
 simp only [Act.put,zA,zB,zC,zD,zE];refine tV 1 ?v1 ?hy1 ?_;case hy1=>intro V hV;obtain⟨g0,g1,g2⟩:=hV;clear g0 g1 g2;go_simp;all_goals (with_reducible rfl)
 simp only [Act.put,zA,zB,zC,zD,zE,zF];refine tV 2 ?v2 ?hy2 ?_;case hy2=>intro V hV;obtain⟨g0,g1,g2⟩:=hV;clear g0 g1 g2;go_simp;all_goals (with_reducible rfl)
 simp only [Act.put,zA,zB,zC,zD,zE,zF];refine tV 3 ?v3 ?hy3 ?_;case hy3=>intro V hV;obtain⟨g0,g1,g2⟩:=hV;have c0:=cR g0 0;clear g0 g1 g2;go_simp;all_goals (with_reducible rfl)
 simp only [Act.put,zA,zB,zC,zD,zE,zF];refine tV 4 ?v4 ?hy4 ?_;case hy4=>intro V hV;obtain⟨g0,g1,g2⟩:=hV;clear g0 g1 g2;go_simp;all_goals (with_reducible rfl)
 simp only [Act.put,zA,zB,zC,zD,zE,zF];refine tV 5 ?v5 ?hy5 ?_;case hy5=>intro V hV;obtain⟨g0,g1,g2⟩:=hV;clear g0 g1 g2;go_simp;all_goals (with_reducible rfl)
 simp only [Act.put,zA,zB,zC,zD,zE,zF];refine tV 6 ?v6 ?hy6 ?_;case hy6=>intro V hV;obtain⟨g0,g1,g2⟩:=hV;clear g0 g1 g2;go_simp;all_goals (with_reducible rfl)
 simp only [Act.put,zA,zB,zC,zD,zE,zF];refine tV 7 ?v7 ?hy7 ?_;case hy7=>intro V hV;obtain⟨g0,g1,g2⟩:=hV;have c1:=cR g0 1;clear g0 g1 g2;go_simp;all_goals (with_reducible rfl)
 simp only [Act.put,zA,zB,zC,zD,zE,zF];refine tV 8 ?v8 ?hy8 ?_;case hy8=>intro V hV;obtain⟨g0,g1,g2⟩:=hV;clear g0 g1 g2;go_simp;all_goals (with_reducible rfl)
 simp only [Act.put,zA,zB,zC,zD,zE,zF];refine tV 9 ?v9 ?hy9 ?_;case hy9=>intro V hV;obtain⟨g0,g1,g2⟩:=hV;have d:=g1;clear g0 g1 g2;go_simp;all_goals (with_reducible rfl)
 simp only [Act.put,zA,zB,zC,zD,zE,zF];refine tV 10 ?v10 ?hy10 ?_;case hy10=>intro V hV;obtain⟨g0,g1,g2⟩:=hV;clear g0 g1 g2;go_simp;all_goals (with_reducible rfl)
 simp only [Act.put,zA,zB,zC,zD,zE,zF];refine tV 11 ?v11 ?hy11 ?_;case hy11=>intro V hV;obtain⟨g0,g1,g2⟩:=hV;clear g0 g1 g2;go_simp;all_goals (with_reducible rfl)
 simp only [Act.put,zA,zB,zC,zD,zE,zF];refine tV 12 ?v12 ?hy12 ?_;case hy12=>intro V hV;obtain⟨g0,g1,g2⟩:=hV;clear g0 g1 g2;go_simp;all_goals (with_reducible rfl)
 simp only [Act.put,zA,zB,zC,zD,zE,zF];refine tV 13 ?v13 ?hy13 ?_;case hy13=>intro V hV;obtain⟨g0,g1,g2⟩:=hV;have c2:=cR g0 2;clear g0 g1 g2;go_simp;all_goals (with_reducible rfl)
 simp only [Act.put,zA,zB,zC,zD,zE,zF];refine tV 14 ?v14 ?hy14 ?_;case hy14=>intro V hV;obtain⟨g0,g1,g2⟩:=hV;clear g0 g1 g2;go_simp;all_goals (with_reducible rfl)
 simp only [Act.put,zA,zB,zC,zD,zE,zF];refine tV 15 ?v15 ?hy15 ?_;case hy15=>intro V hV;obtain⟨g0,g1,g2⟩:=hV;have c0:=g2 0 _ rfl;have c1:=g2 1 _ rfl;have c2:=g2 2 _ rfl;have c3:=g2 3 _ rfl;have c4:=g2 4 _ rfl;have c5:=g2 5 _ rfl;have c6:=g2 6 _ rfl;have c7:=g2 7 _ rfl;rw [Nat.add_zero] at c0;clear g0 g1 g2;go_simp;all_goals (with_reducible rfl)
 simp only [Act.put,zA,zB,zC,zD,zE,zF];refine tO 16 fun K hK=>?_;go_simp;obtain⟨r1,hb1,hz1⟩:=al0 W.drew (.cells #[.int .i64 0,.int .i64 0,.int .i64 0,.int .i64 0,.int .u64 0,.int .i64 0,.slice none 0 0,.slice none 0 0] 110 (0,0));have HR1:=O r1;have HB1:=O hb1;have hz1':(W.drew.alloc (.cells #[.int .i64 0,.int .i64 0,.int .i64 0,.int .i64 0,.int .u64 0,.int .i64 0,.slice none 0 0,.slice none 0 0] 110 (0,0))).heap.size=W.heap.size+1:=hz1;clear r1 hb1 hz1;refine kO hK (Ds (J HSW) (J HB1)) (fun hHeld2=>?_);clear hK K;refine tO 17 fun K hK=>?_;rw [if_pos (by rfl)];refine wp_store_row 110 _ _ rfl W.heap.size #[.int .i64 i.op,.int .i64 i.d,.int .i64 i.a,.int .i64 i.bb,.int .u64 i.n,.int .i64 i.f,.slice xap i.args.length xac,.slice xop i.outs.length xoc] rfl rfl 110 _ (J HR1) (Tryz.infInsI.trans rfl) rfl (by simp [Value.oneCell']) ?_;have HR2:=O (show((W.alloc (.cells #[.int .i64 0,.int .i64 0,.int .i64 0,.int .i64 0,.int .u64 0,.int .i64 0,.slice none 0 0,.slice none 0 0] 110 (0,0))).drew.setRow W.heap.size #[.int .i64 i.op,.int .i64 i.d,.int .i64 i.a,.int .i64 i.bb,.int .u64 i.n,.int .i64 i.f,.slice xap i.args.length xac,.slice xop i.outs.length xoc]).heap[W.heap.size]?=some (.cells #[.int .i64 i.op,.int .i64 i.d,.int .i64 i.a,.int .i64 i.bb,.int .u64 i.n,.int .i64 i.f,.slice xap i.args.length xac,.slice xop i.outs.length xoc] 110 (0,0)) from setRow_heap _ _ _ #[.int .i64 i.op,.int .i64 i.d,.int .i64 i.a,.int .i64 i.bb,.int .u64 i.n,.int .i64 i.f,.slice xap i.args.length xac,.slice xop i.outs.length xoc] _ _ (J HR1))
 have HB2:=O (show Below W.drew.heap.size W.drew ((W.alloc (.cells #[.int .i64 0,.int .i64 0,.int .i64 0,.int .i64 0,.int .u64 0,.int .i64 0,.slice none 0 0,.slice none 0 0] 110 (0,0))).drew.setRow W.heap.size #[.int .i64 i.op,.int .i64 i.d,.int .i64 i.a,.int .i64 i.bb,.int .u64 i.n,.int .i64 i.f,.slice xap i.args.length xac,.slice xop i.outs.length xoc]) from Zg (T:=W.drew.heap.size) (cs:=#[.int .i64 i.op,.int .i64 i.d,.int .i64 i.a,.int .i64 i.bb,.int .u64 i.n,.int .i64 i.f,.slice xap i.args.length xac,.slice xop i.outs.length xoc]) (J HB1) (Nat.le_refl _));refine hK.out _ _ (Ds (J HSW) (J HB2)) (fun hHeld2=>?_);clear hK K hHeld hHeld2;try simp only [Act.put]
 refine wpAnyH_done (by kernel_rfl) ?_ _;generalize World.setRow (World.drew (World.alloc W _)) _ _=V3 at HR2 HB2 ⊢;have hBW:Below W.heap.size W V3:=Zc (Below.refl W.heap.size W).drew (J HB2) (Nat.le_refl _);have hz0:=J HZ0;have hBw3:=Zc (J HB0) hBW (by omega);have hF3:=Mf (J H) hBw3;have c2:V3.cell? ⟨q,2,none⟩=some (.int .i64 (nx:Int)):=by have:=(Ds (J HSW) (J HB2)).1; exact(cR this 2)
 have z2:=frozen_of_row _ _ 2 _ _ hF3.row;have hRT:V3.heap[w.heap.size]?=some (.cells #[.int .i64 0,.int .i64 0,.int .i64 0,.int .i64 0,.int .u64 0,.int .i64 0,.slice none 0 0,.slice none 0 0] 110 (0,0)):=(hBW.block _ (by omega)).trans (J HR0);have hF4:=Ygq hF3 ((nx:Int)+1);rw [← J HNX] at hF4;have HF4:=O hF4;have hqne:W.heap.size≠q:=by omega
 have hqn2:w.heap.size≠q:=by omega
 have hR4:=(heap_setCell_other V3 ⟨q,2,none⟩ W.heap.size (.int .i64 ((nx:Int)+1)) hqne).trans (J HR2);have hT4:=(heap_setCell_other V3 ⟨q,2,none⟩ w.heap.size (.int .i64 ((nx:Int)+1)) hqn2).trans hRT;have HO4:=O (Zas (Zfu (lo:=lo) (hi:=hi) hBw3) (Zot V3 2 (.int .i64 ((nx:Int)+1)) (J H).ql (J H).qh));have HT4:=O hT4;clear hz0;clear hBW hBw3 hF3 hF4 HR2 HB2 hRT HSW HS0 HR1 HB1;go_upto_region 3 with fail
 clear c2 z2;generalize World.setCell V3 _ _=V4 at HF4 hR4 HT4 HO4 ⊢;obtain⟨i0,i1,i2,i3,i4,i5,i6,i7⟩:=cT8 hR4;have hlt4:=Zi (J HT4);go_wp2_with (refine wpList_store_row rfl 110 _ _ rfl w.heap.size #[.int .i64 i.op,.int .i64 i.d,.int .i64 i.a,.int .i64 i.bb,.int .u64 i.n,.int .i64 i.f,.slice xap i.args.length xac,.slice xop i.outs.length xoc] rfl rfl 110 _ (J HT4) (Tryz.infInsI.trans rfl) rfl (by simp [Value.oneCell']) ?_)
 refine bodyPost_ret (Gx (fn:=Tryz.f184) (q:=2) (uy:=110) rfl _ _ w.heap.size 110 #[.int .i64 i.op,.int .i64 i.d,.int .i64 i.a,.int .i64 i.bb,.int .u64 i.n,.int .i64 i.f,.slice xap i.args.length xac,.slice xop i.outs.length xoc] (0,0) _ rfl (setRow_heap _ _ _ _ _ _ (J HT4)) Tryz.underlying110 rfl (Tryz.infInsI.trans rfl)) rfl ?_;have hF:=J HF4;have hO:=J HO4;have hz0:=J HZ0;refine⟨xap,xac,xop,xoc,rfl,J HXA,J HXO,Yab hF (by have:=(J H).hs; omega) _,⟨hO.os,hO.tape,hO.output,by have:=hO.size; simpa [World.setRow] using this,fun g hg hd=>(setRow_other _ _ _ _ (by omega)).trans (hO.oth g hg hd)⟩⟩
end Go.Proofs.YtkenknfgeoecbaaGreatDoor
namespace Go.Proofs.YtkenknfgeoecbaaGreatDoor
open Go.ChangeShapes Go.WideShapes Go.ChangeAt Go.RowKit
theorem Zzl {P:Program}(h:P.funcs.any Func.goes=false)(s:Start)(f:String):P.goesAt s f=false:=by
 have h0:∀(g:Nat),(P.funcs[g]?).any Func.goes=false:=fun g=>by
  cases hg:P.funcs[g]? with
  | none=>rfl
  | some fn=>obtain⟨hl,e⟩:=Array.getElem?_eq_some_iff.1 hg;have:=Array.any_eq_false.1 h g hl;rw [e] at this;simpa using this
 have k:∀ g,P.goes g=false:=fun g=>by
  unfold Program.goes;rw [h,Bool.and_false,Bool.or_false];simp only [h0];simp
 unfold Program.goesAt Program.goesFrom;have e:(P.funcNamed f).any P.goes=false:=by
  cases P.funcNamed f with
  | none=>rfl
  | some g=>exact k g
 rw [e,Bool.false_or];split
 ·rfl
 ·exact List.any_eq_false.2 (fun x _=>by rw [k x]; decide)
theorem Zrc:Tryz.pinned.checked.prog.funcs.any Func.goes=false:=by kernel_rfl
theorem Zzm:false=Rows.fitsRow.goesBy Tryz.pinned.checked.prog:=(Zzl Zrc _ _).symm
theorem Zzw:(Rows.fitsRow.inPlace==Tryz.pinned.checked.prog.inPlace 5)=true:=by kernel_rfl
theorem Zum:(Rows.fitsRow.unfollowed==Tryz.pinned.checked.prog.unfollowed 5)=true:=by kernel_rfl
theorem Zun:(Rows.fitsRow.recurses==Tryz.pinned.checked.prog.recurses 5)=true:=by kernel_rfl
theorem Zuo:(Rows.fitsRow.named==Tryz.pinned.checked.prog.varsNamed 5)=true:=by kernel_rfl
theorem Zup:(Rows.fitsRow.maps==(Tryz.f5.params.toList++Rows.fitsSpec.plain.varTypes Tryz.pinned.checked.prog).any (Tryz.pinned.checked.prog.mapsRec ·))=true:=by kernel_rfl
theorem Zuq:(Rows.fitsRow.ifaces==(Tryz.f5.params.toList++Rows.fitsSpec.plain.varTypes Tryz.pinned.checked.prog).any (Tryz.pinned.checked.prog.ifacesRec ·))=true:=by kernel_rfl
theorem Zur:(Rows.fitsRow.mapsOut==Tryz.pinned.checked.prog.mapsAmong Tryz.f5.resultTypes.toList)=true:=by kernel_rfl
theorem Zus:(Rows.fitsRow.loops==(Tryz.f5.params.toList++Rows.fitsSpec.plain.varTypes Tryz.pinned.checked.prog).any (Tryz.pinned.checked.prog.loopsFrom ·))=true:=by kernel_rfl
theorem Zut:(Rows.fitsRow.wideKeys==(Tryz.f5.params.toList++Rows.fitsSpec.plain.varTypes Tryz.pinned.checked.prog++Tryz.f5.resultTypes.toList).any (Tryz.pinned.checked.prog.wideKeysFrom ·))=true:=by kernel_rfl
end Go.Proofs.YtkenknfgeoecbaaGreatDoor
