import Derived.Test.YtkenknfgeoecbaaGreatDoorJ24
namespace Go.Proofs.YtkenknfgeoecbaaGreatDoor
open Go.RowKit
set_option maxHeartbeats 4000000
set_option maxRecDepth 100000
theorem Ydh (w:World)(X0 X1 X2 X3:Obj):((((w.alloc X0).alloc X1).alloc X2).alloc X3).heap[w.heap.size]?=some X0∧((((w.alloc X0).alloc X1).alloc X2).alloc X3).heap[w.heap.size+1]?=some X1∧((((w.alloc X0).alloc X1).alloc X2).alloc X3).heap[w.heap.size+1+1]?=some X2∧((((w.alloc X0).alloc X1).alloc X2).alloc X3).heap[w.heap.size+1+1+1]?=some X3∧((((w.alloc X0).alloc X1).alloc X2).alloc X3).heap.size=w.heap.size+1+1+1+1:=by obtain⟨r0,b0,s0⟩:=al0 w X0;obtain⟨r1,b1,s1⟩:=al0 (w.alloc X0) X1;obtain⟨r2,b2,s2⟩:=al0 ((w.alloc X0).alloc X1) X2;obtain⟨r3,b3,s3⟩:=al0 (((w.alloc X0).alloc X1).alloc X2) X3;rw [s0] at r1;rw [s1,s0] at r2;rw [s2,s1,s0] at r3;exact⟨(b3.block _ (by omega)).trans ((b2.block _ (by omega)).trans ((b1.block _ (by omega)).trans r0)),(b3.block _ (by omega)).trans ((b2.block _ (by omega)).trans r1),(b3.block _ (by omega)).trans r2,r3,by omega⟩
theorem Xt (w:World)(b q:Nat)(v0 v1 v2 v3:Value)(h:q≠b):((((w.setCell ⟨b,0,none⟩ v0).setCell ⟨b,1,none⟩ v1).setCell ⟨b,2,none⟩ v2).setCell ⟨b,3,none⟩ v3).heap[q]?=w.heap[q]? :=
 (heap_setCell_other _ _ _ _ h).trans ((heap_setCell_other _ _ _ _ h).trans ((heap_setCell_other _ _ _ _ h).trans (heap_setCell_other _ _ _ _ h)))
theorem Cn {P:Program}{fn:Func}{p q:Tmp}{px uy:TypeId}(h:fn.results=#[.cell p px,.cell q uy])(tmps:Array Value)(w:World)(g:Nat)(t:TypeId)(cs:Array Value)(fr:Nat×Nat)(d:TypeDesc)(g':Nat)(t':TypeId)(cs':Array Value)(fr':Nat×Nat)(d':TypeDesc)
 (hp:tmps.getD p undef=.pointer (some ⟨g,0,none⟩)) (hg:w.heap[g]?=some (.cells cs t fr)) (hu:P.underlying px=some d) (hd:(match d with | .struct _ | .array _ _=>true | _=>false)=true) (hi:(P.info? px).map (·.size)=some cs.size)
 (hp':tmps.getD q undef=.pointer (some ⟨g',0,none⟩)) (hg':w.heap[g']?=some (.cells cs' t' fr')) (hu':P.underlying uy=some d') (hd':(match d' with | .struct _ | .array _ _=>true | _=>false)=true) (hi':(P.info? uy).map (·.size)=some cs'.size) :
 (results fn tmps).run P w=.ok (.tuple #[.agg cs,.agg cs']) w:=by
 have e1:tmps[p]?.getD undef=.pointer (some ⟨g,0,none⟩):=by simpa using hp
 have e2:tmps[q]?.getD undef=.pointer (some ⟨g',0,none⟩):=by simpa using hp'
 simp [results,h,e1,e2,asAddr,run_loadVar_row w g t px cs fr d hg hu hd hi,run_loadVar_row w g' t' uy cs' fr' d' hg' hu' hd' hi']
theorem Tryz.infPfK:(Tryz.prog.info? 29).map (·.size)=some 4:=by kernel_rfl
theorem Zin (w:World)(b:Nat)(t:TypeId)(c0 c1 c2 c3 v0 v1 v2 v3:Value)(h:w.heap[b]?=some (.cells #[c0,c1,c2,c3] t (0,0))):((((w.setCell ⟨b,0,none⟩ v0).setCell ⟨b,1,none⟩ v1).setCell ⟨b,2,none⟩ v2).setCell ⟨b,3,none⟩ v3).heap[b]?=some (.cells #[v0,v1,v2,v3] t (0,0)) :=
 heap_setCell_same _ _ 3 _ _ _ (heap_setCell_same _ _ 2 _ _ _ (heap_setCell_same _ _ 1 _ _ _ (heap_setCell_same _ _ 0 _ _ _ h)))
theorem Ygd (w:World)(a:Addr)(v:Value):(w.setCell a v).os=w.os:=rfl
theorem Zye (w:World)(a:Addr)(v:Value):(w.setCell a v).tape=w.tape:=rfl
theorem Ydi (w:World)(a:Addr)(v:Value):(w.setCell a v).output=w.output:=rfl
theorem Zsy (w5:World)(b:Nat)(t u:TypeId)(l0 l1 l2 l3 f0 f1 f2 f3 c0 c1 c2 c3 d0 d1 d2 d3:Value)(h2:w5.heap[b]?=some (.cells #[c0,c1,c2,c3] t (0,0)))(h3:w5.heap[b+1]?=some (.cells #[d0,d1,d2,d3] u (0,0))) :
 ((((((((w5.setCell ⟨b,0,none⟩ l0).setCell ⟨b,1,none⟩ l1).setCell ⟨b,2,none⟩ l2).setCell ⟨b,3,none⟩ l3).setCell ⟨b+1,0,none⟩ f0).setCell ⟨b+1,1,none⟩ f1).setCell ⟨b+1,2,none⟩ f2).setCell ⟨b+1,3,none⟩ f3).heap[b]?=some (.cells #[l0,l1,l2,l3] t (0,0)) ∧
 ((((((((w5.setCell ⟨b,0,none⟩ l0).setCell ⟨b,1,none⟩ l1).setCell ⟨b,2,none⟩ l2).setCell ⟨b,3,none⟩ l3).setCell ⟨b+1,0,none⟩ f0).setCell ⟨b+1,1,none⟩ f1).setCell ⟨b+1,2,none⟩ f2).setCell ⟨b+1,3,none⟩ f3).heap[b+1]?=some (.cells #[f0,f1,f2,f3] u (0,0)) ∧
 (∀ q,q≠b->q≠b+1->((((((((w5.setCell ⟨b,0,none⟩ l0).setCell ⟨b,1,none⟩ l1).setCell ⟨b,2,none⟩ l2).setCell ⟨b,3,none⟩ l3).setCell ⟨b+1,0,none⟩ f0).setCell ⟨b+1,1,none⟩ f1).setCell ⟨b+1,2,none⟩ f2).setCell ⟨b+1,3,none⟩ f3).heap[q]?=w5.heap[q]?) ∧
 ((((((((w5.setCell ⟨b,0,none⟩ l0).setCell ⟨b,1,none⟩ l1).setCell ⟨b,2,none⟩ l2).setCell ⟨b,3,none⟩ l3).setCell ⟨b+1,0,none⟩ f0).setCell ⟨b+1,1,none⟩ f1).setCell ⟨b+1,2,none⟩ f2).setCell ⟨b+1,3,none⟩ f3).heap.size=w5.heap.size ∧
 (((((((((w5.setCell ⟨b,0,none⟩ l0).setCell ⟨b,1,none⟩ l1).setCell ⟨b,2,none⟩ l2).setCell ⟨b,3,none⟩ l3).setCell ⟨b+1,0,none⟩ f0).setCell ⟨b+1,1,none⟩ f1).setCell ⟨b+1,2,none⟩ f2).setCell ⟨b+1,3,none⟩ f3).os=w5.os∧((((((((w5.setCell ⟨b,0,none⟩ l0).setCell ⟨b,1,none⟩ l1).setCell ⟨b,2,none⟩ l2).setCell ⟨b,3,none⟩ l3).setCell ⟨b+1,0,none⟩ f0).setCell ⟨b+1,1,none⟩ f1).setCell ⟨b+1,2,none⟩ f2).setCell ⟨b+1,3,none⟩ f3).tape=w5.tape∧((((((((w5.setCell ⟨b,0,none⟩ l0).setCell ⟨b,1,none⟩ l1).setCell ⟨b,2,none⟩ l2).setCell ⟨b,3,none⟩ l3).setCell ⟨b+1,0,none⟩ f0).setCell ⟨b+1,1,none⟩ f1).setCell ⟨b+1,2,none⟩ f2).setCell ⟨b+1,3,none⟩ f3).output=w5.output):=by
 refine⟨?_,?_,fun q h1 h2=>?_,by simp,by simp only [Ygd],by simp only [Zye],by simp only [Ydi]⟩
 ·rw [Xt _ _ _ _ _ _ _ (by omega)];exact Zin _ _ _ _ _ _ _ _ _ _ _ h2
 ·exact Zin _ _ _ d0 d1 d2 d3 _ _ _ _ ((Xt _ _ _ _ _ _ _ (by omega)).trans h3)
 ·rw [Xt _ _ _ _ _ _ _ h2,Xt _ _ _ _ _ _ _ h1]
theorem Ydj (T:Yc)(ps:List Int)(pq:Option Addr)(cq:Nat)(n:Int)(w:World)(hT:TbO w T)(hps:Li w (.slice pq ps.length cq) ps) :
 Calls Tryz.prog 27 #[.agg T.box,.agg #[.slice pq ps.length cq,.int .i64 n]] w fun e w'=>∃ av rv pvs,e=.returned (.tuple #[.agg #[av,rv,.int .i64 (Dh T ps n).size,.int .i64 (Dh T ps n).copies],Ry (Cm T ps n)])∧Oq w' w.heap.size av rv (Dh T ps n) pvs∧Below w.heap.size w w':=by
 obtain⟨r0,r1,r2,hZ,hB⟩:=Zsx w (.cells T.box 25 (0,0)) (.cells #[.slice pq ps.length cq,.int .i64 n] 43 (0,0)) (.cells #[.slice none 0 0,.slice none 0 0,.int .i64 0,.int .i64 0] 47 (0,0));have HR2:=O r2;have HB:=O hB;have HC:=O (Ydg T ps pq cq n _ (hT.below hB) (hps.below hB));clear r0 r1 r2 hB hT hps;unfold Yc.box at HC HR2 HB hZ ⊢;go_enter Tryz.func27,Tryz.ntmps27
 go_wp2_with fail
 generalize World.alloc (World.alloc (World.alloc w _) _) _=W at HC HR2 HB hZ ⊢;refine(J HC).mono ?_;rintro e w4 ⟨av,rv,pvs,rfl,hlay,hb4⟩;obtain⟨⟨ap,an,ac,rfl⟩,rp,rn,rc,rfl⟩:=hlay.shapes;have HLY:=O hlay;have HB4:=O (Zc (J HB) hb4 (by omega));have HD2:=O ((hb4.block (w.heap.size+1+1) (by omega)).trans (J HR2));clear hlay hb4 HC;obtain⟨en,hen⟩:∃ en,en=Ry (Cm T ps n):=⟨_,rfl⟩;rw [← hen];have HEN:=O hen;clear hen;obtain⟨le,hle⟩:∃ le,le=Dh T ps n:=⟨_,rfl⟩;rw [← hle];have HLE:=O hle;clear hle;go_wp2_with (refine wpList_store_row rfl 47 _ _ rfl (w.heap.size+1+1) #[.slice ap an ac,.slice rp rn rc,.int .i64 le.size,.int .i64 le.copies] rfl rfl 47 _ (J HD2) (Tryz.infLyK.trans rfl) rfl (by simp [Value.oneCell']) ?_)
 refine bodyPost_ret (Rb (fn:=Tryz.f27) (p:=4) (q:=5) (px:=47) rfl _ _ (w.heap.size+1+1) 47 #[.slice ap an ac,.slice rp rn rc,.int .i64 le.size,.int .i64 le.copies] (0,0) _ rfl (setRow_heap _ _ _ _ _ _ (J HD2)) Tryz.underlying47 rfl (Tryz.infLyK.trans rfl)) rfl ?_;refine⟨_,_,pvs,by rw [← J HLE,← J HEN]; rfl,?_,Zg (J HB4) (by omega)⟩;rw [← J HLE];have h:=J HLY;rw [← J HLE] at h;exact h.row (by omega) (by omega)
theorem Zyf (T:Yc)(ps:List Int)(pq:Option Addr)(cq:Nat)(n:Int)(w:World)(hE:Yd w)(hT:TbO w T)(hps:Li w (.slice pq ps.length cq) ps) :
 Calls Tryz.prog 11 #[.agg T.box,.agg #[.slice pq ps.length cq,.int .i64 n]] w fun e w'=>∃ av rv pvs,e=.returned (.tuple #[.agg #[av,rv,.int .i64 (Dh T ps n).size,.int .i64 (Dh T ps n).copies],Rm (Cm T ps n) (-1) (-1) (-1)])∧Oq w' w.heap.size av rv (Dh T ps n) pvs∧Below w.heap.size w w':=by
 obtain⟨r0,r1,r2,r3,hZ⟩:=Ydh w (.cells T.box 25 (0,0)) (.cells #[.slice pq ps.length cq,.int .i64 n] 43 (0,0)) (.cells #[.slice none 0 0,.slice none 0 0,.int .i64 0,.int .i64 0] 47 (0,0)) (.cells #[.int .i64 0,.int .i64 0,.int .i64 0,.int .i64 0] 29 (0,0));have hB:Below w.heap.size w ((((w.alloc (.cells T.box 25 (0,0))).alloc (.cells #[.slice pq ps.length cq,.int .i64 n] 43 (0,0))).alloc (.cells #[.slice none 0 0,.slice none 0 0,.int .i64 0,.int .i64 0] 47 (0,0))).alloc (.cells #[.int .i64 0,.int .i64 0,.int .i64 0,.int .i64 0] 29 (0,0))):=((((Below.refl w.heap.size w).alloc (Nat.le_refl _) (.cells T.box 25 (0,0))).alloc (by simp) (.cells #[.slice pq ps.length cq,.int .i64 n] 43 (0,0))).alloc (by simp; omega) (.cells #[.slice none 0 0,.slice none 0 0,.int .i64 0,.int .i64 0] 47 (0,0))).alloc (by simp; omega) (.cells #[.int .i64 0,.int .i64 0,.int .i64 0,.int .i64 0] 29 (0,0));have HR2:=O r2;have HR3:=O r3;have HB:=O hB;have HC:=O (Ydj T ps pq cq n _ (hT.below hB) (hps.below hB));have HE:=O (fun V (hb:Below w.heap.size w V)=>hE.keep hb);clear r0 r1 r2 r3 hB hT hps hE;unfold Yc.box at HC HR2 HR3 HB hZ ⊢;go_enter Tryz.func11,Tryz.ntmps11
 go_wp2_with fail
 generalize World.alloc (World.alloc (World.alloc (World.alloc w _) _) _) _=W at HC HR2 HR3 HB hZ ⊢;refine(J HC).mono ?_;rintro e w4 ⟨av,rv,pvs,rfl,hlay,hb4⟩;obtain⟨⟨ap,an,ac,rfl⟩,rp,rn,rc,rfl⟩:=hlay.shapes;have hz4:=hb4.size;have HLY:=O hlay;have HB4:=O (Zc (J HB) hb4 (by omega));have HD2:=O ((hb4.block (w.heap.size+1+1) (by omega)).trans (J HR2));have HD3:=O ((hb4.block (w.heap.size+1+1+1) (by omega)).trans (J HR3));clear hlay hb4 HC HR2 HR3;have HF:=O (fun V (hb:Below w.heap.size w V)=>show Calls Tryz.prog 26 #[Ry (Cm T ps n)] V fun e w'=>e=.returned (Rm (Cm T ps n) (-1) (-1) (-1))∧Below V.heap.size V w' by
  unfold Ry;split
  ·rename_i h;rw [h];exact Md V
  ·exact Me _ V (J HE V hb))
 obtain⟨cn,hcn⟩:∃ cn,cn=Cm T ps n:=⟨_,rfl⟩;rw [← hcn] at HF ⊢;have HCN:=O hcn;clear hcn;generalize Ry cn=en at HF ⊢;obtain⟨le,hle⟩:∃ le,le=Dh T ps n:=⟨_,rfl⟩;rw [← hle] at HLY ⊢;have HLE:=O hle;clear hle;-- region
 go_wp2_with fail
 obtain⟨hl1,hl2,hl3⟩:=al0 w4 (.cells #[.slice ap an ac,.slice rp rn rc,.int .i64 le.size,.int .i64 le.copies] 47 (0,0));have HE2:=O ((hl2.block (w.heap.size+1+1) (by omega)).trans (J HD2));have HE3:=O ((hl2.block (w.heap.size+1+1+1) (by omega)).trans (J HD3));have HLY2:=O ((J HLY).keep hl2);have HB5:=O (Zc (J HB4) hl2 (by omega));have HRL:=O hl1;clear hl1 hl2;generalize hTl:w4.heap.size=Tl at HRL hl3 hz4 ⊢;clear hTl;generalize World.alloc w4 _=U at HE2 HE3 HLY2 HB5 HRL hl3 ⊢;have HK0:=O (show U.drew.cell? ⟨Tl,0,none⟩=some (.slice ap an ac)∧U.drew.cell? ⟨Tl,1,none⟩=some (.slice rp rn rc)∧U.drew.cell? ⟨Tl,2,none⟩=some (.int .i64 le.size)∧U.drew.cell? ⟨Tl,3,none⟩=some (.int .i64 le.copies) from⟨(cR (J HRL) 0),(cR (J HRL) 1),(cR (J HRL) 2),(cR (J HRL) 3)⟩);have HFC:=O (J HF U.drew (J HB5).drew);refine wp_region_held_drew (S:=fun V=>V.cell? ⟨Tl,0,none⟩=some (.slice ap an ac)∧V.cell? ⟨Tl,1,none⟩=some (.slice rp rn rc)∧V.cell? ⟨Tl,2,none⟩=some (.int .i64 le.size)∧V.cell? ⟨Tl,3,none⟩=some (.int .i64 le.copies)) (by kernel_rfl) (J HK0) (fun hHeld=>?_);refine tT 0 ?_;refine tT 1 ?_;refine tO 2 fun K hK=>?_;go_simp;refine(J HFC).mono ?_;rintro e w5 ⟨rfl,hb5⟩;have hr2:=(hb5.block (w.heap.size+1+1) (by show w.heap.size+1+1<U.heap.size; omega)).trans (J HE2);have hr3:=(hb5.block (w.heap.size+1+1+1) (by show w.heap.size+1+1+1<U.heap.size; omega)).trans (J HE3);have hrl:=(hb5.block Tl (by show Tl<U.heap.size; omega)).trans (J HRL)
 obtain⟨c0,c1,c2,c3⟩:=cT4 hr2;obtain⟨d0,d1,d2,d3⟩:=cT4 hr3;have z0:=frozen_of_row _ _ 0 _ _ hr2;have z1:=frozen_of_row _ _ 1 _ _ hr2;have z2:=frozen_of_row _ _ 2 _ _ hr2;have z3:=frozen_of_row _ _ 3 _ _ hr2;have y0:=frozen_of_row _ _ 0 _ _ hr3;have y1:=frozen_of_row _ _ 1 _ _ hr3;have y2:=frozen_of_row _ _ 2 _ _ hr3;have y3:=frozen_of_row _ _ 3 _ _ hr3;have HR2:=O hr2;have HR3:=O hr3;have HRL5:=O hrl;have HB6:=O (Zc (J HB5) (Zc (Below.refl U.heap.size U).drew hb5 (Nat.le_refl _)) (by omega));have HLY3:=O ((J HLY2).keep (Zc (Below.refl U.heap.size U).drew hb5 (Nat.le_refl _)));clear hb5 hr2 hr3 hrl;unfold Rm;go_wp2_with fail
 refine kO hK (show _ from⟨(cR (J HRL5) 0),(cR (J HRL5) 1),(cR (J HRL5) 2),(cR (J HRL5) 3)⟩) (fun hHeld2=>?_);clear hK K;refine tO 3 fun K hK=>?_;go_simp;refine kO hK (show _ from⟨(cR ((Xt _ _ _ _ _ _ _ (by omega)).trans (J HRL5)) 0),(cR ((Xt _ _ _ _ _ _ _ (by omega)).trans (J HRL5)) 1),(cR ((Xt _ _ _ _ _ _ _ (by omega)).trans (J HRL5)) 2),(cR ((Xt _ _ _ _ _ _ _ (by omega)).trans (J HRL5)) 3)⟩) (fun hHeld2=>?_);clear hK K;refine tO 4 fun K hK=>?_;go_simp;refine kO hK (show _ from⟨(cR ((Xt _ _ _ _ _ _ _ (by omega)).trans ((Xt _ _ _ _ _ _ _ (by omega)).trans (J HRL5))) 0),(cR ((Xt _ _ _ _ _ _ _ (by omega)).trans ((Xt _ _ _ _ _ _ _ (by omega)).trans (J HRL5))) 1),(cR ((Xt _ _ _ _ _ _ _ (by omega)).trans ((Xt _ _ _ _ _ _ _ (by omega)).trans (J HRL5))) 2),(cR ((Xt _ _ _ _ _ _ _ (by omega)).trans ((Xt _ _ _ _ _ _ _ (by omega)).trans (J HRL5))) 3)⟩) (fun hHeld2=>?_);clear hK K;refine wpAnyH_done (by kernel_rfl) ?_ _;have htr:=Zsy w5 (w.heap.size+1+1) 47 29 (.slice ap an ac) (.slice rp rn rc) (.int .i64 le.size) (.int .i64 le.copies) (.int .i64 cn) (.int .i64 (-1)) (.int .i64 (-1)) (.int .i64 (-1)) _ _ _ _ _ _ _ _ (J HR2) (J HR3);clear c0 d0 z0 y0 c1 d1 z1 y1 c2 d2 z2 y2 c3 d3 z3 y3;generalize World.setCell (World.setCell (World.setCell (World.setCell (World.setCell (World.setCell (World.setCell (World.setCell w5 _ _) _ _) _ _) _ _) _ _) _ _) _ _) _ _=Z at htr ⊢;obtain⟨hq2,hq3,hq,hqs,hqo⟩:=htr;have HQ2:=O hq2;have HQ3:=O hq3;have HQ:=O hq;have HQS:=O hqs
 have HQO:=O hqo;clear hq2 hq3 hq hqs hqo;go_wp2;refine bodyPost_ret (Cn (fn:=Tryz.f11) (p:=4) (q:=5) (px:=47) (uy:=29) rfl _ _ (w.heap.size+1+1) 47 #[.slice ap an ac,.slice rp rn rc,.int .i64 le.size,.int .i64 le.copies] (0,0) _ (w.heap.size+1+1+1) 29 #[.int .i64 cn,.int .i64 (-1),.int .i64 (-1),.int .i64 (-1)] (0,0) _ rfl (J HQ2) Tryz.underlying47 rfl (Tryz.infLyK.trans rfl) rfl (J HQ3) Tryz.underlying29 rfl (Tryz.infPfK.trans rfl)) rfl ?_;have h6:=J HB6;have h6z:=h6.size;have hqo:=J HQO;have hqs:=J HQS;refine⟨.slice ap an ac,.slice rp rn rc,pvs,?_,?_,⟨hqo.1.trans h6.os,hqo.2.1.trans h6.tape,hqo.2.2.trans h6.output,by omega,fun q hq9=>(J HQ q (by omega) (by omega)).trans (h6.block q hq9)⟩⟩
 ·rw [← J HLE,← J HCN]
 ·rw [← J HLE];exact(J HLY3).same (fun q hq9=>J HQ q (by omega) (by omega)) (by omega)
structure Yge (T:Yc):Prop where
 a:T.ag.length*8<=140737488351232
 r:T.rs.length*8<=140737488351232
 s:T.ss.length*8<=140737488351232
section
variable {P:Program} {ops:Array Oper} {Q:Exit->Act->World->Prop} {md:Region.Mode} {C:World->Prop} {d:Nat}
def Nb (P:Program)(md:Region.Mode)(ops:Array Oper)(Q:Exit->Act->World->Prop)(C:World->Prop)(d:Nat):Nat->Array Bool->Act->World->Prop
 | 0,L,a,w=>Region.ready md ops L=[]∧Q .normal a w
 | n+1,L,a,w=>(Region.ready md ops L=[]->Q .normal a w)∧∀ i ∈ Region.ready md ops L,wpOp P ops Q i (fun a' w'=>((L.setIfInBounds i true).getD d true=false->C w')∧Nb P md ops Q C d n (L.setIfInBounds i true) a' w') a w
theorem Zio:∀(n:Nat) (L:Array Bool) (a:Act) (w:World),Nb P md ops Q C d n L a w->wpAny P md ops Q n L a w
 | 0,_,_,_,h=>h
 | n+1,_,_,_,h=>⟨h.1,fun i hi=>wpOp_mono (fun a' w' h'=>Zio n _ a' w' h'.2) (h.2 i hi)⟩
theorem Zll {i:Nat}{oi od:Oper}{v:Value}(hi:ops[i]?=some oi)(hd:ops[d]?=some od)(hwait:∃ e ∈ od.after,Region.binds md e=true∧e.on=i)
 (hsel:∀(j:Nat) (o:Oper) cs b,ops[j]?=some o->o.op≠.select cs b) (hQ:∀ c a w,Q (.panic c) (a.put oi.dst v) w->Q (.panic c) a w) :
 ∀(n:Nat) (L:Array Bool) (a:Act) (w:World),(∀ j oj,ops[j]?=some oj->j≠i->L.getD j true=false->(∀ e ∈ oj.after,Region.binds md e=true->e.on≠i)->oi.apart ops oj=true) ->
  i ∈ Region.ready md ops L->YieldsIf P ops C oi v a->L.getD d true=false->C w->Nb P md ops Q C d n (L.setIfInBounds i true) (a.put oi.dst v) w->Nb P md ops Q C d (n+1) L a w:=by
 intro n;induction n with
 | zero =>
  intro L a w _ hr hy _ hC H;refine⟨fun h=>(by rw [h] at hr; cases hr),fun j hj=>?_⟩;by_cases hji:j=i
  ·subst hji;exact hy.wpOp hi hC ⟨fun _=>hC,H⟩
  ·have hx:=ready_mono hj hji;rw [H.1] at hx;cases hx
 | succ n ih =>
  intro L a w hfree hr hy hLd hC H;refine⟨fun h=>(by rw [h] at hr; cases hr),fun j hj=>?_⟩;by_cases hji:j=i
  ·subst hji;exact hy.wpOp hi hC ⟨fun _=>hC,H⟩
  ·have h1:=H.2 j (ready_mono hj hji);obtain⟨hun,oj,hoj,hall⟩:=mem_ready.1 hj;have hiu:=(mem_ready.1 hr).1;have hnot:∀ e ∈ oj.after,Region.binds md e=true->e.on≠i:=fun e he hb hq=>by
    have k1:=hall e he hb;rw [hq] at k1;rcases Nat.lt_or_ge i L.size with h' | h'
    ·simp [h'] at hiu k1;rw [hiu] at k1;cases k1
    ·simp [Array.getElem?_eq_none h'] at k1
   have hjd:j≠d:=fun e=>by
    subst e;rw [hoj] at hd;injection hd with hd;subst hd;obtain⟨e,he,hb,hq⟩:=hwait;exact hnot e he hb hq
   have h2:=wpOp_putIf hoj (hfree j oj hoj hji hun hnot) (fun cs b=>hsel i oi cs b hi) (fun cs b=>hsel j oj cs b hoj) hQ hy h1;refine wpOp_mono (fun a' w' h3=>?_) h2;have hLj:(L.setIfInBounds j true).getD d true=false:=by rw [getD_set_ne true hjd]; exact hLd
   have hid:i≠d:=fun e=>by
    subst e;rw [hi] at hd;injection hd with hd;subst hd;obtain⟨e,he,hb,hq⟩:=hwait;obtain⟨-,oi',hoi',hall'⟩:=mem_ready.1 hr;rw [hi] at hoi';injection hoi' with hoi';subst hoi';have k1:=hall' e he hb;rw [hq] at k1;rcases Nat.lt_or_ge i L.size with h' | h'
    ·simp [h'] at hiu k1;rw [hiu] at k1;cases k1
    ·simp [Array.getElem?_eq_none h'] at k1
   have hC':C w':=h3.2.1 (by rw [getD_set_ne true hjd,getD_set_ne true hid]; exact hLd);refine⟨fun _=>hC',ih (L.setIfInBounds j true) a' w' (fun k ok hk hki hku hno=>?_) (ready_mono hr (Ne.symm hji)) h3.1 hLj hC' ?_⟩
   ·refine hfree k ok hk hki ?_ hno;by_cases hjk:j=k
    ·subst hjk; exact hun
    ·rw [getD_set_ne true hjk] at hku; exact hku
   ·rw [Array.setIfInBounds_comm _ _ hji];exact h3.2.2
theorem Zqb {i:Nat}{oi od:Oper}{v:Value}{n:Nat}{L:Array Bool}{a:Act}{w:World}(hi:ops[i]?=some oi)(hd:ops[d]?=some od)(hw:(od.after.any fun e=>Region.binds md e&&e.on==i)=true)
 (hs:Region.noSelect ops=true) (hf:Region.free md ops L i=true) (hr:(Region.ready md ops L).contains i=true) (hLd:L.getD d true=false)
 (hQ:∀ c a w,Q (.panic c) (a.put oi.dst v) w->Q (.panic c) a w) (hy:YieldsIf P ops C oi v a) (hC:C w)
 (h:Nb P md ops Q C d n (L.setIfInBounds i true) (a.put oi.dst v) w):Nb P md ops Q C d (n+1) L a w :=
 Zll hi hd (by
  obtain⟨k,hk,hq⟩:=Array.any_eq_true.1 hw;simp only [Bool.and_eq_true,beq_iff_eq] at hq;exact⟨_,Array.getElem_mem hk,hq.1,hq.2⟩) (Region.noSelect_spec hs) hQ n L a w (Region.free_spec hi hf) (by simpa using hr) hy hLd hC h
theorem Zip {i:Nat}{o:Oper}{n:Nat}{L:Array Bool}{a:Act}{w:World}(hr:Region.ready md ops L=[i])(ho:ops[i]?=some o)
 (h:∀ K':Act->World->Prop,_root_.Go.Shut (∀ a w,((L.setIfInBounds i true).getD d true=false->C w)->Nb P md ops Q C d n (L.setIfInBounds i true) a w->K' a w)->if Region.wanted o (yielded ops a.tmps)=true then Oper.wp P o a w K' Q else K' (a.put o.dst undef) w):Nb P md ops Q C d (n+1) L a w:=by
 refine⟨fun h0=>(by rw [hr] at h0; cases h0),fun j hj=>?_⟩;rw [hr] at hj;obtain rfl:j=i:=by simpa using hj
 exact wpOp_step ho (fun K' hK=>h K' (fun a w h1 h2=>hK a w ⟨h1,h2⟩))
theorem Jn {L:Array Bool}{a:Act}{w:World}(hr:Region.ready md ops L=[])(h:Q .normal a w):∀ n,Nb P md ops Q C d n L a w
 | 0=>⟨hr,h⟩
 | _+1=>⟨fun _=>h,by rw [hr]; simp⟩
theorem Xb {id:Nat}{a:Act}{w:World}(hm:P.follows .mixedOrders=true)(h:Nb P .any ops Q C d ops.size (Array.replicate ops.size false) a w.drew):(Code.region id ops true).wp P Q a w :=
 wp_region_any hm (Zio _ _ _ _ h)
end
section
variable {P:Program} {ops:Array Oper} {Q:Exit->Act->World->Prop} {md:Region.Mode} {C:World->Prop} {d:Nat}
theorem Zlz {i:Nat}{oi:Oper}{v:Value}(hi:ops[i]?=some oi)(B:Nat->Bool)(hB:∀ j oj,ops[j]?=some oj->B j=true->∃ e ∈ oj.after,Region.binds md e=true∧(e.on=i∨B e.on=true))(hBi:B i=false)(hBd:B d=true)
 (hsel:∀(j:Nat) (o:Oper) cs b,ops[j]?=some o->o.op≠.select cs b) (hQ:∀ c a w,Q (.panic c) (a.put oi.dst v) w->Q (.panic c) a w) :
 ∀(n:Nat) (L:Array Bool) (a:Act) (w:World),(∀ j oj,ops[j]?=some oj->j≠i->L.getD j true=false->(∀ e ∈ oj.after,Region.binds md e=true->e.on≠i)->oi.apart ops oj=true) ->
  i ∈ Region.ready md ops L->YieldsIf P ops C oi v a->(∀ j,B j=true->L.getD j true=false)->C w->Nb P md ops Q C d n (L.setIfInBounds i true) (a.put oi.dst v) w->Nb P md ops Q C d (n+1) L a w:=by
 intro n;have hid:i≠d:=fun e=>by rw [e,hBd] at hBi; cases hBi
 induction n with
 | zero =>
  intro L a w _ hr hy _ hC H;refine⟨fun h=>(by rw [h] at hr; cases hr),fun j hj=>?_⟩;by_cases hji:j=i
  ·subst hji;exact hy.wpOp hi hC ⟨fun _=>hC,H⟩
  ·have hx:=ready_mono hj hji;rw [H.1] at hx;cases hx
 | succ n ih =>
  intro L a w hfree hr hy hL hC H;refine⟨fun h=>(by rw [h] at hr; cases hr),fun j hj=>?_⟩;by_cases hji:j=i
  ·subst hji;exact hy.wpOp hi hC ⟨fun _=>hC,H⟩
  ·have h1:=H.2 j (ready_mono hj hji);obtain⟨hun,oj,hoj,hall⟩:=mem_ready.1 hj;have hiu:=(mem_ready.1 hr).1;have hno:∀ e ∈ oj.after,Region.binds md e=true->∀ x,L.getD x true=false->e.on≠x:=fun e he hb x hx hq=>by
    have k1:=hall e he hb;rw [hq] at k1;rcases Nat.lt_or_ge x L.size with h' | h'
    ·simp [h'] at hx k1;rw [hx] at k1;cases k1
    ·simp [Array.getElem?_eq_none h'] at k1
   have hnot:∀ e ∈ oj.after,Region.binds md e=true->e.on≠i:=fun e he hb=>hno e he hb i hiu;have hjB:B j=false:=by
    cases hb:B j with
    | false=>rfl
    | true =>
     obtain⟨e,he,hb1,hq⟩:=hB j oj hoj hb;rcases hq with hq | hq
     ·exact absurd hq (hnot e he hb1)
     ·exact absurd rfl (hno e he hb1 e.on (hL _ hq))
   have hjd:j≠d:=fun e=>by rw [e,hBd] at hjB; cases hjB
   have h2:=wpOp_putIf hoj (hfree j oj hoj hji hun hnot) (fun cs b=>hsel i oi cs b hi) (fun cs b=>hsel j oj cs b hoj) hQ hy h1;refine wpOp_mono (fun a' w' h3=>?_) h2;have hLj:∀ k,B k=true->(L.setIfInBounds j true).getD k true=false:=fun k hk=>by
    have hjk:j≠k:=fun e=>by rw [e,hk] at hjB; cases hjB
    rw [getD_set_ne true hjk]; exact hL k hk
   have hC':C w':=h3.2.1 (by rw [getD_set_ne true hjd,getD_set_ne true hid]; exact hL d hBd);refine⟨fun _=>hC',ih (L.setIfInBounds j true) a' w' (fun k ok hk hki hku hno=>?_) (ready_mono hr (Ne.symm hji)) h3.1 hLj hC' ?_⟩
   ·refine hfree k ok hk hki ?_ hno;by_cases hjk:j=k
    ·subst hjk; exact hun
    ·rw [getD_set_ne true hjk] at hku; exact hku
   ·rw [Array.setIfInBounds_comm _ _ hji];exact h3.2.2
def upV (md:Region.Mode)(ops:Array Oper)(i:Nat):List Nat:=(List.range ops.size).foldl (fun acc j=>match ops[j]? with
 | some oj=>if (oj.after.any fun e=>Region.binds md e&&(e.on==i||acc.contains e.on))=true then acc++[j] else acc
 | none=>acc) []
def okV (md:Region.Mode)(ops:Array Oper)(L:Array Bool)(d i:Nat)(B:List Nat):Bool :=
 B.contains d&&(!(B.contains i)&&B.all fun j=>!(L.getD j true)&&(match ops[j]? with
  | some oj=>oj.after.any fun e=>Region.binds md e&&(e.on==i||B.contains e.on)
  | none=>false))
theorem vT (i:Nat){oi:Oper}{v:Value}{n:Nat}{L:Array Bool}{a a':Act}{w:World}(hC:C w)(h:Nb P md ops Q C d n (L.setIfInBounds i true) a' w)(hi:ops[i]?=some oi:=by rfl)
 (hk:(okV md ops L d i (upV md ops i)&&(Region.noSelect ops&&(Region.free md ops L i&&(Region.ready md ops L).contains i)))=true:=by kernel_rfl) (hg:Region.wanted oi (yielded ops a.tmps)=true:=by rfl)
 (hy:∀(w:World),C w->Sem.run P (execOp a.eval oi) w=Result.ok (Next.value v) w:=by intro V hV; (try dsimp only at hV); go_simp; all_goals (with_reducible rfl)) (hQ:∀ c a w,Q (.panic c) (a.put oi.dst v) w->Q (.panic c) a w:=by exact fun _ _ _ h=>h) (ha:a.put oi.dst v=a':=by(try simp only [Act.put,zA,zB,zC,zD,zE,zF]); with_reducible rfl):Nb P md ops Q C d (n+1) L a w:=by
 subst ha;simp only [Bool.and_eq_true] at hk;obtain⟨h1,h2,h3,h4⟩:=hk;unfold okV at h1;simp only [Bool.and_eq_true] at h1;obtain⟨b1,b2,b3⟩:=h1;have b2:(upV md ops i).contains i=false:=by simpa using b2
 rw [List.all_eq_true] at b3;refine Zlz hi (fun j=>(upV md ops i).contains j) (fun j oj hoj hj=>?_) b2 b1 (Region.noSelect_spec h2) hQ n L a w (Region.free_spec hi h3) (by simpa using h4) (Or.inl ⟨hg,hy⟩) (fun j hj=>?_) hC h
 ·have h5:=b3 j (by simpa using hj);rw [hoj] at h5;simp only [Bool.and_eq_true] at h5;obtain⟨k,hk,hq⟩:=Array.any_eq_true.1 h5.2;simp only [Bool.and_eq_true,Bool.or_eq_true,beq_iff_eq] at hq;exact⟨_,Array.getElem_mem hk,hq.1,hq.2⟩
 ·have h5:=b3 j (by simpa using hj);simp only [Bool.and_eq_true] at h5;simpa using h5.1
theorem vD (i:Nat){oi:Oper}{v:Value}{n:Nat}{L:Array Bool}{a a':Act}{w:World}(hC:C w)(h:Nb P md ops Q C d n (L.setIfInBounds i true) a' w)(hi:ops[i]?=some oi:=by rfl)
 (hk:(okV md ops L d i (upV md ops i)&&(Region.noSelect ops&&(Region.free md ops L i&&(Region.ready md ops L).contains i)))=true:=by kernel_rfl) (hg:Region.wanted oi (yielded ops a.tmps)=true:=by rfl)
 (hy:∀(w:World),C w->Sem.run P (execOp a.eval oi) w=Result.ok (Next.value v) w:=by intro V hV; (repeat obtain⟨_,hV⟩:=hV); go_simp; all_goals (with_reducible rfl)) (hQ:∀ c a w,Q (.panic c) (a.put oi.dst v) w->Q (.panic c) a w:=by exact fun _ _ _ h=>h) (ha:a.put oi.dst v=a':=by(try simp only [Act.put,zA,zB,zC,zD,zE,zF]); with_reducible rfl):Nb P md ops Q C d (n+1) L a w :=
 vT i hC h hi hk hg hy hQ ha
theorem vO (i:Nat){oi:Oper}{n:Nat}{L:Array Bool}{a:Act}{w:World}(h:∀ K':Act->World->Prop,_root_.Go.Shut (∀ a w,((L.setIfInBounds i true).getD d true=false->C w)->Nb P md ops Q C d n (L.setIfInBounds i true) a w->K' a w)->if Region.wanted oi (yielded ops a.tmps)=true then Oper.wp P oi a w K' Q else K' (a.put oi.dst undef) w)(hr:Region.ready md ops L=[i]:=by kernel_rfl)(ho:ops[i]?=some oi:=by rfl):Nb P md ops Q C d (n+1) L a w:=Zip hr ho h
theorem tE (i:Nat){W:World}{oi:Oper}{v:Value}{n:Nat}{L:Array Bool}{a a':Act}{j:Nat}(h:wpAnyH P md ops Q (fun V=>∃ k,V=W.drewN k) n (L.setIfInBounds i true) a' (W.drewN j))(h0:ops[i]?=some oi:=by rfl)(h1:(Region.noSelect ops&&(Region.free md ops L i&&(Region.ready md ops L).contains i))=true:=by kernel_rfl)(hg:Region.wanted oi (yielded ops a.tmps)=true:=by rfl)
 (hy:∀ k,Sem.run P (execOp a.eval oi) (W.drewN k)=Result.ok (Next.value v) (W.drewN k):=by intro k; go_simp; all_goals (with_reducible rfl)) (hq:∀(c:List PanicEntry) (a:Act) (w:World),Q (Exit.panic c) (a.put oi.dst v) w->Q (Exit.panic c) a w:=by exact fun _ _ _ h=>h) (ha:a.put oi.dst v=a':=by(try simp only [Act.put,zA,zB,zC,zD,zE,zF]); with_reducible rfl):wpAnyH P md ops Q (fun V=>∃ k,V=W.drewN k) (n+1) L a (W.drewN j):=by
 subst ha;simp only [Bool.and_eq_true] at h1;exact wpAnyH_take h0 h1.1 h1.2.1 h1.2.2 hq (Or.inl ⟨hg,fun V hV=>by obtain⟨k,rfl⟩:=hV; exact hy k⟩) ⟨j,rfl⟩ h
end
end Go.Proofs.YtkenknfgeoecbaaGreatDoor
