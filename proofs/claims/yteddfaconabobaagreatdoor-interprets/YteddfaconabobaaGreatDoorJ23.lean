import Derived.Test.YteddfaconabobaaGreatDoorPk
import Derived.Test.YteddfaconabobaaGreatDoorJ21
import Derived.Test.YteddfaconabobaaGreatDoorPkU
import Derived.Deep.RegionHeld3
import Derived.Laws.CopyOwn
import Derived.WideShapes
import Derived.Test.YteddfaconabobaaGreatDoorJ16
import Derived.Laws.OwnMore
import Derived.Test.YteddfaconabobaaGreatDoorJ12
import Derived.Test.YteddfaconabobaaGreatDoorFrL
namespace Go.Proofs.YteddfaconabobaaGreatDoor
open Go.RowKit
set_option maxHeartbeats 2000000 in
set_option maxRecDepth 100000 in
theorem Zec (rb:Nat)(fv scv vv tv:Value)(kind steps:Int)(g n c:Nat)(w:World)(h:Gv w rb fv scv (.slice (some ⟨g,0,none⟩) (n+1) c) kind vv tv steps)(hn:n+1≤c)(hn2:n≤1000000) :
 Calls Tryz.prog 91 #[.pointer (some ⟨rb,0,none⟩)] w fun e w'=>(∃ v,e=.returned v)∧Ok rb w w'∧Gv w' rb fv scv (.slice (some ⟨g,0,none⟩) n c) kind vv tv steps:=by
 have c2:=cR h 2;have d2:w.drew.cell? ⟨rb,2,none⟩=some (.slice (some ⟨g,0,none⟩) (n+1) c):=c2;have z2:=frozen_of_row _ _ 2 _ _ h;have y2:w.drew.frozen? ⟨rb,2,none⟩=false:=z2;have HX:=J (show Gv (w.drew.setCell ⟨rb,2,none⟩ (.slice (some ⟨g,0,none⟩) n c)) rb fv scv (.slice (some ⟨g,0,none⟩) n c) kind vv tv steps from heap_setCell_same _ _ 2 _ _ _ (show Gv w.drew rb fv scv (.slice (some ⟨g,0,none⟩) (n+1) c) kind vv tv steps from h));have HO:=J (Zba (g:=rb) (j:=2) (v:=.slice (some ⟨g,0,none⟩) n c) (Below.refl w.heap.size w).drew rfl);clear h;go_enter Tryz.func91,Tryz.ntmps91
 go_upto_region 0 with fail
 go_region
 all_goals
  go_wp2;go_returns;exact⟨⟨_,rfl⟩,G HO,G HX⟩
set_option maxHeartbeats 2000000 in
theorem Zmw (rb:Nat)(fv scv frv vv tv:Value)(vp:Option Addr)(vn vc:Nat)(kind k steps:Int)(w:World)(h:Gv w rb fv scv frv kind vv tv steps) :
 Calls Tryz.prog 92 #[.pointer (some ⟨rb,0,none⟩),.int .i64 k,.slice vp vn vc] w fun e w'=>(∃ v,e=.returned v)∧Ok rb w w'∧Gv w' rb fv scv frv k (.slice vp vn vc) tv steps:=by
 have c3:=cR h 3;have z3:=frozen_of_row _ _ 3 _ _ h;have h1:Gv (w.setCell ⟨rb,3,none⟩ (.int .i64 k)) rb fv scv frv k vv tv steps:=heap_setCell_same _ _ 3 _ _ _ h;have c4:=cR h1 4;have z4:=frozen_of_row _ _ 4 _ _ h1;have h2:Gv ((w.setCell ⟨rb,3,none⟩ (.int .i64 k)).setCell ⟨rb,4,none⟩ (.slice vp vn vc)) rb fv scv frv k (.slice vp vn vc) tv steps:=heap_setCell_same _ _ 4 _ _ _ h1;have HX:=J h2;have HO:=J (show Ok rb w ((w.setCell ⟨rb,3,none⟩ (.int .i64 k)).setCell ⟨rb,4,none⟩ (.slice vp vn vc)) from⟨rfl,rfl,rfl,by simp,fun q hq=>(heap_setCell_other _ _ _ _ hq).trans (heap_setCell_other _ _ _ _ hq)⟩);clear h h1 h2;go_enter Tryz.func92,Tryz.ntmps92
 go_wp2;go_returns;exact⟨⟨_,rfl⟩,G HO,G HX⟩
theorem Tryz.infoPt:(Tryz.prog.info? 149).map (fun i=>(i.zero,i.size,i.bytes))=some (some (.pointer none),1,8):=by kernel_rfl
set_option maxHeartbeats 4000000 in
set_option maxRecDepth 100000 in
theorem Zbh (w0 w:World)(rb b:Nat)(st:List Mh)(fp:Option Addr)(fcp:Nat)(tv vv scv:Value)(tr:List (Int×List Int))(es:List Value)(kind steps:Int)(hS:Xc w0 w rb b st (.slice fp st.length fcp) tv tr es)(fn:Zn)(k fb fo fc N:Nat)(A:Nat→Array Value)(hrow:Gv w rb (.slice (some ⟨fb,fo,none⟩) N fc) scv (.slice fp st.length fcp) kind vv tv steps)(hk:k<N)
 (hfs:∀ i,i<N→w0.rangeAt fb (fo+i*5) (A i).toList) (hfb:fb<w0.heap.size) (hfn:Oz w0 (A k) fn) (hH:FnH fn) (ws outs:List Int) (wp op:Option Addr) (wc oc:Nat) (hW:Lv w (.slice wp ws.length wc) ws) (hOu:Li w0 (.slice op outs.length oc) outs) (hwl:ws.length=Xe fn.params) (hws:∀ n ∈ ws,0≤n∧n<18446744073709551616) (hst:st.length≤100000) :
 Calls Tryz.prog 42 #[.pointer (some ⟨rb,0,none⟩),.int .i64 (k:Int),.slice wp ws.length wc,.slice op outs.length oc] w fun e w'=>(∃ v,e=.returned v)∧∃ f fp' fc',f.x=Jj fn ws outs∧f.op=op∧f.oc=oc∧IOk (Jj fn ws outs)∧Gv w' rb (.slice (some ⟨fb,fo,none⟩) N fc) scv (.slice fp' (st.length+1) fc') kind vv tv steps∧Xc w0 w' rb b (f :: st) (.slice fp' (st.length+1) fc') tv tr es∧Below b w w'∧Zmv rb 149 w w':=by
 obtain⟨ti,hti,hty0,hty1,hty2⟩:=Xs Tryz.infoPt;obtain⟨pv,hv,sv,bv,B,hA,hD⟩:=hfn;obtain⟨pp,pc,rfl⟩:=hD.ps.shape;obtain⟨qh,ch,rfl⟩:=hD.hs.shape;obtain⟨qs,cs,rfl⟩:=hD.ss.shape;obtain⟨qb,cb,rfl⟩:=hD.bs.shape;have hz0:=hS.low.size;have hw0b:=hS.w0b;have hrb:=hS.rbb;have hrl:=Zd hrow;have HS:=J hS;have HROW:=J hrow;have hcell:∀ j y,#[.slice pp fn.params.length pc,.int .i64 fn.results,.slice qh fn.homes.length ch,.slice qs fn.slots.length cs,.slice qb fn.blocks.length cb].toList[j]?=some y→w0.cell? ⟨fb,fo+k*5+j,none⟩=some y:=fun j y hy=>by
  have:=hfs k hk j y (by rw [hA]; exact hy);exact this
 have HCK:=J (fun(V:World) (hb:Below w.heap.size w V)=>show(fun V=>V.cell? ⟨rb,2,none⟩=some (.slice fp st.length fcp)∧V.cell? ⟨rb,0,none⟩=some (.slice (some ⟨fb,fo,none⟩) N fc)∧V.cell? ⟨fb,fo+k*5,none⟩=some (.slice pp fn.params.length pc)∧V.cell? ⟨fb,fo+k*5+1,none⟩=some (.int .i64 fn.results)∧V.cell? ⟨fb,fo+k*5+2,none⟩=some (.slice qh fn.homes.length ch)∧V.cell? ⟨fb,fo+k*5+3,none⟩=some (.slice qs fn.slots.length cs)∧V.cell? ⟨fb,fo+k*5+4,none⟩=some (.slice qb fn.blocks.length cb)) V from by
  have hr:=(hb.block rb hrl).trans hrow;have hx:∀ j y,#[.slice pp fn.params.length pc,.int .i64 fn.results,.slice qh fn.homes.length ch,.slice qs fn.slots.length cs,.slice qb fn.blocks.length cb].toList[j]?=some y→V.cell? ⟨fb,fo+k*5+j,none⟩=some y:=fun j y hy=>(hb.cell (p:=⟨fb,fo+k*5+j,none⟩) (by show fb<w.heap.size; omega)).trans ((hS.low.cell (p:=⟨fb,fo+k*5+j,none⟩) hfb).trans (hcell j y hy));exact⟨(cR hr 2),(cR hr 0),hx 0 _ rfl,hx 1 _ rfl,hx 2 _ rfl,hx 3 _ rfl,hx 4 _ rfl⟩)
 have HC0:=J (G HCK w.drew (Below.refl _ _).drew);have HNF:=J (Zdy w0 w.drew fn ws outs pp qh qs qb wp op pc ch cs cb wc oc B hD hS.low.drew (Yx hW (Below.refl _ _).drew) hOu (Zjf hH) (fun j hj=>by have:=hH.sw j hj; omega) hH.sl hH.pl hH.hl hwl hws);have hkN:(k:Int)<N:=by omega
 clear hS hrow hfs hA hD hH hW hOu hwl hws hcell;go_enter Tryz.func42,Tryz.ntmps42
 go_upto_region 0 with fail
 refine Xw (C:=fun V=>V.cell? ⟨rb,2,none⟩=some (.slice fp st.length fcp)∧V.cell? ⟨rb,0,none⟩=some (.slice (some ⟨fb,fo,none⟩) N fc)∧V.cell? ⟨fb,fo+k*5,none⟩=some (.slice pp fn.params.length pc)∧V.cell? ⟨fb,fo+k*5+1,none⟩=some (.int .i64 fn.results)∧V.cell? ⟨fb,fo+k*5+2,none⟩=some (.slice qh fn.homes.length ch)∧V.cell? ⟨fb,fo+k*5+3,none⟩=some (.slice qs fn.slots.length cs)∧V.cell? ⟨fb,fo+k*5+4,none⟩=some (.slice qb fn.blocks.length cb)) (d:=19) (by kernel_rfl) ?_;refine uT 0 (G HC0) ?_;try simp only [Act.put,zA,zB,zC,zD,zE]
 refine uT 1 (G HC0) ?_;try simp only [Act.put,zA,zB,zC,zD,zE,zF]
 refine uT 2 (G HC0) ?_;try simp only [Act.put,zA,zB,zC,zD,zE,zF]
 refine uT 3 (G HC0) ?_;try simp only [Act.put,zA,zB,zC,zD,zE,zF]
 refine uT 4 (G HC0) ?_;try simp only [Act.put,zA,zB,zC,zD,zE,zF]
 refine uT 5 (G HC0) ?_;try simp only [Act.put,zA,zB,zC,zD,zE,zF]
 refine uT 6 (G HC0) ?_;try simp only [Act.put,zA,zB,zC,zD,zE,zF]
 refine uT 7 (G HC0) ?_;try simp only [Act.put,zA,zB,zC,zD,zE,zF]
 refine uT 8 (G HC0) ?_;try simp only [Act.put,zA,zB,zC,zD,zE,zF]
 refine uT 9 (G HC0) ?_;try simp only [Act.put,zA,zB,zC,zD,zE,zF]
 refine uT 10 (G HC0) ?_;try simp only [Act.put,zA,zB,zC,zD,zE,zF]
 refine uT 11 (G HC0) ?_;try simp only [Act.put,zA,zB,zC,zD,zE,zF]
 refine uT 12 (G HC0) ?_;try simp only [Act.put,zA,zB,zC,zD,zE,zF]
 refine uT 13 (G HC0) ?_;try simp only [Act.put,zA,zB,zC,zD,zE,zF]
 refine uO 14 fun K hK=>?_;go_simp;refine(G HNF).mono ?_;rintro e w1 ⟨q,lo,hi,lg,sp,sc,gs,rfl,hlo,hF,hb1,hok⟩;have hb1':Below w.heap.size w w1:=⟨hb1.os,hb1.tape,hb1.output,hb1.size,hb1.block⟩;have HC1:=J (G HCK w1 hb1');have HF1:=J hF;have HB1:=J hb1';have HOK:=J hok;have HLO:=J hlo;clear hF hb1 hb1' hok hlo;refine hK.out _ _ (fun _=>G HC1) ?_;clear hK K;try simp only [Act.put,zA,zB,zC,zD,zE,zF]
 refine uO 15 fun K hK=>?_;go_simp;obtain⟨r2,hb2,hz2⟩:=Yj w1 (.cells #[.pointer (some ⟨q,0,none⟩)] 149 (0,0));have HB2:=J (show Below w.heap.size w (w1.alloc (.cells #[.pointer (some ⟨q,0,none⟩)] 149 (0,0))) from Za (G HB1) hb2 (G HB1).size);have HF2:=J (Yk (G HF1) hb2);have HOW2:=J ((G HS).grow (G HB2)).fr;have HC2:=J (G HCK _ (G HB2));have HBB:=J (show b≤(w1.alloc (.cells #[.pointer (some ⟨q,0,none⟩)] 149 (0,0))).heap.size by have:=(G HB2).size; omega);have c0:=cR r2 0;clear r2 hb2 hz2;refine hK.out _ _ (fun _=>G HC2) ?_;clear hK K;try simp only [Act.put,zA,zB,zC,zD,zE,zF]
 generalize World.alloc w1 _=W2 at HB2 HF2 HOW2 HC2 HBB c0 ⊢;refine uO 16 fun K hK=>?_;refine Rl rfl (.tmp 12) (.tmp 23) 108 rfl b 149 ti _ 1 8 Tryz.underlying108 hti hty0 hty1 hty2 rfl (by decide) (.slice fp st.length fcp) st.length (Nd st) (by simp [Act.eval]) (G HOW2) ⟨w1.heap.size,0,none⟩ 1 1 [.pointer (some ⟨q,0,none⟩)] (by simp [Act.eval]) rfl (by intro j u hj; match j,hj with | 0,hj=>(simp at hj; subst hj; exact c0)) (by intro u hu; simp at hu; subst hu; rfl) (by unfold maxLen; omega) (by omega) (G HBB) ?_;intro v7 w7 hown7 hgr7 hblk7;obtain⟨fp7,fc7,rfl⟩:=Zm hown7;have hP:=Xc.push (f:=⟨Jj fn ws outs,q,lo,hi,lg,qb,sp,op,cb,sc,oc,gs,B⟩) (G HS) ⟨_,G HROW⟩ (G HB2) (G HF2) (G HLO) hgr7 hown7 hblk7 2 (.slice fp7 (st.length+1) fc7);have hrw:Gv w7 rb (.slice (some ⟨fb,fo,none⟩) N fc) scv (.slice fp st.length fcp) kind vv tv steps:=by
  have h1:=((G HB2).block rb (Zd (G HROW))).trans (G HROW);exact(hgr7.block rb (Zd h1) (fun e=>Xu (G HOW2) h1 (by decide) e.symm)).trans h1
 have z2:=frozen_of_row _ _ 2 _ _ hrw;have c2:=cR hrw 2;have HX:=J (show Gv (w7.setCell ⟨rb,2,none⟩ (.slice fp7 (st.length+1) fc7)) rb (.slice (some ⟨fb,fo,none⟩) N fc) scv (.slice fp7 (st.length+1) fc7) kind vv tv steps from heap_setCell_same _ _ 2 _ _ _ hrw);have HP:=J hP;have HC3:=J (show(fun V=>V.cell? ⟨rb,2,none⟩=some (.slice fp st.length fcp)∧V.cell? ⟨rb,0,none⟩=some (.slice (some ⟨fb,fo,none⟩) N fc)∧V.cell? ⟨fb,fo+k*5,none⟩=some (.slice pp fn.params.length pc)∧V.cell? ⟨fb,fo+k*5+1,none⟩=some (.int .i64 fn.results)∧V.cell? ⟨fb,fo+k*5+2,none⟩=some (.slice qh fn.homes.length ch)∧V.cell? ⟨fb,fo+k*5+3,none⟩=some (.slice qs fn.slots.length cs)∧V.cell? ⟨fb,fo+k*5+4,none⟩=some (.slice qb fn.blocks.length cb)) w7 from by
  obtain⟨g2,g0,h0,h1,h2,h3,h4⟩:=G HC2;have hk:∀ q,q<w0.heap.size→w7.heap[q]?=W2.heap[q]?:=fun q hq=>hgr7.block q (by have:=(G HB2).size; have:=(G HS).low.size; omega) (fun e=>by have:=((G HOW2).lt q e.symm).1; have:=(G HS).w0b; omega);exact⟨c2,(cR hrw 0),(World.cell?_of_block (hk fb hfb)).trans h0,(World.cell?_of_block (hk fb hfb)).trans h1,(World.cell?_of_block (hk fb hfb)).trans h2,(World.cell?_of_block (hk fb hfb)).trans h3,(World.cell?_of_block (hk fb hfb)).trans h4⟩)
 clear hown7 hgr7 hblk7 hP hrw c0;refine hK.out _ _ (fun _=>G HC3) ?_;clear hK K;try simp only [Act.put,zA,zB,zC,zD,zE,zF]
 refine uO 17 fun K hK=>?_;go_simp;refine hK.out _ _ (fun _=>G HC3) ?_;clear hK K;try simp only [Act.put,zA,zB,zC,zD,zE,zF]
 refine uO 18 fun K hK=>?_;go_simp;refine hK.out _ _ (fun _=>G HC3) ?_;clear hK K;try simp only [Act.put,zA,zB,zC,zD,zE,zF]
 refine uO 19 fun K hK=>?_;go_simp;refine hK.out _ _ (fun h=>(by cases h)) ?_;clear hK K;try simp only [Act.put,zA,zB,zC,zD,zE,zF]
 refine Gc (by kernel_rfl) ?_ _;go_wp2;go_returns;exact⟨⟨_,rfl⟩,⟨Jj fn ws outs,q,lo,hi,lg,qb,sp,op,cb,sc,oc,gs,B⟩,rfl,rfl,rfl,G HOK,fp7,fc7,G HX,(G HP).1,(G HP).2.1,(G HP).2.2⟩
theorem Zag {g:Nat}{a b c:World}(h:Ok g a b)(k:Ok g b c):Ok g a c:=⟨k.os.trans h.os,k.tape.trans h.tape,k.output.trans h.output,k.size.trans h.size,fun q hq=>(k.oth q hq).trans (h.oth q hq)⟩
theorem Mn {g b:Nat}{w w':World}(h:Ok g w w')(hb:b≤g):Below b w w':=⟨h.os,h.tape,h.output,Nat.le_of_eq h.size.symm,fun k hk=>h.oth k (by omega)⟩
theorem Zbi {w:World}{B e size n:Nat}{g c:Nat}{xs:List Value}(h:w.ownsRow B e size (.slice (some ⟨g,0,none⟩) n c) n xs):n≤c:=by
 rcases h.2 with⟨e,-⟩ | ⟨g',cap,cur,e,-,-,hnc,-⟩
 ·
  cases e
 ·
  injection e with e1 e2 e3;omega
set_option maxHeartbeats 2000000 in
theorem Zed (w0 w:World)(rb b:Nat)(f:Mh)(g c:Nat)(fv scv vv tv:Value)(tr:List (Int×List Int))(es:List Value)(kind steps:Int)(vp op:Option Addr)(vn vc on oc:Nat)(hS:Xc w0 w rb b [f] (.slice (some ⟨g,0,none⟩) (0+1) c) tv tr es)(hrow:Gv w rb fv scv (.slice (some ⟨g,0,none⟩) (0+1) c) kind vv tv steps) :
 Calls Tryz.prog 89 #[.pointer (some ⟨rb,0,none⟩),.slice vp vn vc,.slice op on oc] w fun e w'=>(∃ v,e=.returned v)∧Gv w' rb fv scv (.slice (some ⟨g,0,none⟩) 0 c) 1 (.slice vp vn vc) tv steps∧Xc w0 w' rb b [] (.slice (some ⟨g,0,none⟩) 0 c) tv tr es∧Ok rb w w':=by
 have HD:=J (Zec rb fv scv vv tv kind steps g 0 c w hrow (Zbi hS.fr) (by omega));have HS:=J hS;have HROW:=J hrow;clear hS hrow;go_enter Tryz.func89,Tryz.ntmps89
 go_wp2_with fail
 refine(G HD).mono ?_;rintro e w1 ⟨⟨v,rfl⟩,hO1,hR1⟩;have c2:=cR hR1 2;have HE:=J (Zmw rb fv scv (.slice (some ⟨g,0,none⟩) 0 c) vv tv vp vn vc kind 1 steps w1 hR1);have HR1:=J hR1;have HO1:=J hO1;clear hR1 hO1 HD;go_wp2_with fail
 refine(G HE).mono ?_;rintro e w2 ⟨⟨v,rfl⟩,hO2,hR2⟩;have HR2:=J hR2;have HO2:=J hO2;clear hR2 hO2 HE c2;go_wp2;go_returns;exact⟨⟨_,rfl⟩,G HR2,(((G HS).drop (R:=[]) rfl).own ⟨_,G HROW⟩ (Zag (G HO1) (G HO2))),Zag (G HO1) (G HO2)⟩
set_option maxHeartbeats 4000000 in
set_option maxRecDepth 100000 in
theorem Zee (w0 w:World)(rb b:Nat)(f c:Mh)(R:List Mh)(g n cap hv:Nat)(fv scv vv tv:Value)(tr:List (Int×List Int))(es:List Value)(kind steps:Int)(vals outs:List Int)(vp op:Option Addr)(vc oc:Nat)(hn:n=R.length)(hS:Xc w0 w rb b (f :: c :: R) (.slice (some ⟨g,0,none⟩) (n+1+1) cap) tv tr es)(hrow:Gv w rb fv scv (.slice (some ⟨g,0,none⟩) (n+1+1) cap) kind vv tv steps)(hn2:n≤100000)
 (hvo:w.ownsRow hv 62 1 (.slice vp vals.length vc) vals.length (uC vals)) (hhv:c.hi≤hv) (hrv:rb<hv) (hl:Li w0 (.slice op outs.length oc) outs) (hol:outs.length≤1000) (hin:∀ k,k<outs.length→0≤outs.getD k 0∧outs.getD k 0<c.x.v.length) (hle:outs.length≤vals.length) :
 Calls Tryz.prog 89 #[.pointer (some ⟨rb,0,none⟩),.slice vp vals.length vc,.slice op outs.length oc] w fun e w'=>(∃ v,e=.returned v)∧Gv w' rb fv scv (.slice (some ⟨g,0,none⟩) (n+1) cap) kind vv tv steps∧Xc w0 w' rb b ({ c with x:={ c.x with v:=Xp c.x.v outs vals } } :: R) (.slice (some ⟨g,0,none⟩) (n+1) cap) tv tr es∧Below b w w'∧∀ q,q<w.heap.size→q≠rb→q<c.lo∨c.hi≤q→w'.heap[q]?=w.heap[q]?:=by
 have hcap:=Zbi (n:=n+1+1) (xs:=Nd (f :: c :: R)) (by have:=hS.fr; simp only [List.length_cons,← hn] at this; exact this);have HD:=J (Zec rb fv scv vv tv kind steps g (n+1) cap w hrow hcap (by omega));have HS:=J hS;have HROW:=J hrow;have HVO:=J hvo;have HL:=J hl;have HIN:=J hin;have HN:=J hn;clear hS hrow hvo hl hin hn;go_enter Tryz.func89,Tryz.ntmps89
 go_wp2_with fail
 refine(G HD).mono ?_;rintro e w1 ⟨⟨v,rfl⟩,hO1,hR1⟩;have c2:=cR hR1 2;have hS1:=((G HS).drop (R:=c :: R) (p:=some ⟨g,0,none⟩) (c:=cap) (by rw [G HN]; rfl)).own ⟨_,G HROW⟩ hO1;rw [List.length_cons,← G HN] at hS1;have hcell:w1.cell? ⟨g,n,none⟩=some (.pointer (some ⟨c.q,0,none⟩)):=by
  have hfr:=hS1.fr;rw [List.length_cons,← G HN] at hfr;obtain⟨g',e,-,hc⟩:=Nz hfr (k:=n) (by omega);injection e with e;injection e with e;subst e;rw [hc];have h2:Nd (c :: R)=Nd R++[.pointer (some ⟨c.q,0,none⟩)]:=by simp [Nd]
  rw [h2,G HN,List.getElem?_append_right (by simp [Nd])];simp [Nd]
 have hcc:=hS1.stk c List.mem_cons_self;have hvo1:w1.ownsRow hv 62 1 (.slice vp vals.length vc) vals.length (uC vals):=Yq (G HVO) fun g hg=>hO1.oth g (by have:=((G HVO).lt g hg).1; omega);have hset:=Ziu w0 c.x c.q c.lo c.hi c.lg c.bp c.sp c.op c.bc c.sc c.oc c.gs c.B outs vals op vp oc vc hv w1.drew (Yk hcc.1 (Below.refl _ _).drew) hS1.low.drew (by have:=hS1.w0b; have:=hS1.rbb; omega) (G HL) hol (G HIN) hvo1 hhv hle;have HSET:=J hset;have hgo:∀ g',(Value.slice (some ⟨g,0,none⟩) (n+1) cap).ownBlock=some g'→Zcw (c :: R) g':=hS1.fro;have hgout:=hgo g rfl c List.mem_cons_self;have hglt:=(hS1.fr.lt g rfl).2;have HSK:=J (fun(V:World) (hO:Sx c.lo c.hi w1.drew V)=>show V.cell? ⟨rb,2,none⟩=some (.slice (some ⟨g,0,none⟩) (n+1) cap)∧V.cell? ⟨g,n,none⟩=some (.pointer (some ⟨c.q,0,none⟩)) from
  ⟨(World.cell?_of_block (hO.oth rb (Zd hR1) (Or.inl hcc.2))).trans c2,(World.cell?_of_block (hO.oth g hglt hgout)).trans hcell⟩)
 have HS1:=J hS1;have HR1:=J hR1;have HO1:=J hO1;clear hS1 hR1 hO1 HD hset hcell hvo1 hgo hgout hglt hcc;have hi0:(0:Int)≤(n:Int):=by omega
 have hi1:(n:Int)<(n:Int)+1:=by omega
 have hi2:IntKind.i64.wrap (n:Int)=(n:Int):=IntKind.wrap_of_boundsK (by omega) (by omega);go_upto_region 3 with fail
 clear c2;go_region_held3 (fun V=>V.cell? ⟨rb,2,none⟩=some (.slice (some ⟨g,0,none⟩) (n+1) cap)∧V.cell? ⟨g,n,none⟩=some (.pointer (some ⟨c.q,0,none⟩))) ((first | exact G HSK _ (Kx _ _ _) | exact G HSK _ (G HO5))) ((go_at_call 105; refine(G HSET).mono ?_; rintro e w5 ⟨⟨v5,rfl⟩,hF5,hO5⟩; have HF5:=J hF5; have HO5:=J hO5; clear hF5 hO5))
 all_goals
  go_wp2;go_returns;have hS1:=G HS1;have hO5:=G HO5;have hO5':Sx c.lo c.hi w1 w5:=⟨hO5.os,hO5.tape,hO5.output,hO5.size,hO5.oth⟩;have hcl:=(hS1.stk c List.mem_cons_self).2;have hbb:=hS1.rbb;refine⟨⟨_,rfl⟩,(hO5.oth rb (Zd (G HR1)) (Or.inl hcl)).trans (G HR1),hS1.top (G HF5) hO5',?_,fun q hq hne hd=>(hO5'.oth q (by rw [(G HO1).size]; exact hq) hd).trans ((G HO1).oth q hne)⟩;refine(Mn (G HO1) hbb).trans ⟨hO5.os,hO5.tape,hO5.output,hO5.size,fun k hk=>hO5'.oth k (by have:=Zd (G HR1); omega) (Or.inl (by omega))⟩
theorem Tryz.infoEv:(Tryz.prog.info? 82).map (fun i=>(i.zero,i.size,i.bytes))=some (some (.agg #[.int .i64 0,.slice none 0 0]),2,32):=by kernel_rfl
theorem Tryz.infoU64s:(Tryz.prog.info? 62).map (·.size)=some 1:=by kernel_rfl
theorem Zjh (sc:List Int)(n:Nat):splice (uC (List.replicate n 0)) 0 (uC (sc.take n))=uC (Yt sc n):=by
 refine List.ext_getElem (by simp [splice,uC,Yt]; omega) fun k h1 h2=>?_;have hk:k<n:=by simpa [uC,Yt] using h2
 by_cases hs:k<sc.length
 ·
  have hm:k<min n sc.length:=by omega
  simp [splice,uC,Yt,List.getD,hs,hm]
 ·
  have hm:¬ k<min n sc.length:=by omega
  simp [splice,uC,Yt,List.getElem_append,List.getD,hs,hm]
theorem Zlo {w:World}{x:Addr}{c m n:Nat}{sc:List Int}(h:Lv w (.slice (some x) sc.length c) sc)(hm:m=min n sc.length):Lv w (.slice (if c=m then some x else some (x.add m)) (sc.length-m) (c-m)) (sc.drop n):=by
 have hd:sc.drop n=sc.drop m:=by
  by_cases hn:n≤sc.length
  ·
   rw [hm,Nat.min_eq_left hn]
  ·
   rw [hm,Nat.min_eq_right (by omega),List.drop_of_length_le (by omega),List.drop_of_length_le (Nat.le_refl _)]
 rw [hd,← List.length_drop];by_cases h0:sc.length=0
 ·
  have hnil:sc=[]:=List.eq_nil_of_length_eq_zero h0;subst hnil;rw [List.drop_nil];exact⟨_,_,rfl,Nat.zero_le _,by decide,fun h=>absurd h (by decide)⟩
 ·
  have h':=h;obtain⟨p,c',e,-,-,h4⟩:=h';injection e with e1 e2 e3;obtain⟨sb,so,e4,-⟩:=h4 (by omega);rw [← e1] at e4;injection e4 with e4;subst e4;have:=Od h (j:=m) (by omega);rw [Go.WideShapes.add_plain];exact this
theorem Zcx (tr:List (Int×List Int))(es:List Value)(F:Int)(ws:List Int)(wv:Value)(h:es.length=tr.length):evC ((tr++[(F,ws)]).map (·.1)) (es++[wv])=evC (tr.map (·.1)) es++[.int .i64 F,wv]:=by
 unfold evC;rw [List.map_append,List.zip_append (by simp [h])];simp
theorem Xc.event {w0 V V2 V3:World}{rb b:Nat}{st:List Mh}{frv tv tv' wv:Value}{tr:List (Int×List Int)}{es:List Value}{F:Int}{ws:List Int}(h:Xc w0 V rb b st frv tv tr es)(hrow:∃ cs,V.heap[rb]?=some (.cells cs 110 (0,0)))(hb:Below V.heap.size V V2)(hwv:V2.ownsRow V.heap.size 62 1 wv ws.length (uC ws))(hg:V2.grownBy V3 tv.ownBlock)
 (ho:V3.ownsRow b 82 2 tv' (tr.length+1) (evC (tr.map (·.1)) es++[.int .i64 F,wv])) (hblk:∀ g,tv'.ownBlock=some g→tv.ownBlock=some g∨V2.heap.size≤g) (j:Nat) (u:Value) :
 Xc w0 (V3.setCell ⟨rb,j,none⟩ u) rb b st frv tv' (tr++[(F,ws)]) (es++[wv])∧Below b V (V3.setCell ⟨rb,j,none⟩ u):=by
 obtain⟨cs,hrow⟩:=hrow;have hw:=h.w0b;have hr:=h.rbb;have hrl:=Zd hrow;have hz:=hb.size;have hgz:=hg.size;have hfb:∀ g,tv.ownBlock=some g→b≤g∧g<V.heap.size:=h.tr.row.lt;have hsame:∀ g,g<V2.heap.size→tv.ownBlock≠some g→g≠rb→(V3.setCell ⟨rb,j,none⟩ u).heap[g]?=V2.heap[g]?:=fun g h1 h2 h3=>(heap_setCell_other _ _ _ _ h3).trans (hg.block g h1 (fun e=>h2 e.symm));have hsame0:∀ g,g<V.heap.size→tv.ownBlock≠some g→g≠rb→(V3.setCell ⟨rb,j,none⟩ u).heap[g]?=V.heap[g]?:=fun g h1 h2 h3=>(hsame g (by omega) h2 h3).trans (hb.block g h1);have hsz:(V3.setCell ⟨rb,j,none⟩ u).heap.size=V3.heap.size:=by simp
 have hB:Below b V (V3.setCell ⟨rb,j,none⟩ u):=⟨hg.os.trans hb.os,hg.tape.trans hb.tape,hg.output.trans hb.output,by rw [hsz]; omega,fun g hg'=>hsame0 g (by omega) (fun e=>by have:=(hfb g e).1; omega) (by omega)⟩;have hnt:∀ g cs' t,V.heap[g]?=some (.cells cs' t (0,0))→t≠82→tv.ownBlock≠some g:=fun g cs' t hr' ht e=>by
  obtain⟨cs2,hr2⟩:=own_row h.tr.row e;exact Zs hr2 hr' (fun e=>ht e.symm) rfl
 refine⟨⟨⟨hB.os.trans h.low.os,hB.tape.trans h.low.tape,hB.output.trans h.low.output,Nat.le_trans h.low.size hB.size,fun g hg'=>(hB.block g (by omega)).trans (h.low.block g hg')⟩,hw,hr,fun v hv=>?_,h.ord,Yq h.fr fun g hg'=>?_,h.fro,⟨by simp [h.tr.len],?_,fun g hg'=>?_,fun k hk=>?_⟩⟩,hB⟩
 ·
  have k:=h.stk v hv;exact⟨Mu k.1 (fun g g1 g2=>hsame0 g (Nat.lt_of_lt_of_le g2 k.1.hs) (fun e=>by rcases(h.tr.out g e).1 v hv with h' | h' <;> omega) (by omega)) (by rw [hsz]; omega),k.2⟩
 ·
  obtain⟨cs2,hr2⟩:=own_row h.fr hg';exact hsame0 g (Zd hr2) (hnt g cs2 _ hr2 (by decide)) (Zs hr2 hrow (by decide))
 ·
  have ho2:=Yq (V':=V3.setCell ⟨rb,j,none⟩ u) ho fun g hg'=>heap_setCell_other _ _ _ _ (by
   rcases hblk g hg' with e | e
   ·
    exact(h.tr.out g e).2
   ·
    show g≠rb; omega)
  rw [Zcx _ _ _ _ _ h.tr.len,List.length_append];exact ho2
 ·
  rcases hblk g hg' with e | e
  ·
   exact h.tr.out g e
  ·
   exact⟨fun v hv=>Or.inr (by have:=(h.stk v hv).1.hs; omega),by omega⟩
 ·
  by_cases hk2:k<tr.length
  ·
   have e1:(es++[wv]).getD k .nilIface=es.getD k .nilIface:=by
    have:k<es.length:=by rw [h.tr.len]; exact hk2
    simp [List.getD,List.getElem?_append_left this]
   have e2:(tr++[(F,ws)]).getD k (0,[])=tr.getD k (0,[]):=by simp [List.getD,List.getElem?_append_left hk2]
   rw [e1,e2];refine⟨Yq (h.tr.each k hk2).1 fun g hg'=>?_,(h.tr.each k hk2).2⟩;obtain⟨cs2,hr2⟩:=own_row (h.tr.each k hk2).1 hg';exact hsame0 g (Zd hr2) (hnt g cs2 _ hr2 (by decide)) (Zs hr2 hrow (by decide))
  ·
   have hkk:k=tr.length:=by simp at hk; omega
   subst hkk;have e1:(es++[wv]).getD tr.length .nilIface=wv:=by rw [← h.tr.len]; simp [List.getD]
   have e2:(tr++[(F,ws)]).getD tr.length (0,[])=(F,ws):=by simp [List.getD]
   rw [e1,e2];have hlt:=hwv.lt;refine⟨Gy (B:=V.heap.size) (Yq hwv fun g hg'=>hsame g (hlt g hg').2 (fun e=>by have:=(hfb g e).2; have:=(hlt g hg').1; omega) (by have:=(hlt g hg').1; omega)) (by omega),fun g hg'=>⟨fun v hv=>Or.inr (by have:=(h.stk v hv).1.hs; have:=(hlt g hg').1; omega),by have:=(hlt g hg').1; omega⟩⟩
set_option maxHeartbeats 8000000 in
set_option maxRecDepth 100000 in
theorem Zpf (w0 w:World)(rb b:Nat)(f:Mh)(R:List Mh)(frv fv vv:Value)(tp sp ap op:Option Addr)(tc scc ac oc:Nat)(tr:List (Int×List Int))(es:List Value)(sc:List Int)(kind steps op_ d_ a_ b_ n_ F:Int)(args:List (Int×Int))(outs:List Int)(hS:Xc w0 w rb b (f :: R) frv (.slice tp tr.length tc) tr es)(hrow:Gv w rb fv (.slice sp sc.length scc) frv kind vv (.slice tp tr.length tc) steps)(hsc:Lv w0 (.slice sp sc.length scc) sc)
 (hok:IOk f.x) (hla:LS 2 w0 (.slice ap args.length ac) args.length (fun k=>Yz (args.getD k (0,0)))) (hlo:Li w0 (.slice op outs.length oc) outs) (han:args.length≤100) (hA:∀ k,k<args.length→Rh f.x (args.getD k (0,0))) (hsl:∀ l ∈ f.x.s,l.length≤65536) (hon:outs.length≤4) (hin:∀ k,k<outs.length→0≤outs.getD k 0∧outs.getD k 0<f.x.v.length) (htl:tr.length≤100000) :
 Calls Tryz.prog 86 #[.pointer (some ⟨rb,0,none⟩),.pointer (some ⟨f.q,0,none⟩),.agg #[.int .i64 op_,.int .i64 d_,.int .i64 a_,.int .i64 b_,.int .u64 n_,.int .i64 F,.slice ap args.length ac,.slice op outs.length oc]] w fun e w'=>(∃ v,e=.returned v)∧∃ tp' tc' sp' sc' wv,Gv w' rb fv (.slice sp' (sc.drop outs.length).length sc') frv kind vv (.slice tp' (tr.length+1) tc') steps∧Lv w0 (.slice sp' (sc.drop outs.length).length sc') (sc.drop outs.length)∧Xc w0 w' rb b ({ f with x:={ f.x with v:=Xp f.x.v outs (Yt sc outs.length) } } :: R) frv (.slice tp' (tr.length+1) tc') (tr++[(F,Zv f.x args)]) (es++[wv])∧Below b w w':=by
 obtain⟨ti,hti,hty0,hty1,hty2⟩:=Xs Tryz.infoEv;obtain⟨r0,hb0,hz0⟩:=Yj w (.cells #[.int .i64 op_,.int .i64 d_,.int .i64 a_,.int .i64 b_,.int .u64 n_,.int .i64 F,.slice ap args.length ac,.slice op outs.length oc] 65 (0,0));have hrl:=Zd hrow;have HROW:=J ((hb0.block rb hrl).trans hrow);have HS:=J (hS.grow hb0);have hrbb:=hS.rbb;have hbw:b≤w.heap.size:=by omega
 have HIR:=J r0;have HB0:=J hb0;have HSC:=J hsc;have HLO:=J hlo;have HIN:=J hin;have HHI:=J (hS.stk f List.mem_cons_self).1.hs;have HLA:=J hla;have HA:=J hA;have HMK:=fun V=>mkU outs.length (by omega) V;clear r0 hb0 hS hrow hsc hlo hin hla hA;go_enter Tryz.func86,Tryz.ntmps86
 go_upto_region 1 with fail
 generalize World.alloc w _=W at HROW HS HIR HB0 hz0 ⊢;have HCK:=J (fun(V:World) (hb:Below W.heap.size W V)=>show(fun V=>V.cell? ⟨rb,6,none⟩=some (.slice tp tr.length tc)∧V.cell? ⟨w.heap.size,5,none⟩=some (.int .i64 F)∧V.cell? ⟨w.heap.size,6,none⟩=some (.slice ap args.length ac)) V from by
  have hr:=(hb.block rb (Zd (G HROW))).trans (G HROW);have hi:=(hb.block _ (Zd (G HIR))).trans (G HIR);exact⟨(cR hr 6),(cR hi 5),(cR hi 6)⟩)
 have HC0:=J (G HCK W.drew (Below.refl _ _).drew);have HWD:=J (Zaz w0 f.x f.q f.lo f.hi f.lg f.bp f.sp f.op f.bc f.sc f.oc f.gs f.B args ap ac W.drew (Yk ((G HS).stk f List.mem_cons_self).1 (Below.refl _ _).drew) hok (G HS).low.drew (G HLA) han (G HA) hsl);have hbW:b≤W.heap.size:=by omega
 clear HLA HA hok hsl;refine Xw (C:=fun V=>V.cell? ⟨rb,6,none⟩=some (.slice tp tr.length tc)∧V.cell? ⟨w.heap.size,5,none⟩=some (.int .i64 F)∧V.cell? ⟨w.heap.size,6,none⟩=some (.slice ap args.length ac)) (d:=18) (by kernel_rfl) ?_;refine uT 0 (G HC0) ?_;try simp only [Act.put,zA,zB,zC,zD,zE]
 refine uT 1 (G HC0) ?_;try simp only [Act.put,zA,zB,zC,zD,zE,zF]
 refine uT 2 (G HC0) ?_;try simp only [Act.put,zA,zB,zC,zD,zE,zF]
 refine uT 3 (G HC0) ?_;try simp only [Act.put,zA,zB,zC,zD,zE,zF]
 refine uT 4 (G HC0) ?_;try simp only [Act.put,zA,zB,zC,zD,zE,zF]
 refine uT 5 (G HC0) ?_;try simp only [Act.put,zA,zB,zC,zD,zE,zF]
 refine uT 6 (G HC0) ?_;try simp only [Act.put,zA,zB,zC,zD,zE,zF]
 refine uT 7 (G HC0) ?_;try simp only [Act.put,zA,zB,zC,zD,zE,zF]
 refine uT 8 (G HC0) ?_;try simp only [Act.put,zA,zB,zC,zD,zE,zF]
 refine uT 9 (G HC0) ?_;try simp only [Act.put,zA,zB,zC,zD,zE,zF]
 refine uT 10 (G HC0) ?_;try simp only [Act.put,zA,zB,zC,zD,zE,zF]
 refine uO 11 fun K hK=>?_;go_simp;refine(G HWD).mono ?_;rintro e w1 ⟨wv,rfl,hwo,hb1⟩;obtain⟨wp,wc,rfl⟩:=Zm hwo;have hb1':Below W.heap.size W w1:=⟨hb1.os,hb1.tape,hb1.output,hb1.size,hb1.block⟩;have HC1:=J (G HCK w1 hb1');have HB1:=J hb1';have HWO:=J hwo;clear hb1 hb1' hwo;refine hK.out _ _ (fun _=>G HC1) ?_;clear hK K;try simp only [Act.put,zA,zB,zC,zD,zE,zF]
 refine uT 12 (G HC1) ?_;try simp only [Act.put,zA,zB,zC,zD,zE,zF]
 refine uO 13 fun K hK=>?_;go_simp;obtain⟨r2,hb2,hz2⟩:=Yj w1 (.cells #[.int .i64 F,.slice wp (Zv f.x args).length wc] 82 (0,0));have HB2:=J (show Below W.heap.size W (w1.alloc (.cells #[.int .i64 F,.slice wp (Zv f.x args).length wc] 82 (0,0))) from Za (G HB1) hb2 (G HB1).size);have HW2:=J (World.ownsRow.alloc (G HWO) (.cells #[.int .i64 F,.slice wp (Zv f.x args).length wc] 82 (0,0)));have HOW2:=J ((G HS).grow (G HB2)).tr.row;have HC2:=J (G HCK _ (G HB2));have HBB:=J (show b≤(w1.alloc (.cells #[.int .i64 F,.slice wp (Zv f.x args).length wc] 82 (0,0))).heap.size by have:=(G HB2).size; omega);have c0:∀ j u,[Value.int .i64 F,.slice wp (Zv f.x args).length wc][j]?=some u→(w1.alloc (.cells #[.int .i64 F,.slice wp (Zv f.x args).length wc] 82 (0,0))).cell? ⟨w1.heap.size,j,none⟩=some u:=fun j u hj=>(Zi r2 j).trans (by simpa using hj);clear r2 hb2 hz2;refine hK.out _ _ (fun _=>G HC2) ?_;clear hK K;try simp only [Act.put,zA,zB,zC,zD,zE,zF]
 generalize World.alloc w1 _=W2 at HB2 HW2 HOW2 HC2 HBB c0 ⊢;refine uO 14 fun K hK=>?_;refine Rl rfl (.tmp 13) (.tmp 21) 36 rfl b 82 ti _ 2 32 Tryz.underlying36 hti hty0 hty1 hty2 rfl (by decide) (.slice tp tr.length tc) tr.length (evC (tr.map (·.1)) es) (by simp [Act.eval]) (G HOW2) ⟨w1.heap.size,0,none⟩ 1 1 [.int .i64 F,.slice wp (Zv f.x args).length wc] (by simp [Act.eval]) rfl (by intro j u hj; match j,hj with | 0,hj=>exact c0 0 u hj | 1,hj=>exact c0 1 u hj) (by intro u hu; simp at hu; rcases hu with rfl | rfl <;> rfl) (by unfold maxLen; omega) (by omega) (G HBB) ?_;intro v7 w7 hown7 hgr7 hblk7;obtain⟨tp7,tc7,rfl⟩:=Zm hown7;have hP:=Xc.event (G HS) ⟨_,G HROW⟩ (G HB2) (G HW2) hgr7 hown7 hblk7 6 (.slice tp7 (tr.length+1) tc7);have hrw:Gv w7 rb fv (.slice sp sc.length scc) frv kind vv (.slice tp tr.length tc) steps:=by
  have h1:=((G HB2).block rb (Zd (G HROW))).trans (G HROW);exact(hgr7.block rb (Zd h1) (fun e=>Xu (G HOW2) h1 (by decide) e.symm)).trans h1
 have hib:w7.heap[w.heap.size]?=some (.cells #[.int .i64 op_,.int .i64 d_,.int .i64 a_,.int .i64 b_,.int .u64 n_,.int .i64 F,.slice ap args.length ac,.slice op outs.length oc] 65 (0,0)):=by
  have h1:=((G HB2).block w.heap.size (Zd (G HIR))).trans (G HIR);exact(hgr7.block _ (Zd h1) (fun e=>Xu (G HOW2) h1 (by decide) e.symm)).trans h1
 have hF7:(f :: R).Pairwise (fun u l=>l.hi≤u.lo):=(G HS).ord;have z6:=frozen_of_row _ _ 6 _ _ hrw;have c6:=cR hrw 6;have HC3:=J (show(fun V=>V.cell? ⟨rb,6,none⟩=some (.slice tp tr.length tc)∧V.cell? ⟨w.heap.size,5,none⟩=some (.int .i64 F)∧V.cell? ⟨w.heap.size,6,none⟩=some (.slice ap args.length ac)) w7 from⟨c6,(cR hib 5),(cR hib 6)⟩);have HX:=J (show Gv (w7.setCell ⟨rb,6,none⟩ (.slice tp7 (tr.length+1) tc7)) rb fv (.slice sp sc.length scc) frv kind vv (.slice tp7 (tr.length+1) tc7) steps from heap_setCell_same _ _ 6 _ _ _ hrw);have HI8:=J (show(w7.setCell ⟨rb,6,none⟩ (.slice tp7 (tr.length+1) tc7)).heap[w.heap.size]?=some (.cells #[.int .i64 op_,.int .i64 d_,.int .i64 a_,.int .i64 b_,.int .u64 n_,.int .i64 F,.slice ap args.length ac,.slice op outs.length oc] 65 (0,0)) from(heap_setCell_other _ _ _ _ (by show w.heap.size≠rb; omega)).trans hib);have HP:=J hP;clear hown7 hgr7 hblk7 hP hrw c0 hib hF7;refine hK.out _ _ (fun _=>G HC3) ?_;clear hK K;try simp only [Act.put,zA,zB,zC,zD,zE,zF]
 refine uO 15 fun K hK=>?_;go_simp;refine hK.out _ _ (fun _=>G HC3) ?_;clear hK K;try simp only [Act.put,zA,zB,zC,zD,zE,zF]
 refine uO 16 fun K hK=>?_;go_simp;refine hK.out _ _ (fun _=>G HC3) ?_;clear hK K;try simp only [Act.put,zA,zB,zC,zD,zE,zF]
 refine uO 17 fun K hK=>?_;go_simp;refine hK.out _ _ (fun _=>G HC3) ?_;clear hK K;try simp only [Act.put,zA,zB,zC,zD,zE,zF]
 refine uO 18 fun K hK=>?_;go_simp;refine hK.out _ _ (fun h=>(by cases h)) ?_;clear hK K;try simp only [Act.put,zA,zB,zC,zD,zE,zF]
 refine Gc (by kernel_rfl) ?_ _;clear z6 c6 HC0 HC1 HC2 HC3 HCK;generalize World.setCell w7 _ _=U at HX HI8 HP ⊢;have i7:=cR (G HI8) 7;have hu0:=(G HP).2.size;obtain⟨r3,hb3,hz3⟩:=Yj U (.cells (uC (List.replicate outs.length 0)).toArray 62 (0,0));have HR3:=J r3;have HB3:=J hb3;have HZ3:=J hz3;have c1:=cR ((hb3.block rb (Zd (G HX))).trans (G HX)) 1;clear r3 hb3 hz3;go_upto_region 3 with fail
 clear i7;generalize World.alloc U _=U2 at HR3 HB3 HZ3 c1 ⊢;go_wp2_with (refine wpList_copy_splice rfl _ _ 30 30 rfl 62 Tryz.underlying30 (Tryz.infoU64s.trans rfl) _ _ _ _ _ _ rfl rfl U.heap.size 0 (uC (List.replicate outs.length 0)) 62 ?k1 (uC (sc.take outs.length)) ?k2 ?k3 ?k4 ?k6 U.heap.size U ?k5 (Nat.le_refl _) ?_)
 case k1=>exact G HR3
 case k2=>rw [Zay,List.length_take]; exact Nat.min_comm _ _
 case k3 =>
  intro h0;obtain⟨p',c',e,h2,h3,h4⟩:=G HSC;injection e with e1 e2 e3;obtain⟨sb,so,e4,hc⟩:=h4 (by simp [uC] at h0; omega);refine⟨⟨sb,so,none⟩,by rw [e1,e4],fun j v hj=>?_⟩;have hj2:j<sc.length∧j<outs.length:=by
   have:=(List.getElem?_eq_some_iff.1 hj).1;simp [uC] at this;omega
  have hv:v=.int .u64 (sc.getD j 0):=by
   simp [uC,hj2] at hj;rw [← hj];simp [List.getD,hj2]
  subst hv;have hcj:=hc j hj2.1;have hbk:=World.block_lt_of_cell? w0 _ hcj;simp only at hbk;show World.cell? _ (Addr.add ⟨sb,so,none⟩ j)=_;rw [Go.WideShapes.add_plain];have hz:=(G HP).1.low;exact(World.cell?_of_block ((G HB3).block sb (Nat.lt_of_lt_of_le hbk hz.size))).trans ((World.cell?_of_block (hz.block sb hbk)).trans hcj)
 case k4=>simp [uC]; omega
 case k6 =>
  intro v hv;obtain⟨x,-,rfl⟩:=List.mem_map.1 hv;rfl
 case k5=>exact G HB3
 intro w8 HG8 hB8;have hrow8:=HG8.out;rw [Zjh] at hrow8;have hX8:=(hB8.block rb (Zd (G HX))).trans (G HX);have hS8:=(G HP).1.grow hB8;have hI8:=(hB8.block w.heap.size (Zd (G HI8))).trans (G HI8);have HX8:=J hX8;have HS8:=J hS8;have HI9:=J hI8;have HB8:=J hB8;have HROW8:=J hrow8;have e1:=cR hX8 1;have z1:=frozen_of_row _ _ 1 _ _ hX8;clear hX8 hS8 hI8 HG8 hB8 hrow8 c1 HR3 HB3 HZ3 HI8;generalize hm:(uC (sc.take outs.length)).length=m;rw [Zay,List.length_take] at hm;have hms:(m:Int)≤sc.length:=by omega
 have hm0:(0:Int)≤(m:Int):=by omega
 have hmN:m≤sc.length:=by omega
 have hscl:sc.length<4611686018427387904:=by obtain⟨_,_,_,_,h3,_⟩:=G HSC; exact h3
 have HM:=J hm;clear hm;have hcase:(sc.length=0∧sp=none)∨(∃ x,sp=some x):=by
  cases sp with
  | none =>
   refine Or.inl ⟨?_,rfl⟩;rcases Nat.eq_zero_or_pos sc.length with h | h
   ·
    exact h
   ·
    obtain⟨p1,c1,e,-,-,h4⟩:=G HSC;injection e with e1;obtain⟨q1,q2,e2,-⟩:=h4 h;rw [← e1] at e2;cases e2
  | some x=>exact Or.inr ⟨x,rfl⟩
 rcases hcase with⟨h0,rfl⟩ | ⟨x,rfl⟩
 ·
  go_upto_region 5 with fail
  have HL9:=J (show Lv w0 (.slice none 0 (scc-m)) (sc.drop outs.length) from by
   have hnil:sc=[]:=List.eq_nil_of_length_eq_zero h0;rw [hnil,List.drop_nil];exact⟨none,scc-m,rfl,Nat.zero_le _,by decide,fun h=>absurd h (by decide)⟩)
  generalize hv9:(Value.slice none 0 (scc-m))=v9 at HL9 ⊢;obtain⟨p9,c9,e9,-⟩:=G HL9;have E9:=J e9;clear e9;have hX9:Gv (w8.setCell ⟨rb,1,none⟩ v9) rb fv v9 frv kind vv (.slice tp7 (tr.length+1) tc7) steps:=heap_setCell_same _ _ 1 _ _ _ (G HX8);have hO9:Ok rb w8 (w8.setCell ⟨rb,1,none⟩ v9):=⟨rfl,rfl,rfl,by simp,fun q hq=>heap_setCell_other _ _ _ _ hq⟩;have hS9:=(G HS8).own ⟨_,G HX8⟩ hO9;have hi9:(w8.setCell ⟨rb,1,none⟩ v9).heap[w.heap.size]?=some (.cells #[.int .i64 op_,.int .i64 d_,.int .i64 a_,.int .i64 b_,.int .u64 n_,.int .i64 F,.slice ap args.length ac,.slice op outs.length oc] 65 (0,0)):=(hO9.oth _ (by omega)).trans (G HI9);have htd:(w8.setCell ⟨rb,1,none⟩ v9).ownsRow U.heap.size 62 1 (.slice (some ⟨U.heap.size,0,none⟩) (Yt sc outs.length).length outs.length) (Yt sc outs.length).length (uC (Yt sc outs.length)):=by
   have htl:(Yt sc outs.length).length=outs.length:=by simp [Yt]
   refine⟨by simp [uC],.inr ⟨U.heap.size,outs.length,_,rfl,Nat.le_refl _,(hO9.oth _ (by omega)).trans (G HROW8),by rw [htl]; exact Nat.le_refl _,by unfold maxLen; omega,by simp [uC,htl],by simp only [Nat.mul_one]; rw [← Zay,List.take_length]⟩⟩
  have hset:=Ziu w0 f.x f.q f.lo f.hi f.lg f.bp f.sp f.op f.bc f.sc f.oc f.gs f.B outs (Yt sc outs.length) op (some ⟨U.heap.size,0,none⟩) oc outs.length U.heap.size _ (hS9.stk f List.mem_cons_self).1 hS9.low (by have:=hS9.w0b; have:=(hS9.stk f List.mem_cons_self).2; omega) (G HLO) (by omega) (G HIN) htd (by have:=G HHI; omega) (by simp [Yt]);rw [show(Yt sc outs.length).length=outs.length by simp [Yt]] at hset;have HSET:=J hset;have i7:=cR hi9 7;have HX9:=J hX9;have HS9:=J hS9;have HB9:=J (show Below b w (w8.setCell ⟨rb,1,none⟩ v9) from((Below.mono (G HB0) hbw).trans (G HP).2).trans ((Below.mono (G HB8) (by omega)).trans (Mn hO9 hrbb)));clear hX9 hO9 hS9 hi9 htd hset e1 z1 hv9;generalize World.setCell w8 _ _=U9 at HSET i7 HX9 HS9 HB9 ⊢;go_wp2_with fail
  refine(G HSET).mono ?_;rintro e w5 ⟨⟨v5,rfl⟩,hF5,hO5⟩;have HF5:=J hF5;have HO5:=J hO5;clear hF5 hO5 HSET i7;go_wp2;go_returns;have hS9:=G HS9;have hO5:=G HO5;have hfl:=(hS9.stk f List.mem_cons_self).2;refine⟨⟨_,rfl⟩,tp7,tc7,p9,c9,_,?_,by rw [← G E9]; exact G HL9,hS9.top (G HF5) hO5,(G HB9).trans ⟨hO5.os,hO5.tape,hO5.output,hO5.size,fun k hk=>hO5.oth k (by have:=Zd (G HX9); omega) (Or.inl (by omega))⟩⟩;rw [← G E9];exact(hO5.oth rb (Zd (G HX9)) (Or.inl hfl)).trans (G HX9)
 ·
  go_upto_region 5 with fail
  have HL9:=J (show Lv w0 (.slice (if scc=m then some x else some (x.add m)) (sc.length-m) (scc-m)) (sc.drop outs.length) from Zlo (G HSC) (G HM).symm);generalize hv9:(Value.slice (if scc=m then some x else some (x.add m)) (sc.length-m) (scc-m))=v9 at HL9 ⊢;obtain⟨p9,c9,e9,-⟩:=G HL9;have E9:=J e9;clear e9;have hX9:Gv (w8.setCell ⟨rb,1,none⟩ v9) rb fv v9 frv kind vv (.slice tp7 (tr.length+1) tc7) steps:=heap_setCell_same _ _ 1 _ _ _ (G HX8);have hO9:Ok rb w8 (w8.setCell ⟨rb,1,none⟩ v9):=⟨rfl,rfl,rfl,by simp,fun q hq=>heap_setCell_other _ _ _ _ hq⟩;have hS9:=(G HS8).own ⟨_,G HX8⟩ hO9;have hi9:(w8.setCell ⟨rb,1,none⟩ v9).heap[w.heap.size]?=some (.cells #[.int .i64 op_,.int .i64 d_,.int .i64 a_,.int .i64 b_,.int .u64 n_,.int .i64 F,.slice ap args.length ac,.slice op outs.length oc] 65 (0,0)):=(hO9.oth _ (by omega)).trans (G HI9);have htd:(w8.setCell ⟨rb,1,none⟩ v9).ownsRow U.heap.size 62 1 (.slice (some ⟨U.heap.size,0,none⟩) (Yt sc outs.length).length outs.length) (Yt sc outs.length).length (uC (Yt sc outs.length)):=by
   have htl:(Yt sc outs.length).length=outs.length:=by simp [Yt]
   refine⟨by simp [uC],.inr ⟨U.heap.size,outs.length,_,rfl,Nat.le_refl _,(hO9.oth _ (by omega)).trans (G HROW8),by rw [htl]; exact Nat.le_refl _,by unfold maxLen; omega,by simp [uC,htl],by simp only [Nat.mul_one]; rw [← Zay,List.take_length]⟩⟩
  have hset:=Ziu w0 f.x f.q f.lo f.hi f.lg f.bp f.sp f.op f.bc f.sc f.oc f.gs f.B outs (Yt sc outs.length) op (some ⟨U.heap.size,0,none⟩) oc outs.length U.heap.size _ (hS9.stk f List.mem_cons_self).1 hS9.low (by have:=hS9.w0b; have:=(hS9.stk f List.mem_cons_self).2; omega) (G HLO) (by omega) (G HIN) htd (by have:=G HHI; omega) (by simp [Yt]);rw [show(Yt sc outs.length).length=outs.length by simp [Yt]] at hset;have HSET:=J hset;have i7:=cR hi9 7;have HX9:=J hX9;have HS9:=J hS9;have HB9:=J (show Below b w (w8.setCell ⟨rb,1,none⟩ v9) from((Below.mono (G HB0) hbw).trans (G HP).2).trans ((Below.mono (G HB8) (by omega)).trans (Mn hO9 hrbb)));clear hX9 hO9 hS9 hi9 htd hset e1 z1 hv9;generalize World.setCell w8 _ _=U9 at HSET i7 HX9 HS9 HB9 ⊢;go_wp2_with fail
  refine(G HSET).mono ?_;rintro e w5 ⟨⟨v5,rfl⟩,hF5,hO5⟩;have HF5:=J hF5;have HO5:=J hO5;clear hF5 hO5 HSET i7;go_wp2;go_returns;have hS9:=G HS9;have hO5:=G HO5;have hfl:=(hS9.stk f List.mem_cons_self).2;refine⟨⟨_,rfl⟩,tp7,tc7,p9,c9,_,?_,by rw [← G E9]; exact G HL9,hS9.top (G HF5) hO5,(G HB9).trans ⟨hO5.os,hO5.tape,hO5.output,hO5.size,fun k hk=>hO5.oth k (by have:=Zd (G HX9); omega) (Or.inl (by omega))⟩⟩;rw [← G E9];exact(hO5.oth rb (Zd (G HX9)) (Or.inl hfl)).trans (G HX9)
def cwC (ns:List Int):List Value:=ns.map (fun x=>Value.int .u64 x)++[.int .u64 77,.int .u64 78]
def cwV (g:Nat)(ns:List Int):Value:=.slice (some ⟨g,0,none⟩) ns.length (ns.length+2)
structure Cw (w:World)(g:Nat)(ns:List Int):Prop where
 row:w.heap[g]?=some (.cells (cwC ns).toArray 62 (0,0))
 lim:ns.length+2<4611686018427387904
theorem Zmc (ns:List Int)(i:Nat)(h:i<ns.length):(cwC ns).toArray[i]?=some (.int .u64 (ns.getD i 0)):=by
 simp [cwC,List.getElem?_append_left,h,List.getD]
theorem Zpq (ns:List Int):(cwC ns).toArray[ns.length]?=some (.int .u64 77):=by simp [cwC]
theorem Zpr (ns:List Int):(cwC ns).toArray[ns.length+1]?=some (.int .u64 78):=by
 have e:(cwC ns)[ns.length+1]?=some (.int .u64 78):=by
  unfold cwC;rw [List.getElem?_append_right (by simp)];simp
 simpa using e
theorem Cw.li {w:World}{g:Nat}{ns:List Int}(h:Cw w g ns):Lv w (.slice (some ⟨g,0,none⟩) ns.length (ns.length+2)) ns :=
 ⟨_,_,rfl,by omega,by have:=h.lim; omega,fun _=>⟨g,0,rfl,fun i hi=>by rw [Nat.zero_add]; exact(Zi h.row i).trans (Zmc ns i hi)⟩⟩
theorem Cw.keep {w w':World}{g:Nat}{ns:List Int}(h:Cw w g ns)(e:w'.heap[g]?=w.heap[g]?):Cw w' g ns:=⟨e.trans h.row,h.lim⟩
theorem Zqz (n:Nat)(hn:n*8≤140737488351232)(w:World):(Instr.makeSlice 30 (.int .i64 (n:Int)) (.int .i64 ((n:Int)+2))).run Tryz.prog w=.ok (.slice (some ⟨w.heap.size,0,none⟩) n (n+2)) (w.alloc (.cells (madeCells #[.int .u64 0] (n+2)) 62)):=by
 obtain⟨ti,hti,hz0,hz1,hz2⟩:=Xs Tryz.infoU64;have h:=run_make (P:=Tryz.prog) w 30 62 ti _ Tryz.underlying30 hti hz0 .i64 .i64 (n:Int) ((n:Int)+2) (by omega) (by omega) (by rw [hz2]; omega) (by omega);rw [hz1,Int.toNat_natCast,show((n:Int)+2).toNat=n+2 by omega,Nat.mul_one] at h;exact h
set_option maxHeartbeats 4000000 in
set_option maxRecDepth 100000 in
theorem Sq (ns:List Int)(p:Option Addr)(c:Nat)(w:World)(h:Lv w (.slice p ns.length c) ns)(hl:ns.length*8≤140737488351232) :
 Calls Tryz.prog 6 #[.slice p ns.length c] w fun e w'=>e=.returned (cwV w.heap.size ns)∧Cw w' w.heap.size ns∧Below w.heap.size w w':=by
 have hmk:=fun V=>Zqz ns.length hl V;have ha:=Yj w (.cells (madeCells #[.int .u64 0] (ns.length+2)) 62 (0,0));obtain⟨cur,hcur,hcl⟩:∃ cur:List Value,madeCells #[.int .u64 0] (ns.length+2)=cur.toArray∧cur.length=ns.length+2:=⟨(madeCells #[.int .u64 0] (ns.length+2)).toList,by simp,by rw [Array.length_toList,size_madeCells]⟩;rw [hcur] at ha;have HMK:=J hcur;obtain⟨xs,hxs⟩:∃ xs:List Value,xs=ns.map (fun x=>Value.int .u64 x):=⟨_,rfl⟩;have hxl:xs.length=ns.length:=by rw [hxs]; simp
 have hx1:∀ v ∈ xs,v.oneCell'=true:=fun v hv=>by rw [hxs] at hv; obtain⟨x,-,rfl⟩:=List.mem_map.1 hv; rfl
 have HX1:=J hx1;have HXS:=J hxs;have HA:=J ha;have HLI:=J h;have HCL:=J hcl;have HXL:=J hxl;have hlt:ns.length<9223372036854775806:=by omega
 have hmin:Nat.min ns.length ns.length=ns.length:=Nat.min_self _;clear ha h hcur hx1 hxs hcl hxl;go_enter Tryz.func6,Tryz.ntmps6
 go_wp2_with (refine wpList_copy_splice rfl _ _ 30 30 rfl 62 Tryz.underlying30 (Tryz.infoU64s.trans rfl) _ _ _ _ _ _ rfl rfl w.heap.size 0 cur 62 ?k1 xs ?k2 ?k3 ?k4 (G HX1) w.heap.size w ?k5 (Nat.le_refl _) ?_)
 case k1=>rw [G HMK]; exact(G HA).1
 case k2=>rw [G HXL,hmin]
 case k3 =>
  intro h0;rw [G HXL] at h0;obtain⟨p',c',e,h2,h3,h4⟩:=G HLI;injection e with e1 e2 e3;obtain⟨sb,so,e4,hc⟩:=h4 h0;refine⟨⟨sb,so,none⟩,by rw [e1,e4],fun j v hj=>?_⟩;rw [G HXS] at hj;have hj2:j<ns.length:=by
   have:=(List.getElem?_eq_some_iff.1 hj).1;simpa using this
  have hv:v=.int .u64 (ns.getD j 0):=by
   simp [hj2] at hj;rw [← hj];simp [List.getD,hj2]
  subst hv;have hcj:=hc j hj2;have hb:=World.block_lt_of_cell? w _ hcj;simp only at hb;rw [G HMK];show World.cell? _ (Addr.add ⟨sb,so,none⟩ j)=_;rw [Go.WideShapes.add_plain];exact(World.cell?_of_block ((G HA).2.1.block sb hb)).trans hcj
 case k4=>rw [G HXL,G HCL]; omega
 case k5=>rw [G HMK]; exact(G HA).2.1
 intro w2 HG2 hB2;have hrow:=HG2.out;have hcell:∀ j,j<ns.length+2→∃ v,w2.cell? ⟨w.heap.size,j,none⟩=some v:=fun j hj=>by
  have hsz:(splice cur 0 xs).length=ns.length+2:=by rw [length_splice _ _ _ (by rw [G HXL,G HCL]; omega),G HCL]
  exact⟨_,(Zi hrow j).trans (List.getElem?_toArray.trans (List.getElem?_eq_getElem (by rw [hsz]; exact hj)))⟩
 obtain⟨v0,c0⟩:=hcell ns.length (by omega);obtain⟨v1,c1⟩:=hcell (ns.length+1) (by omega);have z0:=frozen_of_row _ _ ns.length _ _ hrow;have z1:=frozen_of_row _ _ (ns.length+1) _ _ hrow;have hr3:=heap_setCell_same _ _ (ns.length+1) _ _ (.int .u64 78) (heap_setCell_same _ _ ns.length _ _ (.int .u64 77) hrow);have e3:=Zhz cur xs (.int .u64 77) (.int .u64 78) (by rw [G HCL,G HXL]);rw [G HXL] at e3;rw [e3] at hr3;have HR3:=J hr3;have HB3:=J hB2;have hw1:IntKind.i64.wrap ((ns.length:Int)+1)=((ns.length+1:Nat):Int):=by rw [IntKind.wrap_of_boundsK (by omega) (by omega)]; omega
 have hw2:IntKind.i64.wrap ((ns.length:Int)+2)=((ns.length+2:Nat):Int):=by rw [IntKind.wrap_of_boundsK (by omega) (by omega)]; omega
 clear hrow hcell HG2 hB2 hr3 e3 hmk;go_wp2;go_ret;have hb:=G HB3;refine⟨rfl,⟨?_,by omega⟩,⟨hb.os,hb.tape,hb.output,by have:=hb.size; simpa using this,fun q hq=>(heap_setCell_other _ _ _ _ (by show q≠w.heap.size; omega)).trans ((heap_setCell_other _ _ _ _ (by show q≠w.heap.size; omega)).trans (hb.block q hq))⟩⟩;unfold cwC;rw [← G HXS];exact G HR3
set_option maxHeartbeats 2000000 in
set_option maxRecDepth 100000 in
theorem Rn (ns:List Int)(g:Nat)(w:World)(h:Cw w g ns):Calls Tryz.prog 14 #[.slice (some ⟨g,0,none⟩) ns.length (ns.length+2)] w fun e w'=>e=.returned (.bool true)∧Below w.heap.size w w':=by
 have c0:=(Zi h.row ns.length).trans (Zpq ns);have c1:=(Zi h.row (ns.length+1)).trans (Zpr ns);have hlim:=h.lim;have hw1:IntKind.i64.wrap ((ns.length:Int)+1)=((ns.length+1:Nat):Int):=by rw [IntKind.wrap_of_boundsK (by omega) (by omega)]; omega
 have hw2:IntKind.i64.wrap ((ns.length:Int)+2)=((ns.length+2:Nat):Int):=by rw [IntKind.wrap_of_boundsK (by omega) (by omega)]; omega
 clear h;go_enter Tryz.func14,Tryz.ntmps14
 go_wp2;go_ret;exact⟨rfl,Below.refl _ _⟩
set_option maxHeartbeats 2000000 in
set_option maxRecDepth 100000 in
theorem Kd (ns:List Int)(va vb:Value)(w:World)(ha:Lv w va ns)(hb:Lv w vb ns):Calls Tryz.prog 13 #[va,vb] w fun x w'=>x=.returned (.bool true)∧Below w.heap.size w w':=by
 obtain⟨pa,ca,rfl,-,hn,hca⟩:=ha;obtain⟨pb,cb,rfl,-,-,hcb⟩:=hb;have hn':ns.length<9223372036854775808:=by omega
 have hne:((ns.length:Int) != (ns.length:Int))=false:=by simp
 have HA:=J hca;have HB:=J hcb;clear hca hcb hn;go_enter Tryz.func13,Tryz.ntmps13
 go_wp2;go_loopw [13] (fun j w'=>∃(k m:Nat),j=.int .i64 k∧k≤ns.length∧w'=w.drewN m) (fun j _=>ns.length-(intOf j).toNat)
 case atStart=>exact⟨0,0,rfl,by omega,rfl⟩
 case round =>
  obtain⟨k,m,rfl,hk,hw⟩:=hrel;subst hw;by_cases hlt:k<ns.length
  ·
   obtain⟨sa,oa,e1,hca⟩:=G HA (by omega);obtain⟨sb,ob,e2,hcb⟩:=G HB (by omega);subst e1 e2;have c1:=hca k hlt;have c2:=hcb k hlt;have hxx:(ns.getD k 0 != ns.getD k 0)=false:=by simp
   clear hca hcb;generalize ns.getD k 0=x at c1 c2 hxx;go_wp2;go_quiet (fail)
   go_wp2;go_roundw
   case rel=>exact⟨k+1,_,by go_num,by omega,rfl⟩
   case measure=>simp [intOf]; omega
  ·
   obtain rfl:k=ns.length:=by omega
   go_wp2;go_ret;exact⟨rfl,⟨rfl,rfl,rfl,Nat.le_refl _,fun _ _=>rfl⟩⟩
def Zob (i:Zw):Prop:=(0≤i.n∧i.n<18446744073709551616)∧i.args.length*16≤140737488351232∧i.outs.length*8≤140737488351232
def Zme (l:List Zw):Prop:=l.length*96≤140737488351232∧∀ i ∈ l,Zob i
structure Zoc (f:Zn):Prop where
 p:f.params.length*16≤140737488351232
 h:f.homes.length*8≤140737488351232
 s:f.slots.length*8≤140737488351232
 b:f.blocks.length*24≤140737488351232
 e:∀ l ∈ f.blocks,Zme l
structure Ie (P:Zl):Prop where
 f:P.funcs.length*104≤140737488351232
 x:P.externs.length*32≤140737488351232
 fe:∀ f ∈ P.funcs,Zoc f
 xe:∀ s ∈ P.externs,s.1.length*8≤140737488351232
def Lq (S:TypeId→Bool)(V V':World):Prop:=∀(g:Nat) (cs:Array Value) (t:TypeId),V.heap[g]?=some (.cells cs t (0,0))→S t=true→V'.heap[g]?=some (.cells cs t (0,0))
theorem Lq.own {S:TypeId→Bool}{V V':World}{B e size n:Nat}{v:Value}{xs:List Value}(hk:Lq S V V')(h:V.ownsRow B e size v n xs)(hs:S e=true):V'.ownsRow B e size v n xs :=
 Yq h fun g hg=>by
  obtain⟨cs,hr⟩:=own_row h hg;rw [hr];exact hk g cs e hr hs
theorem Lq.cp {S:TypeId→Bool}{V V':World}{g:Nat}{ns:List Int}(hk:Lq S V V')(h:Cp V g ns)(hs:S 3=true):Cp V' g ns:=⟨hk g _ _ h.row hs,h.lim⟩
theorem Lq.of_below {S:TypeId→Bool}{V V':World}(hb:Below V.heap.size V V'):Lq S V V':=fun g _ _ h _=>(hb.block g (Zd h)).trans h
theorem Lq.of_grown {S:TypeId→Bool}{V V':World}{B e size n:Nat}{v:Value}{xs:List Value}(ho:V.ownsRow B e size v n xs)(hg:V.grownBy V' v.ownBlock)(hs:S e=false):Lq S V V':=fun g cs t h ht=>by
 refine(hg.block g (Zd h) fun c=>?_).trans h;obtain⟨cs',hr⟩:=own_row ho c.symm;rw [h] at hr;injection hr with hr;injection hr with _ hr _;rw [← hr,ht] at hs;cases hs
theorem Lq.set {S:TypeId→Bool}{V:World}{g:Nat}{cs:Array Value}{t:TypeId}(hr:V.heap[g]?=some (.cells cs t (0,0)))(hs:S t=false)(j:Nat)(v:Value):Lq S V (V.setCell ⟨g,j,none⟩ v):=fun q cs' t' h ht=>by
 refine(heap_setCell_other _ _ _ _ fun c=>?_).trans h;subst c;rw [h] at hr;injection hr with hr;injection hr with _ hr _;rw [← hr,ht] at hs;cases hs
theorem Lq.row {S:TypeId→Bool}{V:World}{g:Nat}{cs:Array Value}{t:TypeId}(hr:V.heap[g]?=some (.cells cs t (0,0)))(hs:S t=false)(cs':Array Value):Lq S V (V.setRow g cs'):=fun q cs2 t' h ht=>by
 refine(setRow_other _ _ _ _ fun c=>?_).trans h;subst c;rw [h] at hr;injection hr with hr;injection hr with _ hr _;rw [← hr,ht] at hs;cases hs
theorem Lq.trans {S:TypeId→Bool}{V V' V2:World}(h:Lq S V V')(h':Lq S V' V2):Lq S V V2:=fun g cs t hr hs=>h' g cs t (h g cs t hr hs) hs
theorem Lq.mono {S S':TypeId→Bool}{V V':World}(h:Lq S V V')(hi:∀ t,S' t=true→S t=true):Lq S' V V':=fun g cs t hr hs=>h g cs t hr (hi t hs)
section
variable {α β:Type} {R R':α→β→Prop}
def Nq (R:α→β→Prop):List α→List β→Prop
 | [],[]=>True
 | a :: l,b :: m=>R a b∧Nq R l m
 | [],_ :: _=>False
 | _ :: _,[]=>False
theorem Nq.nil {R:α→β→Prop}:Nq R [] []:=trivial
theorem Nq.cons {a:α}{b:β}{l:List α}{m:List β}(h:R a b)(t:Nq R l m):Nq R (a :: l) (b :: m):=⟨h,t⟩
theorem Nq.ind {P:List α→List β→Prop}(h0:P [] [])(h1:∀ a b l m,R a b→P l m→P (a :: l) (b :: m)):∀(l:List α) (m:List β),Nq R l m→P l m
 | [],[],_=>h0
 | a :: l,b :: m,h=>h1 a b l m (show R a b∧Nq R l m from h).1 (Nq.ind h0 h1 l m (show R a b∧Nq R l m from h).2)
 | [],_ :: _,h=>(show False from h).elim
 | _ :: _,[],h=>(show False from h).elim
theorem Nq.len {l:List α}{m:List β}(h:Nq R l m):l.length=m.length:=by
 refine Nq.ind (R:=R) (P:=fun l m=>l.length=m.length) (by rfl) (fun a b l m _ ih=>?_) l m h;simp [ih]
theorem Nq.imp {l:List α}{m:List β}(h:Nq R l m)(hi:∀ a b,R a b→R' a b):Nq R' l m:=Nq.ind (R:=R) (P:=fun l m=>Nq R' l m) Nq.nil (fun _ _ _ _ h ih=>Nq.cons (hi _ _ h) ih) l m h
theorem Nq.snoc {l:List α}{m:List β}{a:α}{b:β}(h:Nq R l m)(hr:R a b):Nq R (l++[a]) (m++[b]):=Nq.ind (R:=R) (P:=fun l m=>Nq R (l++[a]) (m++[b])) (Nq.cons hr Nq.nil) (fun _ _ _ _ h ih=>Nq.cons h ih) l m h
theorem Nq.get {l:List α}{m:List β}(h:Nq R l m)(d:α):∀ k (h2:k<m.length),R (l.getD k d) m[k]:=by
 refine Nq.ind (R:=R) (P:=fun l m=>∀ k (h2:k<m.length),R (l.getD k d) m[k]) (fun k h1=>by simp at h1) (fun a b l m h ih k h2=>?_) l m h;cases k with
 | zero=>simpa using h
 | succ k=>simpa using ih k (by simpa using h2)
theorem Nq.mem {l:List α}{m:List β}(h:Nq R l m):∀ a ∈ l,∃ b,R a b:=by
 refine Nq.ind (R:=R) (P:=fun l _=>∀ a ∈ l,∃ b,R a b) (fun a h1=>by cases h1) (fun a b l m h ih x h2=>?_) l m h;rcases List.mem_cons.1 h2 with rfl | h2
 ·
  exact⟨_,h⟩
 ·
  exact ih x h2
end
def Cj (cs:List (Array Value)):List Value:=cs.flatMap (·.toList)
theorem Ck (cs:List (Array Value))(c:Array Value):Cj (cs++[c])=Cj cs++c.toList:=by simp [Cj]
theorem Zfr {size:Nat}:∀(cs:List (Array Value)),(∀ c ∈ cs,c.size=size)→∀ k j,k<cs.length→j<size→(Cj cs)[k*size+j]?=(cs.getD k #[]).toList[j]?
 | [],_,k,_,hk,_=>by simp at hk
 | c :: cs,h,0,j,_,hj=>by
  have h1:=h c (by simp);simp only [Cj,List.flatMap_cons,Nat.zero_mul,Nat.zero_add,List.getD_cons_zero];rw [List.getElem?_append_left (by rw [Array.length_toList,h1]; exact hj)]
 | c :: cs,h,k+1,j,hk,hj=>by
  have h1:=h c (by simp);have ih:=Zfr cs (fun d hd=>h d (by simp [hd])) k j (by simpa using hk) hj;simp only [Cj,List.flatMap_cons,List.getD_cons_succ] at ih ⊢;rw [List.getElem?_append_right (by rw [Array.length_toList,h1,Nat.succ_mul]; omega),Array.length_toList,h1,show(k+1)*size+j-size=k*size+j by rw [Nat.succ_mul]; omega];exact ih
theorem LS.of_flS {V:World}{B e size n:Nat}{v:Value}{As:List (Array Value)}(h:V.ownsRow B e size v n (Cj As))(hn:As.length=n)(hs:∀ A ∈ As,A.size=size):LS size V v n (fun k=>As.getD k #[]):=by
 rcases h.2 with⟨e1,e0⟩ | ⟨g,cap,cur,e1,h2,h3,h4,h5,h6,h7⟩
 ·
  subst e0;exact⟨none,0,e1,Nat.le_refl _,by show 0<Xa; decide,fun c=>absurd c (Nat.lt_irrefl 0)⟩
 ·
  refine⟨_,_,e1,h4,by show n<9223372036854775808; unfold maxLen at h5; omega,fun h0=>⟨g,0,rfl,Zd h3,fun i hi j x hx=>?_⟩⟩;have hA:(As.getD i #[]).size=size:=hs _ (by simp [List.getD,hn,hi]);have hj:j<size:=by
   have:=(List.getElem?_eq_some_iff.1 hx).1;rw [Array.length_toList,hA] at this;exact this
  have hlt:i*size+j<n*size:=Nat.lt_of_lt_of_le (Nat.add_lt_add_left hj _) (by rw [← Nat.succ_mul]; exact Nat.mul_le_mul_right _ hi);rw [Nat.zero_add,Zi h3,← Array.getElem?_toList];have e2:=Zfr As hs i j (by omega) hj;rw [← h7,List.getElem?_take,if_pos hlt] at e2;rw [e2];exact hx
theorem Zod (xs:List (Int×Int)):plC xs=Cj (xs.map Yz):=by
 simp only [plC,Cj,List.flatMap_map];rfl
theorem LS.of_pl {V:World}{B e:Nat}{v:Value}{xs:List (Int×Int)}(h:V.ownsRow B e 2 v xs.length (plC xs)):LS 2 V v xs.length (fun k=>Yz (xs.getD k (0,0))):=by
 rw [Zod] at h;obtain⟨p,cap,h1,h2,h3,h4⟩:=LS.of_flS h (by simp) (fun A hA=>by obtain⟨x,-,rfl⟩:=List.mem_map.1 hA; rfl);refine⟨p,cap,h1,h2,h3,fun h0=>?_⟩;obtain⟨sb,so,e1,hl,hc⟩:=h4 h0;refine⟨sb,so,e1,hl,fun i hi=>?_⟩;have:=hc i hi;simp only [List.getD,List.getElem?_map,List.getElem?_eq_getElem hi,Option.map_some,Option.getD_some] at this ⊢;exact this
def Cl (V:World)(A:Array Value)(i:Zw):Prop:=∃ av g,A=#[.int .i64 i.op,.int .i64 i.d,.int .i64 i.a,.int .i64 i.bb,.int .u64 i.n,.int .i64 i.f,av,cpV g i.outs]∧(∃ B,V.ownsRow B 139 2 av i.args.length (plC i.args))∧Cp V g i.outs
def Ig (V:World)(B:Nat)(v:Value)(l:List Zw):Prop:=∃ As,V.ownsRow B 65 8 v l.length (Cj As)∧Nq (Cl V) As l
def Ih (V:World)(v:Value)(l:List Zw):Prop:=∃ B,Ig V B v l
def Ii (V:World)(B:Nat)(v:Value)(bl:List (List Zw)):Prop:=∃ vs,V.ownsRow B 61 1 v bl.length vs∧Nq (Ih V) vs bl
def Sy (V:World)(A:Array Value)(f:Zn):Prop:=∃ pv gh gs bv,A=#[pv,.int .i64 f.results,cpV gh f.homes,cpV gs f.slots,bv]∧(∃ B,V.ownsRow B 99 2 pv f.params.length (plC f.params))∧Cp V gh f.homes∧Cp V gs f.slots∧∃ B,Ii V B bv f.blocks
def Ue (V:World)(B:Nat)(v:Value)(fs:List Zn):Prop:=∃ As,V.ownsRow B 60 5 v fs.length (Cj As)∧Nq (Sy V) As fs
def Ij (V:World)(A:Array Value)(s:List Int×Int):Prop:=∃ g,A=#[cpV g s.1,.int .i64 s.2]∧Cp V g s.1
def Uf (V:World)(B:Nat)(v:Value)(es:List (List Int×Int)):Prop:=∃ As,V.ownsRow B 56 2 v es.length (Cj As)∧Nq (Ij V) As es
abbrev kS0:TypeId→Bool:=fun t=>t==139||t==3
abbrev kS1:TypeId→Bool:=fun t=>t==65||kS0 t
abbrev kS2:TypeId→Bool:=fun t=>t==61||(t==99||kS1 t)
abbrev kS3:TypeId→Bool:=fun t=>t==3
abbrev kS4:TypeId→Bool:=fun t=>t==60||kS2 t
abbrev kS5:TypeId→Bool:=fun t=>t==56||kS3 t
theorem Cl.keep {V V':World}{A:Array Value}{i:Zw}(h:Cl V A i)(hk:Lq kS0 V V'):Cl V' A i:=by
 obtain⟨av,g,h1,⟨B,h2⟩,h3⟩:=h;exact⟨av,g,h1,⟨B,hk.own h2 (by decide)⟩,hk.cp h3 (by decide)⟩
theorem Zra {t:TypeId}(h:kS0 t=true):kS1 t=true:=by simp only [kS1,h,Bool.or_true]
theorem Zrb {t:TypeId}(h:kS1 t=true):kS2 t=true:=by simp only [kS2,h,Bool.or_true]
theorem Ig.keep {V V':World}{B:Nat}{v:Value}{l:List Zw}(h:Ig V B v l)(hk:Lq kS1 V V'):Ig V' B v l:=by
 obtain⟨As,h1,h2⟩:=h;exact⟨As,hk.own h1 (by decide),h2.imp fun _ _ h=>h.keep (hk.mono fun _=>Zra)⟩
theorem Ih.keep {V V':World}{v:Value}{l:List Zw}(h:Ih V v l)(hk:Lq kS1 V V'):Ih V' v l:=by
 obtain⟨B,h⟩:=h;exact⟨B,h.keep hk⟩
theorem Ii.keep {V V':World}{B:Nat}{v:Value}{l:List (List Zw)}(h:Ii V B v l)(hk:Lq kS2 V V'):Ii V' B v l:=by
 obtain⟨vs,h1,h2⟩:=h;exact⟨vs,hk.own h1 (by decide),h2.imp fun _ _ h=>h.keep (hk.mono fun _=>Zrb)⟩
theorem Sy.keep {V V':World}{A:Array Value}{f:Zn}(h:Sy V A f)(hk:Lq kS2 V V'):Sy V' A f:=by
 obtain⟨pv,gh,gs,bv,h1,⟨B,h2⟩,h3,h4,B',h5⟩:=h;exact⟨pv,gh,gs,bv,h1,⟨B,hk.own h2 (by decide)⟩,hk.cp h3 (by decide),hk.cp h4 (by decide),B',h5.keep hk⟩
theorem Ij.keep {V V':World}{A:Array Value}{s:List Int×Int}(h:Ij V A s)(hk:Lq kS3 V V'):Ij V' A s:=by
 obtain⟨g,h1,h2⟩:=h;exact⟨g,h1,hk.cp h2 (by decide)⟩
theorem Ue.keep {V V':World}{B:Nat}{v:Value}{fs:List Zn}(h:Ue V B v fs)(hk:Lq kS4 V V'):Ue V' B v fs:=by
 obtain⟨As,h1,h2⟩:=h;exact⟨As,hk.own h1 (by decide),h2.imp fun _ _ h=>h.keep (hk.mono fun t ht=>by simp only [kS4,ht,Bool.or_true])⟩
theorem Uf.keep {V V':World}{B:Nat}{v:Value}{es:List (List Int×Int)}(h:Uf V B v es)(hk:Lq kS5 V V'):Uf V' B v es:=by
 obtain⟨As,h1,h2⟩:=h;exact⟨As,hk.own h1 (by decide),h2.imp fun _ _ h=>h.keep (hk.mono fun t ht=>by simp only [kS5,ht,Bool.or_true])⟩
theorem Ue.below {V V':World}{B:Nat}{v:Value}{fs:List Zn}(h:Ue V B v fs)(hb:Below V.heap.size V V'):Ue V' B v fs:=by
 obtain⟨As,h1,h2⟩:=h;exact⟨As,Yq h1 fun g hg=>hb.block g (h1.lt g hg).2,h2.imp fun _ _ h=>h.keep (.of_below hb)⟩
theorem Uf.below {V V':World}{B:Nat}{v:Value}{es:List (List Int×Int)}(h:Uf V B v es)(hb:Below V.heap.size V V'):Uf V' B v es:=by
 obtain⟨As,h1,h2⟩:=h;exact⟨As,Yq h1 fun g hg=>hb.block g (h1.lt g hg).2,h2.imp fun _ _ h=>h.keep (.of_below hb)⟩
theorem Ig.nil (V:World)(B:Nat):Ig V B (.slice none 0 0) []:=⟨[],World.ownsRow_nil _ _ _ _,.nil⟩
theorem Ii.nil (V:World)(B:Nat):Ii V B (.slice none 0 0) []:=⟨[],World.ownsRow_nil _ _ _ _,.nil⟩
theorem Ue.nil (V:World)(B:Nat):Ue V B (.slice none 0 0) []:=⟨[],World.ownsRow_nil _ _ _ _,.nil⟩
theorem Uf.nil (V:World)(B:Nat):Uf V B (.slice none 0 0) []:=⟨[],World.ownsRow_nil _ _ _ _,.nil⟩
theorem Cl.c {V:World}{A:Array Value}{i:Zw}(h:Cl V A i):Zbz V A i:=by
 obtain⟨av,g,h1,⟨B,h2⟩,h3⟩:=h;exact⟨av,_,h1,LS.of_pl h2,h3.li⟩
theorem Cl.size {V:World}{A:Array Value}{i:Zw}(h:Cl V A i):A.size=8:=by
 obtain⟨av,g,rfl,-⟩:=h;rfl
theorem Ih.c {V:World}{v:Value}{l:List Zw}(h:Ih V v l):Dk V v l:=by
 obtain⟨B,As,h1,h2⟩:=h;exact⟨_,LS.of_flS h1 h2.len (fun A hA=>by obtain⟨b,hb⟩:=h2.mem A hA; exact hb.size),fun k hk=>(h2.get #[] k hk).c⟩
theorem Sy.size {V:World}{A:Array Value}{f:Zn}(h:Sy V A f):A.size=5:=by
 obtain⟨_,_,_,_,rfl,-⟩:=h;rfl
theorem Ij.size {V:World}{A:Array Value}{s:List Int×Int}(h:Ij V A s):A.size=2:=by
 obtain⟨_,rfl,-⟩:=h;rfl
theorem Zjs (vs:List Value):Cj (vs.map fun v=>#[v])=vs:=by
 induction vs with
 | nil=>rfl
 | cons v vs ih =>
  simp only [Cj,List.map_cons,List.flatMap_cons] at ih ⊢;rw [ih];rfl
theorem Sy.c {V:World}{A:Array Value}{f:Zn}(h:Sy V A f):Oz V A f:=by
 obtain⟨pv,gh,gs,bv,h1,⟨B,h2⟩,h3,h4,B',vs,h5,h6⟩:=h;rw [← Zjs vs] at h5;have hl:=LS.of_flS h5 (by simp [h6.len]) (fun A hA=>by obtain⟨x,-,rfl⟩:=List.mem_map.1 hA; rfl);refine⟨pv,_,_,bv,fun k=>vs.getD k .nilIface,h1,LS.of_pl h2,h3.li,h4.li,?_,fun k hk=>(h6.get .nilIface k hk).c⟩;obtain⟨p,cap,g1,g2,g3,g4⟩:=hl;refine⟨p,cap,g1,g2,g3,fun h0=>?_⟩;obtain⟨sb,so,e1,hl,hc⟩:=g4 h0;refine⟨sb,so,e1,hl,fun i hi=>?_⟩;have:=hc i hi;have hv:i<vs.length:=by rw [h6.len]; exact hi
 simp only [List.getD,List.getElem?_map,List.getElem?_eq_getElem hv,Option.map_some,Option.getD_some] at this ⊢;exact this
theorem Ij.c {V:World}{A:Array Value}{s:List Int×Int}(h:Ij V A s):Zca V A s:=by
 obtain⟨g,h1,h2⟩:=h;exact⟨_,h1,h2.li⟩
theorem Zbo {V:World}{B B':Nat}{fv ev:Value}{P:Zl}(hf:Ue V B fv P.funcs)(he:Uf V B' ev P.externs):∃ A E,Lm V fv ev P A E:=by
 obtain⟨As,h1,h2⟩:=hf;obtain⟨Es,h3,h4⟩:=he;exact⟨_,_,⟨LS.of_flS h1 h2.len (fun A hA=>by obtain⟨b,hb⟩:=h2.mem A hA; exact hb.size),fun k hk=>(h2.get #[] k hk).c,LS.of_flS h3 h4.len (fun A hA=>by obtain⟨b,hb⟩:=h4.mem A hA; exact hb.size),fun k hk=>(h4.get #[] k hk).c⟩⟩
theorem Zek {P:Program}(w:World)(t ty e:TypeId)(i:TypeInfo)(z:Value)(size bytes:Nat)(ht:P.underlying t=some (.slice e))(hi:P.info? e=some i)(hz:i.zero=some z)
 (hsize:i.size=size) (hby:i.bytes=bytes) (hzs:z.cells.size=size) (hsz:0<size) (p:Option Addr) (m c:Nat) (news:List Value) (hl:news.length=m*size)
 (hs:0<m→∃ sb so,p=some ⟨sb,so,none⟩∧∀ j u,news[j]?=some u→w.cell? ⟨sb,so+j,none⟩=some u) (h1:∀ u ∈ news,u.oneCell'=true)
 (h63:m≤maxLen) (hbytes:m*bytes≤140737488355328) :
 ∃ v' w',(Builtin.append_ #[t,t] ty #[.slice none 0 0,.slice p m c]).run P w=.ok v' w'∧w'.ownsRow w.heap.size e size v' m news∧Below w.heap.size w w':=by
 cases p with
 | none =>
  have h0:m=0:=by
   rcases Nat.eq_zero_or_pos m with h0 | h0
   ·
    exact h0
   ·
    obtain⟨_,_,e,_⟩:=hs h0;cases e
  subst h0;have hn:news=[]:=List.eq_nil_of_length_eq_zero (by omega);subst hn;refine⟨.slice none 0 0,w,?_,World.ownsRow_nil _ _ _ _,Below.refl _ _⟩;simp [Builtin.append_,run_underlying ht,sizeOf,typeInfo,hi,Builtin.lenOf,Builtin.firstCells]
 | some a =>
  obtain⟨v',w',hr,ho,hg,-⟩:=run_append_own (P:=P) w w.heap.size t ty e i z size bytes ht hi hz hsize hby hzs hsz _ 0 [] (World.ownsRow_nil _ _ _ _) a m c news hl (fun j u hj=>by
   rcases Nat.eq_zero_or_pos m with h0 | h0
   ·
    subst h0;have hn:news=[]:=List.eq_nil_of_length_eq_zero (by omega);subst hn;cases hj
   ·
    obtain⟨sb,so,e1,hc⟩:=hs h0;injection e1 with e1;subst e1;rw [Go.WideShapes.add_plain];exact hc j u hj) h1 (by omega) (by rw [Nat.zero_add]; exact hbytes) (Nat.le_refl _)
  rw [Nat.zero_add,List.nil_append] at ho;exact⟨v',w',hr,ho,⟨hg.os,hg.tape,hg.output,hg.size,fun q hq=>hg.block q hq (by intro h; cases h)⟩⟩
theorem LS.pl {w:World}{p:Option Addr}{c:Nat}{xs:List (Int×Int)}(h:LS 2 w (.slice p xs.length c) xs.length (fun k=>Yz (xs.getD k (0,0))))(h0:0<xs.length):∃ sb so,p=some ⟨sb,so,none⟩∧∀ j u,(plC xs)[j]?=some u→w.cell? ⟨sb,so+j,none⟩=some u:=by
 obtain⟨p',c',e,h2,h3,h4⟩:=h;injection e with e1 e2 e3;obtain⟨sb,so,e4,hl,hc⟩:=h4 h0;refine⟨sb,so,e1.trans e4,fun j u hj=>?_⟩;have hj2:j<xs.length*2:=by
  have:=(List.getElem?_eq_some_iff.1 hj).1;rwa [Zaq] at this
 have hk:j / 2<xs.length:=by omega
 have hr:=hc (j / 2) hk;have hg:=Zev xs (j / 2) hk;rcases Nat.mod_two_eq_zero_or_one j with hm | hm
 ·
  have ej:j=j / 2*2:=by omega
  rw [ej] at hj ⊢;rw [hg.1] at hj;have:=hr 0 u (by simpa [Yz] using hj);simpa using this
 ·
  have ej:j=j / 2*2+1:=by omega
  rw [ej] at hj ⊢;rw [hg.2] at hj;have:=hr 1 u (by simpa [Yz] using hj);simpa [Nat.add_assoc] using this
theorem Zfs (xs:List (Int×Int)):∀ u ∈ plC xs,u.oneCell'=true:=fun u hu=>by
 simp only [plC,List.mem_flatMap] at hu;obtain⟨x,-,hx⟩:=hu;simp at hx;rcases hx with rfl | rfl <;> rfl
structure Ik (g:Nat)(W V:World):Prop where
 os:V.os=W.os
 tape:V.tape=W.tape
 output:V.output=W.output
 size:W.heap.size≤V.heap.size
 oth:∀ q:Nat,q<W.heap.size→q≠g→V.heap[q]?=W.heap[q]?
theorem Ik.refl (g:Nat)(W:World):Ik g W W:=⟨rfl,rfl,rfl,Nat.le_refl _,fun _ _ _=>rfl⟩
theorem Ik.next {g:Nat}{W V V':World}(h:Ik g W V)(hb:Below V.heap.size V V'):Ik g W V':=by
 have hs:=h.size;exact⟨hb.os.trans h.os,hb.tape.trans h.tape,hb.output.trans h.output,Nat.le_trans h.size hb.size,fun q hq hn=>(hb.block q (by omega)).trans (h.oth q hq hn)⟩
theorem Ik.grown {g e size n:Nat}{W V V':World}{v:Value}{xs:List Value}(h:Ik g W V)(ho:V.ownsRow W.heap.size e size v n xs)(hg:V.grownBy V' v.ownBlock):Ik g W V':=by
 have hs:=h.size;exact⟨hg.os.trans h.os,hg.tape.trans h.tape,hg.output.trans h.output,Nat.le_trans h.size hg.size,fun q hq hn=>(hg.block q (by omega) fun c=>by have:=(ho.lt q c.symm).1; omega).trans (h.oth q hq hn)⟩
theorem Ik.set {g:Nat}{W V:World}(h:Ik g W V)(j:Nat)(v:Value):Ik g W (V.setCell ⟨g,j,none⟩ v):=⟨h.os,h.tape,h.output,by simpa using h.size,fun q hq hn=>(heap_setCell_other _ _ _ _ hn).trans (h.oth q hq hn)⟩
theorem Ik.below {g b:Nat}{W V:World}(h:Ik g W V)(hb:b≤W.heap.size)(hg:b≤g):Below b W V:=⟨h.os,h.tape,h.output,h.size,fun q hq=>h.oth q (by omega) (by omega)⟩
theorem Ik.kp {g:Nat}{S:TypeId→Bool}{W V:World}{cs:Array Value}{t:TypeId}(h:Ik g W V)(hr:W.heap[g]?=some (.cells cs t (0,0)))(hs:S t=false):Lq S W V:=fun q cs' t' hq ht=>by
 refine(h.oth q (Zd hq) fun c=>?_).trans hq;subst c;rw [hq] at hr;injection hr with hr;injection hr with _ hr _;rw [← hr,ht] at hs;cases hs
theorem Si {B g e size n:Nat}{t:TypeId}{V V':World}{v:Value}{xs:List Value}{cs:Array Value}(hr:V.heap[g]?=some (.cells cs t (0,0)))(ho:V.ownsRow B e size v n xs)(hg:V.grownBy V' v.ownBlock)(hne:e≠t):V'.heap[g]?=some (.cells cs t (0,0)) :=
 (hg.block g (Zd hr) fun c=>Xu ho hr hne c.symm).trans hr
theorem Jg {B e size n:Nat}{V V':World}{v:Value}{xs:List Value}(h:V.ownsRow B e size v n xs)(hb:Below V.heap.size V V'):V'.ownsRow B e size v n xs:=Yq h fun g hg=>hb.block g (h.lt g hg).2
theorem Zjt {B g j:Nat}{V V':World}{v v' x:Value}{As:List (Array Value)}{es:List (List Int×Int)}{s:List Int×Int}{A cs:Array Value}(ho:V.ownsRow B 56 2 v es.length (Cj As))(ha:Nq (Ij V) As es)(hA:Ij V A s)(hg:V.grownBy V' v.ownBlock)(ho':V'.ownsRow B 56 2 v' (es.length+1) (Cj As++A.toList))(hr:V'.heap[g]?=some (.cells cs 29 (0,0))):Uf (V'.setCell ⟨g,j,none⟩ x) B v' (es++[s]):=by
 have k1:Lq kS3 V V':=.of_grown ho hg (by decide);have k2:Lq kS3 V' (V'.setCell ⟨g,j,none⟩ x):=.set hr (by decide) _ _;refine⟨As++[A],?_,(ha.snoc hA).imp fun _ _ h=>h.keep (k1.trans k2)⟩;rw [Ck,List.length_append];exact Yq ho' fun q hq=>heap_setCell_other _ _ _ _ fun c=>Xu ho' hr (by decide) (by rw [hq,c])
theorem Zju {B:Nat}{V V':World}{v v':Value}{As:List (Array Value)}{l:List Zw}{i:Zw}{A:Array Value}(ho:V.ownsRow B 65 8 v l.length (Cj As))(ha:Nq (Cl V) As l)(hA:Cl V A i)(hg:V.grownBy V' v.ownBlock)(ho':V'.ownsRow B 65 8 v' (l.length+1) (Cj As++A.toList)):Ig V' B v' (l++[i]):=by
 have k1:Lq kS0 V V':=.of_grown ho hg (by decide);refine⟨As++[A],?_,(ha.snoc hA).imp fun _ _ h=>h.keep k1⟩;rw [Ck,List.length_append];exact ho'
theorem Zjv {B g j:Nat}{V V':World}{v v' x y:Value}{vs:List Value}{bl:List (List Zw)}{l:List Zw}{cs:Array Value}(ho:V.ownsRow B 61 1 v bl.length vs)(ha:Nq (Ih V) vs bl)(hA:Ih V y l)(hg:V.grownBy V' v.ownBlock)(ho':V'.ownsRow B 61 1 v' (bl.length+1) (vs++[y]))(hr:V'.heap[g]?=some (.cells cs 60 (0,0))):Ii (V'.setCell ⟨g,j,none⟩ x) B v' (bl++[l]):=by
 have k1:Lq kS1 V V':=.of_grown ho hg (by decide);have k2:Lq kS1 V' (V'.setCell ⟨g,j,none⟩ x):=.set hr (by decide) _ _;refine⟨vs++[y],?_,(ha.snoc hA).imp fun _ _ h=>h.keep (k1.trans k2)⟩;rw [List.length_append];exact Yq ho' fun q hq=>heap_setCell_other _ _ _ _ fun c=>Xu ho' hr (by decide) (by rw [hq,c])
theorem Zjw {B g j:Nat}{V V':World}{v v' x:Value}{As:List (Array Value)}{fs:List Zn}{f:Zn}{A cs:Array Value}(ho:V.ownsRow B 60 5 v fs.length (Cj As))(ha:Nq (Sy V) As fs)(hA:Sy V A f)(hg:V.grownBy V' v.ownBlock)(ho':V'.ownsRow B 60 5 v' (fs.length+1) (Cj As++A.toList))(hr:V'.heap[g]?=some (.cells cs 29 (0,0))):Ue (V'.setCell ⟨g,j,none⟩ x) B v' (fs++[f]):=by
 have k1:Lq kS2 V V':=.of_grown ho hg (by decide);have k2:Lq kS2 V' (V'.setCell ⟨g,j,none⟩ x):=.set hr (by decide) _ _;refine⟨As++[A],?_,(ha.snoc hA).imp fun _ _ h=>h.keep (k1.trans k2)⟩;rw [Ck,List.length_append];exact Yq ho' fun q hq=>heap_setCell_other _ _ _ _ fun c=>Xu ho' hr (by decide) (by rw [hq,c])
theorem Cm {P:Program}(w:World){ops:Array Oper}{rest:List Oper}{o:Oper}{a:Act}{Q:Exit→Act→World→Prop}(hgd:o.guard=none)(s x:Operand)(t:TypeId)
 (ho:o.op=.call { callee:=.builtin .append,args:=#[s,x],argTypes:=#[t,t] })
 (e:TypeId) (i:TypeInfo) (z:Value) (size bytes:Nat) (ht:P.underlying t=some (.slice e)) (hi:P.info? e=some i) (hz:i.zero=some z)
 (hsize:i.size=size) (hby:i.bytes=bytes) (hzs:z.cells.size=size) (hsz:0<size) (hs:a.eval s=.slice none 0 0) (p:Option Addr) (m c:Nat) (hx:a.eval x=.slice p m c) (news:List Value) (hl:news.length=m*size)
 (hc:0<m→∃ sb so,p=some ⟨sb,so,none⟩∧∀ j u,news[j]?=some u→w.cell? ⟨sb,so+j,none⟩=some u) (h1:∀ u ∈ news,u.oneCell'=true)
 (h63:m≤maxLen) (hbytes:m*bytes≤140737488355328)
 (h:∀ v' w',w'.ownsRow w.heap.size e size v' m news→Below w.heap.size w w'→wpList P ops Q rest (a.put o.dst v') w'):wpList P ops Q (o :: rest) a w :=
 wpList_plain hgd fun _ hK=>by
  obtain⟨v',w',hr,h2,h3⟩:=Zek (P:=P) w t o.type e i z size bytes ht hi hz hsize hby hzs hsz p m c news hl hc h1 h63 hbytes;unfold Oper.wp execOp;simp only [ho,resolve,invoke,builtin,Sem.run_bind,Sem.run_pure,Result.andThen_ok,List.map_toArray,List.map_cons,List.map_nil,hs,hx,hr];exact hK _ _ (h v' w' h2 h3)
theorem Tryz.infPrF:(Tryz.prog.info? 29).map (·.size)=some 2:=by kernel_rfl
theorem Tryz.infSgF:(Tryz.prog.info? 56).map (fun i=>(i.zero,i.size,i.bytes))=some (some (.agg #[.slice none 0 0,.int .i64 0]),2,32):=by kernel_rfl
theorem Tryz.infInF:(Tryz.prog.info? 65).map (fun i=>(i.zero,i.size,i.bytes))=some (some (.agg #[.int .i64 0,.int .i64 0,.int .i64 0,.int .i64 0,.int .u64 0,.int .i64 0,.slice none 0 0,.slice none 0 0]),8,96):=by kernel_rfl
theorem Tryz.infBlF:(Tryz.prog.info? 61).map (fun i=>(i.zero,i.size,i.bytes))=some (some (.slice none 0 0),1,24):=by kernel_rfl
theorem Tryz.infFnF:(Tryz.prog.info? 60).map (fun i=>(i.zero,i.size,i.bytes))=some (some (.agg #[.slice none 0 0,.int .i64 0,.slice none 0 0,.slice none 0 0,.slice none 0 0]),5,104):=by kernel_rfl
theorem Tryz.infPaF:(Tryz.prog.info? 99).map (fun i=>(i.zero,i.size,i.bytes))=some (some (.agg #[.int .i64 0,.int .i64 0]),2,16):=by kernel_rfl
theorem Tryz.infAgF:(Tryz.prog.info? 139).map (fun i=>(i.zero,i.size,i.bytes))=some (some (.agg #[.int .i64 0,.int .i64 0]),2,16):=by kernel_rfl
end Go.Proofs.YteddfaconabobaaGreatDoor
namespace Go.Proofs.YteddfaconabobaaGreatDoor
open Go.ChangeShapes Go.WideShapes Go.ChangeAt Go.RowKit Go.Deep
section
variable {H:Type} {enc:TypeId×Value→H} {w:World} {held:Bool}
theorem Le {n:Nat}{v:Value}{y:DataW H×List MemPlace}(h:Mc enc w held n 23 [v] y)(hw:Nc 23 y.1):∃ ns:List Int,Li w v ns∧ns.length*8≤reachBytes:=by
 obtain⟨ps,h1,h2,h3⟩:=Lb (b:=8) (Ok:=fun q:Array Value×Int=>q.1=#[.int .i64 q.2]) Tryz.underlying23 Tryz.cellsIntE (by decide) (by kernel_rfl) (fun n cs y hl hy _=>by
  match cs,hl with
  | [v],_ =>
   obtain⟨x,rfl,hx⟩:=Xq hy;exact⟨x,rfl⟩) h hw
 have hl:(ps.map (·.2)).length=ps.length:=by simp
 obtain⟨p,cap,g1,g2,g3,g4⟩:=(h1.congr (B:=fun k=>#[.int .i64 ((ps.map (·.2)).getD k default)]) (fun i hi=>by rw [Rw ps #[]]; exact h2 _ (Lh _ _ _ hi))).ones;refine⟨ps.map (·.2),⟨p,cap,by rw [hl]; exact g1,by rw [hl]; exact g2,by rw [hl]; exact g3,fun h0=>by rw [hl] at h0 ⊢; exact g4 h0⟩,by rw [hl]; exact h3⟩
set_option maxRecDepth 100000 in
theorem Zhf {n:Nat}{cs:List Value}{y:DataW H×List MemPlace}(hl:cs.length=8)(h:Mc enc w held n 65 cs y)(hw:Nc 65 y.1):∃ i:Zw,Zbz w cs.toArray i∧Zob i:=by
 obtain⟨c0,c1,c2,c3,c4,c5,c6,c7,rfl⟩:=Zdv hl;obtain⟨xs,k,-,hx,-,hxl,hall⟩:=DataW.trod_struct Tryz.underlying65 h;obtain⟨y0,y1,y2,y3,y4,y5,y6,y7,rfl⟩:=Zdv hxl;have f0:Mc enc w held k 3 [c0] y0:=Ym hall (i:=0) rfl Tryz.cellsIntE rfl;have f1:Mc enc w held k 3 [c1] y1:=Ym hall (i:=1) rfl Tryz.cellsIntE rfl;have f2:Mc enc w held k 3 [c2] y2:=Ym hall (i:=2) rfl Tryz.cellsIntE rfl;have f3:Mc enc w held k 3 [c3] y3:=Ym hall (i:=3) rfl Tryz.cellsIntE rfl;have f4:Mc enc w held k 62 [c4] y4:=Ym hall (i:=4) rfl Tryz.cellsU64E rfl;have f5:Mc enc w held k 3 [c5] y5:=Ym hall (i:=5) rfl Tryz.cellsIntE rfl;have f6:Mc enc w held k 63 [c6] y6:=Ym hall (i:=6) rfl Tryz.cellsArgsE rfl;have f7:Mc enc w held k 23 [c7] y7:=Ym hall (i:=7) rfl Tryz.cellsIntsE rfl;clear hall;rw [show y.1=_ from congrArg Prod.fst hx] at hw;unfold Nc at hw;simp only [DataW.weights,Tryz.underlying65,List.map_cons,List.map_nil,DataW.weightsEach,List.mem_append] at hw;obtain⟨x0,rfl,b0⟩:=Xq f0;obtain⟨x1,rfl,b1⟩:=Xq f1;obtain⟨x2,rfl,b2⟩:=Xq f2;obtain⟨x3,rfl,b3⟩:=Xq f3;obtain⟨x4,rfl,b4⟩:=Iy f4;obtain⟨x5,rfl,b5⟩:=Xq f5;obtain⟨gs,l6,m6⟩:=Zdp f6 (fun z hz=>hw z (by first | exact Or.inl hz | simp only [hz,true_or,or_true]));obtain⟨os,l7,m7⟩:=Le f7 (fun z hz=>hw z (by first | exact Or.inl hz | simp only [hz,true_or,or_true]));exact⟨⟨x0,x1,x2,x3,x4,x5,gs,os⟩,⟨c6,c7,rfl,l6,l7⟩,b4,m6,m7⟩
theorem Zde {n:Nat}{cs:List Value}{y:DataW H×List MemPlace}(hl:cs.length=1)(h:Mc enc w held n 61 cs y)(hw:Nc 61 y.1) :
 ∃ l:List Zw,∃ v,cs=[v]∧Dk w v l∧Zme l:=by
 match cs,hl with
 | [v],_ =>
  haveI:Inhabited Zw:=⟨⟨0,0,0,0,0,0,[],[]⟩⟩
  obtain⟨ps,h1,h2,h3⟩:=Lb (b:=96) (Ok:=fun q:Array Value×Zw=>Zbz w q.1 q.2∧Zob q.2) Tryz.underlying61 Tryz.cellsInsE (by decide) (by kernel_rfl) (fun n cs y hl hy hw=>Zhf hl hy hw) h hw;have hl:(ps.map (·.2)).length=ps.length:=by simp
  refine⟨ps.map (·.2),v,rfl,⟨_,by rw [hl]; exact h1,fun k hk=>?_⟩,by rw [hl]; exact h3,fun i hi=>?_⟩
  ·
   rw [hl] at hk;have e1:(ps.getD k (#[],default))=ps[k]:=by simp [List.getD,hk]
   rw [e1,List.getElem_map];exact(h2 _ (List.getElem_mem hk)).1
  ·
   obtain⟨q,hq,rfl⟩:=List.mem_map.1 hi;exact(h2 q hq).2
theorem Zbr {n:Nat}{v:Value}{y:DataW H×List MemPlace}(h:Mc enc w held n 58 [v] y)(hw:Nc 58 y.1) :
 ∃(bl:List (List Zw)) (B:Nat→Value),LS 1 w v bl.length (fun k=>#[B k])∧(∀ k (hk:k<bl.length),Dk w (B k) bl[k])∧bl.length*24≤reachBytes∧∀ l ∈ bl,Zme l:=by
 obtain⟨ps,h1,h2,h3⟩:=Lb (b:=24) (Ok:=fun q:Array Value×List Zw=>∃ v,q.1=#[v]∧Dk w v q.2∧Zme q.2) Tryz.underlying58 Tryz.cellsInssE (by decide) (by kernel_rfl) (fun n cs y hl hy hw=>by
  obtain⟨l,v,rfl,g⟩:=Zde hl hy hw;exact⟨l,v,rfl,g⟩) h hw
 have hl:(ps.map (·.2)).length=ps.length:=by simp
 refine⟨ps.map (·.2),fun k=>((ps.getD k (#[],default)).1).getD 0 undef,?_,fun k hk=>?_,by rw [hl]; exact h3,fun l hl=>?_⟩
 ·
  rw [hl];refine h1.congr (fun i hi=>?_);obtain⟨v',e,-⟩:=h2 _ (Lh ps (#[],default) i hi);show(ps.getD i (#[],default)).1=#[((ps.getD i (#[],default)).1).getD 0 undef];rw [e];rfl
 ·
  rw [hl] at hk;have e1:(ps.getD k (#[],default))=ps[k]:=by simp [List.getD,hk]
  obtain⟨v',e,g,-⟩:=h2 _ (List.getElem_mem hk);show Dk w (((ps.getD k (#[],default)).1).getD 0 undef) (ps.map (·.2))[k];rw [e1,List.getElem_map,e];exact g
 ·
  obtain⟨q,hq,rfl⟩:=List.mem_map.1 hl;obtain⟨v',-,-,g⟩:=h2 q hq;exact g
theorem Zhg {n:Nat}{cs:List Value}{y:DataW H×List MemPlace}(hl:cs.length=2)(h:Mc enc w held n 56 cs y)(hw:Nc 56 y.1):∃ s:List Int×Int,Zca w cs.toArray s∧s.1.length*8≤reachBytes:=by
 obtain⟨c0,c1,rfl⟩:=Kp hl;obtain⟨xs,k,-,hx,-,hxl,hall⟩:=DataW.trod_struct Tryz.underlying56 h;obtain⟨y0,y1,rfl⟩:=Kp hxl;have f0:Mc enc w held k 23 [c0] y0:=Ym hall (i:=0) rfl Tryz.cellsIntsE rfl;have f1:Mc enc w held k 3 [c1] y1:=Ym hall (i:=1) rfl Tryz.cellsIntE rfl;clear hall;rw [show y.1=_ from congrArg Prod.fst hx] at hw;unfold Nc at hw;simp only [DataW.weights,Tryz.underlying56,List.map_cons,List.map_nil,DataW.weightsEach,List.mem_append] at hw;obtain⟨ns,l0,m0⟩:=Le f0 (fun z hz=>hw z (by first | exact Or.inl hz | simp only [hz,true_or,or_true]));obtain⟨x1,rfl,b1⟩:=Xq f1;exact⟨(ns,x1),⟨c0,rfl,l0⟩,m0⟩
set_option maxRecDepth 100000 in
theorem Zen {n:Nat}{cs:List Value}{y:DataW H×List MemPlace}(hl:cs.length=5)(h:Mc enc w held n 60 cs y)(hw:Nc 60 y.1):∃ f:Zn,Oz w cs.toArray f∧Zoc f:=by
 obtain⟨c0,c1,c2,c3,c4,rfl⟩:=Zif hl;obtain⟨xs,k,-,hx,-,hxl,hall⟩:=DataW.trod_struct Tryz.underlying60 h;obtain⟨y0,y1,y2,y3,y4,rfl⟩:=Zif hxl;have f0:Mc enc w held k 57 [c0] y0:=Ym hall (i:=0) rfl Tryz.cellsParamsE rfl;have f1:Mc enc w held k 3 [c1] y1:=Ym hall (i:=1) rfl Tryz.cellsIntE rfl;have f2:Mc enc w held k 23 [c2] y2:=Ym hall (i:=2) rfl Tryz.cellsIntsE rfl;have f3:Mc enc w held k 23 [c3] y3:=Ym hall (i:=3) rfl Tryz.cellsIntsE rfl;have f4:Mc enc w held k 58 [c4] y4:=Ym hall (i:=4) rfl Tryz.cellsBlocksE rfl;clear hall;rw [show y.1=_ from congrArg Prod.fst hx] at hw;unfold Nc at hw;simp only [DataW.weights,Tryz.underlying60,List.map_cons,List.map_nil,DataW.weightsEach,List.mem_append] at hw;obtain⟨pp,l0,m0⟩:=Zap f0 (fun z hz=>hw z (by first | exact Or.inl hz | simp only [hz,true_or,or_true]));obtain⟨x1,rfl,b1⟩:=Xq f1;obtain⟨hs,l2,m2⟩:=Le f2 (fun z hz=>hw z (by first | exact Or.inl hz | simp only [hz,true_or,or_true]));obtain⟨ss,l3,m3⟩:=Le f3 (fun z hz=>hw z (by first | exact Or.inl hz | simp only [hz,true_or,or_true]));obtain⟨bl,B,l4,l5,m4,v4⟩:=Zbr f4 (fun z hz=>hw z (by first | exact Or.inl hz | simp only [hz,true_or,or_true]));exact⟨⟨pp,x1,hs,ss,bl⟩,⟨c0,c2,c3,c4,B,rfl,⟨l0,l2,l3,l4,l5⟩⟩,⟨m0,m2,m3,m4,v4⟩⟩
theorem Zmk:Tryz.prog.bytesOf 60=104:=by kernel_rfl
theorem Zml:Tryz.prog.bytesOf 56=32:=by kernel_rfl
set_option maxRecDepth 100000 in
theorem Zeo {n:Nat}{c0 c1:Value}{y:DataW H×List MemPlace}(h:Mc enc w held n 29 [c0,c1] y)(hw:Nc 29 y.1) :
 ∃(P:Zl) (A E:Nat→Array Value),Lm w c0 c1 P A E∧Ie P:=by
 obtain⟨xs,k,-,hx,-,hxl,hall⟩:=DataW.trod_struct Tryz.underlying29 h;obtain⟨y0,y1,rfl⟩:=Kp hxl;have f0:Mc enc w held k 26 [c0] y0:=Ym hall (i:=0) rfl Tryz.cellsFuncsE rfl;have f1:Mc enc w held k 27 [c1] y1:=Ym hall (i:=1) rfl Tryz.cellsSigsE rfl;clear hall;rw [show y.1=_ from congrArg Prod.fst hx] at hw;unfold Nc at hw;simp only [DataW.weights,Tryz.underlying29,List.map_cons,List.map_nil,DataW.weightsEach,List.mem_append] at hw;haveI:Inhabited Zn:=⟨Ze⟩
 obtain⟨pf,l0,v0,m0⟩:=Lb (Ok:=fun q:Array Value×Zn=>Oz w q.1 q.2∧Zoc q.2) Tryz.underlying26 Tryz.cellsFuncE (by decide) Zmk (fun n cs y hl hy hw=>Zen hl hy hw) f0 (fun z hz=>hw z (by first | exact Or.inl hz | simp only [hz,true_or,or_true]));obtain⟨pe,l1,v1,m1⟩:=Lb (Ok:=fun q:Array Value×(List Int×Int)=>Zca w q.1 q.2∧q.2.1.length*8≤reachBytes) Tryz.underlying27 Tryz.cellsSigE (by decide) Zml (fun n cs y hl hy hw=>Zhg hl hy hw) f1 (fun z hz=>hw z (by first | exact Or.inl hz | simp only [hz,true_or,or_true]));have hl0:(pf.map (·.2)).length=pf.length:=by simp
 have hl1:(pe.map (·.2)).length=pe.length:=by simp
 refine⟨⟨pf.map (·.2),pe.map (·.2)⟩,_,_,⟨by rw [hl0]; exact l0,fun k hk=>?_,by rw [hl1]; exact l1,fun k hk=>?_⟩,⟨by rw [hl0]; exact m0,by rw [hl1]; exact m1,fun f hf=>?_,fun s hs=>?_⟩⟩
 ·
  have hk':k<pf.length:=by rw [← hl0]; exact hk
  have e1:(pf.getD k (#[],default))=pf[k]:=by simp [List.getD,hk']
  show Oz w (pf.getD k (#[],default)).1 (pf.map (·.2))[k];rw [e1,List.getElem_map];exact(v0 _ (List.getElem_mem hk')).1
 ·
  have hk':k<pe.length:=by rw [← hl1]; exact hk
  have e1:(pe.getD k (#[],default))=pe[k]:=by simp [List.getD,hk']
  show Zca w (pe.getD k (#[],default)).1 (pe.map (·.2))[k];rw [e1,List.getElem_map];exact(v1 _ (List.getElem_mem hk')).1
 ·
  obtain⟨q,hq,rfl⟩:=List.mem_map.1 hf;exact(v0 q hq).2
 ·
  obtain⟨q,hq,rfl⟩:=List.mem_map.1 hs;exact(v1 q hq).2
theorem Ie.word {P:Zl}(h:Ie P):∀ f ∈ P.funcs,∀ l ∈ f.blocks,∀ i ∈ l,0≤i.n∧i.n<18446744073709551616:=fun f hf l hl i hi=>(((h.fe f hf).e l hl).2 i hi).1
theorem Ie.num {P:Zl}(h:Ie P):Zkh P:=fun k i j=>by
 by_cases hk:k<P.funcs.length
 ·
  have hf:=Lh P.funcs Ze k hk;generalize P.funcs.getD k Ze=f at hf ⊢;by_cases hi:i<f.blocks.length
  ·
   have hl:=Lh f.blocks [] i hi;generalize f.blocks.getD i []=l at hl ⊢;by_cases hj:j<l.length
   ·
    exact h.word f hf l hl _ (Lh _ _ _ hj)
   ·
    rw [show l.getD j Lt=Lt by simp [List.getD,Nat.le_of_not_lt hj]];exact⟨by decide,by decide⟩
  ·
   rw [show f.blocks.getD i []=[] by simp [List.getD,Nat.le_of_not_lt hi]];exact⟨Int.le_refl 0,by show(0:Int)<_; decide⟩
 ·
  rw [show P.funcs.getD k Ze=Ze by simp [List.getD,Nat.le_of_not_lt hk]];exact⟨Int.le_refl 0,by show(0:Int)<_; decide⟩
theorem Ie.par {P:Zl}(h:Ie P)(k:Nat):(P.funcs.getD k Ze).params.length≤8796093022208:=by
 by_cases hk:k<P.funcs.length
 ·
  have hf:=(h.fe _ (Lh P.funcs Ze k hk)).p;unfold reachBytes at hf;omega
 ·
  rw [show P.funcs.getD k Ze=Ze by simp [List.getD,Nat.le_of_not_lt hk]];simp [Ze]
end
end Go.Proofs.YteddfaconabobaaGreatDoor
namespace Go.Proofs.YteddfaconabobaaGreatDoor
open Go.RowKit
theorem My (w:World)(Z cs:Array Value)(T:TypeId):((w.alloc (.cells Z T)).setRow w.heap.size cs).heap[w.heap.size]?=some (.cells cs T (0,0))∧Below w.heap.size w ((w.alloc (.cells Z T)).setRow w.heap.size cs)∧(w.alloc (.cells Z T)).heap[w.heap.size]?=some (.cells Z T (0,0)):=by
 obtain⟨r,hb,-⟩:=Yj w (.cells Z T (0,0));exact⟨setRow_heap _ _ _ _ _ _ r,Zh hb (Nat.le_refl _),r⟩
theorem Gs {P:Zl}{w0 w:World}{rb b:Nat}{f:Mh}{R:List Mh}{frv tv:Value}{tr:List (Int×List Int)}{es:List Value}(hG:Yp P)(hW:Lp P f.x)(hS:Xc w0 w rb b (f :: R) frv tv tr es)(i:Zw)(hi:Zo f.x=i) :
 Calls Tryz.prog 82 #[.pointer (some ⟨f.q,0,none⟩)] w fun e w'=>∃ xap xac xop xoc,e=.returned (.agg #[.int .i64 i.op,.int .i64 i.d,.int .i64 i.a,.int .i64 i.bb,.int .u64 i.n,.int .i64 i.f,.slice xap i.args.length xac,.slice xop i.outs.length xoc])∧LS 2 w0 (.slice xap i.args.length xac) i.args.length (fun k=>Yz (i.args.getD k (0,0)))∧Li w0 (.slice xop i.outs.length xoc) i.outs∧Gn w0 w' (Zp f.x) f.q f.lo f.hi f.lg f.bp f.sp f.op f.bc f.sc f.oc f.gs f.B∧Sx f.lo f.hi w w':=by
 have hH:=hG.fnH hW.fn;have h1:=hW.b0;have h2:=hW.b1;have h3:=hW.i0;have h4:=hW.i1;obtain⟨bn,hb⟩:=Int.eq_ofNat_of_zero_le h1;obtain⟨nx,hn⟩:=Int.eq_ofNat_of_zero_le h3;rw [hb] at h2 h4;rw [hn] at h4;rw [Int.toNat_natCast] at h4;have:=Zle w0 f.x f.q f.lo f.hi f.lg f.bp f.sp f.op f.bc f.sc f.oc f.gs f.B bn nx w (hS.stk f List.mem_cons_self).1 hS.low hb hn (by omega) (by omega) hH.b12 (hH.bk bn (by omega)).2;rw [hi] at this;exact this
set_option maxHeartbeats 4000000 in
set_option maxRecDepth 100000 in
theorem Zgp {P:Zl}{w0 w:World}{rb b:Nat}{f:Mh}{R:List Mh}{frv tv fv scv vv:Value}{tr:List (Int×List Int)}{es:List Value}{kind steps:Int}(hG:Yp P)(hW:Lp P f.x)(hS:Xc w0 w rb b (f :: R) frv tv tr es)(hrow:Gv w rb fv scv frv kind vv tv steps){d a bb n F:Int}{args:List (Int×Int)}{outs:List Int}(hi:Zo f.x=⟨14,d,a,bb,n,F,args,outs⟩)  :
 Calls Tryz.prog 65 #[.pointer (some ⟨rb,0,none⟩),.pointer (some ⟨f.q,0,none⟩)] w fun e w'=>(∃ v,e=.returned v)∧Gv w' rb fv scv frv kind vv tv steps∧Xc w0 w' rb b ({ f with x:={ f.x with b:=a,i:=0 } } :: R) frv tv tr es∧Below b w w':=by
 have HFE:=J (Gs hG hW hS ⟨14,d,a,bb,n,F,args,outs⟩ hi);have hrlo:=(hS.stk f List.mem_cons_self).2;have hbrb:=hS.rbb;have HW:=J hW;have HS:=J hS;have HROW:=J hrow;have hrl:=Zd hrow;have HI:=J hi;clear hS hrow hi hW;go_enter Tryz.func65,Tryz.ntmps65
 go_wp2_with fail
 refine(G HFE).mono ?_;rintro e w1 ⟨xap,xac,xop,xoc,rfl,hxa,hxo,hF1,hO1⟩;have hBX:=My w1 #[.int .i64 0,.int .i64 0,.int .i64 0,.int .i64 0,.int .u64 0,.int .i64 0,.slice none 0 0,.slice none 0 0] #[.int .i64 14,.int .i64 d,.int .i64 a,.int .i64 bb,.int .u64 n,.int .i64 F,.slice xap args.length xac,.slice xop outs.length xoc] 65;have HR2:=J hBX.2.2;have HX2:=J hBX.1;have HB2:=J hBX.2.1;have HS2:=J (((G HS).top hF1 hO1).grow hBX.2.1);have HR:=J (show Gv ((w1.alloc (.cells #[.int .i64 0,.int .i64 0,.int .i64 0,.int .i64 0,.int .u64 0,.int .i64 0,.slice none 0 0,.slice none 0 0] 65)).setRow w1.heap.size #[.int .i64 14,.int .i64 d,.int .i64 a,.int .i64 bb,.int .u64 n,.int .i64 F,.slice xap args.length xac,.slice xop outs.length xoc]) rb fv scv frv kind vv tv steps from(hBX.2.1.block rb (Nat.lt_of_lt_of_le hrl hO1.size)).trans ((hO1.oth rb hrl (Or.inl hrlo)).trans (G HROW)));have HBL:=J (show Below b w ((w1.alloc (.cells #[.int .i64 0,.int .i64 0,.int .i64 0,.int .i64 0,.int .u64 0,.int .i64 0,.slice none 0 0,.slice none 0 0] 65)).setRow w1.heap.size #[.int .i64 14,.int .i64 d,.int .i64 a,.int .i64 bb,.int .u64 n,.int .i64 F,.slice xap args.length xac,.slice xop outs.length xoc]) from Below.trans (b:=w1) ⟨hO1.os,hO1.tape,hO1.output,hO1.size,fun k hk=>hO1.oth k (by omega) (Or.inl (by omega))⟩ (hBX.2.1.mono (by have:=hO1.size; omega)));have HIBW:=J hO1.size;have HXA:=J hxa;have HXO:=J hxo;clear hBX hxa hxo hF1 hO1 HS HROW HFE
 dsimp only;go_upto_region 1 with(refine wpList_store_row rfl 65 _ _ rfl w1.heap.size #[.int .i64 14,.int .i64 d,.int .i64 a,.int .i64 bb,.int .u64 n,.int .i64 F,.slice xap args.length xac,.slice xop outs.length xoc] rfl rfl 65 _ (G HR2) (Tryz.infInsI.trans rfl) rfl (by simp [Value.oneCell']) ?_)
 clear HR2;generalize hX:World.setRow (World.alloc w1 _) _ _=V2 at HX2 HB2 HS2 HR HBL ⊢;clear hX;generalize hib:w1.heap.size=ib at HX2 HB2 HIBW ⊢;clear hib;have o0:=cR (G HX2) 0;have hF2:Gn w0 V2 (Zp f.x) f.q f.lo f.hi f.lg f.bp f.sp f.op f.bc f.sc f.oc f.gs f.B:=((G HS2).stk _ List.mem_cons_self).1;have HF2:=J hF2;clear hF2;go_upto_region 16 with fail
 clear o0;have o2:=cR (G HX2) 2;have HC:=J (Zdx w0 (Zp f.x) f.q f.lo f.hi f.lg f.bp f.sp f.op f.bc f.sc f.oc f.gs f.B a V2 (G HF2));go_wp2_with fail
 refine(G HC).mono ?_;rintro e w5 ⟨⟨v5,rfl⟩,hF5,hO5⟩;have HF5:=J hF5;have HO5:=J hO5;clear hF5 hO5 HC o2;go_wp2;go_returns;have hS2:=G HS2;have hO5:=G HO5;refine⟨⟨_,rfl⟩,(hO5.oth rb (Zd (G HR)) (Or.inl hrlo)).trans (G HR),hS2.top (G HF5) hO5,(G HBL).trans ⟨hO5.os,hO5.tape,hO5.output,hO5.size,fun k hk=>hO5.oth k (by have:=Zd (G HR); omega) (Or.inl (by show k<f.lo; omega))⟩⟩
set_option maxHeartbeats 4000000 in
set_option maxRecDepth 100000 in
theorem Zgq {P:Zl}{w0 w:World}{rb b:Nat}{f:Mh}{R:List Mh}{frv tv fv scv vv:Value}{tr:List (Int×List Int)}{es:List Value}{kind steps:Int}(hG:Yp P)(hW:Lp P f.x)(hS:Xc w0 w rb b (f :: R) frv tv tr es)(hrow:Gv w rb fv scv frv kind vv tv steps){d a bb n F:Int}{args:List (Int×Int)}{outs:List Int}(hi:Zo f.x=⟨15,d,a,bb,n,F,args,outs⟩){t:Int}(ht:t=if f.x.v.getD d.toNat 0=0 then bb else a)(h0:0≤d)(h1:d<f.x.v.length) :
 Calls Tryz.prog 65 #[.pointer (some ⟨rb,0,none⟩),.pointer (some ⟨f.q,0,none⟩)] w fun e w'=>(∃ v,e=.returned v)∧Gv w' rb fv scv frv kind vv tv steps∧Xc w0 w' rb b ({ f with x:={ f.x with b:=t,i:=0 } } :: R) frv tv tr es∧Below b w w':=by
 have HFE:=J (Gs hG hW hS ⟨15,d,a,bb,n,F,args,outs⟩ hi);have hrlo:=(hS.stk f List.mem_cons_self).2;have hbrb:=hS.rbb;have HW:=J hW;have HS:=J hS;have HROW:=J hrow;have hrl:=Zd hrow;have HI:=J hi;clear hS hrow hi hW;go_enter Tryz.func65,Tryz.ntmps65
 go_wp2_with fail
 refine(G HFE).mono ?_;rintro e w1 ⟨xap,xac,xop,xoc,rfl,hxa,hxo,hF1,hO1⟩;have hBX:=My w1 #[.int .i64 0,.int .i64 0,.int .i64 0,.int .i64 0,.int .u64 0,.int .i64 0,.slice none 0 0,.slice none 0 0] #[.int .i64 15,.int .i64 d,.int .i64 a,.int .i64 bb,.int .u64 n,.int .i64 F,.slice xap args.length xac,.slice xop outs.length xoc] 65;have HR2:=J hBX.2.2;have HX2:=J hBX.1;have HB2:=J hBX.2.1;have HS2:=J (((G HS).top hF1 hO1).grow hBX.2.1);have HR:=J (show Gv ((w1.alloc (.cells #[.int .i64 0,.int .i64 0,.int .i64 0,.int .i64 0,.int .u64 0,.int .i64 0,.slice none 0 0,.slice none 0 0] 65)).setRow w1.heap.size #[.int .i64 15,.int .i64 d,.int .i64 a,.int .i64 bb,.int .u64 n,.int .i64 F,.slice xap args.length xac,.slice xop outs.length xoc]) rb fv scv frv kind vv tv steps from(hBX.2.1.block rb (Nat.lt_of_lt_of_le hrl hO1.size)).trans ((hO1.oth rb hrl (Or.inl hrlo)).trans (G HROW)));have HBL:=J (show Below b w ((w1.alloc (.cells #[.int .i64 0,.int .i64 0,.int .i64 0,.int .i64 0,.int .u64 0,.int .i64 0,.slice none 0 0,.slice none 0 0] 65)).setRow w1.heap.size #[.int .i64 15,.int .i64 d,.int .i64 a,.int .i64 bb,.int .u64 n,.int .i64 F,.slice xap args.length xac,.slice xop outs.length xoc]) from Below.trans (b:=w1) ⟨hO1.os,hO1.tape,hO1.output,hO1.size,fun k hk=>hO1.oth k (by omega) (Or.inl (by omega))⟩ (hBX.2.1.mono (by have:=hO1.size; omega)));have HIBW:=J hO1.size;have HXA:=J hxa;have HXO:=J hxo;clear hBX hxa hxo hF1 hO1 HS HROW HFE
 dsimp only;go_upto_region 1 with(refine wpList_store_row rfl 65 _ _ rfl w1.heap.size #[.int .i64 15,.int .i64 d,.int .i64 a,.int .i64 bb,.int .u64 n,.int .i64 F,.slice xap args.length xac,.slice xop outs.length xoc] rfl rfl 65 _ (G HR2) (Tryz.infInsI.trans rfl) rfl (by simp [Value.oneCell']) ?_)
 clear HR2;generalize hX:World.setRow (World.alloc w1 _) _ _=V2 at HX2 HB2 HS2 HR HBL ⊢;clear hX;generalize hib:w1.heap.size=ib at HX2 HB2 HIBW ⊢;clear hib;have o0:=cR (G HX2) 0;have hF2:Gn w0 V2 (Zp f.x) f.q f.lo f.hi f.lg f.bp f.sp f.op f.bc f.sc f.oc f.gs f.B:=((G HS2).stk _ List.mem_cons_self).1;have HF2:=J hF2;clear hF2;go_upto_region 18 with fail
 clear o0;have o0:=cR (G HX2) 0;have o1:=cR (G HX2) 1;have o2:=cR (G HX2) 2;have o3:=cR (G HX2) 3;have o4:=cR (G HX2) 4;have o5:=cR (G HX2) 5;have o6:=cR (G HX2) 6;have o7:=cR (G HX2) 7;have HC:=J (Zno w0 (Zp f.x) f.q f.lo f.hi f.lg f.bp f.sp f.op f.bc f.sc f.oc f.gs f.B ⟨15,d,a,bb,n,F,args,outs⟩ xap xop args.length xac outs.length xoc d.toNat t V2 (G HF2) (by show d=_; omega) (by show d.toNat<f.x.v.length; omega) ht);dsimp only at HC;clear ht;go_wp2_with fail
 refine(G HC).mono ?_;rintro e w5 ⟨⟨v5,rfl⟩,hF5,hO5⟩;have HF5:=J hF5;have HO5:=J hO5;clear hF5 hO5 HC o0 o1 o2 o3 o4 o5 o6 o7;go_wp2;go_returns;have hS2:=G HS2;have hO5:=G HO5;refine⟨⟨_,rfl⟩,(hO5.oth rb (Zd (G HR)) (Or.inl hrlo)).trans (G HR),hS2.top (G HF5) hO5,(G HBL).trans ⟨hO5.os,hO5.tape,hO5.output,hO5.size,fun k hk=>hO5.oth k (by have:=Zd (G HR); omega) (Or.inl (by show k<f.lo; omega))⟩⟩
set_option maxHeartbeats 4000000 in
set_option maxRecDepth 100000 in
theorem Zgr {P:Zl}{w0 w:World}{rb b:Nat}{f:Mh}{R:List Mh}{frv tv fv scv vv:Value}{tr:List (Int×List Int)}{es:List Value}{kind steps:Int}(hG:Yp P)(hW:Lp P f.x)(hS:Xc w0 w rb b (f :: R) frv tv tr es)(hrow:Gv w rb fv scv frv kind vv tv steps){d a bb n F:Int}{args:List (Int×Int)}{outs:List Int}(hi:Zo f.x=⟨10,d,a,bb,n,F,args,outs⟩)(h0:0≤d)(h1:d<f.x.v.length)(h2:0≤a)(h3:a<f.x.s.length)(h4:isW n=true)(h5:0≤bb)(h6:bb+n≤(f.x.s.getD a.toNat []).length)(h7:(f.x.s.getD a.toNat []).length≤65536)(hn:0≤n) :
 Calls Tryz.prog 65 #[.pointer (some ⟨rb,0,none⟩),.pointer (some ⟨f.q,0,none⟩)] w fun e w'=>(∃ v,e=.returned v)∧Gv w' rb fv scv frv kind vv tv steps∧Xc w0 w' rb b ({ f with x:={ Zp f.x with v:=f.x.v.set d.toNat (Ns (f.x.s.getD a.toNat []) bb.toNat n.toNat) } } :: R) frv tv tr es∧Below b w w':=by
 obtain⟨d,rfl⟩:=Int.eq_ofNat_of_zero_le h0;obtain⟨a,rfl⟩:=Int.eq_ofNat_of_zero_le h2;obtain⟨bb,rfl⟩:=Int.eq_ofNat_of_zero_le h5;obtain⟨n,rfl⟩:=Int.eq_ofNat_of_zero_le hn;simp only [Int.toNat_natCast] at h6 h7 ⊢;have hok:=J hW.ok;have HFE:=J (Gs hG hW hS ⟨10,d,a,bb,n,F,args,outs⟩ hi);have hrlo:=(hS.stk f List.mem_cons_self).2;have hbrb:=hS.rbb;have HW:=J hW;have HS:=J hS;have HROW:=J hrow;have hrl:=Zd hrow;have HI:=J hi;clear hS hrow hi hW;go_enter Tryz.func65,Tryz.ntmps65
 go_wp2_with fail
 refine(G HFE).mono ?_;rintro e w1 ⟨xap,xac,xop,xoc,rfl,hxa,hxo,hF1,hO1⟩;have hBX:=My w1 #[.int .i64 0,.int .i64 0,.int .i64 0,.int .i64 0,.int .u64 0,.int .i64 0,.slice none 0 0,.slice none 0 0] #[.int .i64 10,.int .i64 d,.int .i64 a,.int .i64 bb,.int .u64 n,.int .i64 F,.slice xap args.length xac,.slice xop outs.length xoc] 65;have HR2:=J hBX.2.2;have HX2:=J hBX.1;have HB2:=J hBX.2.1;have HS2:=J (((G HS).top hF1 hO1).grow hBX.2.1);have HR:=J (show Gv ((w1.alloc (.cells #[.int .i64 0,.int .i64 0,.int .i64 0,.int .i64 0,.int .u64 0,.int .i64 0,.slice none 0 0,.slice none 0 0] 65)).setRow w1.heap.size #[.int .i64 10,.int .i64 d,.int .i64 a,.int .i64 bb,.int .u64 n,.int .i64 F,.slice xap args.length xac,.slice xop outs.length xoc]) rb fv scv frv kind vv tv steps from(hBX.2.1.block rb (Nat.lt_of_lt_of_le hrl hO1.size)).trans ((hO1.oth rb hrl (Or.inl hrlo)).trans (G HROW)));have HBL:=J (show Below b w ((w1.alloc (.cells #[.int .i64 0,.int .i64 0,.int .i64 0,.int .i64 0,.int .u64 0,.int .i64 0,.slice none 0 0,.slice none 0 0] 65)).setRow w1.heap.size #[.int .i64 10,.int .i64 d,.int .i64 a,.int .i64 bb,.int .u64 n,.int .i64 F,.slice xap args.length xac,.slice xop outs.length xoc]) from Below.trans (b:=w1) ⟨hO1.os,hO1.tape,hO1.output,hO1.size,fun k hk=>hO1.oth k (by omega) (Or.inl (by omega))⟩ (hBX.2.1.mono (by have:=hO1.size; omega)));have HIBW:=J hO1.size;have HXA:=J hxa;have HXO:=J hxo;clear hBX hxa hxo hF1 hO1 HS HROW HFE
 dsimp only;go_upto_region 1 with(refine wpList_store_row rfl 65 _ _ rfl w1.heap.size #[.int .i64 10,.int .i64 d,.int .i64 a,.int .i64 bb,.int .u64 n,.int .i64 F,.slice xap args.length xac,.slice xop outs.length xoc] rfl rfl 65 _ (G HR2) (Tryz.infInsI.trans rfl) rfl (by simp [Value.oneCell']) ?_)
 clear HR2;generalize hX:World.setRow (World.alloc w1 _) _ _=V2 at HX2 HB2 HS2 HR HBL ⊢;clear hX;generalize hib:w1.heap.size=ib at HX2 HB2 HIBW ⊢;clear hib;have o0:=cR (G HX2) 0;have hF2:Gn w0 V2 (Zp f.x) f.q f.lo f.hi f.lg f.bp f.sp f.op f.bc f.sc f.oc f.gs f.B:=((G HS2).stk _ List.mem_cons_self).1;have HF2:=J hF2;clear hF2;go_upto_region 8 with fail
 clear o0;have o0:=cR (G HX2) 0;have o1:=cR (G HX2) 1;have o2:=cR (G HX2) 2;have o3:=cR (G HX2) 3;have o4:=cR (G HX2) 4;have o5:=cR (G HX2) 5;have o6:=cR (G HX2) 6;have o7:=cR (G HX2) 7;have HC:=J (Znp w0 (Zp f.x) f.q f.lo f.hi f.lg f.bp f.sp f.op f.bc f.sc f.oc f.gs f.B 10 F d a bb n xap xop args.length xac outs.length xoc V2 (G HF2) ⟨(G hok).v,(G hok).s⟩ (by show d<f.x.v.length; omega) (by show a<f.x.s.length; omega) h4 (by show bb+n≤(f.x.s.getD a []).length; omega) h7);go_wp2_with fail
 refine(G HC).mono ?_;rintro e w5 hx5;obtain⟨⟨v5,rfl⟩,hF5,hO5⟩:=hx5;have HF5:=J hF5;have HO5:=J hO5;clear hF5 hO5 HC o0 o1 o2 o3 o4 o5 o6 o7;go_wp2;go_returns;have hS2:=G HS2;have hO5:=G HO5;refine⟨⟨_,rfl⟩,(hO5.oth rb (Zd (G HR)) (Or.inl hrlo)).trans (G HR),hS2.top (G HF5) hO5,(G HBL).trans ⟨hO5.os,hO5.tape,hO5.output,hO5.size,fun k hk=>hO5.oth k (by have:=Zd (G HR); omega) (Or.inl (by show k<f.lo; omega))⟩⟩
set_option maxHeartbeats 4000000 in
set_option maxRecDepth 100000 in
theorem Zef {P:Zl}{w0 w:World}{rb b:Nat}{f:Mh}{R:List Mh}{frv tv fv scv vv:Value}{tr:List (Int×List Int)}{es:List Value}{kind steps:Int}(hG:Yp P)(hW:Lp P f.x)(hS:Xc w0 w rb b (f :: R) frv tv tr es)(hrow:Gv w rb fv scv frv kind vv tv steps){d a bb n F:Int}{args:List (Int×Int)}{outs:List Int}(hi:Zo f.x=⟨11,d,a,bb,n,F,args,outs⟩)(h0:0≤d)(h1:d<f.x.v.length)(h2:0≤a)(h3:a<f.x.s.length)(h4:isW n=true)(h5:0≤bb)(h6:bb+n≤(f.x.s.getD a.toNat []).length)(h7:(f.x.s.getD a.toNat []).length≤65536)(hn:0≤n) :
 Calls Tryz.prog 65 #[.pointer (some ⟨rb,0,none⟩),.pointer (some ⟨f.q,0,none⟩)] w fun e w'=>(∃ v,e=.returned v)∧Gv w' rb fv scv frv kind vv tv steps∧Xc w0 w' rb b ({ f with x:={ Zp f.x with s:=f.x.s.set a.toNat (Sd (f.x.s.getD a.toNat []) bb.toNat n.toNat (f.x.v.getD d.toNat 0)) } } :: R) frv tv tr es∧Below b w w':=by
 obtain⟨d,rfl⟩:=Int.eq_ofNat_of_zero_le h0;obtain⟨a,rfl⟩:=Int.eq_ofNat_of_zero_le h2;obtain⟨bb,rfl⟩:=Int.eq_ofNat_of_zero_le h5;obtain⟨n,rfl⟩:=Int.eq_ofNat_of_zero_le hn;simp only [Int.toNat_natCast] at h6 h7 ⊢;have hok:=J hW.ok;have HFE:=J (Gs hG hW hS ⟨11,d,a,bb,n,F,args,outs⟩ hi);have hrlo:=(hS.stk f List.mem_cons_self).2;have hbrb:=hS.rbb;have HW:=J hW;have HS:=J hS;have HROW:=J hrow;have hrl:=Zd hrow;have HI:=J hi;clear hS hrow hi hW;go_enter Tryz.func65,Tryz.ntmps65
 go_wp2_with fail
 refine(G HFE).mono ?_;rintro e w1 ⟨xap,xac,xop,xoc,rfl,hxa,hxo,hF1,hO1⟩;have hBX:=My w1 #[.int .i64 0,.int .i64 0,.int .i64 0,.int .i64 0,.int .u64 0,.int .i64 0,.slice none 0 0,.slice none 0 0] #[.int .i64 11,.int .i64 d,.int .i64 a,.int .i64 bb,.int .u64 n,.int .i64 F,.slice xap args.length xac,.slice xop outs.length xoc] 65;have HR2:=J hBX.2.2;have HX2:=J hBX.1;have HB2:=J hBX.2.1;have HS2:=J (((G HS).top hF1 hO1).grow hBX.2.1);have HR:=J (show Gv ((w1.alloc (.cells #[.int .i64 0,.int .i64 0,.int .i64 0,.int .i64 0,.int .u64 0,.int .i64 0,.slice none 0 0,.slice none 0 0] 65)).setRow w1.heap.size #[.int .i64 11,.int .i64 d,.int .i64 a,.int .i64 bb,.int .u64 n,.int .i64 F,.slice xap args.length xac,.slice xop outs.length xoc]) rb fv scv frv kind vv tv steps from(hBX.2.1.block rb (Nat.lt_of_lt_of_le hrl hO1.size)).trans ((hO1.oth rb hrl (Or.inl hrlo)).trans (G HROW)));have HBL:=J (show Below b w ((w1.alloc (.cells #[.int .i64 0,.int .i64 0,.int .i64 0,.int .i64 0,.int .u64 0,.int .i64 0,.slice none 0 0,.slice none 0 0] 65)).setRow w1.heap.size #[.int .i64 11,.int .i64 d,.int .i64 a,.int .i64 bb,.int .u64 n,.int .i64 F,.slice xap args.length xac,.slice xop outs.length xoc]) from Below.trans (b:=w1) ⟨hO1.os,hO1.tape,hO1.output,hO1.size,fun k hk=>hO1.oth k (by omega) (Or.inl (by omega))⟩ (hBX.2.1.mono (by have:=hO1.size; omega)));have HIBW:=J hO1.size;have HXA:=J hxa;have HXO:=J hxo;clear hBX hxa hxo hF1 hO1 HS HROW HFE
 dsimp only;go_upto_region 1 with(refine wpList_store_row rfl 65 _ _ rfl w1.heap.size #[.int .i64 11,.int .i64 d,.int .i64 a,.int .i64 bb,.int .u64 n,.int .i64 F,.slice xap args.length xac,.slice xop outs.length xoc] rfl rfl 65 _ (G HR2) (Tryz.infInsI.trans rfl) rfl (by simp [Value.oneCell']) ?_)
 clear HR2;generalize hX:World.setRow (World.alloc w1 _) _ _=V2 at HX2 HB2 HS2 HR HBL ⊢;clear hX;generalize hib:w1.heap.size=ib at HX2 HB2 HIBW ⊢;clear hib;have o0:=cR (G HX2) 0;have hF2:Gn w0 V2 (Zp f.x) f.q f.lo f.hi f.lg f.bp f.sp f.op f.bc f.sc f.oc f.gs f.B:=((G HS2).stk _ List.mem_cons_self).1;have HF2:=J hF2;clear hF2;go_upto_region 10 with fail
 clear o0;have o0:=cR (G HX2) 0;have o1:=cR (G HX2) 1;have o2:=cR (G HX2) 2;have o3:=cR (G HX2) 3;have o4:=cR (G HX2) 4;have o5:=cR (G HX2) 5;have o6:=cR (G HX2) 6;have o7:=cR (G HX2) 7;have HC:=J (Zlf w0 (Zp f.x) f.q f.lo f.hi f.lg f.bp f.sp f.op f.bc f.sc f.oc f.gs f.B 11 F d a bb n xap xop args.length xac outs.length xoc V2 (G HF2) ⟨(G hok).v,(G hok).s⟩ (by show d<f.x.v.length; omega) (by show a<f.x.s.length; omega) h4 (by show bb+n≤(f.x.s.getD a []).length; omega) h7);go_wp2_with fail
 refine(G HC).mono ?_;rintro e w5 hx5;obtain⟨⟨v5,rfl⟩,hF5,hO5⟩:=hx5;have HF5:=J hF5;have HO5:=J hO5;clear hF5 hO5 HC o0 o1 o2 o3 o4 o5 o6 o7;go_wp2;go_returns;have hS2:=G HS2;have hO5:=G HO5;refine⟨⟨_,rfl⟩,(hO5.oth rb (Zd (G HR)) (Or.inl hrlo)).trans (G HR),hS2.top (G HF5) hO5,(G HBL).trans ⟨hO5.os,hO5.tape,hO5.output,hO5.size,fun k hk=>hO5.oth k (by have:=Zd (G HR); omega) (Or.inl (by show k<f.lo; omega))⟩⟩
set_option maxHeartbeats 4000000 in
set_option maxRecDepth 100000 in
theorem Zeg {P:Zl}{w0 w:World}{rb b:Nat}{f:Mh}{R:List Mh}{frv tv fv scv vv:Value}{tr:List (Int×List Int)}{es:List Value}{kind steps:Int}(hG:Yp P)(hW:Lp P f.x)(hS:Xc w0 w rb b (f :: R) frv tv tr es)(hrow:Gv w rb fv scv frv kind vv tv steps){d a bb n F:Int}{args:List (Int×Int)}{outs:List Int}(hi:Zo f.x=⟨1,d,a,bb,n,F,args,outs⟩)(h0d:0≤d)(hd1:d.toNat<f.x.v.length) :
 Calls Tryz.prog 65 #[.pointer (some ⟨rb,0,none⟩),.pointer (some ⟨f.q,0,none⟩)] w fun e w'=>(∃ v,e=.returned v)∧Gv w' rb fv scv frv kind vv tv steps∧Xc w0 w' rb b ({ f with x:={ Zp f.x with v:=f.x.v.set d.toNat n } } :: R) frv tv tr es∧Below b w w':=by
 obtain⟨d,rfl⟩:=Int.eq_ofNat_of_zero_le h0d;simp only [Int.toNat_natCast] at *;have HFE:=J (Gs hG hW hS ⟨1,(d:Int),a,bb,n,F,args,outs⟩ hi);have hrlo:=(hS.stk f List.mem_cons_self).2;have hbrb:=hS.rbb;have HW:=J hW;have HS:=J hS;have HROW:=J hrow;have hrl:=Zd hrow;have HI:=J hi;clear hS hrow hi hW;go_enter Tryz.func65,Tryz.ntmps65
 go_wp2_with fail
 refine(G HFE).mono ?_;rintro e w1 ⟨xap,xac,xop,xoc,rfl,hxa,hxo,hF1,hO1⟩;have hBX:=My w1 #[.int .i64 0,.int .i64 0,.int .i64 0,.int .i64 0,.int .u64 0,.int .i64 0,.slice none 0 0,.slice none 0 0] #[.int .i64 1,.int .i64 d,.int .i64 a,.int .i64 bb,.int .u64 n,.int .i64 F,.slice xap args.length xac,.slice xop outs.length xoc] 65;have HR2:=J hBX.2.2;have HX2:=J hBX.1;have HB2:=J hBX.2.1;have HS2:=J (((G HS).top hF1 hO1).grow hBX.2.1);have HR:=J (show Gv ((w1.alloc (.cells #[.int .i64 0,.int .i64 0,.int .i64 0,.int .i64 0,.int .u64 0,.int .i64 0,.slice none 0 0,.slice none 0 0] 65)).setRow w1.heap.size #[.int .i64 1,.int .i64 d,.int .i64 a,.int .i64 bb,.int .u64 n,.int .i64 F,.slice xap args.length xac,.slice xop outs.length xoc]) rb fv scv frv kind vv tv steps from(hBX.2.1.block rb (Nat.lt_of_lt_of_le hrl hO1.size)).trans ((hO1.oth rb hrl (Or.inl hrlo)).trans (G HROW)));have HBL:=J (show Below b w ((w1.alloc (.cells #[.int .i64 0,.int .i64 0,.int .i64 0,.int .i64 0,.int .u64 0,.int .i64 0,.slice none 0 0,.slice none 0 0] 65)).setRow w1.heap.size #[.int .i64 1,.int .i64 d,.int .i64 a,.int .i64 bb,.int .u64 n,.int .i64 F,.slice xap args.length xac,.slice xop outs.length xoc]) from Below.trans (b:=w1) ⟨hO1.os,hO1.tape,hO1.output,hO1.size,fun k hk=>hO1.oth k (by omega) (Or.inl (by omega))⟩ (hBX.2.1.mono (by have:=hO1.size; omega)));have HIBW:=J hO1.size;have HXA:=J hxa;have HXO:=J hxo;clear hBX hxa hxo hF1 hO1 HS HROW HFE
 dsimp only;go_upto_region 1 with(refine wpList_store_row rfl 65 _ _ rfl w1.heap.size #[.int .i64 1,.int .i64 d,.int .i64 a,.int .i64 bb,.int .u64 n,.int .i64 F,.slice xap args.length xac,.slice xop outs.length xoc] rfl rfl 65 _ (G HR2) (Tryz.infInsI.trans rfl) rfl (by simp [Value.oneCell']) ?_)
 clear HR2;generalize hX:World.setRow (World.alloc w1 _) _ _=V2 at HX2 HB2 HS2 HR HBL ⊢;clear hX;generalize hib:w1.heap.size=ib at HX2 HB2 HIBW ⊢;clear hib;have o0:=cR (G HX2) 0;have hF2:Gn w0 V2 (Zp f.x) f.q f.lo f.hi f.lg f.bp f.sp f.op f.bc f.sc f.oc f.gs f.B:=((G HS2).stk _ List.mem_cons_self).1;have HF2:=J hF2;clear hF2;go_upto_region 4 with fail
 clear o0;have hF2:=G HF2;have q3:=cR hF2.row 3;have y3:V2.drew.cell? ⟨f.q,3,none⟩=some (.slice (some ⟨f.lg,0,none⟩) f.x.v.length f.x.v.length):=q3;have gd:V2.cell? ⟨f.lg,d,none⟩=some (.int .u64 (f.x.v.getD d 0)):=(Zi hF2.loc d).trans (by simp [uC,List.getD,Zp,hd1]);have yd:V2.drew.cell? ⟨f.lg,d,none⟩=some (.int .u64 (f.x.v.getD d 0)):=gd;have zd:V2.frozen? ⟨f.lg,d,none⟩=false:=frozen_of_row _ _ d _ _ hF2.loc;have zy:V2.drew.frozen? ⟨f.lg,d,none⟩=false:=zd;have o1:=cR (G HX2) 1;have p1:V2.drew.cell? ⟨ib,1,none⟩=some (.int .i64 d):=o1;have o4:=cR (G HX2) 4;have p4:V2.drew.cell? ⟨ib,4,none⟩=some (.int .u64 n):=o4;have HF5:=J (show Gn w0 (V2.drew.setCell ⟨f.lg,d,none⟩ (.int .u64 (n))) { Zp f.x with v:=f.x.v.set d n } f.q f.lo f.hi f.lg f.bp f.sp f.op f.bc f.sc f.oc f.gs f.B from Zad (Yk hF2 (Below.refl _ _).drew) d (n));have HO5:=J (show Sx f.lo f.hi V2 (V2.drew.setCell ⟨f.lg,d,none⟩ (.int .u64 (n))) from⟨rfl,rfl,rfl,by simp,fun q _ hq=>heap_setCell_other _ _ _ _ (by show q≠f.lg; have:=hF2.gl; have:=hF2.gh; simp only at *; omega)⟩);clear hF2;go_region
 all_goals
  go_wp2;go_returns;have hS2:=G HS2;have hO5:=G HO5;refine⟨⟨_,rfl⟩,(hO5.oth rb (Zd (G HR)) (Or.inl hrlo)).trans (G HR),hS2.top (G HF5) hO5,(G HBL).trans ⟨hO5.os,hO5.tape,hO5.output,hO5.size,fun k hk=>hO5.oth k (by have:=Zd (G HR); omega) (Or.inl (by show k<f.lo; omega))⟩⟩
set_option maxHeartbeats 4000000 in
set_option maxRecDepth 100000 in
theorem Zgs {P:Zl}{w0 w:World}{rb b:Nat}{f:Mh}{R:List Mh}{frv tv fv scv vv:Value}{tr:List (Int×List Int)}{es:List Value}{kind steps:Int}(hG:Yp P)(hW:Lp P f.x)(hS:Xc w0 w rb b (f :: R) frv tv tr es)(hrow:Gv w rb fv scv frv kind vv tv steps){d a bb n F:Int}{args:List (Int×Int)}{outs:List Int}(hi:Zo f.x=⟨2,d,a,bb,n,F,args,outs⟩)(h0d:0≤d)(hd1:d.toNat<f.x.v.length)(h0a:0≤a)(ha1:a.toNat<f.x.v.length){y:Int}(hy:y=f.x.v.getD a.toNat 0) :
 Calls Tryz.prog 65 #[.pointer (some ⟨rb,0,none⟩),.pointer (some ⟨f.q,0,none⟩)] w fun e w'=>(∃ v,e=.returned v)∧Gv w' rb fv scv frv kind vv tv steps∧Xc w0 w' rb b ({ f with x:={ Zp f.x with v:=f.x.v.set d.toNat y } } :: R) frv tv tr es∧Below b w w':=by
 obtain⟨d,rfl⟩:=Int.eq_ofNat_of_zero_le h0d;obtain⟨a,rfl⟩:=Int.eq_ofNat_of_zero_le h0a;simp only [Int.toNat_natCast] at *;have HY:=J hy;clear hy;have HFE:=J (Gs hG hW hS ⟨2,(d:Int),(a:Int),bb,n,F,args,outs⟩ hi);have hrlo:=(hS.stk f List.mem_cons_self).2;have hbrb:=hS.rbb;have HW:=J hW;have HS:=J hS;have HROW:=J hrow;have hrl:=Zd hrow;have HI:=J hi;clear hS hrow hi hW;go_enter Tryz.func65,Tryz.ntmps65
 go_wp2_with fail
 refine(G HFE).mono ?_;rintro e w1 ⟨xap,xac,xop,xoc,rfl,hxa,hxo,hF1,hO1⟩;have hBX:=My w1 #[.int .i64 0,.int .i64 0,.int .i64 0,.int .i64 0,.int .u64 0,.int .i64 0,.slice none 0 0,.slice none 0 0] #[.int .i64 2,.int .i64 d,.int .i64 a,.int .i64 bb,.int .u64 n,.int .i64 F,.slice xap args.length xac,.slice xop outs.length xoc] 65;have HR2:=J hBX.2.2;have HX2:=J hBX.1;have HB2:=J hBX.2.1;have HS2:=J (((G HS).top hF1 hO1).grow hBX.2.1);have HR:=J (show Gv ((w1.alloc (.cells #[.int .i64 0,.int .i64 0,.int .i64 0,.int .i64 0,.int .u64 0,.int .i64 0,.slice none 0 0,.slice none 0 0] 65)).setRow w1.heap.size #[.int .i64 2,.int .i64 d,.int .i64 a,.int .i64 bb,.int .u64 n,.int .i64 F,.slice xap args.length xac,.slice xop outs.length xoc]) rb fv scv frv kind vv tv steps from(hBX.2.1.block rb (Nat.lt_of_lt_of_le hrl hO1.size)).trans ((hO1.oth rb hrl (Or.inl hrlo)).trans (G HROW)));have HBL:=J (show Below b w ((w1.alloc (.cells #[.int .i64 0,.int .i64 0,.int .i64 0,.int .i64 0,.int .u64 0,.int .i64 0,.slice none 0 0,.slice none 0 0] 65)).setRow w1.heap.size #[.int .i64 2,.int .i64 d,.int .i64 a,.int .i64 bb,.int .u64 n,.int .i64 F,.slice xap args.length xac,.slice xop outs.length xoc]) from Below.trans (b:=w1) ⟨hO1.os,hO1.tape,hO1.output,hO1.size,fun k hk=>hO1.oth k (by omega) (Or.inl (by omega))⟩ (hBX.2.1.mono (by have:=hO1.size; omega)));have HIBW:=J hO1.size;have HXA:=J hxa;have HXO:=J hxo;clear hBX hxa hxo hF1 hO1 HS HROW HFE
 dsimp only;go_upto_region 1 with(refine wpList_store_row rfl 65 _ _ rfl w1.heap.size #[.int .i64 2,.int .i64 d,.int .i64 a,.int .i64 bb,.int .u64 n,.int .i64 F,.slice xap args.length xac,.slice xop outs.length xoc] rfl rfl 65 _ (G HR2) (Tryz.infInsI.trans rfl) rfl (by simp [Value.oneCell']) ?_)
 clear HR2;generalize hX:World.setRow (World.alloc w1 _) _ _=V2 at HX2 HB2 HS2 HR HBL ⊢;clear hX;generalize hib:w1.heap.size=ib at HX2 HB2 HIBW ⊢;clear hib;have o0:=cR (G HX2) 0;have hF2:Gn w0 V2 (Zp f.x) f.q f.lo f.hi f.lg f.bp f.sp f.op f.bc f.sc f.oc f.gs f.B:=((G HS2).stk _ List.mem_cons_self).1;have HF2:=J hF2;clear hF2;go_upto_region 6 with fail
 clear o0;have hF2:=G HF2;have q3:=cR hF2.row 3;have y3:V2.drew.cell? ⟨f.q,3,none⟩=some (.slice (some ⟨f.lg,0,none⟩) f.x.v.length f.x.v.length):=q3;have ga:V2.cell? ⟨f.lg,a,none⟩=some (.int .u64 y):=(Zi hF2.loc a).trans (by simp [uC,List.getD,Zp,ha1,G HY]);have ya:V2.drew.cell? ⟨f.lg,a,none⟩=some (.int .u64 y):=ga;obtain⟨yd0,hyd0⟩:∃ y,y=f.x.v.getD d 0:=⟨_,rfl⟩;have gd:V2.cell? ⟨f.lg,d,none⟩=some (.int .u64 (f.x.v.getD d 0)):=(Zi hF2.loc d).trans (by simp [uC,List.getD,Zp,hd1]);have yd:V2.drew.cell? ⟨f.lg,d,none⟩=some (.int .u64 (f.x.v.getD d 0)):=gd;have zd:V2.frozen? ⟨f.lg,d,none⟩=false:=frozen_of_row _ _ d _ _ hF2.loc;have zy:V2.drew.frozen? ⟨f.lg,d,none⟩=false:=zd;have o1:=cR (G HX2) 1;have p1:V2.drew.cell? ⟨ib,1,none⟩=some (.int .i64 d):=o1;have o2:=cR (G HX2) 2;have p2:V2.drew.cell? ⟨ib,2,none⟩=some (.int .i64 a):=o2;have HF5:=J (show Gn w0 (V2.drew.setCell ⟨f.lg,d,none⟩ (.int .u64 (y))) { Zp f.x with v:=f.x.v.set d y } f.q f.lo f.hi f.lg f.bp f.sp f.op f.bc f.sc f.oc f.gs f.B from Zad (Yk hF2 (Below.refl _ _).drew) d (y));have HO5:=J (show Sx f.lo f.hi V2 (V2.drew.setCell ⟨f.lg,d,none⟩ (.int .u64 (y))) from⟨rfl,rfl,rfl,by simp,fun q _ hq=>heap_setCell_other _ _ _ _ (by show q≠f.lg; have:=hF2.gl; have:=hF2.gh; simp only at *; omega)⟩);rw [← hyd0] at gd yd;clear hF2 hyd0;go_region
 all_goals
  go_wp2;go_returns;have hS2:=G HS2;have hO5:=G HO5;refine⟨⟨_,rfl⟩,(hO5.oth rb (Zd (G HR)) (Or.inl hrlo)).trans (G HR),hS2.top (G HF5) hO5,(G HBL).trans ⟨hO5.os,hO5.tape,hO5.output,hO5.size,fun k hk=>hO5.oth k (by have:=Zd (G HR); omega) (Or.inl (by show k<f.lo; omega))⟩⟩
end Go.Proofs.YteddfaconabobaaGreatDoor
