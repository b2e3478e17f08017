import Derived.Test.YteddfaconabobaaGreatDoorPk
import Derived.Test.YteddfaconabobaaGreatDoorJ24
import Derived.Test.YteddfaconabobaaGreatDoorPkU
import Derived.Deep.RegionHeld3
import Derived.Laws.CopyOwn
import Derived.WideShapes
import Derived.Test.YteddfaconabobaaGreatDoorJ17
namespace Go.Proofs.YteddfaconabobaaGreatDoor
open Go.RowKit
set_option maxHeartbeats 2000000 in
set_option maxRecDepth 100000 in
theorem Zeb (rb:Nat)(fv scv vv tv:Value)(kind steps:Int)(g n c:Nat)(w:World)(h:Gv w rb fv scv (.slice (some ⟨g,0,none⟩) (n+1) c) kind vv tv steps)(hn:n+1≤c)(hn2:n≤1000000) :
 Calls Tryz.prog 91 #[.pointer (some ⟨rb,0,none⟩)] w fun e w'=>(∃ v,e=.returned v)∧Oj rb w w'∧Gv w' rb fv scv (.slice (some ⟨g,0,none⟩) n c) kind vv tv steps:=by
 have c2:=cR h 2;have d2:w.drew.cell? ⟨rb,2,none⟩=some (.slice (some ⟨g,0,none⟩) (n+1) c):=c2;have z2:=frozen_of_row _ _ 2 _ _ h;have y2:w.drew.frozen? ⟨rb,2,none⟩=false:=z2;have HX:=J (show Gv (w.drew.setCell ⟨rb,2,none⟩ (.slice (some ⟨g,0,none⟩) n c)) rb fv scv (.slice (some ⟨g,0,none⟩) n c) kind vv tv steps from heap_setCell_same _ _ 2 _ _ _ (show Gv w.drew rb fv scv (.slice (some ⟨g,0,none⟩) (n+1) c) kind vv tv steps from h));have HO:=J (Zaz (g:=rb) (j:=2) (v:=.slice (some ⟨g,0,none⟩) n c) (Below.refl w.heap.size w).drew rfl);clear h;go_enter Tryz.func91,Tryz.ntmps91
 go_upto_region 0 with fail
 go_region
 all_goals
  go_wp2;go_returns;exact⟨⟨_,rfl⟩,G HO,G HX⟩
set_option maxHeartbeats 2000000 in
theorem Zmv (rb:Nat)(fv scv frv vv tv:Value)(vp:Option Addr)(vn vc:Nat)(kind k steps:Int)(w:World)(h:Gv w rb fv scv frv kind vv tv steps) :
 Calls Tryz.prog 92 #[.pointer (some ⟨rb,0,none⟩),.int .i64 k,.slice vp vn vc] w fun e w'=>(∃ v,e=.returned v)∧Oj rb w w'∧Gv w' rb fv scv frv k (.slice vp vn vc) tv steps:=by
 have c3:=cR h 3;have z3:=frozen_of_row _ _ 3 _ _ h;have h1:Gv (w.setCell ⟨rb,3,none⟩ (.int .i64 k)) rb fv scv frv k vv tv steps:=heap_setCell_same _ _ 3 _ _ _ h;have c4:=cR h1 4;have z4:=frozen_of_row _ _ 4 _ _ h1;have h2:Gv ((w.setCell ⟨rb,3,none⟩ (.int .i64 k)).setCell ⟨rb,4,none⟩ (.slice vp vn vc)) rb fv scv frv k (.slice vp vn vc) tv steps:=heap_setCell_same _ _ 4 _ _ _ h1;have HX:=J h2;have HO:=J (show Oj rb w ((w.setCell ⟨rb,3,none⟩ (.int .i64 k)).setCell ⟨rb,4,none⟩ (.slice vp vn vc)) from⟨rfl,rfl,rfl,by simp,fun q hq=>(heap_setCell_other _ _ _ _ hq).trans (heap_setCell_other _ _ _ _ hq)⟩);clear h h1 h2;go_enter Tryz.func92,Tryz.ntmps92
 go_wp2;go_returns;exact⟨⟨_,rfl⟩,G HO,G HX⟩
theorem Tryz.infoPt:(Tryz.prog.info? 149).map (fun i=>(i.zero,i.size,i.bytes))=some (some (.pointer none),1,8):=by kernel_rfl
set_option maxHeartbeats 4000000 in
set_option maxRecDepth 100000 in
theorem Zbg (w0 w:World)(rb b:Nat)(st:List Mh)(fp:Option Addr)(fcp:Nat)(tv vv scv:Value)(tr:List (Int×List Int))(es:List Value)(kind steps:Int)(hS:Xc w0 w rb b st (.slice fp st.length fcp) tv tr es)(fn:Zn)(k fb fo fc N:Nat)(A:Nat→Array Value)(hrow:Gv w rb (.slice (some ⟨fb,fo,none⟩) N fc) scv (.slice fp st.length fcp) kind vv tv steps)(hk:k<N)
 (hfs:∀ i,i<N→w0.rangeAt fb (fo+i*5) (A i).toList) (hfb:fb<w0.heap.size) (hfn:Oy w0 (A k) fn) (hH:FnH fn) (ws outs:List Int) (wp op:Option Addr) (wc oc:Nat) (hW:Lv w (.slice wp ws.length wc) ws) (hOu:Li w0 (.slice op outs.length oc) outs) (hwl:ws.length=Xe fn.params) (hws:∀ n ∈ ws,0≤n∧n<18446744073709551616) (hst:st.length≤100000) :
 Calls Tryz.prog 42 #[.pointer (some ⟨rb,0,none⟩),.int .i64 (k:Int),.slice wp ws.length wc,.slice op outs.length oc] w fun e w'=>(∃ v,e=.returned v)∧∃ f fp' fc',f.x=Jj fn ws outs∧f.op=op∧f.oc=oc∧IOk (Jj fn ws outs)∧Gv w' rb (.slice (some ⟨fb,fo,none⟩) N fc) scv (.slice fp' (st.length+1) fc') kind vv tv steps∧Xc w0 w' rb b (f :: st) (.slice fp' (st.length+1) fc') tv tr es∧Below b w w'∧Zmu rb 149 w w':=by
 obtain⟨ti,hti,hty0,hty1,hty2⟩:=Xs Tryz.infoPt;obtain⟨pv,hv,sv,bv,B,hA,hD⟩:=hfn;obtain⟨pp,pc,rfl⟩:=hD.ps.shape;obtain⟨qh,ch,rfl⟩:=hD.hs.shape;obtain⟨qs,cs,rfl⟩:=hD.ss.shape;obtain⟨qb,cb,rfl⟩:=hD.bs.shape;have hz0:=hS.low.size;have hw0b:=hS.w0b;have hrb:=hS.rbb;have hrl:=Zd hrow;have HS:=J hS;have HROW:=J hrow;have hcell:∀ j y,#[.slice pp fn.params.length pc,.int .i64 fn.results,.slice qh fn.homes.length ch,.slice qs fn.slots.length cs,.slice qb fn.blocks.length cb].toList[j]?=some y→w0.cell? ⟨fb,fo+k*5+j,none⟩=some y:=fun j y hy=>by
  have:=hfs k hk j y (by rw [hA]; exact hy);exact this
 have HCK:=J (fun(V:World) (hb:Below w.heap.size w V)=>show(fun V=>V.cell? ⟨rb,2,none⟩=some (.slice fp st.length fcp)∧V.cell? ⟨rb,0,none⟩=some (.slice (some ⟨fb,fo,none⟩) N fc)∧V.cell? ⟨fb,fo+k*5,none⟩=some (.slice pp fn.params.length pc)∧V.cell? ⟨fb,fo+k*5+1,none⟩=some (.int .i64 fn.results)∧V.cell? ⟨fb,fo+k*5+2,none⟩=some (.slice qh fn.homes.length ch)∧V.cell? ⟨fb,fo+k*5+3,none⟩=some (.slice qs fn.slots.length cs)∧V.cell? ⟨fb,fo+k*5+4,none⟩=some (.slice qb fn.blocks.length cb)) V from by
  have hr:=(hb.block rb hrl).trans hrow;have hx:∀ j y,#[.slice pp fn.params.length pc,.int .i64 fn.results,.slice qh fn.homes.length ch,.slice qs fn.slots.length cs,.slice qb fn.blocks.length cb].toList[j]?=some y→V.cell? ⟨fb,fo+k*5+j,none⟩=some y:=fun j y hy=>(hb.cell (p:=⟨fb,fo+k*5+j,none⟩) (by show fb<w.heap.size; omega)).trans ((hS.low.cell (p:=⟨fb,fo+k*5+j,none⟩) hfb).trans (hcell j y hy));exact⟨(cR hr 2),(cR hr 0),hx 0 _ rfl,hx 1 _ rfl,hx 2 _ rfl,hx 3 _ rfl,hx 4 _ rfl⟩)
 have HC0:=J (G HCK w.drew (Below.refl _ _).drew);have HNF:=J (Zdx w0 w.drew fn ws outs pp qh qs qb wp op pc ch cs cb wc oc B hD hS.low.drew (Yx hW (Below.refl _ _).drew) hOu (Zje hH) (fun j hj=>by have:=hH.sw j hj; omega) hH.sl hH.pl hH.hl hwl hws);have hkN:(k:Int)<N:=by omega
 clear hS hrow hfs hA hD hH hW hOu hwl hws hcell;go_enter Tryz.func42,Tryz.ntmps42
 go_upto_region 0 with fail
 refine Xw (C:=fun V=>V.cell? ⟨rb,2,none⟩=some (.slice fp st.length fcp)∧V.cell? ⟨rb,0,none⟩=some (.slice (some ⟨fb,fo,none⟩) N fc)∧V.cell? ⟨fb,fo+k*5,none⟩=some (.slice pp fn.params.length pc)∧V.cell? ⟨fb,fo+k*5+1,none⟩=some (.int .i64 fn.results)∧V.cell? ⟨fb,fo+k*5+2,none⟩=some (.slice qh fn.homes.length ch)∧V.cell? ⟨fb,fo+k*5+3,none⟩=some (.slice qs fn.slots.length cs)∧V.cell? ⟨fb,fo+k*5+4,none⟩=some (.slice qb fn.blocks.length cb)) (d:=19) (by kernel_rfl) ?_;refine uT 0 (G HC0) ?_;try simp only [Act.put,zA,zB,zC,zD,zE]
 refine uT 1 (G HC0) ?_;try simp only [Act.put,zA,zB,zC,zD,zE,zF]
 refine uT 2 (G HC0) ?_;try simp only [Act.put,zA,zB,zC,zD,zE,zF]
 refine uT 3 (G HC0) ?_;try simp only [Act.put,zA,zB,zC,zD,zE,zF]
 refine uT 4 (G HC0) ?_;try simp only [Act.put,zA,zB,zC,zD,zE,zF]
 refine uT 5 (G HC0) ?_;try simp only [Act.put,zA,zB,zC,zD,zE,zF]
 refine uT 6 (G HC0) ?_;try simp only [Act.put,zA,zB,zC,zD,zE,zF]
 refine uT 7 (G HC0) ?_;try simp only [Act.put,zA,zB,zC,zD,zE,zF]
 refine uT 8 (G HC0) ?_;try simp only [Act.put,zA,zB,zC,zD,zE,zF]
 refine uT 9 (G HC0) ?_;try simp only [Act.put,zA,zB,zC,zD,zE,zF]
 refine uT 10 (G HC0) ?_;try simp only [Act.put,zA,zB,zC,zD,zE,zF]
 refine uT 11 (G HC0) ?_;try simp only [Act.put,zA,zB,zC,zD,zE,zF]
 refine uT 12 (G HC0) ?_;try simp only [Act.put,zA,zB,zC,zD,zE,zF]
 refine uT 13 (G HC0) ?_;try simp only [Act.put,zA,zB,zC,zD,zE,zF]
 refine uO 14 fun K hK=>?_;go_simp;refine(G HNF).mono ?_;rintro e w1 ⟨q,lo,hi,lg,sp,sc,gs,rfl,hlo,hF,hb1,hok⟩;have hb1':Below w.heap.size w w1:=⟨hb1.os,hb1.tape,hb1.output,hb1.size,hb1.block⟩;have HC1:=J (G HCK w1 hb1');have HF1:=J hF;have HB1:=J hb1';have HOK:=J hok;have HLO:=J hlo;clear hF hb1 hb1' hok hlo;refine hK.out _ _ (fun _=>G HC1) ?_;clear hK K;try simp only [Act.put,zA,zB,zC,zD,zE,zF]
 refine uO 15 fun K hK=>?_;go_simp;obtain⟨r2,hb2,hz2⟩:=Yj w1 (.cells #[.pointer (some ⟨q,0,none⟩)] 149 (0,0));have HB2:=J (show Below w.heap.size w (w1.alloc (.cells #[.pointer (some ⟨q,0,none⟩)] 149 (0,0))) from Za (G HB1) hb2 (G HB1).size);have HF2:=J (Yk (G HF1) hb2);have HOW2:=J ((G HS).grow (G HB2)).fr;have HC2:=J (G HCK _ (G HB2));have HBB:=J (show b≤(w1.alloc (.cells #[.pointer (some ⟨q,0,none⟩)] 149 (0,0))).heap.size by have:=(G HB2).size; omega);have c0:=cR r2 0;clear r2 hb2 hz2;refine hK.out _ _ (fun _=>G HC2) ?_;clear hK K;try simp only [Act.put,zA,zB,zC,zD,zE,zF]
 generalize World.alloc w1 _=W2 at HB2 HF2 HOW2 HC2 HBB c0 ⊢;refine uO 16 fun K hK=>?_;refine Rj rfl (.tmp 12) (.tmp 23) 108 rfl b 149 ti _ 1 8 Tryz.underlying108 hti hty0 hty1 hty2 rfl (by decide) (.slice fp st.length fcp) st.length (Nf st) (by simp [Act.eval]) (G HOW2) ⟨w1.heap.size,0,none⟩ 1 1 [.pointer (some ⟨q,0,none⟩)] (by simp [Act.eval]) rfl (by intro j u hj; match j,hj with | 0,hj=>(simp at hj; subst hj; exact c0)) (by intro u hu; simp at hu; subst hu; rfl) (by unfold maxLen; omega) (by omega) (G HBB) ?_;intro v7 w7 hown7 hgr7 hblk7;obtain⟨fp7,fc7,rfl⟩:=Zm hown7;have hP:=Xc.push (f:=⟨Jj fn ws outs,q,lo,hi,lg,qb,sp,op,cb,sc,oc,gs,B⟩) (G HS) ⟨_,G HROW⟩ (G HB2) (G HF2) (G HLO) hgr7 hown7 hblk7 2 (.slice fp7 (st.length+1) fc7);have hrw:Gv w7 rb (.slice (some ⟨fb,fo,none⟩) N fc) scv (.slice fp st.length fcp) kind vv tv steps:=by
  have h1:=((G HB2).block rb (Zd (G HROW))).trans (G HROW);exact(hgr7.block rb (Zd h1) (fun e=>Xu (G HOW2) h1 (by decide) e.symm)).trans h1
 have z2:=frozen_of_row _ _ 2 _ _ hrw;have c2:=cR hrw 2;have HX:=J (show Gv (w7.setCell ⟨rb,2,none⟩ (.slice fp7 (st.length+1) fc7)) rb (.slice (some ⟨fb,fo,none⟩) N fc) scv (.slice fp7 (st.length+1) fc7) kind vv tv steps from heap_setCell_same _ _ 2 _ _ _ hrw);have HP:=J hP;have HC3:=J (show(fun V=>V.cell? ⟨rb,2,none⟩=some (.slice fp st.length fcp)∧V.cell? ⟨rb,0,none⟩=some (.slice (some ⟨fb,fo,none⟩) N fc)∧V.cell? ⟨fb,fo+k*5,none⟩=some (.slice pp fn.params.length pc)∧V.cell? ⟨fb,fo+k*5+1,none⟩=some (.int .i64 fn.results)∧V.cell? ⟨fb,fo+k*5+2,none⟩=some (.slice qh fn.homes.length ch)∧V.cell? ⟨fb,fo+k*5+3,none⟩=some (.slice qs fn.slots.length cs)∧V.cell? ⟨fb,fo+k*5+4,none⟩=some (.slice qb fn.blocks.length cb)) w7 from by
  obtain⟨g2,g0,h0,h1,h2,h3,h4⟩:=G HC2;have hk:∀ q,q<w0.heap.size→w7.heap[q]?=W2.heap[q]?:=fun q hq=>hgr7.block q (by have:=(G HB2).size; have:=(G HS).low.size; omega) (fun e=>by have:=((G HOW2).lt q e.symm).1; have:=(G HS).w0b; omega);exact⟨c2,(cR hrw 0),(World.cell?_of_block (hk fb hfb)).trans h0,(World.cell?_of_block (hk fb hfb)).trans h1,(World.cell?_of_block (hk fb hfb)).trans h2,(World.cell?_of_block (hk fb hfb)).trans h3,(World.cell?_of_block (hk fb hfb)).trans h4⟩)
 clear hown7 hgr7 hblk7 hP hrw c0;refine hK.out _ _ (fun _=>G HC3) ?_;clear hK K;try simp only [Act.put,zA,zB,zC,zD,zE,zF]
 refine uO 17 fun K hK=>?_;go_simp;refine hK.out _ _ (fun _=>G HC3) ?_;clear hK K;try simp only [Act.put,zA,zB,zC,zD,zE,zF]
 refine uO 18 fun K hK=>?_;go_simp;refine hK.out _ _ (fun _=>G HC3) ?_;clear hK K;try simp only [Act.put,zA,zB,zC,zD,zE,zF]
 refine uO 19 fun K hK=>?_;go_simp;refine hK.out _ _ (fun h=>(by cases h)) ?_;clear hK K;try simp only [Act.put,zA,zB,zC,zD,zE,zF]
 refine Gc (by kernel_rfl) ?_ _;go_wp2;go_returns;exact⟨⟨_,rfl⟩,⟨Jj fn ws outs,q,lo,hi,lg,qb,sp,op,cb,sc,oc,gs,B⟩,rfl,rfl,rfl,G HOK,fp7,fc7,G HX,(G HP).1,(G HP).2.1,(G HP).2.2⟩
theorem Zaf {g:Nat}{a b c:World}(h:Oj g a b)(k:Oj g b c):Oj g a c:=⟨k.os.trans h.os,k.tape.trans h.tape,k.output.trans h.output,k.size.trans h.size,fun q hq=>(k.oth q hq).trans (h.oth q hq)⟩
theorem Mn {g b:Nat}{w w':World}(h:Oj g w w')(hb:b≤g):Below b w w':=⟨h.os,h.tape,h.output,Nat.le_of_eq h.size.symm,fun k hk=>h.oth k (by omega)⟩
theorem Zbh {w:World}{B e size n:Nat}{g c:Nat}{xs:List Value}(h:w.ownsRow B e size (.slice (some ⟨g,0,none⟩) n c) n xs):n≤c:=by
 rcases h.2 with⟨e,-⟩ | ⟨g',cap,cur,e,-,-,hnc,-⟩
 ·
  cases e
 ·
  injection e with e1 e2 e3;omega
set_option maxHeartbeats 2000000 in
theorem Zec (w0 w:World)(rb b:Nat)(f:Mh)(g c:Nat)(fv scv vv tv:Value)(tr:List (Int×List Int))(es:List Value)(kind steps:Int)(vp op:Option Addr)(vn vc on oc:Nat)(hS:Xc w0 w rb b [f] (.slice (some ⟨g,0,none⟩) (0+1) c) tv tr es)(hrow:Gv w rb fv scv (.slice (some ⟨g,0,none⟩) (0+1) c) kind vv tv steps) :
 Calls Tryz.prog 89 #[.pointer (some ⟨rb,0,none⟩),.slice vp vn vc,.slice op on oc] w fun e w'=>(∃ v,e=.returned v)∧Gv w' rb fv scv (.slice (some ⟨g,0,none⟩) 0 c) 1 (.slice vp vn vc) tv steps∧Xc w0 w' rb b [] (.slice (some ⟨g,0,none⟩) 0 c) tv tr es∧Oj rb w w':=by
 have HD:=J (Zeb rb fv scv vv tv kind steps g 0 c w hrow (Zbh hS.fr) (by omega));have HS:=J hS;have HROW:=J hrow;clear hS hrow;go_enter Tryz.func89,Tryz.ntmps89
 go_wp2_with fail
 refine(G HD).mono ?_;rintro e w1 ⟨⟨v,rfl⟩,hO1,hR1⟩;have c2:=cR hR1 2;have HE:=J (Zmv rb fv scv (.slice (some ⟨g,0,none⟩) 0 c) vv tv vp vn vc kind 1 steps w1 hR1);have HR1:=J hR1;have HO1:=J hO1;clear hR1 hO1 HD;go_wp2_with fail
 refine(G HE).mono ?_;rintro e w2 ⟨⟨v,rfl⟩,hO2,hR2⟩;have HR2:=J hR2;have HO2:=J hO2;clear hR2 hO2 HE c2;go_wp2;go_returns;exact⟨⟨_,rfl⟩,G HR2,(((G HS).drop (R:=[]) rfl).own ⟨_,G HROW⟩ (Zaf (G HO1) (G HO2))),Zaf (G HO1) (G HO2)⟩
set_option maxHeartbeats 4000000 in
set_option maxRecDepth 100000 in
theorem Zed (w0 w:World)(rb b:Nat)(f c:Mh)(R:List Mh)(g n cap hv:Nat)(fv scv vv tv:Value)(tr:List (Int×List Int))(es:List Value)(kind steps:Int)(vals outs:List Int)(vp op:Option Addr)(vc oc:Nat)(hn:n=R.length)(hS:Xc w0 w rb b (f :: c :: R) (.slice (some ⟨g,0,none⟩) (n+1+1) cap) tv tr es)(hrow:Gv w rb fv scv (.slice (some ⟨g,0,none⟩) (n+1+1) cap) kind vv tv steps)(hn2:n≤100000)
 (hvo:w.ownsRow hv 62 1 (.slice vp vals.length vc) vals.length (uC vals)) (hhv:c.hi≤hv) (hrv:rb<hv) (hl:Li w0 (.slice op outs.length oc) outs) (hol:outs.length≤1000) (hin:∀ k,k<outs.length→0≤outs.getD k 0∧outs.getD k 0<c.x.v.length) (hle:outs.length≤vals.length) :
 Calls Tryz.prog 89 #[.pointer (some ⟨rb,0,none⟩),.slice vp vals.length vc,.slice op outs.length oc] w fun e w'=>(∃ v,e=.returned v)∧Gv w' rb fv scv (.slice (some ⟨g,0,none⟩) (n+1) cap) kind vv tv steps∧Xc w0 w' rb b ({ c with x:={ c.x with v:=Xp c.x.v outs vals } } :: R) (.slice (some ⟨g,0,none⟩) (n+1) cap) tv tr es∧Below b w w'∧∀ q,q<w.heap.size→q≠rb→q<c.lo∨c.hi≤q→w'.heap[q]?=w.heap[q]?:=by
 have hcap:=Zbh (n:=n+1+1) (xs:=Nf (f :: c :: R)) (by have:=hS.fr; simp only [List.length_cons,← hn] at this; exact this);have HD:=J (Zeb rb fv scv vv tv kind steps g (n+1) cap w hrow hcap (by omega));have HS:=J hS;have HROW:=J hrow;have HVO:=J hvo;have HL:=J hl;have HIN:=J hin;have HN:=J hn;clear hS hrow hvo hl hin hn;go_enter Tryz.func89,Tryz.ntmps89
 go_wp2_with fail
 refine(G HD).mono ?_;rintro e w1 ⟨⟨v,rfl⟩,hO1,hR1⟩;have c2:=cR hR1 2;have hS1:=((G HS).drop (R:=c :: R) (p:=some ⟨g,0,none⟩) (c:=cap) (by rw [G HN]; rfl)).own ⟨_,G HROW⟩ hO1;rw [List.length_cons,← G HN] at hS1;have hcell:w1.cell? ⟨g,n,none⟩=some (.pointer (some ⟨c.q,0,none⟩)):=by
  have hfr:=hS1.fr;rw [List.length_cons,← G HN] at hfr;obtain⟨g',e,-,hc⟩:=Nz hfr (k:=n) (by omega);injection e with e;injection e with e;subst e;rw [hc];have h2:Nf (c :: R)=Nf R++[.pointer (some ⟨c.q,0,none⟩)]:=by simp [Nf]
  rw [h2,G HN,List.getElem?_append_right (by simp [Nf])];simp [Nf]
 have hcc:=hS1.stk c List.mem_cons_self;have hvo1:w1.ownsRow hv 62 1 (.slice vp vals.length vc) vals.length (uC vals):=Yq (G HVO) fun g hg=>hO1.oth g (by have:=((G HVO).lt g hg).1; omega);have hset:=Zit w0 c.x c.q c.lo c.hi c.lg c.bp c.sp c.op c.bc c.sc c.oc c.gs c.B outs vals op vp oc vc hv w1.drew (Yk hcc.1 (Below.refl _ _).drew) hS1.low.drew (by have:=hS1.w0b; have:=hS1.rbb; omega) (G HL) hol (G HIN) hvo1 hhv hle;have HSET:=J hset;have hgo:∀ g',(Value.slice (some ⟨g,0,none⟩) (n+1) cap).ownBlock=some g'→Zcv (c :: R) g':=hS1.fro;have hgout:=hgo g rfl c List.mem_cons_self;have hglt:=(hS1.fr.lt g rfl).2;have HSK:=J (fun(V:World) (hO:Sv c.lo c.hi w1.drew V)=>show V.cell? ⟨rb,2,none⟩=some (.slice (some ⟨g,0,none⟩) (n+1) cap)∧V.cell? ⟨g,n,none⟩=some (.pointer (some ⟨c.q,0,none⟩)) from
  ⟨(World.cell?_of_block (hO.oth rb (Zd hR1) (Or.inl hcc.2))).trans c2,(World.cell?_of_block (hO.oth g hglt hgout)).trans hcell⟩)
 have HS1:=J hS1;have HR1:=J hR1;have HO1:=J hO1;clear hS1 hR1 hO1 HD hset hcell hvo1 hgo hgout hglt hcc;have hi0:(0:Int)≤(n:Int):=by omega
 have hi1:(n:Int)<(n:Int)+1:=by omega
 have hi2:IntKind.i64.wrap (n:Int)=(n:Int):=IntKind.wrap_of_boundsK (by omega) (by omega);go_upto_region 3 with fail
 clear c2;go_region_held3 (fun V=>V.cell? ⟨rb,2,none⟩=some (.slice (some ⟨g,0,none⟩) (n+1) cap)∧V.cell? ⟨g,n,none⟩=some (.pointer (some ⟨c.q,0,none⟩))) ((first | exact G HSK _ (Kv _ _ _) | exact G HSK _ (G HO5))) ((go_at_call 105; refine(G HSET).mono ?_; rintro e w5 ⟨⟨v5,rfl⟩,hF5,hO5⟩; have HF5:=J hF5; have HO5:=J hO5; clear hF5 hO5))
 all_goals
  go_wp2;go_returns;have hS1:=G HS1;have hO5:=G HO5;have hO5':Sv c.lo c.hi w1 w5:=⟨hO5.os,hO5.tape,hO5.output,hO5.size,hO5.oth⟩;have hcl:=(hS1.stk c List.mem_cons_self).2;have hbb:=hS1.rbb;refine⟨⟨_,rfl⟩,(hO5.oth rb (Zd (G HR1)) (Or.inl hcl)).trans (G HR1),hS1.top (G HF5) hO5',?_,fun q hq hne hd=>(hO5'.oth q (by rw [(G HO1).size]; exact hq) hd).trans ((G HO1).oth q hne)⟩;refine(Mn (G HO1) hbb).trans ⟨hO5.os,hO5.tape,hO5.output,hO5.size,fun k hk=>hO5'.oth k (by have:=Zd (G HR1); omega) (Or.inl (by omega))⟩
theorem Tryz.infoEv:(Tryz.prog.info? 82).map (fun i=>(i.zero,i.size,i.bytes))=some (some (.agg #[.int .i64 0,.slice none 0 0]),2,32):=by kernel_rfl
theorem Tryz.infoU64s:(Tryz.prog.info? 62).map (·.size)=some 1:=by kernel_rfl
theorem Zjg (sc:List Int)(n:Nat):splice (uC (List.replicate n 0)) 0 (uC (sc.take n))=uC (Yt sc n):=by
 refine List.ext_getElem (by simp [splice,uC,Yt]; omega) fun k h1 h2=>?_;have hk:k<n:=by simpa [uC,Yt] using h2
 by_cases hs:k<sc.length
 ·
  have hm:k<min n sc.length:=by omega
  simp [splice,uC,Yt,List.getD,hs,hm]
 ·
  have hm:¬ k<min n sc.length:=by omega
  simp [splice,uC,Yt,List.getElem_append,List.getD,hs,hm]
theorem Zln {w:World}{x:Addr}{c m n:Nat}{sc:List Int}(h:Lv w (.slice (some x) sc.length c) sc)(hm:m=min n sc.length):Lv w (.slice (if c=m then some x else some (x.add m)) (sc.length-m) (c-m)) (sc.drop n):=by
 have hd:sc.drop n=sc.drop m:=by
  by_cases hn:n≤sc.length
  ·
   rw [hm,Nat.min_eq_left hn]
  ·
   rw [hm,Nat.min_eq_right (by omega),List.drop_of_length_le (by omega),List.drop_of_length_le (Nat.le_refl _)]
 rw [hd,← List.length_drop];by_cases h0:sc.length=0
 ·
  have hnil:sc=[]:=List.eq_nil_of_length_eq_zero h0;subst hnil;rw [List.drop_nil];exact⟨_,_,rfl,Nat.zero_le _,by decide,fun h=>absurd h (by decide)⟩
 ·
  have h':=h;obtain⟨p,c',e,-,-,h4⟩:=h';injection e with e1 e2 e3;obtain⟨sb,so,e4,-⟩:=h4 (by omega);rw [← e1] at e4;injection e4 with e4;subst e4;have:=Od h (j:=m) (by omega);rw [Go.WideShapes.add_plain];exact this
theorem Zcw (tr:List (Int×List Int))(es:List Value)(F:Int)(ws:List Int)(wv:Value)(h:es.length=tr.length):evC ((tr++[(F,ws)]).map (·.1)) (es++[wv])=evC (tr.map (·.1)) es++[.int .i64 F,wv]:=by
 unfold evC;rw [List.map_append,List.zip_append (by simp [h])];simp
theorem Xc.event {w0 V V2 V3:World}{rb b:Nat}{st:List Mh}{frv tv tv' wv:Value}{tr:List (Int×List Int)}{es:List Value}{F:Int}{ws:List Int}(h:Xc w0 V rb b st frv tv tr es)(hrow:∃ cs,V.heap[rb]?=some (.cells cs 110 (0,0)))(hb:Below V.heap.size V V2)(hwv:V2.ownsRow V.heap.size 62 1 wv ws.length (uC ws))(hg:V2.grownBy V3 tv.ownBlock)
 (ho:V3.ownsRow b 82 2 tv' (tr.length+1) (evC (tr.map (·.1)) es++[.int .i64 F,wv])) (hblk:∀ g,tv'.ownBlock=some g→tv.ownBlock=some g∨V2.heap.size≤g) (j:Nat) (u:Value) :
 Xc w0 (V3.setCell ⟨rb,j,none⟩ u) rb b st frv tv' (tr++[(F,ws)]) (es++[wv])∧Below b V (V3.setCell ⟨rb,j,none⟩ u):=by
 obtain⟨cs,hrow⟩:=hrow;have hw:=h.w0b;have hr:=h.rbb;have hrl:=Zd hrow;have hz:=hb.size;have hgz:=hg.size;have hfb:∀ g,tv.ownBlock=some g→b≤g∧g<V.heap.size:=h.tr.row.lt;have hsame:∀ g,g<V2.heap.size→tv.ownBlock≠some g→g≠rb→(V3.setCell ⟨rb,j,none⟩ u).heap[g]?=V2.heap[g]?:=fun g h1 h2 h3=>(heap_setCell_other _ _ _ _ h3).trans (hg.block g h1 (fun e=>h2 e.symm));have hsame0:∀ g,g<V.heap.size→tv.ownBlock≠some g→g≠rb→(V3.setCell ⟨rb,j,none⟩ u).heap[g]?=V.heap[g]?:=fun g h1 h2 h3=>(hsame g (by omega) h2 h3).trans (hb.block g h1);have hsz:(V3.setCell ⟨rb,j,none⟩ u).heap.size=V3.heap.size:=by simp
 have hB:Below b V (V3.setCell ⟨rb,j,none⟩ u):=⟨hg.os.trans hb.os,hg.tape.trans hb.tape,hg.output.trans hb.output,by rw [hsz]; omega,fun g hg'=>hsame0 g (by omega) (fun e=>by have:=(hfb g e).1; omega) (by omega)⟩;have hnt:∀ g cs' t,V.heap[g]?=some (.cells cs' t (0,0))→t≠82→tv.ownBlock≠some g:=fun g cs' t hr' ht e=>by
  obtain⟨cs2,hr2⟩:=own_row h.tr.row e;exact Zs hr2 hr' (fun e=>ht e.symm) rfl
 refine⟨⟨⟨hB.os.trans h.low.os,hB.tape.trans h.low.tape,hB.output.trans h.low.output,Nat.le_trans h.low.size hB.size,fun g hg'=>(hB.block g (by omega)).trans (h.low.block g hg')⟩,hw,hr,fun v hv=>?_,h.ord,Yq h.fr fun g hg'=>?_,h.fro,⟨by simp [h.tr.len],?_,fun g hg'=>?_,fun k hk=>?_⟩⟩,hB⟩
 ·
  have k:=h.stk v hv;exact⟨Mu k.1 (fun g g1 g2=>hsame0 g (Nat.lt_of_lt_of_le g2 k.1.hs) (fun e=>by rcases(h.tr.out g e).1 v hv with h' | h' <;> omega) (by omega)) (by rw [hsz]; omega),k.2⟩
 ·
  obtain⟨cs2,hr2⟩:=own_row h.fr hg';exact hsame0 g (Zd hr2) (hnt g cs2 _ hr2 (by decide)) (Zs hr2 hrow (by decide))
 ·
  have ho2:=Yq (V':=V3.setCell ⟨rb,j,none⟩ u) ho fun g hg'=>heap_setCell_other _ _ _ _ (by
   rcases hblk g hg' with e | e
   ·
    exact(h.tr.out g e).2
   ·
    show g≠rb; omega)
  rw [Zcw _ _ _ _ _ h.tr.len,List.length_append];exact ho2
 ·
  rcases hblk g hg' with e | e
  ·
   exact h.tr.out g e
  ·
   exact⟨fun v hv=>Or.inr (by have:=(h.stk v hv).1.hs; omega),by omega⟩
 ·
  by_cases hk2:k<tr.length
  ·
   have e1:(es++[wv]).getD k .nilIface=es.getD k .nilIface:=by
    have:k<es.length:=by rw [h.tr.len]; exact hk2
    simp [List.getD,List.getElem?_append_left this]
   have e2:(tr++[(F,ws)]).getD k (0,[])=tr.getD k (0,[]):=by simp [List.getD,List.getElem?_append_left hk2]
   rw [e1,e2];refine⟨Yq (h.tr.each k hk2).1 fun g hg'=>?_,(h.tr.each k hk2).2⟩;obtain⟨cs2,hr2⟩:=own_row (h.tr.each k hk2).1 hg';exact hsame0 g (Zd hr2) (hnt g cs2 _ hr2 (by decide)) (Zs hr2 hrow (by decide))
  ·
   have hkk:k=tr.length:=by simp at hk; omega
   subst hkk;have e1:(es++[wv]).getD tr.length .nilIface=wv:=by rw [← h.tr.len]; simp [List.getD]
   have e2:(tr++[(F,ws)]).getD tr.length (0,[])=(F,ws):=by simp [List.getD]
   rw [e1,e2];have hlt:=hwv.lt;refine⟨Gy (B:=V.heap.size) (Yq hwv fun g hg'=>hsame g (hlt g hg').2 (fun e=>by have:=(hfb g e).2; have:=(hlt g hg').1; omega) (by have:=(hlt g hg').1; omega)) (by omega),fun g hg'=>⟨fun v hv=>Or.inr (by have:=(h.stk v hv).1.hs; have:=(hlt g hg').1; omega),by have:=(hlt g hg').1; omega⟩⟩
set_option maxHeartbeats 8000000 in
set_option maxRecDepth 100000 in
theorem Zpe (w0 w:World)(rb b:Nat)(f:Mh)(R:List Mh)(frv fv vv:Value)(tp sp ap op:Option Addr)(tc scc ac oc:Nat)(tr:List (Int×List Int))(es:List Value)(sc:List Int)(kind steps op_ d_ a_ b_ n_ F:Int)(args:List (Int×Int))(outs:List Int)(hS:Xc w0 w rb b (f :: R) frv (.slice tp tr.length tc) tr es)(hrow:Gv w rb fv (.slice sp sc.length scc) frv kind vv (.slice tp tr.length tc) steps)(hsc:Lv w0 (.slice sp sc.length scc) sc)
 (hok:IOk f.x) (hla:LS 2 w0 (.slice ap args.length ac) args.length (fun k=>Yz (args.getD k (0,0)))) (hlo:Li w0 (.slice op outs.length oc) outs) (han:args.length≤100) (hA:∀ k,k<args.length→Rf f.x (args.getD k (0,0))) (hsl:∀ l ∈ f.x.s,l.length≤65536) (hon:outs.length≤4) (hin:∀ k,k<outs.length→0≤outs.getD k 0∧outs.getD k 0<f.x.v.length) (htl:tr.length≤100000) :
 Calls Tryz.prog 86 #[.pointer (some ⟨rb,0,none⟩),.pointer (some ⟨f.q,0,none⟩),.agg #[.int .i64 op_,.int .i64 d_,.int .i64 a_,.int .i64 b_,.int .u64 n_,.int .i64 F,.slice ap args.length ac,.slice op outs.length oc]] w fun e w'=>(∃ v,e=.returned v)∧∃ tp' tc' sp' sc' wv,Gv w' rb fv (.slice sp' (sc.drop outs.length).length sc') frv kind vv (.slice tp' (tr.length+1) tc') steps∧Lv w0 (.slice sp' (sc.drop outs.length).length sc') (sc.drop outs.length)∧Xc w0 w' rb b ({ f with x:={ f.x with v:=Xp f.x.v outs (Yt sc outs.length) } } :: R) frv (.slice tp' (tr.length+1) tc') (tr++[(F,Zv f.x args)]) (es++[wv])∧Below b w w':=by
 obtain⟨ti,hti,hty0,hty1,hty2⟩:=Xs Tryz.infoEv;obtain⟨r0,hb0,hz0⟩:=Yj w (.cells #[.int .i64 op_,.int .i64 d_,.int .i64 a_,.int .i64 b_,.int .u64 n_,.int .i64 F,.slice ap args.length ac,.slice op outs.length oc] 65 (0,0));have hrl:=Zd hrow;have HROW:=J ((hb0.block rb hrl).trans hrow);have HS:=J (hS.grow hb0);have hrbb:=hS.rbb;have hbw:b≤w.heap.size:=by omega
 have HIR:=J r0;have HB0:=J hb0;have HSC:=J hsc;have HLO:=J hlo;have HIN:=J hin;have HHI:=J (hS.stk f List.mem_cons_self).1.hs;have HLA:=J hla;have HA:=J hA;have HMK:=fun V=>mkU outs.length (by omega) V;clear r0 hb0 hS hrow hsc hlo hin hla hA;go_enter Tryz.func86,Tryz.ntmps86
 go_upto_region 1 with fail
 generalize World.alloc w _=W at HROW HS HIR HB0 hz0 ⊢;have HCK:=J (fun(V:World) (hb:Below W.heap.size W V)=>show(fun V=>V.cell? ⟨rb,6,none⟩=some (.slice tp tr.length tc)∧V.cell? ⟨w.heap.size,5,none⟩=some (.int .i64 F)∧V.cell? ⟨w.heap.size,6,none⟩=some (.slice ap args.length ac)) V from by
  have hr:=(hb.block rb (Zd (G HROW))).trans (G HROW);have hi:=(hb.block _ (Zd (G HIR))).trans (G HIR);exact⟨(cR hr 6),(cR hi 5),(cR hi 6)⟩)
 have HC0:=J (G HCK W.drew (Below.refl _ _).drew);have HWD:=J (Zay w0 f.x f.q f.lo f.hi f.lg f.bp f.sp f.op f.bc f.sc f.oc f.gs f.B args ap ac W.drew (Yk ((G HS).stk f List.mem_cons_self).1 (Below.refl _ _).drew) hok (G HS).low.drew (G HLA) han (G HA) hsl);have hbW:b≤W.heap.size:=by omega
 clear HLA HA hok hsl;refine Xw (C:=fun V=>V.cell? ⟨rb,6,none⟩=some (.slice tp tr.length tc)∧V.cell? ⟨w.heap.size,5,none⟩=some (.int .i64 F)∧V.cell? ⟨w.heap.size,6,none⟩=some (.slice ap args.length ac)) (d:=18) (by kernel_rfl) ?_;refine uT 0 (G HC0) ?_;try simp only [Act.put,zA,zB,zC,zD,zE]
 refine uT 1 (G HC0) ?_;try simp only [Act.put,zA,zB,zC,zD,zE,zF]
 refine uT 2 (G HC0) ?_;try simp only [Act.put,zA,zB,zC,zD,zE,zF]
 refine uT 3 (G HC0) ?_;try simp only [Act.put,zA,zB,zC,zD,zE,zF]
 refine uT 4 (G HC0) ?_;try simp only [Act.put,zA,zB,zC,zD,zE,zF]
 refine uT 5 (G HC0) ?_;try simp only [Act.put,zA,zB,zC,zD,zE,zF]
 refine uT 6 (G HC0) ?_;try simp only [Act.put,zA,zB,zC,zD,zE,zF]
 refine uT 7 (G HC0) ?_;try simp only [Act.put,zA,zB,zC,zD,zE,zF]
 refine uT 8 (G HC0) ?_;try simp only [Act.put,zA,zB,zC,zD,zE,zF]
 refine uT 9 (G HC0) ?_;try simp only [Act.put,zA,zB,zC,zD,zE,zF]
 refine uT 10 (G HC0) ?_;try simp only [Act.put,zA,zB,zC,zD,zE,zF]
 refine uO 11 fun K hK=>?_;go_simp;refine(G HWD).mono ?_;rintro e w1 ⟨wv,rfl,hwo,hb1⟩;obtain⟨wp,wc,rfl⟩:=Zm hwo;have hb1':Below W.heap.size W w1:=⟨hb1.os,hb1.tape,hb1.output,hb1.size,hb1.block⟩;have HC1:=J (G HCK w1 hb1');have HB1:=J hb1';have HWO:=J hwo;clear hb1 hb1' hwo;refine hK.out _ _ (fun _=>G HC1) ?_;clear hK K;try simp only [Act.put,zA,zB,zC,zD,zE,zF]
 refine uT 12 (G HC1) ?_;try simp only [Act.put,zA,zB,zC,zD,zE,zF]
 refine uO 13 fun K hK=>?_;go_simp;obtain⟨r2,hb2,hz2⟩:=Yj w1 (.cells #[.int .i64 F,.slice wp (Zv f.x args).length wc] 82 (0,0));have HB2:=J (show Below W.heap.size W (w1.alloc (.cells #[.int .i64 F,.slice wp (Zv f.x args).length wc] 82 (0,0))) from Za (G HB1) hb2 (G HB1).size);have HW2:=J (World.ownsRow.alloc (G HWO) (.cells #[.int .i64 F,.slice wp (Zv f.x args).length wc] 82 (0,0)));have HOW2:=J ((G HS).grow (G HB2)).tr.row;have HC2:=J (G HCK _ (G HB2));have HBB:=J (show b≤(w1.alloc (.cells #[.int .i64 F,.slice wp (Zv f.x args).length wc] 82 (0,0))).heap.size by have:=(G HB2).size; omega);have c0:∀ j u,[Value.int .i64 F,.slice wp (Zv f.x args).length wc][j]?=some u→(w1.alloc (.cells #[.int .i64 F,.slice wp (Zv f.x args).length wc] 82 (0,0))).cell? ⟨w1.heap.size,j,none⟩=some u:=fun j u hj=>(Zi r2 j).trans (by simpa using hj);clear r2 hb2 hz2;refine hK.out _ _ (fun _=>G HC2) ?_;clear hK K;try simp only [Act.put,zA,zB,zC,zD,zE,zF]
 generalize World.alloc w1 _=W2 at HB2 HW2 HOW2 HC2 HBB c0 ⊢;refine uO 14 fun K hK=>?_;refine Rj rfl (.tmp 13) (.tmp 21) 36 rfl b 82 ti _ 2 32 Tryz.underlying36 hti hty0 hty1 hty2 rfl (by decide) (.slice tp tr.length tc) tr.length (evC (tr.map (·.1)) es) (by simp [Act.eval]) (G HOW2) ⟨w1.heap.size,0,none⟩ 1 1 [.int .i64 F,.slice wp (Zv f.x args).length wc] (by simp [Act.eval]) rfl (by intro j u hj; match j,hj with | 0,hj=>exact c0 0 u hj | 1,hj=>exact c0 1 u hj) (by intro u hu; simp at hu; rcases hu with rfl | rfl <;> rfl) (by unfold maxLen; omega) (by omega) (G HBB) ?_;intro v7 w7 hown7 hgr7 hblk7;obtain⟨tp7,tc7,rfl⟩:=Zm hown7;have hP:=Xc.event (G HS) ⟨_,G HROW⟩ (G HB2) (G HW2) hgr7 hown7 hblk7 6 (.slice tp7 (tr.length+1) tc7);have hrw:Gv w7 rb fv (.slice sp sc.length scc) frv kind vv (.slice tp tr.length tc) steps:=by
  have h1:=((G HB2).block rb (Zd (G HROW))).trans (G HROW);exact(hgr7.block rb (Zd h1) (fun e=>Xu (G HOW2) h1 (by decide) e.symm)).trans h1
 have hib:w7.heap[w.heap.size]?=some (.cells #[.int .i64 op_,.int .i64 d_,.int .i64 a_,.int .i64 b_,.int .u64 n_,.int .i64 F,.slice ap args.length ac,.slice op outs.length oc] 65 (0,0)):=by
  have h1:=((G HB2).block w.heap.size (Zd (G HIR))).trans (G HIR);exact(hgr7.block _ (Zd h1) (fun e=>Xu (G HOW2) h1 (by decide) e.symm)).trans h1
 have hF7:(f :: R).Pairwise (fun u l=>l.hi≤u.lo):=(G HS).ord;have z6:=frozen_of_row _ _ 6 _ _ hrw;have c6:=cR hrw 6;have HC3:=J (show(fun V=>V.cell? ⟨rb,6,none⟩=some (.slice tp tr.length tc)∧V.cell? ⟨w.heap.size,5,none⟩=some (.int .i64 F)∧V.cell? ⟨w.heap.size,6,none⟩=some (.slice ap args.length ac)) w7 from⟨c6,(cR hib 5),(cR hib 6)⟩);have HX:=J (show Gv (w7.setCell ⟨rb,6,none⟩ (.slice tp7 (tr.length+1) tc7)) rb fv (.slice sp sc.length scc) frv kind vv (.slice tp7 (tr.length+1) tc7) steps from heap_setCell_same _ _ 6 _ _ _ hrw);have HI8:=J (show(w7.setCell ⟨rb,6,none⟩ (.slice tp7 (tr.length+1) tc7)).heap[w.heap.size]?=some (.cells #[.int .i64 op_,.int .i64 d_,.int .i64 a_,.int .i64 b_,.int .u64 n_,.int .i64 F,.slice ap args.length ac,.slice op outs.length oc] 65 (0,0)) from(heap_setCell_other _ _ _ _ (by show w.heap.size≠rb; omega)).trans hib);have HP:=J hP;clear hown7 hgr7 hblk7 hP hrw c0 hib hF7;refine hK.out _ _ (fun _=>G HC3) ?_;clear hK K;try simp only [Act.put,zA,zB,zC,zD,zE,zF]
 refine uO 15 fun K hK=>?_;go_simp;refine hK.out _ _ (fun _=>G HC3) ?_;clear hK K;try simp only [Act.put,zA,zB,zC,zD,zE,zF]
 refine uO 16 fun K hK=>?_;go_simp;refine hK.out _ _ (fun _=>G HC3) ?_;clear hK K;try simp only [Act.put,zA,zB,zC,zD,zE,zF]
 refine uO 17 fun K hK=>?_;go_simp;refine hK.out _ _ (fun _=>G HC3) ?_;clear hK K;try simp only [Act.put,zA,zB,zC,zD,zE,zF]
 refine uO 18 fun K hK=>?_;go_simp;refine hK.out _ _ (fun h=>(by cases h)) ?_;clear hK K;try simp only [Act.put,zA,zB,zC,zD,zE,zF]
 refine Gc (by kernel_rfl) ?_ _;clear z6 c6 HC0 HC1 HC2 HC3 HCK;generalize World.setCell w7 _ _=U at HX HI8 HP ⊢;have i7:=cR (G HI8) 7;have hu0:=(G HP).2.size;obtain⟨r3,hb3,hz3⟩:=Yj U (.cells (uC (List.replicate outs.length 0)).toArray 62 (0,0));have HR3:=J r3;have HB3:=J hb3;have HZ3:=J hz3;have c1:=cR ((hb3.block rb (Zd (G HX))).trans (G HX)) 1;clear r3 hb3 hz3;go_upto_region 3 with fail
 clear i7;generalize World.alloc U _=U2 at HR3 HB3 HZ3 c1 ⊢;go_wp2_with (refine wpList_copy_splice rfl _ _ 30 30 rfl 62 Tryz.underlying30 (Tryz.infoU64s.trans rfl) _ _ _ _ _ _ rfl rfl U.heap.size 0 (uC (List.replicate outs.length 0)) 62 ?k1 (uC (sc.take outs.length)) ?k2 ?k3 ?k4 ?k6 U.heap.size U ?k5 (Nat.le_refl _) ?_)
 case k1=>exact G HR3
 case k2=>rw [Zax,List.length_take]; exact Nat.min_comm _ _
 case k3 =>
  intro h0;obtain⟨p',c',e,h2,h3,h4⟩:=G HSC;injection e with e1 e2 e3;obtain⟨sb,so,e4,hc⟩:=h4 (by simp [uC] at h0; omega);refine⟨⟨sb,so,none⟩,by rw [e1,e4],fun j v hj=>?_⟩;have hj2:j<sc.length∧j<outs.length:=by
   have:=(List.getElem?_eq_some_iff.1 hj).1;simp [uC] at this;omega
  have hv:v=.int .u64 (sc.getD j 0):=by
   simp [uC,hj2] at hj;rw [← hj];simp [List.getD,hj2]
  subst hv;have hcj:=hc j hj2.1;have hbk:=World.block_lt_of_cell? w0 _ hcj;simp only at hbk;show World.cell? _ (Addr.add ⟨sb,so,none⟩ j)=_;rw [Go.WideShapes.add_plain];have hz:=(G HP).1.low;exact(World.cell?_of_block ((G HB3).block sb (Nat.lt_of_lt_of_le hbk hz.size))).trans ((World.cell?_of_block (hz.block sb hbk)).trans hcj)
 case k4=>simp [uC]; omega
 case k6 =>
  intro v hv;obtain⟨x,-,rfl⟩:=List.mem_map.1 hv;rfl
 case k5=>exact G HB3
 intro w8 HG8 hB8;have hrow8:=HG8.out;rw [Zjg] at hrow8;have hX8:=(hB8.block rb (Zd (G HX))).trans (G HX);have hS8:=(G HP).1.grow hB8;have hI8:=(hB8.block w.heap.size (Zd (G HI8))).trans (G HI8);have HX8:=J hX8;have HS8:=J hS8;have HI9:=J hI8;have HB8:=J hB8;have HROW8:=J hrow8;have e1:=cR hX8 1;have z1:=frozen_of_row _ _ 1 _ _ hX8;clear hX8 hS8 hI8 HG8 hB8 hrow8 c1 HR3 HB3 HZ3 HI8;generalize hm:(uC (sc.take outs.length)).length=m;rw [Zax,List.length_take] at hm;have hms:(m:Int)≤sc.length:=by omega
 have hm0:(0:Int)≤(m:Int):=by omega
 have hmN:m≤sc.length:=by omega
 have hscl:sc.length<4611686018427387904:=by obtain⟨_,_,_,_,h3,_⟩:=G HSC; exact h3
 have HM:=J hm;clear hm;have hcase:(sc.length=0∧sp=none)∨(∃ x,sp=some x):=by
  cases sp with
  | none =>
   refine Or.inl ⟨?_,rfl⟩;rcases Nat.eq_zero_or_pos sc.length with h | h
   ·
    exact h
   ·
    obtain⟨p1,c1,e,-,-,h4⟩:=G HSC;injection e with e1;obtain⟨q1,q2,e2,-⟩:=h4 h;rw [← e1] at e2;cases e2
  | some x=>exact Or.inr ⟨x,rfl⟩
 rcases hcase with⟨h0,rfl⟩ | ⟨x,rfl⟩
 ·
  go_upto_region 5 with fail
  have HL9:=J (show Lv w0 (.slice none 0 (scc-m)) (sc.drop outs.length) from by
   have hnil:sc=[]:=List.eq_nil_of_length_eq_zero h0;rw [hnil,List.drop_nil];exact⟨none,scc-m,rfl,Nat.zero_le _,by decide,fun h=>absurd h (by decide)⟩)
  generalize hv9:(Value.slice none 0 (scc-m))=v9 at HL9 ⊢;obtain⟨p9,c9,e9,-⟩:=G HL9;have E9:=J e9;clear e9;have hX9:Gv (w8.setCell ⟨rb,1,none⟩ v9) rb fv v9 frv kind vv (.slice tp7 (tr.length+1) tc7) steps:=heap_setCell_same _ _ 1 _ _ _ (G HX8);have hO9:Oj rb w8 (w8.setCell ⟨rb,1,none⟩ v9):=⟨rfl,rfl,rfl,by simp,fun q hq=>heap_setCell_other _ _ _ _ hq⟩;have hS9:=(G HS8).own ⟨_,G HX8⟩ hO9;have hi9:(w8.setCell ⟨rb,1,none⟩ v9).heap[w.heap.size]?=some (.cells #[.int .i64 op_,.int .i64 d_,.int .i64 a_,.int .i64 b_,.int .u64 n_,.int .i64 F,.slice ap args.length ac,.slice op outs.length oc] 65 (0,0)):=(hO9.oth _ (by omega)).trans (G HI9);have htd:(w8.setCell ⟨rb,1,none⟩ v9).ownsRow U.heap.size 62 1 (.slice (some ⟨U.heap.size,0,none⟩) (Yt sc outs.length).length outs.length) (Yt sc outs.length).length (uC (Yt sc outs.length)):=by
   have htl:(Yt sc outs.length).length=outs.length:=by simp [Yt]
   refine⟨by simp [uC],.inr ⟨U.heap.size,outs.length,_,rfl,Nat.le_refl _,(hO9.oth _ (by omega)).trans (G HROW8),by rw [htl]; exact Nat.le_refl _,by unfold maxLen; omega,by simp [uC,htl],by simp only [Nat.mul_one]; rw [← Zax,List.take_length]⟩⟩
  have hset:=Zit w0 f.x f.q f.lo f.hi f.lg f.bp f.sp f.op f.bc f.sc f.oc f.gs f.B outs (Yt sc outs.length) op (some ⟨U.heap.size,0,none⟩) oc outs.length U.heap.size _ (hS9.stk f List.mem_cons_self).1 hS9.low (by have:=hS9.w0b; have:=(hS9.stk f List.mem_cons_self).2; omega) (G HLO) (by omega) (G HIN) htd (by have:=G HHI; omega) (by simp [Yt]);rw [show(Yt sc outs.length).length=outs.length by simp [Yt]] at hset;have HSET:=J hset;have i7:=cR hi9 7;have HX9:=J hX9;have HS9:=J hS9;have HB9:=J (show Below b w (w8.setCell ⟨rb,1,none⟩ v9) from((Below.mono (G HB0) hbw).trans (G HP).2).trans ((Below.mono (G HB8) (by omega)).trans (Mn hO9 hrbb)));clear hX9 hO9 hS9 hi9 htd hset e1 z1 hv9;generalize World.setCell w8 _ _=U9 at HSET i7 HX9 HS9 HB9 ⊢;go_wp2_with fail
  refine(G HSET).mono ?_;rintro e w5 ⟨⟨v5,rfl⟩,hF5,hO5⟩;have HF5:=J hF5;have HO5:=J hO5;clear hF5 hO5 HSET i7;go_wp2;go_returns;have hS9:=G HS9;have hO5:=G HO5;have hfl:=(hS9.stk f List.mem_cons_self).2;refine⟨⟨_,rfl⟩,tp7,tc7,p9,c9,_,?_,by rw [← G E9]; exact G HL9,hS9.top (G HF5) hO5,(G HB9).trans ⟨hO5.os,hO5.tape,hO5.output,hO5.size,fun k hk=>hO5.oth k (by have:=Zd (G HX9); omega) (Or.inl (by omega))⟩⟩;rw [← G E9];exact(hO5.oth rb (Zd (G HX9)) (Or.inl hfl)).trans (G HX9)
 ·
  go_upto_region 5 with fail
  have HL9:=J (show Lv w0 (.slice (if scc=m then some x else some (x.add m)) (sc.length-m) (scc-m)) (sc.drop outs.length) from Zln (G HSC) (G HM).symm);generalize hv9:(Value.slice (if scc=m then some x else some (x.add m)) (sc.length-m) (scc-m))=v9 at HL9 ⊢;obtain⟨p9,c9,e9,-⟩:=G HL9;have E9:=J e9;clear e9;have hX9:Gv (w8.setCell ⟨rb,1,none⟩ v9) rb fv v9 frv kind vv (.slice tp7 (tr.length+1) tc7) steps:=heap_setCell_same _ _ 1 _ _ _ (G HX8);have hO9:Oj rb w8 (w8.setCell ⟨rb,1,none⟩ v9):=⟨rfl,rfl,rfl,by simp,fun q hq=>heap_setCell_other _ _ _ _ hq⟩;have hS9:=(G HS8).own ⟨_,G HX8⟩ hO9;have hi9:(w8.setCell ⟨rb,1,none⟩ v9).heap[w.heap.size]?=some (.cells #[.int .i64 op_,.int .i64 d_,.int .i64 a_,.int .i64 b_,.int .u64 n_,.int .i64 F,.slice ap args.length ac,.slice op outs.length oc] 65 (0,0)):=(hO9.oth _ (by omega)).trans (G HI9);have htd:(w8.setCell ⟨rb,1,none⟩ v9).ownsRow U.heap.size 62 1 (.slice (some ⟨U.heap.size,0,none⟩) (Yt sc outs.length).length outs.length) (Yt sc outs.length).length (uC (Yt sc outs.length)):=by
   have htl:(Yt sc outs.length).length=outs.length:=by simp [Yt]
   refine⟨by simp [uC],.inr ⟨U.heap.size,outs.length,_,rfl,Nat.le_refl _,(hO9.oth _ (by omega)).trans (G HROW8),by rw [htl]; exact Nat.le_refl _,by unfold maxLen; omega,by simp [uC,htl],by simp only [Nat.mul_one]; rw [← Zax,List.take_length]⟩⟩
  have hset:=Zit w0 f.x f.q f.lo f.hi f.lg f.bp f.sp f.op f.bc f.sc f.oc f.gs f.B outs (Yt sc outs.length) op (some ⟨U.heap.size,0,none⟩) oc outs.length U.heap.size _ (hS9.stk f List.mem_cons_self).1 hS9.low (by have:=hS9.w0b; have:=(hS9.stk f List.mem_cons_self).2; omega) (G HLO) (by omega) (G HIN) htd (by have:=G HHI; omega) (by simp [Yt]);rw [show(Yt sc outs.length).length=outs.length by simp [Yt]] at hset;have HSET:=J hset;have i7:=cR hi9 7;have HX9:=J hX9;have HS9:=J hS9;have HB9:=J (show Below b w (w8.setCell ⟨rb,1,none⟩ v9) from((Below.mono (G HB0) hbw).trans (G HP).2).trans ((Below.mono (G HB8) (by omega)).trans (Mn hO9 hrbb)));clear hX9 hO9 hS9 hi9 htd hset e1 z1 hv9;generalize World.setCell w8 _ _=U9 at HSET i7 HX9 HS9 HB9 ⊢;go_wp2_with fail
  refine(G HSET).mono ?_;rintro e w5 ⟨⟨v5,rfl⟩,hF5,hO5⟩;have HF5:=J hF5;have HO5:=J hO5;clear hF5 hO5 HSET i7;go_wp2;go_returns;have hS9:=G HS9;have hO5:=G HO5;have hfl:=(hS9.stk f List.mem_cons_self).2;refine⟨⟨_,rfl⟩,tp7,tc7,p9,c9,_,?_,by rw [← G E9]; exact G HL9,hS9.top (G HF5) hO5,(G HB9).trans ⟨hO5.os,hO5.tape,hO5.output,hO5.size,fun k hk=>hO5.oth k (by have:=Zd (G HX9); omega) (Or.inl (by omega))⟩⟩;rw [← G E9];exact(hO5.oth rb (Zd (G HX9)) (Or.inl hfl)).trans (G HX9)
def cwC (ns:List Int):List Value:=ns.map (fun x=>Value.int .u64 x)++[.int .u64 77,.int .u64 78]
def cwV (g:Nat)(ns:List Int):Value:=.slice (some ⟨g,0,none⟩) ns.length (ns.length+2)
structure Cw (w:World)(g:Nat)(ns:List Int):Prop where
 row:w.heap[g]?=some (.cells (cwC ns).toArray 62 (0,0))
 lim:ns.length+2<4611686018427387904
theorem Zmb (ns:List Int)(i:Nat)(h:i<ns.length):(cwC ns).toArray[i]?=some (.int .u64 (ns.getD i 0)):=by
 simp [cwC,List.getElem?_append_left,h,List.getD]
theorem Zpp (ns:List Int):(cwC ns).toArray[ns.length]?=some (.int .u64 77):=by simp [cwC]
theorem Zpq (ns:List Int):(cwC ns).toArray[ns.length+1]?=some (.int .u64 78):=by
 have e:(cwC ns)[ns.length+1]?=some (.int .u64 78):=by
  unfold cwC;rw [List.getElem?_append_right (by simp)];simp
 simpa using e
theorem Cw.li {w:World}{g:Nat}{ns:List Int}(h:Cw w g ns):Lv w (.slice (some ⟨g,0,none⟩) ns.length (ns.length+2)) ns :=
 ⟨_,_,rfl,by omega,by have:=h.lim; omega,fun _=>⟨g,0,rfl,fun i hi=>by rw [Nat.zero_add]; exact(Zi h.row i).trans (Zmb ns i hi)⟩⟩
theorem Cw.keep {w w':World}{g:Nat}{ns:List Int}(h:Cw w g ns)(e:w'.heap[g]?=w.heap[g]?):Cw w' g ns:=⟨e.trans h.row,h.lim⟩
theorem Zqy (n:Nat)(hn:n*8≤140737488351232)(w:World):(Instr.makeSlice 30 (.int .i64 (n:Int)) (.int .i64 ((n:Int)+2))).run Tryz.prog w=.ok (.slice (some ⟨w.heap.size,0,none⟩) n (n+2)) (w.alloc (.cells (madeCells #[.int .u64 0] (n+2)) 62)):=by
 obtain⟨ti,hti,hz0,hz1,hz2⟩:=Xs Tryz.infoU64;have h:=run_make (P:=Tryz.prog) w 30 62 ti _ Tryz.underlying30 hti hz0 .i64 .i64 (n:Int) ((n:Int)+2) (by omega) (by omega) (by rw [hz2]; omega) (by omega);rw [hz1,Int.toNat_natCast,show((n:Int)+2).toNat=n+2 by omega,Nat.mul_one] at h;exact h
set_option maxHeartbeats 4000000 in
set_option maxRecDepth 100000 in
theorem So (ns:List Int)(p:Option Addr)(c:Nat)(w:World)(h:Lv w (.slice p ns.length c) ns)(hl:ns.length*8≤140737488351232) :
 Calls Tryz.prog 6 #[.slice p ns.length c] w fun e w'=>e=.returned (cwV w.heap.size ns)∧Cw w' w.heap.size ns∧Below w.heap.size w w':=by
 have hmk:=fun V=>Zqy ns.length hl V;have ha:=Yj w (.cells (madeCells #[.int .u64 0] (ns.length+2)) 62 (0,0));obtain⟨cur,hcur,hcl⟩:∃ cur:List Value,madeCells #[.int .u64 0] (ns.length+2)=cur.toArray∧cur.length=ns.length+2:=⟨(madeCells #[.int .u64 0] (ns.length+2)).toList,by simp,by rw [Array.length_toList,size_madeCells]⟩;rw [hcur] at ha;have HMK:=J hcur;obtain⟨xs,hxs⟩:∃ xs:List Value,xs=ns.map (fun x=>Value.int .u64 x):=⟨_,rfl⟩;have hxl:xs.length=ns.length:=by rw [hxs]; simp
 have hx1:∀ v ∈ xs,v.oneCell'=true:=fun v hv=>by rw [hxs] at hv; obtain⟨x,-,rfl⟩:=List.mem_map.1 hv; rfl
 have HX1:=J hx1;have HXS:=J hxs;have HA:=J ha;have HLI:=J h;have HCL:=J hcl;have HXL:=J hxl;have hlt:ns.length<9223372036854775806:=by omega
 have hmin:Nat.min ns.length ns.length=ns.length:=Nat.min_self _;clear ha h hcur hx1 hxs hcl hxl;go_enter Tryz.func6,Tryz.ntmps6
 go_wp2_with (refine wpList_copy_splice rfl _ _ 30 30 rfl 62 Tryz.underlying30 (Tryz.infoU64s.trans rfl) _ _ _ _ _ _ rfl rfl w.heap.size 0 cur 62 ?k1 xs ?k2 ?k3 ?k4 (G HX1) w.heap.size w ?k5 (Nat.le_refl _) ?_)
 case k1=>rw [G HMK]; exact(G HA).1
 case k2=>rw [G HXL,hmin]
 case k3 =>
  intro h0;rw [G HXL] at h0;obtain⟨p',c',e,h2,h3,h4⟩:=G HLI;injection e with e1 e2 e3;obtain⟨sb,so,e4,hc⟩:=h4 h0;refine⟨⟨sb,so,none⟩,by rw [e1,e4],fun j v hj=>?_⟩;rw [G HXS] at hj;have hj2:j<ns.length:=by
   have:=(List.getElem?_eq_some_iff.1 hj).1;simpa using this
  have hv:v=.int .u64 (ns.getD j 0):=by
   simp [hj2] at hj;rw [← hj];simp [List.getD,hj2]
  subst hv;have hcj:=hc j hj2;have hb:=World.block_lt_of_cell? w _ hcj;simp only at hb;rw [G HMK];show World.cell? _ (Addr.add ⟨sb,so,none⟩ j)=_;rw [Go.WideShapes.add_plain];exact(World.cell?_of_block ((G HA).2.1.block sb hb)).trans hcj
 case k4=>rw [G HXL,G HCL]; omega
 case k5=>rw [G HMK]; exact(G HA).2.1
 intro w2 HG2 hB2;have hrow:=HG2.out;have hcell:∀ j,j<ns.length+2→∃ v,w2.cell? ⟨w.heap.size,j,none⟩=some v:=fun j hj=>by
  have hsz:(splice cur 0 xs).length=ns.length+2:=by rw [length_splice _ _ _ (by rw [G HXL,G HCL]; omega),G HCL]
  exact⟨_,(Zi hrow j).trans (List.getElem?_toArray.trans (List.getElem?_eq_getElem (by rw [hsz]; exact hj)))⟩
 obtain⟨v0,c0⟩:=hcell ns.length (by omega);obtain⟨v1,c1⟩:=hcell (ns.length+1) (by omega);have z0:=frozen_of_row _ _ ns.length _ _ hrow;have z1:=frozen_of_row _ _ (ns.length+1) _ _ hrow;have hr3:=heap_setCell_same _ _ (ns.length+1) _ _ (.int .u64 78) (heap_setCell_same _ _ ns.length _ _ (.int .u64 77) hrow);have e3:=Zhy cur xs (.int .u64 77) (.int .u64 78) (by rw [G HCL,G HXL]);rw [G HXL] at e3;rw [e3] at hr3;have HR3:=J hr3;have HB3:=J hB2;have hw1:IntKind.i64.wrap ((ns.length:Int)+1)=((ns.length+1:Nat):Int):=by rw [IntKind.wrap_of_boundsK (by omega) (by omega)]; omega
 have hw2:IntKind.i64.wrap ((ns.length:Int)+2)=((ns.length+2:Nat):Int):=by rw [IntKind.wrap_of_boundsK (by omega) (by omega)]; omega
 clear hrow hcell HG2 hB2 hr3 e3 hmk;go_wp2;go_ret;have hb:=G HB3;refine⟨rfl,⟨?_,by omega⟩,⟨hb.os,hb.tape,hb.output,by have:=hb.size; simpa using this,fun q hq=>(heap_setCell_other _ _ _ _ (by show q≠w.heap.size; omega)).trans ((heap_setCell_other _ _ _ _ (by show q≠w.heap.size; omega)).trans (hb.block q hq))⟩⟩;unfold cwC;rw [← G HXS];exact G HR3
set_option maxHeartbeats 2000000 in
set_option maxRecDepth 100000 in
theorem Rl (ns:List Int)(g:Nat)(w:World)(h:Cw w g ns):Calls Tryz.prog 14 #[.slice (some ⟨g,0,none⟩) ns.length (ns.length+2)] w fun e w'=>e=.returned (.bool true)∧Below w.heap.size w w':=by
 have c0:=(Zi h.row ns.length).trans (Zpp ns);have c1:=(Zi h.row (ns.length+1)).trans (Zpq ns);have hlim:=h.lim;have hw1:IntKind.i64.wrap ((ns.length:Int)+1)=((ns.length+1:Nat):Int):=by rw [IntKind.wrap_of_boundsK (by omega) (by omega)]; omega
 have hw2:IntKind.i64.wrap ((ns.length:Int)+2)=((ns.length+2:Nat):Int):=by rw [IntKind.wrap_of_boundsK (by omega) (by omega)]; omega
 clear h;go_enter Tryz.func14,Tryz.ntmps14
 go_wp2;go_ret;exact⟨rfl,Below.refl _ _⟩
set_option maxHeartbeats 2000000 in
set_option maxRecDepth 100000 in
theorem Kb (ns:List Int)(va vb:Value)(w:World)(ha:Lv w va ns)(hb:Lv w vb ns):Calls Tryz.prog 13 #[va,vb] w fun x w'=>x=.returned (.bool true)∧Below w.heap.size w w':=by
 obtain⟨pa,ca,rfl,-,hn,hca⟩:=ha;obtain⟨pb,cb,rfl,-,-,hcb⟩:=hb;have hn':ns.length<9223372036854775808:=by omega
 have hne:((ns.length:Int) != (ns.length:Int))=false:=by simp
 have HA:=J hca;have HB:=J hcb;clear hca hcb hn;go_enter Tryz.func13,Tryz.ntmps13
 go_wp2;go_loopw [13] (fun j w'=>∃(k m:Nat),j=.int .i64 k∧k≤ns.length∧w'=w.drewN m) (fun j _=>ns.length-(intOf j).toNat)
 case atStart=>exact⟨0,0,rfl,by omega,rfl⟩
 case round =>
  obtain⟨k,m,rfl,hk,hw⟩:=hrel;subst hw;by_cases hlt:k<ns.length
  ·
   obtain⟨sa,oa,e1,hca⟩:=G HA (by omega);obtain⟨sb,ob,e2,hcb⟩:=G HB (by omega);subst e1 e2;have c1:=hca k hlt;have c2:=hcb k hlt;have hxx:(ns.getD k 0 != ns.getD k 0)=false:=by simp
   clear hca hcb;generalize ns.getD k 0=x at c1 c2 hxx;go_wp2;go_quiet (fail)
   go_wp2;go_roundw
   case rel=>exact⟨k+1,_,by go_num,by omega,rfl⟩
   case measure=>simp [intOf]; omega
  ·
   obtain rfl:k=ns.length:=by omega
   go_wp2;go_ret;exact⟨rfl,⟨rfl,rfl,rfl,Nat.le_refl _,fun _ _=>rfl⟩⟩
end Go.Proofs.YteddfaconabobaaGreatDoor
