import Derived.Test.YtnlcfnjeagmemaaGreatDoorJ3
import Derived.Test.YtnlcfnjeagmemaaGreatDoorJ51
import Derived.Test.YtnlcfnjeagmemaaGreatDoorJ15
import Derived.OrdersHeld
import Derived.Laws.StructEq
import Derived.Test.YtnlcfnjeagmemaaGreatDoorJ13
import Derived.Laws.OwnMore
namespace Go.Proofs.YtnlcfnjeagmemaaGreatDoor
open Go.RowKit
set_option maxHeartbeats 4000000
set_option maxRecDepth 100000
structure SpW (B E:Nat)(W:World)(t:Nat)(V:World):Prop where
 os:V.os=W.os
 tape:V.tape=W.tape
 output:V.output=W.output
 size:W.heap.size≤V.heap.size
 oth:∀ q:Nat,q<W.heap.size→q<B∨E≤q→V.heap[q]?=W.heap[q]?
 wds:∀(g:Nat) (cs:Array Value),W.heap[g]?=some (.cells cs 62 (0,0))→∃ cs':Array Value,V.heap[g]?=some (.cells cs' 62 (0,0))∧cs'.size=cs.size
 evs:∀(g:Nat) (cs:Array Value),W.heap[g]?=some (.cells cs 99 (0,0))→∃ cs':Array Value,V.heap[g]?=some (.cells cs' 99 (0,0))∧cs'.size=cs.size∧∀ j,t≤j→cs'[j]?=cs[j]?
theorem SpW.first (B E:Nat)(W:World):SpW B E W 0 W:=⟨rfl,rfl,rfl,Nat.le_refl _,fun _ _ _=>rfl,fun _ cs h=>⟨cs,h,rfl⟩,fun _ cs h=>⟨cs,h,rfl,fun _ _=>rfl⟩⟩
theorem SpW.mono {B E t t':Nat}{W V:World}(h:SpW B E W t V)(ht:t≤t'):SpW B E W t' V:=⟨h.os,h.tape,h.output,h.size,h.oth,h.wds,fun g cs e=>by
 obtain⟨cs',h1,h2,h3⟩:=h.evs g cs e;exact⟨cs',h1,h2,fun j hj=>h3 j (by omega)⟩⟩
theorem SpW.own {B E t n:Nat}{W V:World}{v:Value}{xs:List Value}(h:SpW B E W t V)(ho:W.ownsRow B 62 1 v n xs):∃ ys,V.ownsRow B 62 1 v n ys:=by
 rcases ho.2 with⟨e,e0⟩ | ⟨g,cap,cur,e,h2,h3,h4,h5,h6,h7⟩
 ·
  exact⟨xs,ho.1,Or.inl ⟨e,e0⟩⟩
 ·
  obtain⟨cs',k1,k2⟩:=h.wds g cur h3;refine⟨cs'.toList.take (n*1),?_,Or.inr ⟨g,cap,cs',e,h2,k1,h4,h5,by omega,rfl⟩⟩;simp
  omega
theorem SpW.words {B E t n:Nat}{W V V':World}{v:Value}{xs ys:List Value}(h:SpW B E W t V)(ho:V.ownsRow B 62 1 v n xs)(hg:V.grownBy V' v.ownBlock)(ho':V'.ownsRow B 62 1 v n ys)(hE:∀ g,v.ownBlock=some g→g<E):SpW B E W t V':=by
 have hs:=h.size;refine⟨hg.os.trans h.os,hg.tape.trans h.tape,hg.output.trans h.output,Nat.le_trans h.size hg.size,fun q hq hd=>(hg.block q (by omega) (fun e=>?_)).trans (h.oth q hq hd),fun g cs e=>?_,fun g cs e=>?_⟩
 ·
  have h1:=hE q e.symm;have h2:=(ho.lt q e.symm).1;omega
 ·
  obtain⟨c,k1,k2⟩:=h.wds g cs e;by_cases hq:v.ownBlock=some g
  ·
   rcases ho.2 with⟨f,-⟩ | ⟨g1,cap,cur,f,-,h3,-,-,h6,-⟩
   ·
    subst f; cases hq
   ·
    rcases ho'.2 with⟨f',-⟩ | ⟨g2,cap2,cur2,f',-,l3,-,-,l6,-⟩
    ·
     rw [f] at f'; cases f'
    ·
     rw [f] at f';injection f' with f1 _ f3;injection f1 with f1;injection f1 with f1;subst f1 f3;rw [f] at hq;injection hq with hq;subst hq;rw [k1] at h3;injection h3 with h3;injection h3 with h3 _ _;subst h3;exact⟨cur2,l3,by omega⟩
  ·
   exact⟨c,(hg.block g (Zc k1) (fun e=>hq e.symm)).trans k1,k2⟩
 ·
  obtain⟨c,k1,k2,k3⟩:=h.evs g cs e;refine⟨c,(hg.block g (Zc k1) (fun e=>?_)).trans k1,k2,k3⟩;obtain⟨c2,r2⟩:=Jg ho e.symm;rw [k1] at r2;injection r2 with r2;injection r2 with _ r2 _;exact absurd r2 (by decide)
theorem SpW.ev {B E t g:Nat}{W V:World}{cs:Array Value}(h:SpW B E W t V)(hr:W.heap[g]?=some (.cells cs 99 (0,0)))(h1:B≤g)(h2:g<E)(j:Nat)(hj:j<t)(v:Value):SpW B E W t (V.setCell ⟨g,j,none⟩ v):=by
 refine⟨h.os,h.tape,h.output,by simpa using h.size,fun q hq hd=>(heap_setCell_other _ _ _ _ (by show q≠g; omega)).trans (h.oth q hq hd),fun q cs' e=>?_,fun q cs' e=>?_⟩
 ·
  obtain⟨c,k1,k2⟩:=h.wds q cs' e;have hne:q≠g:=fun e'=>by subst e'; rw [hr] at e; injection e with e; injection e with _ e _; exact absurd e (by decide)
  exact⟨c,(heap_setCell_other _ _ _ _ hne).trans k1,k2⟩
 ·
  obtain⟨c,k1,k2,k3⟩:=h.evs q cs' e;by_cases hq:q=g
  ·
   subst hq;exact⟨_,heap_setCell_same _ _ j _ _ v k1,by simpa using k2,fun i hi=>by rw [Array.getElem?_setIfInBounds_ne (by omega)]; exact k3 i hi⟩
  ·
   exact⟨c,(heap_setCell_other _ _ _ _ hq).trans k1,k2,k3⟩
theorem Zlm (tr:List (Int×List Int))(es:List Value)(k:Nat)(hl:es.length=tr.length)(hk:k<tr.length):(evC (tr.map (·.1)) es)[k*2+1]?=some (es.getD k .nilIface):=by
 induction tr generalizing es k with
 | nil=>simp at hk
 | cons a tr ih =>
  cases es with
  | nil=>simp at hl
  | cons b es =>
   cases k with
   | zero=>simp [evC]
   | succ k =>
    have:=ih es k (by simpa using hl) (by simpa using hk);rw [show(k+1)*2+1=k*2+1+2 from by omega];simpa [evC] using this
theorem Zqv (tr:List (Int×List Int))(es:List Value)(k:Nat)(hl:es.length=tr.length)(hk:k<tr.length):(evC (tr.map (·.1)) es)[k*2]?=some (.int .i64 (tr.getD k (0,[])).1):=by
 induction tr generalizing es k with
 | nil=>simp at hk
 | cons a tr ih =>
  cases es with
  | nil=>simp at hl
  | cons b es =>
   cases k with
   | zero=>simp [evC]
   | succ k =>
    have:=ih es k (by simpa using hl) (by simpa using hk);rw [show(k+1)*2=k*2+2 from by omega];simpa [evC] using this
theorem Zaq (o:Zit)(k0 x2 x4 x5:Int)(vv tv:Value)(B:Nat)(w0 w:World)(h:Zbf w0 B o vv tv)(hb0:Below w0.heap.size w0 w)(hn:o.vals.length≤10000000000000)(hm:o.tr.length<4611686018427387904)(ht:∀ k,k<o.tr.length→(o.tr.getD k (0,[])).2.length≤10000000000000) :
 Calls Tryz.prog 15 #[.agg #[.int .i64 k0,vv,.int .i64 x2,tv,.int .i64 x4,.int .i64 x5]] w fun e w'=>(∃ v,e=.returned v)∧w'.os=w.os∧w'.tape=w.tape∧w'.output=w.output∧w.heap.size≤w'.heap.size∧∀ q:Nat,q<B∨w0.heap.size≤q→q<w.heap.size→w'.heap[q]?=w.heap[q]?:=by
 have hs0:=hb0.size;obtain⟨hv,es,htr⟩:=h;obtain⟨tp,tc,rfl⟩:∃ a c,tv=.slice a o.tr.length c:=by
  rcases htr.row.2 with⟨e,e0⟩ | ⟨g,cap,cur,e,-⟩
  ·
   rw [e0]; exact⟨_,_,e⟩
  ·
   exact⟨_,_,e⟩
 obtain⟨r0,hB,hZ⟩:=Zs w (.cells #[.int .i64 k0,vv,.int .i64 x2,.slice tp o.tr.length tc,.int .i64 x4,.int .i64 x5] 41 (0,0));obtain⟨vp,vc,rfl⟩:∃ a c,vv=.slice a o.vals.length c:=by
  rcases hv.2 with⟨e,e0⟩ | ⟨g,cap,cur,e,-⟩
  ·
   rw [e0]; exact⟨_,_,e⟩
  ·
   exact⟨_,_,e⟩
 have hv1:=Yn hv fun g hg=>(hB.block g (Nat.lt_of_lt_of_le (hv.lt g hg).2 hs0)).trans (hb0.block g (hv.lt g hg).2);have htl:=fun g (e:(Value.slice tp o.tr.length tc).ownBlock=some g)=>htr.row.lt g e;have hvl:=fun g (e:(Value.slice vp o.vals.length vc).ownBlock=some g)=>(hv.lt g e).2;have htr1:=htr.keep (V':=w.alloc (.cells #[.int .i64 k0,.slice vp o.vals.length vc,.int .i64 x2,.slice tp o.tr.length tc,.int .i64 x4,.int .i64 x5] 41 (0,0))) (N':=fun g=>g<w0.heap.size) (fun g _ _ hr _ _ _=>(hB.block g (Nat.lt_of_lt_of_le (Zc hr) hs0)).trans (hb0.block g (Zc hr))) (fun g _ hg _=>hg);have HV:=Y hv1;have HT:=Y htr1;have HVL:=Y hvl;have HTL:=Y htl;have HR0:=Y r0;have HB:=Y hB;have HTN:=Y ht;clear hv hv1 htr htr1 r0 hB hvl htl ht hb0;go_enter Tryz.func15,Tryz.ntmps15
 go_wp2_with fail
 generalize World.alloc w _=W at HV HT HR0 HB hZ ⊢;refine(Sp B _ _ _ _ (O HV) hn).mono ?_;rintro e w2 ⟨⟨x,rfl⟩,hgr,ys,how⟩;have hS:=(SpW.first B w0.heap.size W).words (O HV) hgr how (fun g e=>by have:=O HVL g e; omega);have HS:=Y hS;have hb:w2.heap[w.heap.size]?=W.heap[w.heap.size]?:=hS.oth _ (by omega) (by omega);have f3:w2.cell? ⟨w.heap.size,3,none⟩=some (.slice tp o.tr.length tc):=(cR (hb.trans (O HR0)) 3);clear hgr how hS hb;go_wp2;clear f3;go_loopw [9] (fun j w'=>∃(k:Nat),j=.int .i64 k∧k≤o.tr.length∧SpW B w0.heap.size W (k*2) w') (fun j _=>o.tr.length-(intOf j).toNat)
 case atStart=>exact⟨0,rfl,by omega,O HS⟩
 case round =>
  clear HS;obtain⟨k,rfl,hk,hI⟩:=hrel;by_cases hk2:k<o.tr.length
  ·
   obtain⟨g,cap,cur,e1,hg,hrow,hcz,hszr,hat⟩:∃ g cap cur,Value.slice tp o.tr.length tc=.slice (some ⟨g,0,none⟩) o.tr.length cap∧B≤g∧W.heap[g]?=some (.cells cur 99 (0,0))∧o.tr.length≤cap∧cur.size=cap*2∧cur.toList.take (o.tr.length*2)=evC (o.tr.map (·.1)) es:=by
    rcases(O HT).row.2 with⟨e,e0⟩ | ⟨g,cap,cur,e,h2,h3,h4,-,h6,h7⟩
    ·
     omega
    ·
     exact⟨g,cap,cur,e,h2,h3,h4,h6,h7⟩
   injection e1 with f1 f2 f3;subst f1 f3;clear f2;have hgE:g<w0.heap.size:=(O HT).out g rfl;have hx:cur[k*2+1]?=some (es.getD k .nilIface):=by
    rw [← Zlm o.tr es k (O HT).len hk2,← hat,List.getElem?_take,if_pos (by omega)];simp
   have hown:=((O HT).each k hk2).1;have hoE:=((O HT).each k hk2).2;obtain⟨zs,hown2⟩:=hI.own hown;obtain⟨c2,k1,k2,k3⟩:=hI.evs g cur hrow;have HC:=Y (Sp B _ _ _ _ hown2 (O HTN k hk2));have b3:wr.cell? ⟨w.heap.size,3,none⟩=some (.slice (some ⟨g,0,none⟩) o.tr.length tc):=(cR ((hI.oth w.heap.size (by omega) (by omega)).trans (O HR0)) 3);have c1:wr.cell? ⟨g,k*2+1,none⟩=some (es.getD k .nilIface):=(Zd k1 _).trans ((k3 _ (by omega)).trans hx);have HI:=Y hI;have HO2:=Y hown2;have HOE:=Y hoE;have HRW:=Y hrow;clear hI hown hown2 hoE hrow hat hx k1 k2 k3;generalize es.getD k .nilIface=ev at *;go_wp2_with fail
   refine(O HC).mono ?_;rintro e w3 ⟨⟨x,rfl⟩,hgr,ys,how⟩;have hJ:=((O HI).words (O HO2) hgr how (O HOE)).mono (t':=(k+1)*2) (by omega);obtain⟨c4,k1,k2,k3⟩:=hJ.evs g cur (O HRW);have d3:w3.cell? ⟨w.heap.size,3,none⟩=some (.slice (some ⟨g,0,none⟩) o.tr.length tc):=(cR ((hJ.oth w.heap.size (by omega) (by omega)).trans (O HR0)) 3);obtain⟨x0,y0⟩:∃ u,w3.cell? ⟨g,k*2,none⟩=some u:=⟨_,(Zd k1 _).trans (Array.getElem?_eq_getElem (by omega))⟩;obtain⟨x1,y1⟩:∃ u,w3.cell? ⟨g,k*2+1,none⟩=some u:=⟨_,(Zd k1 _).trans (Array.getElem?_eq_getElem (by omega))⟩;have z0:=frozen_of_row _ _ (k*2) _ _ k1;have z1:=frozen_of_row _ _ (k*2+1) _ _ k1;have HX:=Y ((hJ.ev (O HRW) hg hgE (k*2) (by omega) (.int .i64 (-9))).ev (O HRW) hg hgE (k*2+1) (by omega) (.slice none 0 0));clear hJ hgr how k1 k2 k3 b3 c1;go_wp2;go_roundw
   case rel=>exact⟨k+1,by go_num,by omega,O HX⟩
   case measure=>simp [intOf]; omega
  ·
   obtain rfl:k=o.tr.length:=by omega
   have HI:=Y hI;clear hI;go_wp2;go_returns;have hI:=O HI;have hb:=O HB;have hs:=hI.size;exact⟨⟨_,rfl⟩,hI.os.trans hb.os,hI.tape.trans hb.tape,hI.output.trans hb.output,by omega,fun q hq hd=>(hI.oth q (by omega) hq).trans (hb.block q hd)⟩
set_option maxHeartbeats 8000000
set_option maxRecDepth 100000
theorem Zhc {w:World}{B e n k:Nat}{p:Option Addr}{c:Nat}{xs:List Value}(h:w.ownsRow B e 1 (.slice p n c) n xs)(hk:k<n):∃ g,p=some ⟨g,0,none⟩∧B≤g∧w.cell? ⟨g,k,none⟩=xs[k]?:=by
 rcases h.2 with⟨-,e0⟩ | ⟨g,cap,cur,e1,h2,h3,h4,-,h6,h7⟩
 ·
  omega
 ·
  injection e1 with e1 _ _;refine⟨g,e1,h2,(Zd h3 k).trans ?_⟩;rw [← h7,List.getElem?_take,if_pos (by omega)];simp
theorem Gs {w w':World}{v:Value}{ws:List Int}(h:LiU w v ws)(hb:Below w.heap.size w w'):LiU w' v ws:=by
 obtain⟨p,cap,h1,h2,h3,h4⟩:=h;refine⟨p,cap,h1,h2,h3,fun h0=>?_⟩;obtain⟨sb,so,e,hc⟩:=h4 h0;exact⟨sb,so,e,fun i hi=>(hb.cell (p:=⟨sb,so+i,none⟩) (World.block_lt_of_cell? w _ (hc i hi))).trans (hc i hi)⟩
theorem Zds {w:World}{B:Nat}{p:Option Addr}{c:Nat}{ws:List Int}(h:w.ownsRow B 62 1 (.slice p ws.length c) ws.length (uC ws))(hl:ws.length<4611686018427387904):LiU w (.slice p ws.length c) ws:=by
 have hc:ws.length≤c:=by
  rcases h.2 with⟨e,hn⟩ | ⟨g,cap,cur,e,-,-,hnc,-⟩
  ·
   omega
  ·
   injection e with e1 e2 e3;omega
 refine⟨p,c,rfl,hc,hl,fun h0=>?_⟩;obtain⟨g,e,-,-⟩:=Zhc h (k:=0) h0;subst e;refine⟨g,0,rfl,fun i hi=>?_⟩;obtain⟨g',e,-,hcc⟩:=Zhc h (k:=i) hi;injection e with e;injection e with e;subst e;rw [Nat.zero_add,hcc];simp [uC,List.getD,hi]
theorem Dz (w:World)(X0 X1:Obj):((w.alloc X0).alloc X1).heap[w.heap.size]?=some X0∧((w.alloc X0).alloc X1).heap[w.heap.size+1]?=some X1∧((w.alloc X0).alloc X1).heap.size=w.heap.size+1+1∧Below w.heap.size w ((w.alloc X0).alloc X1):=by
 obtain⟨r0,b0,s0⟩:=Zs w X0;obtain⟨r1,b1,s1⟩:=Zs (w.alloc X0) X1;rw [s0] at r1;exact⟨(b1.block _ (by omega)).trans r0,r1,by omega,Zb b0 b1 (by omega)⟩
theorem Zln {w:World}{B:Nat}{N:Nat→Prop}{tp:Option Addr}{tc:Nat}{tr:List (Int×List Int)}{es:List Value}(h:TrI w B N (.slice tp tr.length tc) tr es)(k:Nat)(hk:k<tr.length)(hl:(tr.getD k (0,[])).2.length<4611686018427387904):∃ g p c,tp=some ⟨g,0,none⟩∧g<w.heap.size∧w.cell? ⟨g,k*2,none⟩=some (.int .i64 (tr.getD k (0,[])).1)∧w.cell? ⟨g,k*2+1,none⟩=some (.slice p (tr.getD k (0,[])).2.length c)∧LiU w (.slice p (tr.getD k (0,[])).2.length c) (tr.getD k (0,[])).2:=by
 obtain⟨g,c,e,-,hg,hc⟩:=Ju h.row (by omega);injection e with e1 e2 e3;obtain⟨p,c',e4⟩:=Ze (h.each k hk).1;have h1:=(hc (k*2) (by omega)).trans (Zqv tr es k h.len hk);have h2:=(hc (k*2+1) (by omega)).trans (Zlm tr es k h.len hk);have h3:=(h.each k hk).1;rw [e4] at h2 h3;exact⟨g,p,c',e1,hg,h1,h2,Zds h3 hl⟩
theorem Zar (o:Zit)(cd pk:Int)(vv1 tv1 vv2 tv2:Value)(B1 B2:Nat)(w:World)(h1:Zbf w B1 o vv1 tv1)(h2:Zbf w B2 o vv2 tv2)(hn:o.vals.length<4611686018427387904)(hm:o.tr.length<4611686018427387904)(ht:∀ k,k<o.tr.length→(o.tr.getD k (0,[])).2.length<4611686018427387904) :
 Calls Tryz.prog 9 #[.agg #[.int .i64 o.kind,vv1,.int .i64 cd,tv1,.int .i64 o.steps,.int .i64 pk],.agg #[.int .i64 o.kind,vv2,.int .i64 cd,tv2,.int .i64 o.steps,.int .i64 pk]] w fun e w'=>e=.returned (.bool true)∧Below w.heap.size w w':=by
 obtain⟨hv1,es1,htr1⟩:=h1;obtain⟨tp1,tc1,rfl⟩:=Ze htr1.row;obtain⟨vp1,vc1,rfl⟩:=Ze hv1;obtain⟨hv2,es2,htr2⟩:=h2;obtain⟨tp2,tc2,rfl⟩:=Ze htr2.row;obtain⟨vp2,vc2,rfl⟩:=Ze hv2;obtain⟨r0,r1,hZ,hB⟩:=Dz w (.cells #[.int .i64 o.kind,.slice vp1 o.vals.length vc1,.int .i64 cd,.slice tp1 o.tr.length tc1,.int .i64 o.steps,.int .i64 pk] 41 (0,0)) (.cells #[.int .i64 o.kind,.slice vp2 o.vals.length vc2,.int .i64 cd,.slice tp2 o.tr.length tc2,.int .i64 o.steps,.int .i64 pk] 41 (0,0));have b0:(o.kind != o.kind)=false:=by simp
 have b1:(o.steps != o.steps)=false:=by simp
 have b4:((o.tr.length:Int) != (o.tr.length:Int))=false:=by simp
 have HL1:=Y (Zds hv1 hn);have HL2:=Y (Zds hv2 hn);have HG1:=Y htr1;have HG2:=Y htr2;have HR0:=Y r0;have HR1:=Y r1;have HB:=Y hB;have HTN:=Y ht;clear hv1 hv2 htr1 htr2 r0 r1 hB ht hn;go_enter Tryz.func9,Tryz.ntmps9
 go_wp2_with fail
 generalize World.alloc (World.alloc w _) _=W at HR0 HR1 HB hZ ⊢;refine(Cx o.vals _ _ W (Gs (O HL1) (O HB)) (Gs (O HL2) (O HB))).mono ?_;rintro e w1 ⟨rfl,hb1⟩;have HB1:=Y hb1;have x3:w1.cell? ⟨w.heap.size,3,none⟩=some (.slice tp1 o.tr.length tc1):=(cR ((hb1.block w.heap.size (by omega)).trans (O HR0)) 3);have y3:w1.cell? ⟨w.heap.size+1,3,none⟩=some (.slice tp2 o.tr.length tc2):=(cR ((hb1.block (w.heap.size+1) (by omega)).trans (O HR1)) 3);clear hb1;go_wp2;clear x3 y3;go_loopw [52] (fun j w'=>∃(k:Nat),j=.int .i64 k∧k≤o.tr.length∧Below W.heap.size W w') (fun j _=>o.tr.length-(intOf j).toNat)
 case atStart=>exact⟨0,rfl,by omega,O HB1⟩
 case round =>
  obtain⟨k,rfl,hk,hw⟩:=hrel;by_cases hlt:k<o.tr.length
  ·
   obtain⟨ga,pa,ca,e1,hga,za,zb,zl⟩:=Zln (O HG1) k hlt (O HTN k hlt);obtain⟨gb,pb,cb,e2,hgb,ya,yb,yl⟩:=Zln (O HG2) k hlt (O HTN k hlt);subst e1 e2;generalize (o.tr.getD k (0,[])).1=fk at za ya;generalize (o.tr.getD k (0,[])).2=wk at zb yb zl yl;have hCK:∀ V,Below W.heap.size W V→(fun V=>V.cell? ⟨w.heap.size,3,none⟩=some (.slice (some ⟨ga,0,none⟩) o.tr.length tc1)∧V.cell? ⟨w.heap.size+1,3,none⟩=some (.slice (some ⟨gb,0,none⟩) o.tr.length tc2)∧V.cell? ⟨ga,k*2,none⟩=some (.int .i64 fk)∧V.cell? ⟨gb,k*2,none⟩=some (.int .i64 fk)∧V.cell? ⟨ga,k*2+1,none⟩=some (.slice pa wk.length ca)∧V.cell? ⟨gb,k*2+1,none⟩=some (.slice pb wk.length cb)) V:=fun V hV=>by
    have hwV:=Zb (O HB) hV (by omega);exact⟨(cR ((hV.block w.heap.size (by omega)).trans (O HR0)) 3),(cR ((hV.block (w.heap.size+1) (by omega)).trans (O HR1)) 3),(hwV.cell (p:=⟨ga,k*2,none⟩) hga).trans za,(hwV.cell (p:=⟨gb,k*2,none⟩) hgb).trans ya,(hwV.cell (p:=⟨ga,k*2+1,none⟩) hga).trans zb,(hwV.cell (p:=⟨gb,k*2+1,none⟩) hgb).trans yb⟩
   have HCK:=Y hCK;have HWD:=Y (fun(V:World) (hV:Below W.heap.size W V)=>Cx wk (.slice pa wk.length ca) (.slice pb wk.length cb) V (Gs zl (Zb (O HB) hV (by omega))) (Gs yl (Zb (O HB) hV (by omega))));have HW0:=Y hw;have hfk:(fk != fk)=false:=by simp
   clear hCK zl yl za zb ya yb hga hgb hw;go_upto_region 6 with fail
   refine wp_region_held_drew (S:=fun V=>V.cell? ⟨w.heap.size,3,none⟩=some (.slice (some ⟨ga,0,none⟩) o.tr.length tc1)∧V.cell? ⟨w.heap.size+1,3,none⟩=some (.slice (some ⟨gb,0,none⟩) o.tr.length tc2)∧V.cell? ⟨ga,k*2,none⟩=some (.int .i64 fk)∧V.cell? ⟨gb,k*2,none⟩=some (.int .i64 fk)∧V.cell? ⟨ga,k*2+1,none⟩=some (.slice pa wk.length ca)∧V.cell? ⟨gb,k*2+1,none⟩=some (.slice pb wk.length cb)) (by kernel_rfl) (O HCK _ (O HW0).drew) (fun hHeld=>?_);refine tT 0 ?_;refine tT 1 ?_;refine tT 2 ?_;refine tT 3 ?_;refine tT 4 ?_;refine tT 5 ?_;refine tT 6 ?_;refine tT 7 ?_;refine tT 8 ?_;refine tT 9 ?_;refine tT 10 ?_;refine tT 11 ?_;refine tT 12 ?_;refine tT 13 ?_;refine tT 14 ?_;refine tT 15 ?_;refine tT 16 ?_;refine tT 17 ?_;refine tT 18 ?_;refine tT 19 ?_;refine tT 20 ?_;refine tT 21 ?_;refine tT 22 ?_;refine tT 23 ?_;refine tT 24 ?_;refine tT 25 ?_;refine tO 26 fun K hK=>?_;go_simp;refine(O HWD _ (O HW0).drew).mono ?_;rintro e w5 ⟨rfl,hb5⟩;have HB5:=Y (Zb (O HW0).drew hb5 (by have:=(O HW0).size; simpa using this));clear hb5;try go_wp2_with fail
   refine kO hK (O HCK _ (O HB5)) (fun hHeld2=>?_);clear hK K;refine tT 27 ?_;refine tT 28 ?_;refine wpAnyH_done (by kernel_rfl) ?_ _;go_wp2;all_goals exact⟨⟨k+1,by go_num,by omega,O HB5⟩,by simp [intOf]; omega⟩
  ·
   obtain rfl:k=o.tr.length:=by omega
   have HW0:=Y hw;clear hw;go_wp2;go_ret;exact⟨rfl,Zb (O HB) (O HW0) (by omega)⟩
set_option maxHeartbeats 4000000
set_option maxRecDepth 100000
theorem Zlp (ss:List (List Int×Int))(p1 p2:Option Addr)(c1 c2 A1 A2:Nat)(w:World)(h1:Na w A1 (.slice p1 ss.length c1) ss)(h2:Na w A2 (.slice p2 ss.length c2) ss):Calls Tryz.prog 35 #[.slice p1 ss.length c1,.slice p2 ss.length c2] w fun e w'=>e=.returned (.bool true)∧Below w.heap.size w w':=by
 have hlt:ss.length<4611686018427387904:=by obtain⟨_,_,_,_,h,_⟩:=h1; exact h
 have H1:=Y h1.cells;have H2:=Y h2.cells;clear h1 h2;go_enter Tryz.func35,Tryz.ntmps35
 go_wp2_with fail
 go_loopw [13] (fun s13 V'=>∃ k:Nat,s13=.int .i64 k∧k≤ss.length∧Below w.heap.size w V') (fun s13 _=>ss.length-(intOf s13).toNat)
 case atStart=>exact⟨0,rfl,by omega,Below.refl _ _⟩
 case round =>
  obtain⟨k,rfl,hk,hbw⟩:=hrel;by_cases hk2:k<ss.length
  ·
   obtain⟨g1,s1,v1,e1,-,a0,a1,hl1,-⟩:=O H1 k hk2;obtain⟨g2,s2,v2,e2,-,b0,b1,hl2,-⟩:=O H2 k hk2;subst e1 e2;have x0:=(World.cell?_of_block (hbw.block g1 (by have:=World.block_lt_of_cell? _ _ a0; exact this))).trans a0;have x1:=(World.cell?_of_block (hbw.block g1 (by have:=World.block_lt_of_cell? _ _ a0; exact this))).trans a1;have y0:=(World.cell?_of_block (hbw.block g2 (by have:=World.block_lt_of_cell? _ _ b0; exact this))).trans b0;have y1:=(World.cell?_of_block (hbw.block g2 (by have:=World.block_lt_of_cell? _ _ b0; exact this))).trans b1;have HIN:=Y (Zck _ _ _ (wr.drewN 1) ((hl1.below hbw).below (Jz wr)) ((hl2.below hbw).below (Jz wr)));have HBW:=Y hbw;generalize ss.getD k ([],0)=sg at x1 y1 HIN;have hk1:(k:Int)<(ss.length:Int):=by omega
   clear a0 a1 b0 b1 hl1 hl2 hbw;go_upto_region 6 with fail
   refine Zh (C:=fun V9=>∃ k,V9=wr.drewN k) (d:=22) (by kernel_rfl) ?_;change Ye _ _ _ _ _ _ _ _ _ (wr.drewN 1)
   refine vE 0 ?_;refine vE 1 ?_;refine vE 2 ?_;refine vE 3 ?_;refine vE 4 ?_;refine vE 5 ?_;refine vE 6 ?_;refine vE 7 ?_;refine vE 8 ?_;refine vE 9 ?_;refine vE 10 ?_;refine vE 11 ?_;refine vE 12 ?_;refine vE 13 ?_;refine vE 14 ?_;refine vE 15 ?_;refine vE 16 ?_;refine vE 17 ?_;refine vE 18 ?_;refine vE 19 ?_;refine vE 20 ?_;refine vE 21 ?_;refine vO 22 fun K hK=>?_;go_simp;refine(O HIN).mono ?_;rintro e w5 ⟨rfl,hb5⟩;have HB5:=Y (Zb (O HBW) (show Below wr.heap.size wr w5 from⟨hb5.os,hb5.tape,hb5.output,hb5.size,hb5.block⟩) (O HBW).size);clear hb5 HIN;refine kO hK (fun hx=>by cases hx) ?_;clear hK K;refine vO 23 fun K hK=>?_;go_simp;refine kO hK (fun hx=>by cases hx) ?_;clear hK K;refine vO 24 fun K hK=>?_;go_simp;refine kO hK (fun hx=>by cases hx) ?_;clear hK K;refine Zi (by kernel_rfl) ?_ _;go_wp2;go_roundw
   case rel=>exact⟨k+1,by go_num,by omega,O HB5⟩
   case measure=>simp [intOf]; omega
  ·
   have hkn:k=ss.length:=by omega
   subst hkn;have HBW:=Y hbw;clear hbw;go_wp2;go_ret;exact⟨rfl,O HBW⟩
set_option maxHeartbeats 8000000
set_option maxRecDepth 100000
def mvA (i:Zt):Array Value:=#[.int .i64 i.op,.int .i64 i.r,.int .i64 i.a,.int .i64 i.b,.int .i64 i.n,.int .i64 i.w,.int .i64 i.f]
theorem Zxc (i:Zt)(w:World):(Op.equal 103 (.agg (mvA i)) (.agg (mvA i))).run Tryz.prog w=.ok true w:=by
 have u3:=Tryz.underlying3;have a3:=Tryz.isAgg3;have z3:=Tryz.sizeOf3;have hS:Tryz.prog.underlying 103=some (.struct (Tryz.prog.fieldsOf 103)):=by kernel_rfl
 have hp:Tryz.prog.stoodInHeld 103=false:=by kernel_rfl
 show(Op.equalIn 10000 _ _ _).run _ _=_;unfold mvA;rw [show(10000:Nat)=9999+1 from rfl,run_equalIn_agg w 9999 103 _ _ hS hp];simp only [Program.fieldsOf,Tryz.underlying103];go_simp
theorem Gi.bel {w w':World}{A:Nat}{v:Value}{fs:List (List (List Zt))}(h:Gi w A v fs)(hb:Below w.heap.size w w')(hA:A≤w.heap.size):Gi w' A v fs:=h.kx (Gh (a:=A) (b:=A) hb) hA (Nat.le_refl _) (Nat.le_refl _)
theorem Zto (C:Zk)(sp1 fp1 ep1 sp2 fp2 ep2:Option Addr)(sc1 fc1 ec1 sc2 fc2 ec2 A1 A2:Nat)(w:World)(hS1:Na w A1 (.slice sp1 C.sigs.length sc1) C.sigs)(hF1:Gi w A1 (.slice fp1 C.funcs.length fc1) C.funcs)(hE1:Na w A1 (.slice ep1 C.externs.length ec1) C.externs)(hA1:A1≤w.heap.size)(hS2:Na w A2 (.slice sp2 C.sigs.length sc2) C.sigs)(hF2:Gi w A2 (.slice fp2 C.funcs.length fc2) C.funcs)(hE2:Na w A2 (.slice ep2 C.externs.length ec2) C.externs)(hA2:A2≤w.heap.size) :
 Calls Tryz.prog 12 #[.agg #[.slice sp1 C.sigs.length sc1,.slice fp1 C.funcs.length fc1,.slice ep1 C.externs.length ec1],.agg #[.slice sp2 C.sigs.length sc2,.slice fp2 C.funcs.length fc2,.slice ep2 C.externs.length ec2]] w fun e w'=>e=.returned (.bool true)∧Below w.heap.size w w':=by
 obtain⟨r0,r1,hZ,hB⟩:=Dz w (.cells #[.slice sp1 C.sigs.length sc1,.slice fp1 C.funcs.length fc1,.slice ep1 C.externs.length ec1] 29 (0,0)) (.cells #[.slice sp2 C.sigs.length sc2,.slice fp2 C.funcs.length fc2,.slice ep2 C.externs.length ec2] 29 (0,0));have hzW:w.heap.size≤((w.alloc (.cells #[.slice sp1 C.sigs.length sc1,.slice fp1 C.funcs.length fc1,.slice ep1 C.externs.length ec1] 29 (0,0))).alloc (.cells #[.slice sp2 C.sigs.length sc2,.slice fp2 C.funcs.length fc2,.slice ep2 C.externs.length ec2] 29 (0,0))).heap.size:=by omega
 have HS1:=Y (hS1.below hB hA1);have HS2:=Y (hS2.below hB hA2);have HE1:=Y (hE1.below hB hA1);have HE2:=Y (hE2.below hB hA2);have HF1:=Y hF1;have HF2:=Y hF2;have HR0:=Y r0;have HR1:=Y r1;have HB:=Y hB;have HZ:=Y hZ;have b0:((C.funcs.length:Int) != (C.funcs.length:Int))=false:=by simp
 clear hS1 hS2 hE1 hE2 hF1 hF2 r0 r1 hB hZ;go_enter Tryz.func12,Tryz.ntmps12
 go_wp2_with fail
 generalize World.alloc (World.alloc w _) _=W at HS1 HS2 HE1 HE2 HR0 HR1 HB HZ hzW ⊢;refine(Zlp C.sigs _ _ _ _ A1 A2 W (O HS1) (O HS2)).mono ?_;rintro e w1 ⟨rfl,hb1⟩;have hz1:=hb1.size;have q1:=(hb1.block w.heap.size (by have:=O HZ; omega)).trans (O HR0);have q2:=(hb1.block (w.heap.size+1) (by have:=O HZ; omega)).trans (O HR1);have i1:=((cR q1 1):_=some (Value.slice fp1 C.funcs.length fc1));have i2:=((cR q1 2):_=some (Value.slice ep1 C.externs.length ec1));have j1:=((cR q2 1):_=some (Value.slice fp2 C.funcs.length fc2));have j2:=((cR q2 2):_=some (Value.slice ep2 C.externs.length ec2));have HE1b:=Y ((O HE1).below hb1 (by omega));have HE2b:=Y ((O HE2).below hb1 (by omega));have HB1:=Y hb1;clear hb1 q1 q2 HE1 HE2 HS1 HS2;go_wp2_with fail
 refine(Zlp C.externs _ _ _ _ A1 A2 w1 (O HE1b) (O HE2b)).mono ?_;rintro e w2 ⟨rfl,hb2⟩;have hbw:=Zb (O HB1) hb2 hz1;have q1:=(hbw.block w.heap.size (by have:=O HZ; omega)).trans (O HR0);have q2:=(hbw.block (w.heap.size+1) (by have:=O HZ; omega)).trans (O HR1);have i1:=((cR q1 1):_=some (Value.slice fp1 C.funcs.length fc1));have j1:=((cR q2 1):_=some (Value.slice fp2 C.funcs.length fc2));have HBW:=Y hbw;clear hbw hb2 q1 q2 HE1b HE2b;go_wp2;clear i1 j1 i2 j2;obtain⟨V1,⟨_,_,e1,hc1,hl1,ha1⟩,hV1⟩:=O HF1;obtain⟨V2,⟨_,_,e2,hc2,hl2,ha2⟩,hV2⟩:=O HF2;injection e1 with e1a _ e1b;injection e2 with e2a _ e2b;subst e1a e1b e2a e2b;have HL1:=Y ha1;have HL2:=Y ha2;have HV1:=Y hV1;have HV2:=Y hV2;clear ha1 ha2 hV1 hV2 HF1 HF2 hc1 hc2;go_loopw [34] (fun s34 V'=>∃ f:Nat,s34=.int .i64 f∧f≤C.funcs.length∧Below W.heap.size W V') (fun s34 _=>C.funcs.length-(intOf s34).toNat)
 case atStart=>exact⟨0,rfl,by omega,O HBW⟩
 case round =>
  obtain⟨f,rfl,hf,hbw⟩:=hrel;by_cases hf2:f<C.funcs.length
  ·
   obtain⟨g1,so1,hp1,hg1,hcf1⟩:=O HL1 f hf2;obtain⟨g2,so2,hp2,hg2,hcf2⟩:=O HL2 f hf2;obtain⟨U1,⟨up1,uc1,huv1,huc1,hul1,hua1⟩,hU1⟩:=O HV1 f hf2;obtain⟨U2,⟨up2,uc2,huv2,huc2,hul2,hua2⟩,hU2⟩:=O HV2 f hf2;subst hp1 hp2;rw [huv1] at hcf1;rw [huv2] at hcf2;have HUA1:=Y hua1;have HUA2:=Y hua2;have HUF1:=Y hU1;have HUF2:=Y hU2;have HBW2:=Y hbw;have HCK:=Y (fun(V:World) (hV:Below W.heap.size W V)=>show V.cell? ⟨w.heap.size,1,none⟩=some (.slice (some ⟨g1,so1,none⟩) C.funcs.length fc1)∧V.cell? ⟨w.heap.size+1,1,none⟩=some (.slice (some ⟨g2,so2,none⟩) C.funcs.length fc2)∧V.cell? ⟨g1,so1+f,none⟩=some (.slice up1 (C.funcs.getD f []).length uc1)∧V.cell? ⟨g2,so2+f,none⟩=some (.slice up2 (C.funcs.getD f []).length uc2) from by
    have hwV:=Zb (O HB) hV hzW;have hZZ:=O HZ;exact⟨(cR ((hV.block w.heap.size (by omega)).trans (O HR0)) 1),(cR ((hV.block (w.heap.size+1) (by omega)).trans (O HR1)) 1),(hwV.cell (p:=⟨g1,so1+f,none⟩) (Nat.lt_of_lt_of_le hg1 hA1)).trans hcf1,(hwV.cell (p:=⟨g2,so2+f,none⟩) (Nat.lt_of_lt_of_le hg2 hA2)).trans hcf2⟩)
   obtain⟨x0,y0,x1,y1⟩:=O HCK _ hbw;clear hcf1 hcf2 huv1 huv2 hua1 hua2 hU1 hU2 hbw huc1 huc2 hul2;generalize hnb:(C.funcs.getD f []).length=nb at HUA1 HUA2 HUF1 HUF2 HCK x1 y1 hul1;clear hnb;have bb:((nb:Int) != (nb:Int))=false:=by simp
   have hfi:(f:Int)<(C.funcs.length:Int):=by omega
   go_upto_region 6 with fail
   go_quiet (fail)
   obtain⟨x0',y0',x1',y1'⟩:=O HCK _ (Yk (O HBW2) nq);clear x0 y0 x1 y1;go_wp2_with fail
   clear x0' y0' x1' y1';go_loopw [56] (fun s56 V'=>∃ b:Nat,s56=.int .i64 b∧b≤nb∧Below W.heap.size W V') (fun s56 _=>nb-(intOf s56).toNat)
   case atStart=>exact⟨0,rfl,by omega,Yk (O HBW2) nq⟩
   case round =>
    clear HBW2 nq;obtain⟨b,rfl,hb,hbw⟩:=hrel;by_cases hb2:b<nb
    ·
     obtain⟨h1,to1,hp1,hh1,hcu1⟩:=O HUA1 b hb2;obtain⟨h2,to2,hp2,hh2,hcu2⟩:=O HUA2 b hb2;obtain⟨mp1,mc1,hmv1,hmc1,hml1,hma1⟩:=O HUF1 b hb2;obtain⟨mp2,mc2,hmv2,hmc2,hml2,hma2⟩:=O HUF2 b hb2;subst hp1 hp2;rw [hmv1] at hcu1;rw [hmv2] at hcu2;have HMA1:=Y hma1;have HMA2:=Y hma2;have HBW3:=Y hbw;have HCL:=Y (fun(V:World) (hV:Below W.heap.size W V)=>show V.cell? ⟨w.heap.size,1,none⟩=some (.slice (some ⟨g1,so1,none⟩) C.funcs.length fc1)∧V.cell? ⟨w.heap.size+1,1,none⟩=some (.slice (some ⟨g2,so2,none⟩) C.funcs.length fc2)∧V.cell? ⟨g1,so1+f,none⟩=some (.slice (some ⟨h1,to1,none⟩) nb uc1)∧V.cell? ⟨g2,so2+f,none⟩=some (.slice (some ⟨h2,to2,none⟩) nb uc2)∧V.cell? ⟨h1,to1+b,none⟩=some (.slice mp1 ((C.funcs.getD f []).getD b []).length mc1)∧V.cell? ⟨h2,to2+b,none⟩=some (.slice mp2 ((C.funcs.getD f []).getD b []).length mc2) from by
      have hwV:=Zb (O HB) hV hzW;obtain⟨x0,y0,x1,y1⟩:=O HCK _ hV;exact⟨x0,y0,x1,y1,(hwV.cell (p:=⟨h1,to1+b,none⟩) (Nat.lt_of_lt_of_le hh1 hA1)).trans hcu1,(hwV.cell (p:=⟨h2,to2+b,none⟩) (Nat.lt_of_lt_of_le hh2 hA2)).trans hcu2⟩)
     obtain⟨x0,y0,x1,y1,x2,y2⟩:=O HCL _ hbw;clear hcu1 hcu2 hmv1 hmv2 hma1 hma2 hbw hmc1 hmc2 hml2;generalize hbl:(C.funcs.getD f []).getD b []=bl at HMA1 HMA2 HCL x2 y2 hml1;clear hbl;have bc:((bl.length:Int) != (bl.length:Int))=false:=by simp
     have hbi:(b:Int)<(nb:Int):=by omega
     go_upto_region 11 with fail
     go_quiet (fail)
     obtain⟨x0',y0',x1',y1',x2',y2'⟩:=O HCL _ (Yk (O HBW3) nq);clear x0 y0 x1 y1 x2 y2;go_wp2_with fail
     clear x0' y0' x1' y1' x2' y2';go_loopw [87] (fun s87 V'=>∃ k:Nat,s87=.int .i64 k∧k≤bl.length∧Below W.heap.size W V') (fun s87 _=>bl.length-(intOf s87).toNat)
     case atStart=>exact⟨0,rfl,by omega,Yk (O HBW3) nq⟩
     case round =>
      clear HBW3 nq;obtain⟨k,rfl,hk,hbw⟩:=hrel;by_cases hk2:k<bl.length
      ·
       obtain⟨m1,uo1,hp1,hm1,hcm1⟩:=O HMA1 k hk2;obtain⟨m2,uo2,hp2,hm2,hcm2⟩:=O HMA2 k hk2;subst hp1 hp2;have HBW4:=Y hbw;have hwV:=Zb (O HB) hbw hzW;obtain⟨x0,y0,x1,y1,x2,y2⟩:=O HCL _ hbw;generalize bl.getD k Yz=mv at hcm1 hcm2;have a0:=(hwV.cell (p:=⟨m1,uo1+k*7,none⟩) (Nat.lt_of_lt_of_le hm1 hA1)).trans (hcm1 0 _ rfl);have c0:=(hwV.cell (p:=⟨m2,uo2+k*7,none⟩) (Nat.lt_of_lt_of_le hm2 hA2)).trans (hcm2 0 _ rfl);have a1:=(hwV.cell (p:=⟨m1,uo1+k*7+1,none⟩) (Nat.lt_of_lt_of_le hm1 hA1)).trans (hcm1 1 _ rfl);have c1:=(hwV.cell (p:=⟨m2,uo2+k*7+1,none⟩) (Nat.lt_of_lt_of_le hm2 hA2)).trans (hcm2 1 _ rfl);have a2:=(hwV.cell (p:=⟨m1,uo1+k*7+2,none⟩) (Nat.lt_of_lt_of_le hm1 hA1)).trans (hcm1 2 _ rfl);have c2:=(hwV.cell (p:=⟨m2,uo2+k*7+2,none⟩) (Nat.lt_of_lt_of_le hm2 hA2)).trans (hcm2 2 _ rfl);have a3:=(hwV.cell (p:=⟨m1,uo1+k*7+3,none⟩) (Nat.lt_of_lt_of_le hm1 hA1)).trans (hcm1 3 _ rfl);have c3:=(hwV.cell (p:=⟨m2,uo2+k*7+3,none⟩) (Nat.lt_of_lt_of_le hm2 hA2)).trans (hcm2 3 _ rfl);have a4:=(hwV.cell (p:=⟨m1,uo1+k*7+4,none⟩) (Nat.lt_of_lt_of_le hm1 hA1)).trans (hcm1 4 _ rfl);have c4:=(hwV.cell (p:=⟨m2,uo2+k*7+4,none⟩) (Nat.lt_of_lt_of_le hm2 hA2)).trans (hcm2 4 _ rfl);have a5:=(hwV.cell (p:=⟨m1,uo1+k*7+5,none⟩) (Nat.lt_of_lt_of_le hm1 hA1)).trans (hcm1 5 _ rfl);have c5:=(hwV.cell (p:=⟨m2,uo2+k*7+5,none⟩) (Nat.lt_of_lt_of_le hm2 hA2)).trans (hcm2 5 _ rfl)
       have a6:=(hwV.cell (p:=⟨m1,uo1+k*7+6,none⟩) (Nat.lt_of_lt_of_le hm1 hA1)).trans (hcm1 6 _ rfl);have c6:=(hwV.cell (p:=⟨m2,uo2+k*7+6,none⟩) (Nat.lt_of_lt_of_le hm2 hA2)).trans (hcm2 6 _ rfl);have heq:=fun V=>Zxc mv V;unfold mvA at heq;have hki:(k:Int)<(bl.length:Int):=by omega
       clear hcm1 hcm2 hbw hwV;go_upto_region 16 with fail
       go_quiet (fail)
       go_wp2_with fail
       go_roundw
       case rel=>exact⟨k+1,by go_num,by omega,Yk (O HBW4) nq⟩
       case measure=>simp [intOf]; omega
      ·
       have hkn:k=bl.length:=by omega
       subst hkn;have HBW4:=Y hbw;clear hbw;go_wp2_with fail
       go_roundw
       case rel=>exact⟨b+1,by go_num,by omega,O HBW4⟩
       case measure=>simp [intOf]; omega
    ·
     have hbn:b=nb:=by omega
     subst hbn;have HBW4:=Y hbw;clear hbw;go_wp2_with fail
     go_roundw
     case rel=>exact⟨f+1,by go_num,by omega,O HBW4⟩
     case measure=>simp [intOf]; omega
  ·
   have hfn:f=C.funcs.length:=by omega
   subst hfn;have HBW4:=Y hbw;clear hbw;go_wp2_with fail
   go_ret;exact⟨rfl,Zb (O HB) (O HBW4) hzW⟩
theorem Zdt {V:World}{B n size g:Nat}{e t:TypeId}{v:Value}{xs:List Value}{cs:Array Value}{fr:Nat×Nat}(h:V.ownsRow B e size v n xs)(hr:V.heap[g]?=some (.cells cs t fr))(hne:e≠t):v.ownBlock≠some g:=fun hv=>by
 rcases h.2 with⟨e1,-⟩ | ⟨g1,c1,cur1,e1,-,r1,-⟩
 ·
  rw [e1] at hv; cases hv
 ·
  rw [e1] at hv;injection hv with hv;simp only at hv;rw [hv,hr] at r1;injection r1 with r1;injection r1 with _ r1 _;exact hne r1.symm
theorem Zhd {V:World}{B e size n g:Nat}{v:Value}{xs:List Value}(h:V.ownsRow B e size v n xs)(hg:v.ownBlock=some g):∃ cs,V.heap[g]?=some (.cells cs e (0,0)):=by
 rcases h.2 with⟨e1,-⟩ | ⟨g1,c1,cur1,e1,-,r1,-⟩
 ·
  rw [e1] at hg; cases hg
 ·
  rw [e1] at hg;injection hg with hg;simp only at hg;subst hg;exact⟨_,r1⟩
structure Ztp (C:Zk):Prop where
 s:C.sigs.length*32≤140737488351232
 x:C.externs.length*32≤140737488351232
 f:C.funcs.length*24≤140737488351232
 se:∀ s ∈ C.sigs,s.1.length*8≤140737488351232
 xe:∀ s ∈ C.externs,s.1.length*8≤140737488351232
 fe:∀ f ∈ C.funcs,f.length*24≤140737488351232∧∀ l ∈ f,l.length*56≤140737488351232
def Nd (S:TypeId→Bool)(V V':World):Prop:=∀(g:Nat) (cs:Array Value) (t:TypeId),V.heap[g]?=some (.cells cs t (0,0))→S t=true→V'.heap[g]?=some (.cells cs t (0,0))
theorem Nd.own {S:TypeId→Bool}{V V':World}{B e size n:Nat}{v:Value}{xs:List Value}(hk:Nd S V V')(h:V.ownsRow B e size v n xs)(hs:S e=true):V'.ownsRow B e size v n xs :=
 Zcx h fun g hg=>by
  obtain⟨cs,hr⟩:=Zhd h hg;rw [hr];exact hk g cs e hr hs
theorem Nd.cp {S:TypeId→Bool}{V V':World}{g:Nat}{ns:List Int}(hk:Nd S V V')(h:Cp V g ns)(hs:S 3=true):Cp V' g ns:=⟨hk g _ _ h.row hs,h.lim⟩
theorem Nd.of_below {S:TypeId→Bool}{V V':World}(hb:Below V.heap.size V V'):Nd S V V':=fun g _ _ h _=>(hb.block g (Zc h)).trans h
theorem Nd.of_grown {S:TypeId→Bool}{V V':World}{B e size n:Nat}{v:Value}{xs:List Value}(ho:V.ownsRow B e size v n xs)(hg:V.grownBy V' v.ownBlock)(hs:S e=false):Nd S V V':=fun g cs t h ht=>by
 refine(hg.block g (Zc h) fun c=>?_).trans h;obtain⟨cs',hr⟩:=Zhd ho c.symm;rw [h] at hr;injection hr with hr;injection hr with _ hr _;rw [← hr,ht] at hs;cases hs
theorem Nd.set {S:TypeId→Bool}{V:World}{g:Nat}{cs:Array Value}{t:TypeId}(hr:V.heap[g]?=some (.cells cs t (0,0)))(hs:S t=false)(j:Nat)(v:Value):Nd S V (V.setCell ⟨g,j,none⟩ v):=fun q cs' t' h ht=>by
 refine(heap_setCell_other _ _ _ _ fun c=>?_).trans h;subst c;rw [h] at hr;injection hr with hr;injection hr with _ hr _;rw [← hr,ht] at hs;cases hs
theorem Nd.row {S:TypeId→Bool}{V:World}{g:Nat}{cs:Array Value}{t:TypeId}(hr:V.heap[g]?=some (.cells cs t (0,0)))(hs:S t=false)(cs':Array Value):Nd S V (V.setRow g cs'):=fun q cs2 t' h ht=>by
 refine(setRow_other _ _ _ _ fun c=>?_).trans h;subst c;rw [h] at hr;injection hr with hr;injection hr with _ hr _;rw [← hr,ht] at hs;cases hs
theorem Nd.trans {S:TypeId→Bool}{V V' V2:World}(h:Nd S V V')(h':Nd S V' V2):Nd S V V2:=fun g cs t hr hs=>h' g cs t (h g cs t hr hs) hs
theorem Nd.mono {S S':TypeId→Bool}{V V':World}(h:Nd S V V')(hi:∀ t,S' t=true→S t=true):Nd S' V V':=fun g cs t hr hs=>h g cs t hr (hi t hs)
section
variable {α β:Type} {R R':α→β→Prop}
def Ot (R:α→β→Prop):List α→List β→Prop
 | [],[]=>True
 | a :: l,b :: m=>R a b∧Ot R l m
 | [],_ :: _=>False
 | _ :: _,[]=>False
theorem Ot.nil {R:α→β→Prop}:Ot R [] []:=trivial
theorem Ot.cons {a:α}{b:β}{l:List α}{m:List β}(h:R a b)(t:Ot R l m):Ot R (a :: l) (b :: m):=⟨h,t⟩
theorem Ot.ind {P:List α→List β→Prop}(h0:P [] [])(h1:∀ a b l m,R a b→P l m→P (a :: l) (b :: m)):∀(l:List α) (m:List β),Ot R l m→P l m
 | [],[],_=>h0
 | a :: l,b :: m,h=>h1 a b l m (show R a b∧Ot R l m from h).1 (Ot.ind h0 h1 l m (show R a b∧Ot R l m from h).2)
 | [],_ :: _,h=>(show False from h).elim
 | _ :: _,[],h=>(show False from h).elim
theorem Ot.len {l:List α}{m:List β}(h:Ot R l m):l.length=m.length:=by
 refine Ot.ind (R:=R) (P:=fun l m=>l.length=m.length) (by rfl) (fun a b l m _ ih=>?_) l m h;simp [ih]
theorem Ot.imp {l:List α}{m:List β}(h:Ot R l m)(hi:∀ a b,R a b→R' a b):Ot R' l m:=Ot.ind (R:=R) (P:=fun l m=>Ot R' l m) Ot.nil (fun _ _ _ _ h ih=>Ot.cons (hi _ _ h) ih) l m h
theorem Ot.snoc {l:List α}{m:List β}{a:α}{b:β}(h:Ot R l m)(hr:R a b):Ot R (l++[a]) (m++[b]):=Ot.ind (R:=R) (P:=fun l m=>Ot R (l++[a]) (m++[b])) (Ot.cons hr Ot.nil) (fun _ _ _ _ h ih=>Ot.cons h ih) l m h
theorem Ot.get {l:List α}{m:List β}(h:Ot R l m)(d:α):∀ k (h2:k<m.length),R (l.getD k d) m[k]:=by
 refine Ot.ind (R:=R) (P:=fun l m=>∀ k (h2:k<m.length),R (l.getD k d) m[k]) (fun k h1=>by simp at h1) (fun a b l m h ih k h2=>?_) l m h;cases k with
 | zero=>simpa using h
 | succ k=>simpa using ih k (by simpa using h2)
theorem Ot.mem {l:List α}{m:List β}(h:Ot R l m):∀ a ∈ l,∃ b,R a b:=by
 refine Ot.ind (R:=R) (P:=fun l _=>∀ a ∈ l,∃ b,R a b) (fun a h1=>by cases h1) (fun a b l m h ih x h2=>?_) l m h;rcases List.mem_cons.1 h2 with rfl | h2
 ·
  exact⟨_,h⟩
 ·
  exact ih x h2
end
def flS (cs:List (Array Value)):List Value:=cs.flatMap (·.toList)
theorem Zqw (cs:List (Array Value))(c:Array Value):flS (cs++[c])=flS cs++c.toList:=by simp [flS]
theorem Zdu {size:Nat}:∀(cs:List (Array Value)),(∀ c ∈ cs,c.size=size)→∀ k j,k<cs.length→j<size→(flS cs)[k*size+j]?=(cs.getD k #[]).toList[j]?
 | [],_,k,_,hk,_=>by simp at hk
 | c :: cs,h,0,j,_,hj=>by
  have h1:=h c (by simp);simp only [flS,List.flatMap_cons,Nat.zero_mul,Nat.zero_add,List.getD_cons_zero];rw [List.getElem?_append_left (by rw [Array.length_toList,h1]; exact hj)]
 | c :: cs,h,k+1,j,hk,hj=>by
  have h1:=h c (by simp);have ih:=Zdu cs (fun d hd=>h d (by simp [hd])) k j (by simpa using hk) hj;simp only [flS,List.flatMap_cons,List.getD_cons_succ] at ih ⊢;rw [List.getElem?_append_right (by rw [Array.length_toList,h1,Nat.succ_mul]; omega),Array.length_toList,h1,show(k+1)*size+j-size=k*size+j by rw [Nat.succ_mul]; omega];exact ih
def Zhe (V:World)(A:Array Value)(s:List Int×Int):Prop:=∃ g,A=#[cpV g s.1,.int .i64 s.2]∧Cp V g s.1
def Np (V:World)(B:Nat)(v:Value)(es:List (List Int×Int)):Prop:=∃ As,V.ownsRow B 59 2 v es.length (flS As)∧Ot (Zhe V) As es
abbrev kS3:TypeId→Bool:=fun t=>t==3
abbrev kS5:TypeId→Bool:=fun t=>t==59||kS3 t
theorem Zhe.keep {V V':World}{A:Array Value}{s:List Int×Int}(h:Zhe V A s)(hk:Nd kS3 V V'):Zhe V' A s:=by
 obtain⟨g,h1,h2⟩:=h;exact⟨g,h1,hk.cp h2 (by decide)⟩
theorem Np.keep {V V':World}{B:Nat}{v:Value}{es:List (List Int×Int)}(h:Np V B v es)(hk:Nd kS5 V V'):Np V' B v es:=by
 obtain⟨As,h1,h2⟩:=h;exact⟨As,hk.own h1 (by decide),h2.imp fun _ _ h=>h.keep (hk.mono fun t ht=>by simp only [kS5,ht,Bool.or_true])⟩
theorem Np.nil (V:World)(B:Nat):Np V B (.slice none 0 0) []:=⟨[],World.ownsRow_nil _ _ _ _,.nil⟩
theorem Zhe.size {V:World}{A:Array Value}{s:List Int×Int}(h:Zhe V A s):A.size=2:=by
 obtain⟨_,rfl,-⟩:=h;rfl
theorem Zim {P:Program}(w:World)(t ty e:TypeId)(i:TypeInfo)(z:Value)(size bytes:Nat)(ht:P.underlying t=some (.slice e))(hi:P.info? e=some i)(hz:i.zero=some z)
 (hsize:i.size=size) (hby:i.bytes=bytes) (hzs:z.cells.size=size) (hsz:0<size) (p:Option Addr) (m c:Nat) (news:List Value) (hl:news.length=m*size)
 (hs:0<m→∃ sb so,p=some ⟨sb,so,none⟩∧∀ j u,news[j]?=some u→w.cell? ⟨sb,so+j,none⟩=some u) (h1:∀ u ∈ news,u.oneCell'=true)
 (h63:m≤maxLen) (hbytes:m*bytes≤140737488355328) :
 ∃ v' w',(Builtin.append_ #[t,t] ty #[.slice none 0 0,.slice p m c]).run P w=.ok v' w'∧w'.ownsRow w.heap.size e size v' m news∧Below w.heap.size w w':=by
 cases p with
 | none =>
  have h0:m=0:=by
   rcases Nat.eq_zero_or_pos m with h0 | h0
   ·
    exact h0
   ·
    obtain⟨_,_,e,_⟩:=hs h0;cases e
  subst h0;have hn:news=[]:=List.eq_nil_of_length_eq_zero (by omega);subst hn;refine⟨.slice none 0 0,w,?_,World.ownsRow_nil _ _ _ _,Below.refl _ _⟩;simp [Builtin.append_,run_underlying ht,sizeOf,typeInfo,hi,Builtin.lenOf,Builtin.firstCells]
 | some a =>
  obtain⟨v',w',hr,ho,hg,-⟩:=run_append_own (P:=P) w w.heap.size t ty e i z size bytes ht hi hz hsize hby hzs hsz _ 0 [] (World.ownsRow_nil _ _ _ _) a m c news hl (fun j u hj=>by
   rcases Nat.eq_zero_or_pos m with h0 | h0
   ·
    subst h0;have hn:news=[]:=List.eq_nil_of_length_eq_zero (by omega);subst hn;cases hj
   ·
    obtain⟨sb,so,e1,hc⟩:=hs h0;injection e1 with e1;subst e1;rw [Go.WideShapes.add_plain];exact hc j u hj) h1 (by omega) (by rw [Nat.zero_add]; exact hbytes) (Nat.le_refl _)
  rw [Nat.zero_add,List.nil_append] at ho;exact⟨v',w',hr,ho,⟨hg.os,hg.tape,hg.output,hg.size,fun q hq=>hg.block q hq (by intro h; cases h)⟩⟩
structure OnG (g:Nat)(W V:World):Prop where
 os:V.os=W.os
 tape:V.tape=W.tape
 output:V.output=W.output
 size:W.heap.size≤V.heap.size
 oth:∀ q:Nat,q<W.heap.size→q≠g→V.heap[q]?=W.heap[q]?
theorem OnG.refl (g:Nat)(W:World):OnG g W W:=⟨rfl,rfl,rfl,Nat.le_refl _,fun _ _ _=>rfl⟩
theorem OnG.next {g:Nat}{W V V':World}(h:OnG g W V)(hb:Below V.heap.size V V'):OnG g W V':=by
 have hs:=h.size;exact⟨hb.os.trans h.os,hb.tape.trans h.tape,hb.output.trans h.output,Nat.le_trans h.size hb.size,fun q hq hn=>(hb.block q (by omega)).trans (h.oth q hq hn)⟩
theorem OnG.grown {g e size n:Nat}{W V V':World}{v:Value}{xs:List Value}(h:OnG g W V)(ho:V.ownsRow W.heap.size e size v n xs)(hg:V.grownBy V' v.ownBlock):OnG g W V':=by
 have hs:=h.size;exact⟨hg.os.trans h.os,hg.tape.trans h.tape,hg.output.trans h.output,Nat.le_trans h.size hg.size,fun q hq hn=>(hg.block q (by omega) fun c=>by have:=(ho.lt q c.symm).1; omega).trans (h.oth q hq hn)⟩
theorem OnG.set {g:Nat}{W V:World}(h:OnG g W V)(j:Nat)(v:Value):OnG g W (V.setCell ⟨g,j,none⟩ v):=⟨h.os,h.tape,h.output,by simpa using h.size,fun q hq hn=>(heap_setCell_other _ _ _ _ hn).trans (h.oth q hq hn)⟩
theorem OnG.below {g b:Nat}{W V:World}(h:OnG g W V)(hb:b≤W.heap.size)(hg:b≤g):Below b W V:=⟨h.os,h.tape,h.output,h.size,fun q hq=>h.oth q (by omega) (by omega)⟩
theorem OnG.kp {g:Nat}{S:TypeId→Bool}{W V:World}{cs:Array Value}{t:TypeId}(h:OnG g W V)(hr:W.heap[g]?=some (.cells cs t (0,0)))(hs:S t=false):Nd S W V:=fun q cs' t' hq ht=>by
 refine(h.oth q (Zc hq) fun c=>?_).trans hq;subst c;rw [hq] at hr;injection hr with hr;injection hr with _ hr _;rw [← hr,ht] at hs;cases hs
theorem Kl {B g e size n:Nat}{t:TypeId}{V V':World}{v:Value}{xs:List Value}{cs:Array Value}(hr:V.heap[g]?=some (.cells cs t (0,0)))(ho:V.ownsRow B e size v n xs)(hg:V.grownBy V' v.ownBlock)(hne:e≠t):V'.heap[g]?=some (.cells cs t (0,0)) :=
 (hg.block g (Zc hr) fun c=>Zdt ho hr hne c.symm).trans hr
theorem Jp {B e size n:Nat}{V V':World}{v:Value}{xs:List Value}(h:V.ownsRow B e size v n xs)(hb:Below V.heap.size V V'):V'.ownsRow B e size v n xs:=Zcx h fun g hg=>hb.block g (h.lt g hg).2
theorem Zhf {B g j:Nat}{V V':World}{v v' x:Value}{As:List (Array Value)}{es:List (List Int×Int)}{s:List Int×Int}{A cs:Array Value}(ho:V.ownsRow B 59 2 v es.length (flS As))(ha:Ot (Zhe V) As es)(hA:Zhe V A s)(hg:V.grownBy V' v.ownBlock)(ho':V'.ownsRow B 59 2 v' (es.length+1) (flS As++A.toList))(hr:V'.heap[g]?=some (.cells cs 29 (0,0))):Np (V'.setCell ⟨g,j,none⟩ x) B v' (es++[s]):=by
 have k1:Nd kS3 V V':=.of_grown ho hg (by decide);have k2:Nd kS3 V' (V'.setCell ⟨g,j,none⟩ x):=.set hr (by decide) _ _;refine⟨As++[A],?_,(ha.snoc hA).imp fun _ _ h=>h.keep (k1.trans k2)⟩;rw [Zqw,List.length_append];exact Zcx ho' fun q hq=>heap_setCell_other _ _ _ _ fun c=>Zdt ho' hr (by decide) (by rw [hq,c])
theorem Zin {P:Program}(w:World){ops:Array Oper}{rest:List Oper}{o:Oper}{a:Act}{Q:Exit→Act→World→Prop}(hgd:o.guard=none)(s x:Operand)(t:TypeId)
 (ho:o.op=.call { callee:=.builtin .append,args:=#[s,x],argTypes:=#[t,t] })
 (e:TypeId) (i:TypeInfo) (z:Value) (size bytes:Nat) (ht:P.underlying t=some (.slice e)) (hi:P.info? e=some i) (hz:i.zero=some z)
 (hsize:i.size=size) (hby:i.bytes=bytes) (hzs:z.cells.size=size) (hsz:0<size) (hs:a.eval s=.slice none 0 0) (p:Option Addr) (m c:Nat) (hx:a.eval x=.slice p m c) (news:List Value) (hl:news.length=m*size)
 (hc:0<m→∃ sb so,p=some ⟨sb,so,none⟩∧∀ j u,news[j]?=some u→w.cell? ⟨sb,so+j,none⟩=some u) (h1:∀ u ∈ news,u.oneCell'=true)
 (h63:m≤maxLen) (hbytes:m*bytes≤140737488355328)
 (h:∀ v' w',w'.ownsRow w.heap.size e size v' m news→Below w.heap.size w w'→wpList P ops Q rest (a.put o.dst v') w'):wpList P ops Q (o :: rest) a w :=
 wpList_plain hgd fun _ hK=>by
  obtain⟨v',w',hr,h2,h3⟩:=Zim (P:=P) w t o.type e i z size bytes ht hi hz hsize hby hzs hsz p m c news hl hc h1 h63 hbytes;unfold Oper.wp execOp;simp only [ho,resolve,invoke,builtin,Sem.run_bind,Sem.run_pure,Result.andThen_ok,List.map_toArray,List.map_cons,List.map_nil,hs,hx,hr];exact hK _ _ (h v' w' h2 h3)
theorem Tryz.infCdF:(Tryz.prog.info? 29).map (·.size)=some 3:=by kernel_rfl
theorem Tryz.infSgF:(Tryz.prog.info? 59).map (fun i=>(i.zero,i.size,i.bytes))=some (some (.agg #[.slice none 0 0,.int .i64 0]),2,32):=by kernel_rfl
theorem Tryz.infMvF:(Tryz.prog.info? 103).map (fun i=>(i.zero,i.size,i.bytes))=some (some (.agg #[.int .i64 0,.int .i64 0,.int .i64 0,.int .i64 0,.int .i64 0,.int .i64 0,.int .i64 0]),7,56):=by kernel_rfl
theorem Tryz.infBlF:(Tryz.prog.info? 61).map (fun i=>(i.zero,i.size,i.bytes))=some (some (.slice none 0 0),1,24):=by kernel_rfl
theorem Tryz.infFnF:(Tryz.prog.info? 60).map (fun i=>(i.zero,i.size,i.bytes))=some (some (.slice none 0 0),1,24):=by kernel_rfl
def mvL (l:List Zt):List Value:=l.flatMap Zfb
theorem Zdv:∀ l:List Zt,(mvL l).length=l.length*7
 | []=>rfl
 | i :: l=>by
  have:=Zdv l;simp only [mvL,List.flatMap_cons,List.length_append,List.length_cons] at this ⊢;rw [this,show(Zfb i).length=7 from rfl];omega
theorem Zdw:∀(l:List Zt) (k r:Nat),k<l.length→r<7→(mvL l)[k*7+r]?=(Zfb (l.getD k Yz))[r]?
 | [],k,_,hk,_=>by simp at hk
 | i :: l,0,r,_,hr=>by
  simp only [mvL,List.flatMap_cons,Nat.zero_mul,Nat.zero_add,List.getD_cons_zero];rw [List.getElem?_append_left (by exact hr)]
 | i :: l,k+1,r,hk,hr=>by
  have ih:=Zdw l k r (by simpa using hk) hr;simp only [mvL,List.flatMap_cons,List.getD_cons_succ] at ih ⊢;rw [List.getElem?_append_right (by show 7≤_; omega),show(k+1)*7+r-(Zfb i).length=k*7+r from by show(k+1)*7+r-7=_; omega];exact ih
theorem Ztq (l:List Zt):∀ u ∈ mvL l,u.oneCell'=true:=fun u hu=>by
 simp only [mvL,List.mem_flatMap] at hu;obtain⟨x,-,hx⟩:=hu;simp [Zfb] at hx;rcases hx with rfl | rfl | rfl | rfl | rfl | rfl | rfl <;> rfl
theorem MvC.ml {w:World}{A c:Nat}{p:Option Addr}{l:List Zt}(h:MvC w A (.slice p l.length c) l)(h0:0<l.length):∃ sb so,p=some ⟨sb,so,none⟩∧∀ j u,(mvL l)[j]?=some u→w.cell? ⟨sb,so+j,none⟩=some u:=by
 obtain⟨p',c',e,h2,h3,h4⟩:=h;injection e with e1 e2 e3;subst e1;obtain⟨sb,so,e4,hl,hc⟩:=h4 0 h0;refine⟨sb,so,e4,fun j u hj=>?_⟩;have hj2:j<l.length*7:=by
  have:=(List.getElem?_eq_some_iff.1 hj).1;rwa [Zdv] at this
 have hk:j / 7<l.length:=by omega
 obtain⟨sb',so',e5,-,hc'⟩:=h4 (j / 7) hk;rw [e4] at e5;injection e5 with e5;injection e5 with e5 e6;subst e5 e6;have ej:j=j / 7*7+j % 7:=by omega
 rw [ej,Zdw l _ _ hk (by omega)] at hj;have:=hc' _ _ hj;rw [ej,← Nat.add_assoc];exact this
def MvK (V:World)(v:Value)(l:List Zt):Prop:=∃ B,V.ownsRow B 103 7 v l.length (mvL l)
def Zbc (V:World)(B:Nat)(v:Value)(bl:List (List Zt)):Prop:=∃ vs,V.ownsRow B 61 1 v bl.length vs∧Ot (MvK V) vs bl
def Zhg (V:World)(v:Value)(bl:List (List Zt)):Prop:=∃ B,Zbc V B v bl
def Dk (V:World)(B:Nat)(v:Value)(fs:List (List (List Zt))):Prop:=∃ vs,V.ownsRow B 60 1 v fs.length vs∧Ot (Zhg V) vs fs
abbrev kM1:TypeId→Bool:=fun t=>t==103
abbrev kM2:TypeId→Bool:=fun t=>t==61||kM1 t
abbrev kM3:TypeId→Bool:=fun t=>t==60||kM2 t
theorem MvK.keep {V V':World}{v:Value}{l:List Zt}(h:MvK V v l)(hk:Nd kM1 V V'):MvK V' v l:=by
 obtain⟨B,h⟩:=h;exact⟨B,hk.own h (by decide)⟩
theorem Zbc.keep {V V':World}{B:Nat}{v:Value}{l:List (List Zt)}(h:Zbc V B v l)(hk:Nd kM2 V V'):Zbc V' B v l:=by
 obtain⟨vs,h1,h2⟩:=h;exact⟨vs,hk.own h1 (by decide),h2.imp fun _ _ h=>h.keep (hk.mono fun t ht=>by simp only [kM2,ht,Bool.or_true])⟩
theorem Zhg.keep {V V':World}{v:Value}{l:List (List Zt)}(h:Zhg V v l)(hk:Nd kM2 V V'):Zhg V' v l:=by
 obtain⟨B,h⟩:=h;exact⟨B,h.keep hk⟩
theorem Dk.keep {V V':World}{B:Nat}{v:Value}{l:List (List (List Zt))}(h:Dk V B v l)(hk:Nd kM3 V V'):Dk V' B v l:=by
 obtain⟨vs,h1,h2⟩:=h;exact⟨vs,hk.own h1 (by decide),h2.imp fun _ _ h=>h.keep (hk.mono fun t ht=>by simp only [kM3,ht,Bool.or_true])⟩
theorem Zbc.nil (V:World)(B:Nat):Zbc V B (.slice none 0 0) []:=⟨[],World.ownsRow_nil _ _ _ _,.nil⟩
theorem Dk.nil (V:World)(B:Nat):Dk V B (.slice none 0 0) []:=⟨[],World.ownsRow_nil _ _ _ _,.nil⟩
theorem Znc {B:Nat}{V V':World}{v v' y:Value}{vs:List Value}{bl:List (List Zt)}{l:List Zt}(ho:V.ownsRow B 61 1 v bl.length vs)(ha:Ot (MvK V) vs bl)(hA:MvK V y l)(hg:V.grownBy V' v.ownBlock)(ho':V'.ownsRow B 61 1 v' (bl.length+1) (vs++[y])):Zbc V' B v' (bl++[l]):=by
 have k1:Nd kM1 V V':=.of_grown ho hg (by decide);refine⟨vs++[y],?_,(ha.snoc hA).imp fun _ _ h=>h.keep k1⟩;rw [List.length_append];exact ho'
theorem Znd {B g j:Nat}{V V':World}{v v' x y:Value}{vs:List Value}{fs:List (List (List Zt))}{f:List (List Zt)}{cs:Array Value}(ho:V.ownsRow B 60 1 v fs.length vs)(ha:Ot (Zhg V) vs fs)(hA:Zhg V y f)(hg:V.grownBy V' v.ownBlock)(ho':V'.ownsRow B 60 1 v' (fs.length+1) (vs++[y]))(hr:V'.heap[g]?=some (.cells cs 29 (0,0))):Dk (V'.setCell ⟨g,j,none⟩ x) B v' (fs++[f]):=by
 have k1:Nd kM2 V V':=.of_grown ho hg (by decide);have k2:Nd kM2 V' (V'.setCell ⟨g,j,none⟩ x):=.set hr (by decide) _ _;refine⟨vs++[y],?_,(ha.snoc hA).imp fun _ _ h=>h.keep (k1.trans k2)⟩;rw [List.length_append];exact Zcx ho' fun q hq=>heap_setCell_other _ _ _ _ fun c=>Zdt ho' hr (by decide) (by rw [hq,c])
theorem Zqx {V:World}{B e n:Nat}{v:Value}{vs:List Value}(h:V.ownsRow B e 1 v n vs)(hl:vs.length=n)(hn:n<4611686018427387904):LV V V.heap.size v n (fun k=>vs.getD k .nilIface):=by
 rcases Nat.eq_zero_or_pos n with h0 | h0
 ·
  subst h0;obtain⟨p,c,rfl⟩:=Ze h;exact⟨p,c,rfl,Nat.zero_le _,hn,fun k hk=>absurd hk (Nat.not_lt_zero _)⟩
 ·
  obtain⟨g,c,e,-,hg,hc⟩:=Ju h h0;subst e;have hcap:n≤c:=by
   rcases h.2 with⟨e,hn⟩ | ⟨g,cap,cur,e,-,-,hnc,-⟩
   ·
    omega
   ·
    injection e with e1 e2 e3;omega
  refine⟨_,c,rfl,hcap,hn,fun k hk=>⟨g,0,rfl,hg,?_⟩⟩;rw [Nat.zero_add,hc k (by omega)];simp [List.getD,List.getElem?_eq_getElem (show k<vs.length by omega)]
theorem MvK.mvc {V:World}{v:Value}{l:List Zt}(h:MvK V v l)(hn:l.length<4611686018427387904):MvC V V.heap.size v l:=by
 obtain⟨B,h⟩:=h;rcases Nat.eq_zero_or_pos l.length with h0 | h0
 ·
  obtain⟨p,c,rfl⟩:=Ze h;exact⟨p,c,rfl,by omega,hn,fun k hk=>absurd hk (by omega)⟩
 ·
  obtain⟨g,c,e,-,hg,hc⟩:=Ju h h0;subst e;have hcap:l.length≤c:=by
   rcases h.2 with⟨e,hn⟩ | ⟨g,cap,cur,e,-,-,hnc,-⟩
   ·
    omega
   ·
    injection e with e1 e2 e3;omega
  refine⟨_,c,rfl,hcap,hn,fun k hk=>⟨g,0,rfl,hg,fun j u hj=>?_⟩⟩;have hj7:j<7:=(List.getElem?_eq_some_iff.1 hj).1;rw [Nat.zero_add,hc (k*7+j) (by omega),Zdw l k j hk hj7];exact hj
theorem Dk.codf {V:World}{B:Nat}{v:Value}{fs:List (List (List Zt))}(h:Dk V B v fs)(hn:fs.length<4611686018427387904)(hb:∀ f ∈ fs,f.length<4611686018427387904∧∀ l ∈ f,l.length<4611686018427387904):Gi V V.heap.size v fs:=by
 obtain⟨vs,h1,h2⟩:=h;refine⟨_,Zqx h1 h2.len hn,fun f hf=>?_⟩;obtain⟨B',us,h3,h4⟩:=h2.get .nilIface f hf;have hbf:=hb _ (List.getElem_mem hf);rw [show fs.getD f []=fs[f] by simp [List.getD,hf]];refine⟨_,Zqx h3 h4.len hbf.1,fun b hb2=>?_⟩;rw [show fs[f].getD b []=fs[f][b] by simp [List.getD,hb2]];exact(h4.get .nilIface b hb2).mvc (hbf.2 _ (List.getElem_mem hb2))
theorem Np.sgl {V:World}{B:Nat}{v:Value}{es:List (List Int×Int)}(h:Np V B v es)(hn:es.length<4611686018427387904):Na V V.heap.size v es:=by
 obtain⟨As,h1,h2⟩:=h;rcases Nat.eq_zero_or_pos es.length with h0 | h0
 ·
  obtain⟨p,c,rfl⟩:=Ze h1;exact⟨p,c,rfl,by omega,hn,fun k hk=>absurd hk (by omega)⟩
 ·
  obtain⟨g,c,e,-,hg,hc⟩:=Ju h1 h0;subst e;have hcap:es.length≤c:=by
   rcases h1.2 with⟨e,hn⟩ | ⟨g,cap,cur,e,-,-,hnc,-⟩
   ·
    omega
   ·
    injection e with e1 e2 e3;omega
  refine⟨_,c,rfl,hcap,hn,fun k hk=>?_⟩;have hal:=h2.len;obtain⟨g',eA,hcp⟩:=h2.get #[] k hk;have hsz:∀ A ∈ As,A.size=2:=fun A hA=>by obtain⟨b,hb⟩:=h2.mem A hA; exact hb.size
  have a0:=(hc (k*2+0) (by omega)).trans (Zdu As hsz k 0 (by omega) (by omega));have a1:=(hc (k*2+1) (by omega)).trans (Zdu As hsz k 1 (by omega) (by omega));rw [eA] at a0 a1;have eg:es.getD k ([],0)=es[k]:=by simp [List.getD,hk]
  rw [eg];refine⟨g,0,cpV g' es[k].1,rfl,hg,by rw [Nat.zero_add]; exact a0,by rw [Nat.zero_add]; exact a1,hcp.li,Or.inr ⟨g',0,_,rfl,Zc hcp.row,fun i hi=>by rw [Nat.zero_add]; exact(Zd hcp.row i).trans (Ziy _ i hi)⟩⟩
theorem Na.at {w:World}{A c:Nat}{p:Option Addr}{ss:List (List Int×Int)}(h:Na w A (.slice p ss.length c) ss)(k:Nat)(hk:k<ss.length):∃ sb so lp lc,p=some ⟨sb,so,none⟩∧sb<A∧w.cell? ⟨sb,so+k*2,none⟩=some (.slice lp ss[k].1.length lc)∧w.cell? ⟨sb,so+k*2+1,none⟩=some (.int .i64 ss[k].2)∧Li w (.slice lp ss[k].1.length lc) ss[k].1:=by
 obtain⟨p',c',e,-,-,h4⟩:=h;injection e with e1 e2 e3;subst e1;obtain⟨g,so,lv,e4,hg,a0,a1,hli,-⟩:=h4 k hk;have eg:ss.getD k ([],0)=ss[k]:=by simp [List.getD,hk]
 rw [eg] at a1 hli;obtain⟨lp,lc,rfl,hl2⟩:=hli;exact⟨g,so,lp,lc,e4,hg,a0,a1,lp,lc,rfl,hl2⟩
theorem Zqy (w:World)(X0 X1 X2:Obj):(((w.alloc X0).alloc X1).alloc X2).heap[w.heap.size]?=some X0∧(((w.alloc X0).alloc X1).alloc X2).heap[w.heap.size+1]?=some X1∧(((w.alloc X0).alloc X1).alloc X2).heap[w.heap.size+1+1]?=some X2∧(((w.alloc X0).alloc X1).alloc X2).heap.size=w.heap.size+1+1+1∧Below w.heap.size w (((w.alloc X0).alloc X1).alloc X2):=by
 obtain⟨r0,r1,hz,hB⟩:=Dz w X0 X1;obtain⟨r2,b2,s2⟩:=Zs ((w.alloc X0).alloc X1) X2;rw [hz] at r2;exact⟨(b2.block _ (by omega)).trans r0,(b2.block _ (by omega)).trans r1,r2,by omega,Zb hB b2 (by omega)⟩
theorem Zio {b e size n:Nat}{X V V':World}{v:Value}{xs:List Value}(h:Below b X V)(hs:b≤X.heap.size)(ho:V.ownsRow b e size v n xs)(hg:V.grownBy V' v.ownBlock):Below b X V':=by
 have:=h.size;exact⟨hg.os.trans h.os,hg.tape.trans h.tape,hg.output.trans h.output,Nat.le_trans h.size hg.size,fun q hq=>(hg.block q (by omega) fun c=>by have:=(ho.lt q c.symm).1; omega).trans (h.block q hq)⟩
theorem Zas {g:Nat}{V V':World}{v:Value}{X:Obj}(hr:V.heap[g]?=some X)(hg:V.grownBy V' v.ownBlock)(hlt:∀ q,v.ownBlock=some q→q<g):V'.heap[g]?=some X:=(hg.block g (by rcases Nat.lt_or_ge g V.heap.size with h | h; exact h; rw [Array.getElem?_eq_none h] at hr; cases hr) fun c=>absurd (hlt g c.symm) (Nat.lt_irrefl g)).trans hr
theorem Df {α:Type}(l:List α)(k:Nat)(h:k≤l.length):(l.take k).length=k:=by simp; omega
theorem Sq {α:Type}(l:List α)(k:Nat)(h:k<l.length):l.take (k+1)=l.take k++[l[k]]:=List.take_succ_eq_append_getElem h
end Go.Proofs.YtnlcfnjeagmemaaGreatDoor
