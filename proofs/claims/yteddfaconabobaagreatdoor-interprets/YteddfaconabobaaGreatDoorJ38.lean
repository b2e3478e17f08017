import Derived.Test.YteddfaconabobaaGreatDoorJ23
import Derived.ArgAppend
import Derived.Test.YteddfaconabobaaGreatDoorPk
import Derived.Test.YteddfaconabobaaGreatDoorJ28
namespace Go.Proofs.YteddfaconabobaaGreatDoor
open Go.RowKit
theorem Zjq {w:World}{base n cap g:Nat}{e:TypeId}{xs:List Value}(h:w.ownsRow base e 1 (.slice (some ⟨g,0,none⟩) n cap) n xs)(i:Nat)(u:Value):∃ xs',(w.setCell ⟨g,i,none⟩ u).ownsRow base e 1 (.slice (some ⟨g,0,none⟩) n cap) n xs':=by
 rcases h.2 with⟨e1,_⟩ | ⟨g',cap',cur,e1,h2,h3,h4,h5,h6,h7⟩
 ·
  cases e1
 ·
  injection e1 with e1 _ e2;injection e1 with e1;injection e1 with e1;subst e1; subst e2;refine⟨(cur.setIfInBounds i u).toList.take (n*1),?_,Or.inr ⟨g,cap,cur.setIfInBounds i u,rfl,h2,heap_setCell_same w g i cur e u h3,h4,h5,by simpa using h6,rfl⟩⟩;simp
  omega
theorem Zmd (w:World)(b j:Nat)(v:Value):w.grownBy (w.setCell ⟨b,j,none⟩ v) (some b):=⟨rfl,rfl,rfl,by simp,fun q _ h=>heap_setCell_other _ _ _ _ (fun e=>h (by rw [e]))⟩
theorem Zbn {w w':World}{row:Option Nat}(h:Below w.heap.size w w'):w.grownBy w' row:=⟨h.os,h.tape,h.output,h.size,fun k hk _=>h.block k hk⟩
theorem Sh {a c d:World}{row:Option Nat}(h:a.grownBy c row)(k:c.grownBy d row):a.grownBy d row :=
 ⟨k.os.trans h.os,k.tape.trans h.tape,k.output.trans h.output,Nat.le_trans h.size k.size,fun q h1 h2=>(k.block q (Nat.lt_of_lt_of_le h1 h.size) h2).trans (h.block q h1 h2)⟩
set_option maxRecDepth 100000 in
theorem Id (w:World){ops:Array Oper}{rest:List Oper}{o:Oper}{a:Act}{Q:Exit→Act→World→Prop}(hgd:o.guard=none)(s x:Operand)(t:TypeId)
 (ho:o.op=.call { callee:=.builtin .append,args:=#[s,x],argTypes:=#[t,t] }) (B:Nat) (i:TypeInfo) (ht:Tryz.prog.underlying t=some (.slice 62)) (hi:Tryz.prog.info? 62=some i) (hz:i.zero=some (.int .u64 0)) (hsize:i.size=1) (hby:i.bytes=8)
 (va:Option Addr) (vc n:Nat) (xs:List Value) (hs:a.eval s=.slice va n vc) (hown:w.ownsRow B 62 1 (.slice va n vc) n xs)
 (ad:Addr) (c:Nat) (news:List Value) (hx:a.eval x=.slice (some ad) 2 c) (hl:news.length=2) (hnews:∀ j u,news[j]?=some u→w.cell? (ad.add j)=some u) (h1:∀ u ∈ news,u.oneCell'=true) (hn:n≤10000000000000)
 (h:∀ v' w',(∃ ys,w'.ownsRow B 62 1 (.slice va n vc) n ys)→w.grownBy w' (Value.slice va n vc).ownBlock→wpList Tryz.prog ops Q rest (a.put o.dst v') w'):wpList Tryz.prog ops Q (o :: rest) a w:=by
 by_cases hr:n+2≤vc
 ·
  obtain⟨g,rfl⟩:∃ g,va=some ⟨g,0,none⟩:=by
   rcases hown.2 with⟨e,e0⟩ | ⟨g,cap,cur,e,-⟩
   ·
    injection e with _ _ e; omega
   ·
    injection e with e _ _; exact⟨g,e⟩
  refine wpList_append_fits w hgd s x t ho B 62 i 1 ht hi hsize g n vc xs hs hown ad 2 c news hx (by omega) hnews h1 hr fun w' h2 h3=>h _ w' ?_ h3;rcases h2.2 with⟨e,e0⟩ | ⟨g',cap',cur,e,q2,q3,q4,q5,q6,q7⟩
  ·
   omega
  ·
   injection e with e _ e3;injection e with e;injection e with e;subst e e3;refine⟨cur.toList.take (n*1),?_,Or.inr ⟨g,vc,cur,rfl,q2,q3,by omega,q5,q6,rfl⟩⟩;simp
   omega
 ·
  refine wpList_append_grows w hgd s x t ho 62 i _ 1 8 ht hi hz hsize hby rfl (by decide) va n vc xs hs ?_ hown.1 ?_ ad 2 c news hx (by omega) hnews h1 (by omega) (by unfold maxLen; omega) (by omega) fun v' w' _ h3=>h v' w' ⟨xs,hown.kept h3 (by cases (Value.slice va n vc).ownBlock <;> simp)⟩ ⟨h3.os,h3.tape,h3.output,h3.size,fun q h4 _=>h3.block q h4 (by simp)⟩
  ·
   rintro rfl;rcases hown.2 with⟨e,e0⟩ | ⟨g,cap,cur,e,-⟩
   ·
    injection e with _ e1 e2; exact⟨e0,e2⟩
   ·
    cases e
  ·
   rintro b rfl j u hj;rcases hown.2 with⟨e,e0⟩ | ⟨g,cap,cur,e,-⟩
   ·
    cases e
   ·
    injection e with e _ _;injection e with e;subst e;exact hown.cells (g:=g) rfl j u hj
set_option maxHeartbeats 4000000 in
set_option maxRecDepth 100000 in
theorem Ro (B n:Nat)(v:Value)(xs:List Value)(w:World)(h:w.ownsRow B 62 1 v n xs)(hn:n≤10000000000000):Calls Tryz.prog 29 #[v] w fun e w'=>(∃ x,e=.returned x)∧w.grownBy w' v.ownBlock∧∃ ys,w'.ownsRow B 62 1 v n ys:=by
 obtain⟨ti,hti,hz0,hz1,hz2⟩:=Xs Tryz.infoU64;have HO:=Zg h;obtain⟨va,vc,rfl⟩:∃ a c,v=.slice a n c:=by
  rcases h.2 with⟨e,e0⟩ | ⟨g,cap,cur,e,-⟩
  ·
   subst e0; exact⟨_,_,e⟩
  ·
   exact⟨_,_,e⟩
 clear h;go_enter Tryz.func29,Tryz.ntmps29
 go_wp2_with fail
 go_loopw [5] (fun j wr=>∃ k:Nat,j=.int .i64 k∧k≤n∧w.grownBy wr (Value.slice va n vc).ownBlock∧∃ ys,wr.ownsRow B 62 1 (.slice va n vc) n ys) (fun j _=>n-(intOf j).toNat)
 case atStart=>exact⟨0,rfl,by omega,⟨rfl,rfl,rfl,Nat.le_refl _,fun _ _ _=>rfl⟩,xs,Zb HO⟩
 case round =>
  obtain⟨k,rfl,hk,hb,ys,hown⟩:=hrel;by_cases hlt:k<n
  ·
   obtain⟨g,rfl⟩:∃ g,va=some ⟨g,0,none⟩:=by
    rcases hown.2 with⟨e,e0⟩ | ⟨g,cap,cur,e,-⟩
    ·
     omega
    ·
     injection e with e _ _; exact⟨g,e⟩
   have hgl:=hown.lt g rfl;obtain⟨c0,c1⟩:(∃ u,wr.cell? ⟨g,k,none⟩=some u)∧wr.frozen? ⟨g,k,none⟩=false:=by
    rcases hown.2 with⟨e,e0⟩ | ⟨g',cap,cur,e,h2,h3,h4,h5,h6,h7⟩
    ·
     omega
    ·
     injection e with e _ e3;injection e with e;injection e with e;subst e e3;have hkc:k<cur.size:=by omega
     exact⟨⟨cur[k],by simp [World.cell?,h3,hkc]⟩,by simp [World.frozen?,h3]⟩
   obtain⟨u,c0⟩:=c0;obtain⟨ys',ho2⟩:=Zjq hown k (.int .u64 9999);have HO2:=Zg ho2;have HBL:=Zg hb;clear hb hown ho2;go_wp2;go_roundw
   case rel=>exact⟨k+1,by go_num,by omega,Sh (Zb HBL) (Zmd _ _ _ _),ys',Zb HO2⟩
   case measure=>simp [intOf]; omega
  ·
   obtain rfl:k=n:=by omega
   have HBL:=Zg hb;have HOW:=Zg hown;have hsz:=hb.size;clear hb hown;go_wp2_with (at_builtin; refine Id _ rfl _ _ 30 rfl B ti Tryz.underlying30 hti hz0 hz1 hz2 va vc k ys rfl ((Zb HOW).alloc _) ⟨wr.heap.size,0,none⟩ 2 [.int .u64 9999,.int .u64 9999] rfl rfl (by intro j u hj; match j,hj with | 0,hj=>(simp at hj; subst hj; simp [Addr.add]) | 1,hj=>(simp at hj; subst hj; simp [Addr.add])) (by intro u hu; simp at hu; subst hu; rfl) (by omega) ?_)
   intro v' w' ys2 hown' hgr;have HG:=Zg (Sh (Zb HBL) (Sh (Zbn ((Below.refl wr.heap.size wr).alloc (Nat.le_refl _) _)) hgr));have HO3:=Zg (Exists.intro ys2 hown');clear hown' hgr;go_wp2;go_returns;exact⟨⟨_,rfl⟩,Zb HG,Zb HO3⟩
structure SpW (B E:Nat)(W:World)(t:Nat)(V:World):Prop where
 os:V.os=W.os
 tape:V.tape=W.tape
 output:V.output=W.output
 size:W.heap.size≤V.heap.size
 oth:∀ q:Nat,q<W.heap.size→q<B∨E≤q→V.heap[q]?=W.heap[q]?
 wds:∀(g:Nat) (cs:Array Value),W.heap[g]?=some (.cells cs 62 (0,0))→∃ cs':Array Value,V.heap[g]?=some (.cells cs' 62 (0,0))∧cs'.size=cs.size
 evs:∀(g:Nat) (cs:Array Value),W.heap[g]?=some (.cells cs 82 (0,0))→∃ cs':Array Value,V.heap[g]?=some (.cells cs' 82 (0,0))∧cs'.size=cs.size∧∀ j,t≤j→cs'[j]?=cs[j]?
theorem SpW.first (B E:Nat)(W:World):SpW B E W 0 W:=⟨rfl,rfl,rfl,Nat.le_refl _,fun _ _ _=>rfl,fun _ cs h=>⟨cs,h,rfl⟩,fun _ cs h=>⟨cs,h,rfl,fun _ _=>rfl⟩⟩
theorem SpW.mono {B E t t':Nat}{W V:World}(h:SpW B E W t V)(ht:t≤t'):SpW B E W t' V:=⟨h.os,h.tape,h.output,h.size,h.oth,h.wds,fun g cs e=>by
 obtain⟨cs',h1,h2,h3⟩:=h.evs g cs e;exact⟨cs',h1,h2,fun j hj=>h3 j (by omega)⟩⟩
theorem SpW.own {B E t n:Nat}{W V:World}{v:Value}{xs:List Value}(h:SpW B E W t V)(ho:W.ownsRow B 62 1 v n xs):∃ ys,V.ownsRow B 62 1 v n ys:=by
 rcases ho.2 with⟨e,e0⟩ | ⟨g,cap,cur,e,h2,h3,h4,h5,h6,h7⟩
 ·
  exact⟨xs,ho.1,Or.inl ⟨e,e0⟩⟩
 ·
  obtain⟨cs',k1,k2⟩:=h.wds g cur h3;refine⟨cs'.toList.take (n*1),?_,Or.inr ⟨g,cap,cs',e,h2,k1,h4,h5,by omega,rfl⟩⟩;simp
  omega
theorem SpW.words {B E t n:Nat}{W V V':World}{v:Value}{xs ys:List Value}(h:SpW B E W t V)(ho:V.ownsRow B 62 1 v n xs)(hg:V.grownBy V' v.ownBlock)(ho':V'.ownsRow B 62 1 v n ys)(hE:∀ g,v.ownBlock=some g→g<E):SpW B E W t V':=by
 have hs:=h.size;refine⟨hg.os.trans h.os,hg.tape.trans h.tape,hg.output.trans h.output,Nat.le_trans h.size hg.size,fun q hq hd=>(hg.block q (by omega) (fun e=>?_)).trans (h.oth q hq hd),fun g cs e=>?_,fun g cs e=>?_⟩
 ·
  have h1:=hE q e.symm;have h2:=(ho.lt q e.symm).1;omega
 ·
  obtain⟨c,k1,k2⟩:=h.wds g cs e;by_cases hq:v.ownBlock=some g
  ·
   rcases ho.2 with⟨f,-⟩ | ⟨g1,cap,cur,f,-,h3,-,-,h6,-⟩
   ·
    subst f; cases hq
   ·
    rcases ho'.2 with⟨f',-⟩ | ⟨g2,cap2,cur2,f',-,l3,-,-,l6,-⟩
    ·
     rw [f] at f'; cases f'
    ·
     rw [f] at f';injection f' with f1 _ f3;injection f1 with f1;injection f1 with f1;subst f1 f3;rw [f] at hq;injection hq with hq;subst hq;rw [k1] at h3;injection h3 with h3;injection h3 with h3 _ _;subst h3;exact⟨cur2,l3,by omega⟩
  ·
   exact⟨c,(hg.block g (Zd k1) (fun e=>hq e.symm)).trans k1,k2⟩
 ·
  obtain⟨c,k1,k2,k3⟩:=h.evs g cs e;refine⟨c,(hg.block g (Zd k1) (fun e=>?_)).trans k1,k2,k3⟩;obtain⟨c2,r2⟩:=own_row ho e.symm;rw [k1] at r2;injection r2 with r2;injection r2 with _ r2 _;exact absurd r2 (by decide)
theorem SpW.ev {B E t g:Nat}{W V:World}{cs:Array Value}(h:SpW B E W t V)(hr:W.heap[g]?=some (.cells cs 82 (0,0)))(h1:B≤g)(h2:g<E)(j:Nat)(hj:j<t)(v:Value):SpW B E W t (V.setCell ⟨g,j,none⟩ v):=by
 refine⟨h.os,h.tape,h.output,by simpa using h.size,fun q hq hd=>(heap_setCell_other _ _ _ _ (by show q≠g; omega)).trans (h.oth q hq hd),fun q cs' e=>?_,fun q cs' e=>?_⟩
 ·
  obtain⟨c,k1,k2⟩:=h.wds q cs' e;have hne:q≠g:=fun e'=>by subst e'; rw [hr] at e; injection e with e; injection e with _ e _; exact absurd e (by decide)
  exact⟨c,(heap_setCell_other _ _ _ _ hne).trans k1,k2⟩
 ·
  obtain⟨c,k1,k2,k3⟩:=h.evs q cs' e;by_cases hq:q=g
  ·
   subst hq;exact⟨_,heap_setCell_same _ _ j _ _ v k1,by simpa using k2,fun i hi=>by rw [Array.getElem?_setIfInBounds_ne (by omega)]; exact k3 i hi⟩
  ·
   exact⟨c,(heap_setCell_other _ _ _ _ hq).trans k1,k2,k3⟩
theorem Zfq (tr:List (Int×List Int))(es:List Value)(k:Nat)(hl:es.length=tr.length)(hk:k<tr.length):(evC (tr.map (·.1)) es)[k*2+1]?=some (es.getD k .nilIface):=by
 induction tr generalizing es k with
 | nil=>simp at hk
 | cons a tr ih =>
  cases es with
  | nil=>simp at hl
  | cons b es =>
   cases k with
   | zero=>simp [evC]
   | succ k =>
    have:=ih es k (by simpa using hl) (by simpa using hk);rw [show(k+1)*2+1=k*2+1+2 from by omega];simpa [evC] using this
theorem Zjr (tr:List (Int×List Int))(es:List Value)(k:Nat)(hl:es.length=tr.length)(hk:k<tr.length):(evC (tr.map (·.1)) es)[k*2]?=some (.int .i64 (tr.getD k (0,[])).1):=by
 induction tr generalizing es k with
 | nil=>simp at hk
 | cons a tr ih =>
  cases es with
  | nil=>simp at hl
  | cons b es =>
   cases k with
   | zero=>simp [evC]
   | succ k =>
    have:=ih es k (by simpa using hl) (by simpa using hk);rw [show(k+1)*2=k*2+2 from by omega];simpa [evC] using this
set_option maxHeartbeats 4000000 in
set_option maxRecDepth 100000 in
theorem Ci (o:Zbj)(k0 x2 x4 x5:Int)(vv tv:Value)(B:Nat)(w0 w:World)(h:Mk w0 B o vv tv)(hb0:Below w0.heap.size w0 w)(hn:o.vals.length≤10000000000000)(hm:o.tr.length<4611686018427387904)(ht:∀ k,k<o.tr.length→(o.tr.getD k (0,[])).2.length≤10000000000000) :
 Calls Tryz.prog 15 #[.agg #[.int .i64 k0,vv,.int .i64 x2,tv,.int .i64 x4,.int .i64 x5]] w fun e w'=>(∃ v,e=.returned v)∧w'.os=w.os∧w'.tape=w.tape∧w'.output=w.output∧w.heap.size≤w'.heap.size∧∀ q:Nat,q<B∨w0.heap.size≤q→q<w.heap.size→w'.heap[q]?=w.heap[q]?:=by
 have hs0:=hb0.size;obtain⟨hv,es,htr⟩:=h;obtain⟨tp,tc,rfl⟩:∃ a c,tv=.slice a o.tr.length c:=by
  rcases htr.row.2 with⟨e,e0⟩ | ⟨g,cap,cur,e,-⟩
  ·
   rw [e0]; exact⟨_,_,e⟩
  ·
   exact⟨_,_,e⟩
 obtain⟨r0,hB,hZ⟩:=Yj w (.cells #[.int .i64 k0,vv,.int .i64 x2,.slice tp o.tr.length tc,.int .i64 x4,.int .i64 x5] 38 (0,0));obtain⟨vp,vc,rfl⟩:∃ a c,vv=.slice a o.vals.length c:=by
  rcases hv.2 with⟨e,e0⟩ | ⟨g,cap,cur,e,-⟩
  ·
   rw [e0]; exact⟨_,_,e⟩
  ·
   exact⟨_,_,e⟩
 have hv1:=Yq hv fun g hg=>(hB.block g (Nat.lt_of_lt_of_le (hv.lt g hg).2 hs0)).trans (hb0.block g (hv.lt g hg).2);have htl:=fun g (e:(Value.slice tp o.tr.length tc).ownBlock=some g)=>htr.row.lt g e;have hvl:=fun g (e:(Value.slice vp o.vals.length vc).ownBlock=some g)=>(hv.lt g e).2;have htr1:=htr.keep (V':=w.alloc (.cells #[.int .i64 k0,.slice vp o.vals.length vc,.int .i64 x2,.slice tp o.tr.length tc,.int .i64 x4,.int .i64 x5] 38 (0,0))) (N':=fun g=>g<w0.heap.size) (fun g _ _ hr _ _ _=>(hB.block g (Nat.lt_of_lt_of_le (Zd hr) hs0)).trans (hb0.block g (Zd hr))) (fun g _ hg _=>hg);have HV:=J hv1;have HT:=J htr1;have HVL:=J hvl;have HTL:=J htl;have HR0:=J r0;have HB:=J hB;have HTN:=J ht;clear hv hv1 htr htr1 r0 hB hvl htl ht hb0;go_enter Tryz.func15,Tryz.ntmps15
 go_wp2_with fail
 generalize World.alloc w _=W at HV HT HR0 HB hZ ⊢;refine(Ro B _ _ _ _ (G HV) hn).mono ?_;rintro e w2 ⟨⟨x,rfl⟩,hgr,ys,how⟩;have hS:=(SpW.first B w0.heap.size W).words (G HV) hgr how (fun g e=>by have:=G HVL g e; omega);have HS:=J hS;have hb:w2.heap[w.heap.size]?=W.heap[w.heap.size]?:=hS.oth _ (by omega) (by omega);have f3:=cR (hb.trans (G HR0)) 3;clear hgr how hS hb;go_wp2;clear f3;go_loopw [9] (fun j w'=>∃(k:Nat),j=.int .i64 k∧k≤o.tr.length∧SpW B w0.heap.size W (k*2) w') (fun j _=>o.tr.length-(intOf j).toNat)
 case atStart=>exact⟨0,rfl,by omega,G HS⟩
 case round =>
  clear HS;obtain⟨k,rfl,hk,hI⟩:=hrel;by_cases hk2:k<o.tr.length
  ·
   obtain⟨g,cap,cur,e1,hg,hrow,hcz,hszr,hat⟩:∃ g cap cur,Value.slice tp o.tr.length tc=.slice (some ⟨g,0,none⟩) o.tr.length cap∧B≤g∧W.heap[g]?=some (.cells cur 82 (0,0))∧o.tr.length≤cap∧cur.size=cap*2∧cur.toList.take (o.tr.length*2)=evC (o.tr.map (·.1)) es:=by
    rcases(G HT).row.2 with⟨e,e0⟩ | ⟨g,cap,cur,e,h2,h3,h4,-,h6,h7⟩
    ·
     omega
    ·
     exact⟨g,cap,cur,e,h2,h3,h4,h6,h7⟩
   injection e1 with f1 f2 f3;subst f1 f3;clear f2;have hgE:g<w0.heap.size:=(G HT).out g rfl;have hx:cur[k*2+1]?=some (es.getD k .nilIface):=by
    rw [← Zfq o.tr es k (G HT).len hk2,← hat,List.getElem?_take,if_pos (by omega)];simp
   have hown:=((G HT).each k hk2).1;have hoE:=((G HT).each k hk2).2;obtain⟨zs,hown2⟩:=hI.own hown;obtain⟨c2,k1,k2,k3⟩:=hI.evs g cur hrow;have HC:=J (Ro B _ _ _ _ hown2 (G HTN k hk2));have b3:=cR ((hI.oth w.heap.size (by omega) (by omega)).trans (G HR0)) 3;have c1:wr.cell? ⟨g,k*2+1,none⟩=some (es.getD k .nilIface):=(Zi k1 _).trans ((k3 _ (by omega)).trans hx);have HI:=J hI;have HO2:=J hown2;have HOE:=J hoE;have HRW:=J hrow;clear hI hown hown2 hoE hrow hat hx k1 k2 k3;generalize es.getD k .nilIface=ev at *;go_wp2_with fail
   refine(G HC).mono ?_;rintro e w3 ⟨⟨x,rfl⟩,hgr,ys,how⟩;have hJ:=((G HI).words (G HO2) hgr how (G HOE)).mono (t':=(k+1)*2) (by omega);obtain⟨c4,k1,k2,k3⟩:=hJ.evs g cur (G HRW);have d3:=cR ((hJ.oth w.heap.size (by omega) (by omega)).trans (G HR0)) 3;obtain⟨x0,y0⟩:∃ u,w3.cell? ⟨g,k*2,none⟩=some u:=⟨_,(Zi k1 _).trans (Array.getElem?_eq_getElem (by omega))⟩;obtain⟨x1,y1⟩:∃ u,w3.cell? ⟨g,k*2+1,none⟩=some u:=⟨_,(Zi k1 _).trans (Array.getElem?_eq_getElem (by omega))⟩;have z0:=frozen_of_row _ _ (k*2) _ _ k1;have z1:=frozen_of_row _ _ (k*2+1) _ _ k1;have HX:=J ((hJ.ev (G HRW) hg hgE (k*2) (by omega) (.int .i64 (-9))).ev (G HRW) hg hgE (k*2+1) (by omega) (.slice none 0 0));clear hJ hgr how k1 k2 k3 b3 c1;go_wp2;go_roundw
   case rel=>exact⟨k+1,by go_num,by omega,G HX⟩
   case measure=>simp [intOf]; omega
  ·
   obtain rfl:k=o.tr.length:=by omega
   have HI:=J hI;clear hI;go_wp2;go_returns;have hI:=G HI;have hb:=G HB;have hs:=hI.size;exact⟨⟨_,rfl⟩,hI.os.trans hb.os,hI.tape.trans hb.tape,hI.output.trans hb.output,by omega,fun q hq hd=>(hI.oth q (by omega) hq).trans (hb.block q hd)⟩
end Go.Proofs.YteddfaconabobaaGreatDoor
