import Derived.Test.YtnlcfnjeagmemaaGreatDoorJ18
import Derived.Test.YtnlcfnjeagmemaaGreatDoorJ3
import Derived.Test.YtnlcfnjeagmemaaGreatDoorJ20
import Derived.Test.YtnlcfnjeagmemaaGreatDoorJ15
namespace Go.Proofs.YtnlcfnjeagmemaaGreatDoor
open Go.RowKit
theorem Zfa (tr:List (Int×List Int))(es:List Value)(F:Int)(ws:List Int)(wv:Value)(h:es.length=tr.length):evL ((tr++[(F,ws)]).map (·.1)) (es++[wv])=evL (tr.map (·.1)) es++[.int .i64 F,wv]:=by
 unfold evL;rw [List.map_append,List.zip_append (by simp [h])];simp
theorem Tryz.infoEvX:(Tryz.prog.info? 99).map (fun i=>(i.zero,i.size,i.bytes))=some (some (.agg #[.int .i64 0,.slice none 0 0]),2,32):=by kernel_rfl
def Na (w:World)(A:Nat)(v:Value)(ss:List (List Int×Int)):Prop:=∃ p c,v=.slice p ss.length c∧ss.length≤c∧ss.length<4611686018427387904∧∀ k,k<ss.length→∃ g so lv,p=some ⟨g,so,none⟩∧g<A∧w.cell? ⟨g,so+k*2,none⟩=some lv∧w.cell? ⟨g,so+k*2+1,none⟩=some (.int .i64 (ss.getD k ([],0)).2)∧Li w lv (ss.getD k ([],0)).1∧Lj w A lv (ss.getD k ([],0)).1
theorem Zbu {P:Program}{ops:Array Oper}{o:Oper}{a:Act}{w:World}{K:Act→World→Prop}{Q:Exit→Act→World→Prop}{E:Prop}
 (hg:o.guard=none) (s x:Operand) (t:TypeId) (ho:o.op=.call { callee:=.builtin .append,args:=#[s,x],argTypes:=#[t,t] })
 (base:Nat) (e:TypeId) (i:TypeInfo) (z:Value) (size bytes:Nat) (ht:P.underlying t=some (.slice e)) (hi:P.info? e=some i) (hz:i.zero=some z)
 (hsize:i.size=size) (hby:i.bytes=bytes) (hzs:z.cells.size=size) (hsz:0<size)
 (v:Value) (n:Nat) (xs:List Value) (hs:a.eval s=v) (hown:w.ownsRow base e size v n xs)
 (ad:Addr) (m c:Nat) (news:List Value) (hx:a.eval x=.slice (some ad) m c) (hl:news.length=m*size) (hnews:∀ j u,news[j]?=some u→w.cell? (ad.add j)=some u) (h1:∀ u ∈ news,u.oneCell'=true)
 (h63:n+m≤maxLen) (hbytes:(n+m)*bytes≤140737488355328) (hbase:base≤w.heap.size)
 (h:∀ v' w',w'.ownsRow base e size v' (n+m) (xs++news)→w.grownBy w' v.ownBlock→K (a.put o.dst v') w') :
 if Region.wanted o (yielded ops a.tmps)=true then Oper.wp P o a w K Q else E:=by
 have hw:Region.wanted o (yielded ops a.tmps)=true:=by simp [Region.wanted,hg]
 rw [if_pos hw];exact wp_append_own w s x t ho base e i z size bytes ht hi hz hsize hby hzs hsz v n xs hs hown ad m c news hx hl hnews h1 h63 hbytes hbase (fun v' w' h2 h3 _=>h v' w' h2 h3)
section
variable {w:World} {A B N:Nat} {G:Xn} {mb sb:Nat} {m:Zf}
theorem MP.event {V V3:World}{P:PV}{es:List Value}{F:Int}{ws:List Int}{wv tv':Value}{W0:Nat}(h:MP w A B N G mb sb P es m)(hb:Below w.heap.size w V)(hB:B≤W0)(hwv:V.ownsRow W0 62 1 wv ws.length (uC ws))(hg:V.grownBy V3 P.tv.ownBlock)(ho:V3.ownsRow B 99 2 tv' (m.tr.length+1) (evL (m.tr.map (·.1)) es++[.int .i64 F,wv])) :
 MR (V3.setCell ⟨mb,84,none⟩ tv') A B V3.heap.size G mb sb { m with tr:=m.tr++[(F,ws)] }∧Kx B mb sb w (V3.setCell ⟨mb,84,none⟩ tv'):=by
 have hbm:=h.bm;have hbs:=h.bs;have hbn:=h.bn;have hnw:=h.nw;have hz:=hb.size;have hgz:=hg.size;have htv:V.ownsRow B 99 2 P.tv m.tr.length (evL (m.tr.map (·.1)) es):=Yn h.tr.row fun g hg=>hb.block g (h.tr.row.lt g hg).2;have hV:∀ g cs t,V.heap[g]?=some (.cells cs t (0,0))→t≠99→g≠mb→(V3.setCell ⟨mb,84,none⟩ tv').heap[g]?=V.heap[g]?:=fun g cs t hr ht hne=>(heap_setCell_other _ _ _ _ hne).trans (hg.block g (Zc hr) (fun e=>by
  obtain⟨cs2,hr2⟩:=Jg htv e.symm;exact Jf hr2 hr (fun e=>ht e.symm) rfl))
 have hW:∀ g cs t,w.heap[g]?=some (.cells cs t (0,0))→t≠99→g≠mb→(V3.setCell ⟨mb,84,none⟩ tv').heap[g]?=w.heap[g]?:=fun g cs t hr ht hne=>(hV g cs t ((hb.block g (Zc hr)).trans hr) ht hne).trans (hb.block g (Zc hr));have h3:∀ q,q<B→V3.heap[q]?=w.heap[q]?:=fun q hq=>(hg.block q (by omega) (fun e=>by have:=(htv.lt q e.symm).1; omega)).trans (hb.block q (by omega));have k:Kx B mb sb w (V3.setCell ⟨mb,84,none⟩ tv'):=⟨hg.os.trans hb.os,hg.tape.trans hb.tape,hg.output.trans hb.output,by simp; omega,fun q h1 h2 _=>(heap_setCell_other _ _ _ _ h2).trans (h3 q h1)⟩;have hmm:MM V3 mb sb (toC G P m) m.me:=⟨(h3 mb hbm).trans h.mm.mi,(h3 sb hbs).trans h.mm.mem,h.mm.stk,h.mm.len,h.mm.byt⟩;have hsz:(V3.setCell ⟨mb,84,none⟩ tv').heap.size=V3.heap.size:=by simp
 have hnm:∀ g,B≤g→g≠mb:=fun g hg=>by omega
 have hev:(V3.setCell ⟨mb,84,none⟩ tv').ownsRow B 99 2 tv' (m.tr.length+1) (evL (m.tr.map (·.1)) es++[.int .i64 F,wv]):=Yn ho fun g hg=>heap_setCell_other _ _ _ _ (hnm g (ho.lt g hg).1);have hws:(V3.setCell ⟨mb,84,none⟩ tv').ownsRow B 62 1 wv ws.length (uC ws):=by
  have h1:V.ownsRow B 62 1 wv ws.length (uC ws):=by
   obtain⟨h1,h2 | ⟨g,cap,cur,e1,e2,e3⟩⟩:=hwv
   ·
    exact⟨h1,.inl h2⟩
   ·
    exact⟨h1,.inr ⟨g,cap,cur,e1,Nat.le_trans hB e2,e3⟩⟩
  exact Yn h1 fun g hg=>by
   obtain⟨cs,hr⟩:=Jg h1 hg;exact hV g cs _ hr (by decide) (hnm g (h1.lt g hg).1)
 refine⟨⟨{ P with tv:=tv' },es++[wv],?_,?_,?_,⟨by simp [h.tr.len],?_,fun i hi=>?_⟩,h.rb,h.am,h.as_,hbm,hbs,by omega,by rw [hsz]; exact Nat.le_refl _,fun g hg=>?_,fun g hg=>by have:=(ho.lt g hg).2; omega,fun i hi g hg=>?_⟩,k⟩
 ·
  exact hmm.one (Yg hmm.mi rfl) (Zl mb 84 V3 tv') rfl
 ·
  exact Yn h.vv fun g hg=>by
   obtain⟨cs,hr⟩:=Jg h.vv hg;exact hW g cs _ hr (by decide) (hnm g (h.vv.lt g hg).1)
 ·
  exact h.sc.kx k (by have:=h.am; omega) h.am h.as_
 ·
  rw [Zfa _ _ _ _ _ h.tr.len,List.length_append];exact hev
 ·
  by_cases hk2:i<m.tr.length
  ·
   have e1:(es++[wv]).getD i .nilIface=es.getD i .nilIface:=by
    have:i<es.length:=by rw [h.tr.len]; exact hk2
    simp [List.getD,List.getElem?_append_left this]
   have e2:(m.tr++[(F,ws)]).getD i (0,[])=m.tr.getD i (0,[]):=by simp [List.getD,List.getElem?_append_left hk2]
   show World.ownsRow _ _ _ _ ((es++[wv]).getD i .nilIface) ((m.tr++[(F,ws)]).getD i (0,[])).2.length (uC ((m.tr++[(F,ws)]).getD i (0,[])).2);rw [e1,e2];exact Yn (h.tr.each i hk2) fun g hg=>by
    obtain⟨cs,hr⟩:=Jg (h.tr.each i hk2) hg;exact hW g cs _ hr (by decide) (hnm g ((h.tr.each i hk2).lt g hg).1)
  ·
   have hkk:i=m.tr.length:=by simp at hi; omega
   subst hkk;have e1:(es++[wv]).getD m.tr.length .nilIface=wv:=by rw [← h.tr.len]; simp [List.getD]
   have e2:(m.tr++[(F,ws)]).getD m.tr.length (0,[])=(F,ws):=by simp [List.getD]
   show World.ownsRow _ _ _ _ ((es++[wv]).getD m.tr.length .nilIface) ((m.tr++[(F,ws)]).getD m.tr.length (0,[])).2.length (uC ((m.tr++[(F,ws)]).getD m.tr.length (0,[])).2);rw [e1,e2];exact hws
 ·
  have:=h.vn g hg;omega
 ·
  by_cases hk2:i<m.tr.length
  ·
   have e1:(es++[wv]).getD i .nilIface=es.getD i .nilIface:=by
    have:i<es.length:=by rw [h.tr.len]; exact hk2
    simp [List.getD,List.getElem?_append_left this]
   rw [e1] at hg;have:=h.en i hk2 g hg;omega
  ·
   have hkk:i=m.tr.length:=by simp at hi; omega
   subst hkk;have e1:(es++[wv]).getD m.tr.length .nilIface=wv:=by rw [← h.tr.len]; simp [List.getD]
   rw [e1] at hg;have:=(hws.lt g hg).2;rw [hsz] at this;exact this
end
set_option maxHeartbeats 4000000
set_option maxRecDepth 100000
def Ca (w:World)(L:Nat)(T:Zm)(v:Value)(ss:List (List Int×Int)):Prop:=∃ p c,v=.slice p ss.length c∧∀ k,k<ss.length→∃ g av rv pvs,p=some ⟨g,0,none⟩∧L≤g∧g<w.heap.size∧w.cell? ⟨g,k*4,none⟩=some av∧w.cell? ⟨g,k*4+1,none⟩=some rv∧w.cell? ⟨g,k*4+2,none⟩=some (.int .i64 (Zr T (ss.getD k ([],0))).size)∧w.cell? ⟨g,k*4+3,none⟩=some (.int .i64 (Zr T (ss.getD k ([],0))).copies)∧Yo w L av rv (Zr T (ss.getD k ([],0))) pvs
theorem Zcw (T:Zm)(m:Zf)(h:(m.aligned T).2=true):(m.aligned T).1=m:=by
 unfold Zf.aligned at h ⊢;split at h
 ·
  rename_i hc; rw [if_pos hc]
 ·
  cases h
theorem Ztz {V:World}{b:Nat}{t:TypeId}{x0 x1 x2 x3 y0 y1 y2 y3:Value}(h:V.heap[b]?=some (.cells #[x0,x1,x2,x3] t (0,0))):((((V.setCell ⟨b,0,none⟩ y0).setCell ⟨b,1,none⟩ y1).setCell ⟨b,2,none⟩ y2).setCell ⟨b,3,none⟩ y3).heap[b]?=some (.cells #[y0,y1,y2,y3] t (0,0)) :=
 heap_setCell_same _ _ 3 _ _ y3 (heap_setCell_same _ _ 2 _ _ y2 (heap_setCell_same _ _ 1 _ _ y1 (heap_setCell_same _ _ 0 _ _ y0 h)))
theorem Rt {w0 V:World}{B L a b:Nat}{av rv:Value}{l:Yc}{pvs:List Value}(h:Yo w0 L av rv l pvs)(hz:w0.heap.size=B)(k:Kx B a b w0 V)(ha:a<L)(hb:b<L):Yo V L av rv l pvs :=
 ⟨h.len,Xi h.args k (fun g hg=>by have:=(h.args.lt g hg).2; omega) ha hb,fun i hi=>Xi (h.each i hi) k (fun g hg=>by have:=((h.each i hi).lt g hg).2; omega) ha hb,Xi h.res k (fun g hg=>by have:=(h.res.lt g hg).2; omega) ha hb⟩
section
variable {w:World} {A B N:Nat} {G:Xn} {mb sb:Nat} {m:Zf}
theorem MR.belw {w':World}(h:MR w A B N G mb sb m)(hb:Below w.heap.size w w'):MR w' A B N G mb sb m:=by
 have hbd:=h.bd;exact h.kx (Gh hb) (hb.block mb (by omega)) (hb.block sb (by omega))
theorem Zvp (h:MR w A B N G mb sb m)(hT:TK G.T)(hS:Lj w A (.slice G.T.ps G.T.ss.length G.T.cs) G.T.ss)(C:Zk)(w0:World)(hz0:w0.heap.size=B)(hk0:Kx B mb sb w0 w)(L:Nat)(hmL:mb<L)(hsL:sb<L)(hO:Ca w0 L G.T G.oth C.externs)(hE:Na w0 A G.ce C.externs)(hG:∀ s ∈ C.externs,Mt s)(q:Nat)(hiv:Nm C q 1 m)(hq:q≤4194304)(op r a b n9 wd F:Int) :
 Calls Tryz.prog 100 #[.pointer (some ⟨mb,0,none⟩),.agg #[.int .i64 op,.int .i64 r,.int .i64 a,.int .i64 b,.int .i64 n9,.int .i64 wd,.int .i64 F]] w fun e w'=>(∃ v,e=.returned v)∧(∃ N',MR w' A B N' G mb sb (Xk G.T C m F))∧Kx B mb sb w w':=by
 have hbd:=h.bd;obtain⟨r0,hb0,hz1⟩:=Zs w (.cells #[.int .i64 op,.int .i64 r,.int .i64 a,.int .i64 b,.int .i64 n9,.int .i64 wd,.int .i64 F] 103 (0,0));have HM:=Y (h.al (.cells #[.int .i64 op,.int .i64 r,.int .i64 a,.int .i64 b,.int .i64 n9,.int .i64 wd,.int .i64 F] 103 (0,0)));have HA:=Y (Im (h.al (.cells #[.int .i64 op,.int .i64 r,.int .i64 a,.int .i64 b,.int .i64 n9,.int .i64 wd,.int .i64 F] 103 (0,0))) hT);have HR0:=Y r0;have HK0:=Y (show Kx B mb sb w (w.alloc (.cells #[.int .i64 op,.int .i64 r,.int .i64 a,.int .i64 b,.int .i64 n9,.int .i64 wd,.int .i64 F] 103 (0,0))) from Gh (hb0.mono hbd.2.2.2.2));have HZ1:=Y hz1;have HKK:=Y hk0;have HO:=Y hO;have HE:=Y hE;have HG:=Y hG;have HS:=Y hS;have HIV:=Y hiv;have HZ0:=Y hz0;clear r0 hb0 hz1 h hO hE hG hk0 hS hiv hz0;go_enter Tryz.func100,Tryz.ntmps100
 go_upto_region 1 with fail
 generalize World.alloc w _=W at HM HA HR0 HK0 HZ1 ⊢;go_wp2_with fail
 refine(O HA).mono ?_;rintro e w1 ⟨rfl,h1,x1⟩;have HK1:=Y ((O HK0).tr (x1.low (O HM).bd.2.2.2.2));clear HA;cases ha:(m.aligned G.T).2 with
 | false =>
  have HQ:=Y (show Xk G.T C m F=(m.aligned G.T).1 by unfold Xk; rw [if_pos ha]);have H1:=Y h1;clear h1 x1;go_wp2;go_returns;rw [O HQ];exact⟨⟨_,rfl⟩,⟨_,O H1⟩,O HK1⟩
 | true =>
  have HM1:=Y (show MR w1 A B N G mb sb m by rw [Zcw _ _ ha] at h1; exact h1);have hr1:=(x1.oth w.heap.size (by have:=O HZ1; omega) (by omega) (by omega)).trans (O HR0);have HR1:=Y hr1;have hz1:W.heap.size≤w1.heap.size:=x1.size;have HZL:=Y (show w.heap.size<w1.heap.size by have:=O HZ1; omega);obtain⟨P1,hmi⟩:=(O HM1).row;obtain⟨opp,oc,hov,hoa⟩:=O HO;have c79:w1.cell? ⟨mb,79,none⟩=some (.slice opp C.externs.length oc):=by rw [← hov]; exact(cR hmi 79)
  have c6:w1.cell? ⟨w.heap.size,6,none⟩=some (.int .i64 F):=(cR hr1 6);have HOA:=Y hoa;have HOVV:=Y hov;obtain⟨exp_,ec,hev,hec,hel,hea⟩:=O HE;have HEA:=Y hea;have HEV:=Y hev;clear h1 x1 hr1 hmi hoa hov hea hev hz1 HM HR0 HK0 HO HE;go_upto_region 2 with fail
  by_cases hin:0≤F∧F<(C.externs.length:Int)
  ·
   have hix:Gr F (C.externs.length:Int)=true:=decide_eq_true hin;refine wp_region_held_drew (S:=fun V=>∃ k,V=w1.drewN k) (by kernel_rfl) ⟨1,rfl⟩ (fun _=>?_);change wpAnyH _ _ _ _ _ _ _ _ (w1.drewN 1)
   refine tE 0 ?_;refine tE 1 ?_;refine tE 2 ?_;refine tE 3 ?_;refine tE 4 ?_;refine tE 5 ?_;refine tE 6 ?_;refine tO 7 fun K hK=>?_;go_simp;refine(Xh F C.externs.length (w1.drewN 1)).mono ?_;rintro e w2 ⟨rfl,hw2⟩;subst w2;rw [hix];refine hK.out _ _ ⟨1,rfl⟩ (fun _=>?_);clear hK K;change wpAnyH _ _ _ _ _ _ _ _ (w1.drewN (1))
   try simp only [Act.put,zA,zB,zC,zD,zE,zF]
   refine tE 8 ?_;refine wpAnyH_done (by kernel_rfl) ?_ _;clear c79 c6 hix;obtain⟨k,hk⟩:∃ k:Nat,F=k:=⟨F.toNat,by omega⟩;subst hk;have hkl:k<C.externs.length:=by omega
   obtain⟨og,av,rv,pvs,hop,hLg,hgz,d0,d1,d2,d3,hLY⟩:=O HOA k hkl;subst hop;obtain⟨eg,eso,lv,hep,hegA,f0,f1,hLi,hRs⟩:=O HEA k hkl;subst hep;have hsg:=O HG (C.externs.getD k ([],0)) (by rw [List.getD_eq_getElem?_getD,List.getElem?_eq_getElem hkl]; exact List.getElem_mem hkl);have hly:=Of hT hsg;have HQ:=Y (show Xk G.T C m (k:Int)=(match Zo G.T m (Ng (Zr G.T (C.externs.getD k ([],0))).args (C.externs.getD k ([],0)).1) [] with
    | (m',none)=>m'
    | (m',some ws)=>if (Zz G.T { m' with tr:=m'.tr++[((k:Int),ws)] } (Zr G.T (C.externs.getD k ([],0))).size).2=true then Xw G.T (Zz G.T { m' with tr:=m'.tr++[((k:Int),ws)] } (Zr G.T (C.externs.getD k ([],0))).size).1 (Zr G.T (C.externs.getD k ([],0))).res else (Zz G.T { m' with tr:=m'.tr++[((k:Int),ws)] } (Zr G.T (C.externs.getD k ([],0))).size).1) by
    unfold Xk;rw [if_neg (by rw [ha]; decide),if_pos hin,Int.toNat_natCast];rfl)
   generalize Zr G.T (C.externs.getD k ([],0))=l at d2 d3 hLY hly HQ;obtain⟨ap,ac,rfl⟩:=Ze hLY.args;obtain⟨rp,rc,rfl⟩:=Ze hLY.res;generalize C.externs.getD k ([],0)=s at f0 f1 hLi hRs hsg hly HQ;obtain⟨lp,lc,rfl⟩:=hLi.shape;have hkI:(k:Int)<(C.externs.length:Int):=hin.2;have hzB:=O HZ0;have HKW:=Y (show Kx B mb sb w0 (w1.drewN 1) from((O HKK).tr (O HK1)).dr 1);have HM2:=Y ((O HM1).dr 1);have HR2:=Y (show(w1.drewN 1).heap[w.heap.size]?=_ from O HR1);have HK2:=Y ((O HK1).dr 1);have HZL2:=Y (show w.heap.size<(w1.drewN 1).heap.size from O HZL);have HLY:=Y (fun V (kx:Kx B mb sb w0 V)=>Rt hLY hzB kx hmL hsL);have HD:=Y (fun V (kx:Kx B mb sb w0 V)=>show V.cell? ⟨og,k*4,none⟩=some (.slice ap l.args.length ac)∧V.cell? ⟨og,k*4+1,none⟩=some (.slice rp l.res.length rc)∧V.cell? ⟨og,k*4+2,none⟩=some (.int .i64 l.size)∧V.cell? ⟨og,k*4+3,none⟩=some (.int .i64 l.copies) from by
    have hr:=kx.oth og (by omega) (by omega) (by omega);exact⟨(Yp hr).trans d0,(Yp hr).trans d1,(Yp hr).trans d2,(Yp hr).trans d3⟩)
   have HF:=Y (fun V (kx:Kx B mb sb w0 V)=>show V.cell? ⟨eg,eso+k*2,none⟩=some (.slice lp s.1.length lc)∧V.cell? ⟨eg,eso+k*2+1,none⟩=some (.int .i64 s.2)∧Lj V A (.slice lp s.1.length lc) s.1 from by
    have hr:=kx.oth eg (by omega) (by omega) (by omega);exact⟨(Yp hr).trans f0,(Yp hr).trans f1,Gy hRs kx (by omega) hbd.1 hbd.2.1⟩)
   have HOV:=Y (fun V N' m' (hm:MR V A B N' G mb sb m')=>show V.cell? ⟨mb,79,none⟩=some (.slice (some ⟨og,0,none⟩) C.externs.length oc)∧V.cell? ⟨mb,14,none⟩=some (.slice (some ⟨eg,eso,none⟩) C.externs.length ec) from by
    obtain⟨P,hmi⟩:=hm.row;exact⟨by rw [← O HOVV]; exact(cR hmi 79),by rw [← O HEV]; exact(cR hmi 14)⟩)
   have hs8:s.1.length≤8:=hsg.l;have HSG:=Y hsg;have HLK:=Y hly;clear hLY d0 d1 d2 d3 f0 f1 hLi hRs HOA HEA HM1 HR1 HK1 HZL HOVV HEV hsg hly hin;go_upto_region 4 with fail
   generalize w1.drewN 1=W1 at HKW HM2 HR2 HK2 HZL2 ⊢;have HC4F:=Y (fun V (kx:Kx B mb sb w0 V) (hm:MR V A B N G mb sb m) (hr:V.heap[w.heap.size]?=some (.cells #[.int .i64 op,.int .i64 r,.int .i64 a,.int .i64 b,.int .i64 n9,.int .i64 wd,.int .i64 (k:Int)] 103 (0,0)))=>show(fun V=>V.cell? ⟨mb,79,none⟩=some (.slice (some ⟨og,0,none⟩) C.externs.length oc)∧V.cell? ⟨w.heap.size,6,none⟩=some (.int .i64 (k:Int))∧V.cell? ⟨og,k*4,none⟩=some (.slice ap l.args.length ac)∧V.cell? ⟨og,k*4+1,none⟩=some (.slice rp l.res.length rc)∧V.cell? ⟨og,k*4+2,none⟩=some (.int .i64 l.size)∧V.cell? ⟨og,k*4+3,none⟩=some (.int .i64 l.copies)) V from⟨(O HOV V N m hm).1,(cR hr 6),O HD V kx⟩);obtain⟨ra,hba,hza⟩:=Zs (W1.drewN 1) (.cells #[.slice none 0 0,.slice none 0 0,.int .i64 0,.int .i64 0] 76 (0,0));have HC4:=Y (O HC4F (W1.drewN 1) ((O HKW).dr 1) ((O HM2).dr 1) (O HR2));have hzl2:=O HZL2;have hBW:B≤(W1.drewN 1).heap.size:=(O HM2).bd.2.2.2.2;have hra2:=(hba.block w.heap.size hzl2).trans (O HR2);have HC4A:=Y (O HC4F ((W1.drewN 1).alloc (.cells #[.slice none 0 0,.slice none 0 0,.int .i64 0,.int .i64 0] 76 (0,0))) (((O HKW).dr 1).tr (Gh (hba.mono hBW))) (((O HM2).dr 1).al _) hra2);have HRA:=Y ra;have HBA:=Y hba;have HZA:=Y hza;have hbS:(W1.drewN 1).heap.size=W1.heap.size:=rfl;clear ra hba hza hra2;refine Zh (C:=fun V=>V.cell? ⟨mb,79,none⟩=some (.slice (some ⟨og,0,none⟩) C.externs.length oc)∧V.cell? ⟨w.heap.size,6,none⟩=some (.int .i64 (k:Int))∧V.cell? ⟨og,k*4,none⟩=some (.slice ap l.args.length ac)∧V.cell? ⟨og,k*4+1,none⟩=some (.slice rp l.res.length rc)∧V.cell? ⟨og,k*4+2,none⟩=some (.int .i64 l.size)∧V.cell? ⟨og,k*4+3,none⟩=some (.int .i64 l.copies)) (d:=9) (by kernel_rfl) ?_
   refine vD 0 (O HC4) ?_;refine vD 1 (O HC4) ?_;refine vD 2 (O HC4) ?_;refine vD 3 (O HC4) ?_;refine vD 4 (O HC4) ?_;refine vD 5 (O HC4) ?_;refine vD 6 (O HC4) ?_;refine vD 7 (O HC4) ?_;refine vO 8 fun K hK=>?_;go_simp;refine kO hK (fun _=>O HC4A) ?_;clear hK K;have x0:=((cR (O HRA) 0):_=some _);have z0:=frozen_of_row _ _ 0 _ _ (O HRA);have x1:=((cR (O HRA) 1):_=some _);have z1:=frozen_of_row _ _ 1 _ _ (O HRA);have x2:=((cR (O HRA) 2):_=some _);have z2:=frozen_of_row _ _ 2 _ _ (O HRA);have x3:=((cR (O HRA) 3):_=some _);have z3:=frozen_of_row _ _ 3 _ _ (O HRA);refine vO 9 fun K hK=>?_;go_simp;refine kO hK (fun hx=>by cases hx) ?_;clear hK K;refine Zi (by kernel_rfl) ?_ _;obtain⟨rl,hbl,hzl⟩:=Zs W1 (.cells #[.slice ap l.args.length ac,.slice rp l.res.length rc,.int .i64 l.size,.int .i64 l.copies] 76 (0,0));have HRL:=Y (show((W1.alloc (.cells #[.slice ap l.args.length ac,.slice rp l.res.length rc,.int .i64 l.size,.int .i64 l.copies] 76 (0,0))).drew).heap[W1.heap.size]?=_ from rl);have HBU:=Y (show Below W1.heap.size W1 ((W1.alloc (.cells #[.slice ap l.args.length ac,.slice rp l.res.length rc,.int .i64 l.size,.int .i64 l.copies] 76 (0,0))).drew) from hbl.drew);have HZU:=Y (show((W1.alloc (.cells #[.slice ap l.args.length ac,.slice rp l.res.length rc,.int .i64 l.size,.int .i64 l.copies] 76 (0,0))).drew).heap.size=W1.heap.size+1 from hzl);clear HC4 HC4A HC4F HRA HBA HZA x0 x1 x2 x3 z0 z1 z2 z3 rl hbl hzl;generalize World.drew (World.alloc W1 _)=U at HRL HBU HZU ⊢
   have hlbw:w.heap.size<W1.heap.size:=O HZL2;have HMU:=Y ((O HM2).belw (O HBU));have HRU:=Y (((O HBU).block w.heap.size hlbw).trans (O HR2));have HKU:=Y ((O HKW).tr (Gh ((O HBU).mono (show B≤W1.heap.size from hBW))));have HKT:=Y ((O HK2).tr (Gh ((O HBU).mono (show B≤W1.heap.size from hBW))));rw [hbS] at hBW;generalize W1.heap.size=lb at HRL HZU hlbw hBW ⊢;clear HKW HM2 HR2 HK2 HZL2 HBU hzl2 hbS;go_upto_region 5 with fail
   have HC5F:=Y (fun V N' m' (kx:Kx B mb sb w0 V) (hm:MR V A B N' G mb sb m') (hr:V.heap[w.heap.size]?=some (.cells #[.int .i64 op,.int .i64 r,.int .i64 a,.int .i64 b,.int .i64 n9,.int .i64 wd,.int .i64 (k:Int)] 103 (0,0))) (hl:V.heap[lb]?=some (.cells #[.slice ap l.args.length ac,.slice rp l.res.length rc,.int .i64 l.size,.int .i64 l.copies] 76 (0,0)))=>show(fun V=>V.cell? ⟨mb,14,none⟩=some (.slice (some ⟨eg,eso,none⟩) C.externs.length ec)∧V.cell? ⟨w.heap.size,6,none⟩=some (.int .i64 (k:Int))∧V.cell? ⟨eg,eso+k*2,none⟩=some (.slice lp s.1.length lc)∧V.cell? ⟨eg,eso+k*2+1,none⟩=some (.int .i64 s.2)∧V.cell? ⟨lb,0,none⟩=some (.slice ap l.args.length ac)∧V.cell? ⟨lb,1,none⟩=some (.slice rp l.res.length rc)∧V.cell? ⟨lb,2,none⟩=some (.int .i64 l.size)∧V.cell? ⟨lb,3,none⟩=some (.int .i64 l.copies)) V from⟨(O HOV V N' m' hm).2,(cR hr 6),(O HF V kx).1,(O HF V kx).2.1,(cR hl 0),(cR hl 1),(cR hl 2),(cR hl 3)⟩);have HC5:=Y (O HC5F (U.drewN 1) N m ((O HKU).dr 1) ((O HMU).dr 1) (O HRU) (O HRL));have HWD:=Y (Zom ((O HMU).dr 1) hT l (.slice ap l.args.length ac) (.slice rp l.res.length rc) pvs L (O HLY (U.drewN 1) ((O HKU).dr 1)) hmL hsL s.1 s.2 (O HLK) lp lc (O HF (U.drewN 1) ((O HKU).dr 1)).2.2 hs8);refine Zh (C:=fun V=>V.cell? ⟨mb,14,none⟩=some (.slice (some ⟨eg,eso,none⟩) C.externs.length ec)∧V.cell? ⟨w.heap.size,6,none⟩=some (.int .i64 (k:Int))∧V.cell? ⟨eg,eso+k*2,none⟩=some (.slice lp s.1.length lc)∧V.cell? ⟨eg,eso+k*2+1,none⟩=some (.int .i64 s.2)∧V.cell? ⟨lb,0,none⟩=some (.slice ap l.args.length ac)∧V.cell? ⟨lb,1,none⟩=some (.slice rp l.res.length rc)∧V.cell? ⟨lb,2,none⟩=some (.int .i64 l.size)∧V.cell? ⟨lb,3,none⟩=some (.int .i64 l.copies)) (d:=16) (by kernel_rfl) ?_
   refine vD 0 (O HC5) ?_;refine vD 1 (O HC5) ?_;refine vD 2 (O HC5) ?_;refine vD 3 (O HC5) ?_;refine vD 4 (O HC5) ?_;refine vD 5 (O HC5) ?_;refine vD 6 (O HC5) ?_;refine vD 7 (O HC5) ?_;refine vD 8 (O HC5) ?_;refine vD 9 (O HC5) ?_;refine vD 10 (O HC5) ?_;refine vO 11 fun K hK=>?_;go_simp;refine(O HWD).mono ?_;rintro e w5 ⟨wv,rfl,hws,⟨N5,h5⟩,x5⟩;have hk5:=x5.low (show B≤(U.drewN 1).heap.size from(O HMU).bd.2.2.2.2);have hzu:=O HZU;have hr5:=(x5.oth w.heap.size (show w.heap.size<U.heap.size by omega) (by omega) (by omega)).trans (show(U.drewN 1).heap[w.heap.size]?=_ from O HRU);have hl5:=(x5.oth lb (show lb<U.heap.size by omega) (by omega) (by omega)).trans (show(U.drewN 1).heap[lb]?=_ from O HRL);have HKW5:=Y (((O HKU).dr 1).tr hk5);have HKT5:=Y (((O HKT).dr 1).tr hk5);have HC5B:=Y (O HC5F w5 N5 _ (O HKW5) h5 hr5 hl5);have HR5:=Y hr5;have HL5:=Y hl5;have H5:=Y h5;have HWS:=Y hws;have hzl5:lb<w5.heap.size:=Zc hl5;clear hr5 hl5 h5 hws hk5 hzu;refine kO hK (fun _=>O HC5B) ?_;clear hK K;refine vD 12 (O HC5B) ?_;refine vD 13 (O HC5B) ?_;refine vD 14 (O HC5B) ?_;refine vD 15 (O HC5B) ?_;refine vO 16 fun K hK=>?_;go_simp;refine kO hK (fun hx=>by cases hx) ?_;clear hK K;refine Zi (by kernel_rfl) ?_ _;have hsm:=Mv G.T (Ng l.args s.1) m [];generalize Zo G.T m (Ng l.args s.1) []=y at H5 HWS HQ hsm ⊢;obtain⟨m5,o5⟩:=y;cases o5 with
   | none =>
    have HQ2:=Y (show Xk G.T C m (k:Int)=m5 from O HQ);have H52:=Y (show MR w5 A B N5 G mb sb m5 from O H5);clear HQ H5 HWS HC5B HC5 HC5F HWD;go_wp2;go_returns;rw [O HQ2];exact⟨⟨_,rfl⟩,⟨_,O H52⟩,O HKT5⟩
   | some ws =>
    obtain⟨how,hwl⟩:=O HWS ws rfl;obtain⟨wp,wc,rfl⟩:=Ze how;have HQ2:=Y (show Xk G.T C m (k:Int)=if (Zz G.T { m5 with tr:=m5.tr++[((k:Int),ws)] } l.size).2=true then Xw G.T (Zz G.T { m5 with tr:=m5.tr++[((k:Int),ws)] } l.size).1 l.res else (Zz G.T { m5 with tr:=m5.tr++[((k:Int),ws)] } l.size).1 from O HQ);obtain⟨P5,es5,hP5⟩:=(show MR w5 A B N5 G mb sb m5 from O H5);obtain⟨tp,tc,htv⟩:=Ze hP5.tr.row;have hv:=O HIV;have htl:m5.tr.length≤4194304:=by
     have e1:m5.tr=m.tr:=hsm.tr;have e2:=hv.tr;have e3:=hv.st;rw [e1];omega
    have HSC:=Y (show ∀ x ∈ m5.sc,0≤x∧x<18446744073709551616 by rw [show m5.sc=m.sc from hsm.sc]; exact hv.sc);have HP5:=Y hP5;have HHW:=Y how;have htr:=hP5.tr.row;rw [htv] at htr;have HTR:=Y htr;have c84:w5.cell? ⟨mb,84,none⟩=some (.slice tp m5.tr.length tc):=by rw [← htv]; exact(cR hP5.mm.mi 84)
    have HTV:=Y htv;have hbn:=hP5.bn;have hnw:=hP5.nw;have hBW5:B≤w5.heap.size:=Nat.le_trans hbn hnw;have HC7F:=Y (fun V (hb:Below w5.heap.size w5 V)=>show(fun V=>V.cell? ⟨mb,84,none⟩=some (.slice tp m5.tr.length tc)∧V.cell? ⟨w.heap.size,6,none⟩=some (.int .i64 (k:Int))) V from⟨(World.cell?_of_block (hb.block mb (by omega))).trans c84,(cR ((hb.block w.heap.size (by omega)).trans (O HR5)) 6)⟩);have HC7:=Y (O HC7F w5.drew (Below.refl _ _).drew);obtain⟨ti,hti,hty0,hty1,hty2⟩:=Yr Tryz.infoEvX;clear HQ H5 HWS HC5B HC5 HC5F HWD how hP5 htv htr hsm hv c84 hbn hnw HOV;go_upto_region 7 with fail
    refine Zh (C:=fun V=>V.cell? ⟨mb,84,none⟩=some (.slice tp m5.tr.length tc)∧V.cell? ⟨w.heap.size,6,none⟩=some (.int .i64 (k:Int))) (d:=15) (by kernel_rfl) ?_;refine vD 0 (O HC7) ?_;refine vD 1 (O HC7) ?_;refine vD 2 (O HC7) ?_;refine vD 3 (O HC7) ?_;refine vD 4 (O HC7) ?_;refine vD 5 (O HC7) ?_;refine vD 6 (O HC7) ?_;refine vD 7 (O HC7) ?_;refine vD 8 (O HC7) ?_;refine vD 9 (O HC7) ?_;refine vO 10 fun K hK=>?_;go_simp;obtain⟨r2,hb2,hz2⟩:=Zs w5 (.cells #[.int .i64 (k:Int),.slice wp ws.length wc] 99 (0,0));have hb2':Below w5.heap.size w5 (w5.alloc (.cells #[.int .i64 (k:Int),.slice wp ws.length wc] 99 (0,0))).drew:=hb2.drew;have HB2:=Y hb2';have HW2:=Y (show(w5.alloc (.cells #[.int .i64 (k:Int),.slice wp ws.length wc] 99 (0,0))).drew.ownsRow _ _ _ _ _ _ from World.ownsRow.alloc (O HHW) (.cells #[.int .i64 (k:Int),.slice wp ws.length wc] 99 (0,0)));have HOW2:=Y (show(w5.alloc (.cells #[.int .i64 (k:Int),.slice wp ws.length wc] 99 (0,0))).drew.ownsRow _ _ _ _ _ _ from World.ownsRow.alloc (O HTR) (.cells #[.int .i64 (k:Int),.slice wp ws.length wc] 99 (0,0)));have HC7A:=Y (O HC7F _ hb2');have HBB:=Y (show B≤(w5.alloc (.cells #[.int .i64 (k:Int),.slice wp ws.length wc] 99 (0,0))).drew.heap.size by have:=hb2'.size; omega);have c0:∀ j u,[Value.int .i64 (k:Int),.slice wp ws.length wc][j]?=some u→(w5.alloc (.cells #[.int .i64 (k:Int),.slice wp ws.length wc] 99 (0,0))).drew.cell? ⟨w5.heap.size,j,none⟩=some u:=fun j u hj=>(Zd r2 j).trans (by simpa using hj)
    clear r2 hb2 hz2 hb2';refine kO hK (fun _=>O HC7A) ?_;clear hK K;generalize World.drew (World.alloc w5 _)=W2 at HB2 HW2 HOW2 HC7A HBB c0 ⊢;refine vO 11 fun K hK=>?_;refine Zbu rfl (.tmp 51) (.tmp 56) 39 rfl B 99 ti _ 2 32 Tryz.underlying39 hti hty0 hty1 hty2 rfl (by decide) (.slice tp m5.tr.length tc) m5.tr.length (evL (m5.tr.map (·.1)) es5) (by simp [Act.eval]) (O HOW2) ⟨w5.heap.size,0,none⟩ 1 1 [.int .i64 (k:Int),.slice wp ws.length wc] (by simp [Act.eval]) rfl (by intro j u hj; match j,hj with | 0,hj=>exact c0 0 u hj | 1,hj=>exact c0 1 u hj) (by intro u hu; simp at hu; rcases hu with rfl | rfl <;> rfl) (by unfold maxLen; omega) (by omega) (O HBB) ?_;intro v7 w7 hown7 hgr7;obtain⟨tp7,tc7,rfl⟩:=Ze hown7;have hP:=MP.event (O HP5) (O HB2) (show B≤(U.drewN 1).heap.size from(O HMU).bd.2.2.2.2) (O HW2) (by rw [O HTV]; exact hgr7) hown7;have htb:∀ g,(Value.slice tp m5.tr.length tc).ownBlock=some g→B≤g:=fun g hg=>((O HOW2).lt g hg).1;have hrt:∀(g:Nat) (cs:Array Value) (t:TypeId),W2.heap[g]?=some (Obj.cells cs t (0,0))→t≠99→w7.heap[g]?=W2.heap[g]?:=fun g cs t hr ht=>hgr7.block g (Zc hr) (fun e=>by
     obtain⟨cs2,hr2⟩:=Jg (O HOW2) e.symm;exact Jf hr2 hr (fun e=>ht e.symm) rfl)
    have hz2:=(O HB2).size;have hi2:=((O HB2).block w.heap.size (by omega)).trans (O HR5);have hl2:=((O HB2).block lb (by omega)).trans (O HL5);have hi7:=(hrt _ _ _ hi2 (by decide)).trans hi2;have hl7:=(hrt _ _ _ hl2 (by decide)).trans hl2;have hm7:=((hgr7.block mb (by omega) (fun e=>by have:=htb mb e.symm; omega)).trans ((O HB2).block mb (by omega))).trans (O HP5).mm.mi;have c84:w7.cell? ⟨mb,84,none⟩=some (.slice tp m5.tr.length tc):=by rw [← O HTV]; exact(cR hm7 84)
    have z84:=frozen_of_row _ _ 84 _ _ hm7;have HC7B:=Y (show(fun V=>V.cell? ⟨mb,84,none⟩=some (.slice tp m5.tr.length tc)∧V.cell? ⟨w.heap.size,6,none⟩=some (.int .i64 (k:Int))) w7 from⟨c84,(cR hi7 6)⟩);have HL7:=Y ((heap_setCell_other w7 ⟨mb,84,none⟩ lb (.slice tp7 (m5.tr.length+1) tc7) (by show lb≠mb; omega)).trans hl7);have HP7:=Y hP;clear hP htb hrt hi2 hl2 hi7 hl7 hm7 hown7 hgr7 c0;refine kO hK (fun _=>O HC7B) ?_;clear hK K;refine vD 12 (O HC7B) ?_;refine vD 13 (O HC7B) ?_;refine vD 14 (O HC7B) ?_;refine vO 15 fun K hK=>?_;go_simp;refine kO hK (fun hx=>by cases hx) ?_;clear hK K;refine Zi (by kernel_rfl) ?_ _;clear c84 z84 HC7B HC7A HC7 HC7F HB2 HW2 HOW2 HBB HP5 HTR HTV HHW;generalize World.setCell w7 _ _=U7 at HL7 HP7 ⊢;have HKT7:=Y ((O HKT5).tr (O HP7).2);have HKW7:=Y ((O HKW5).tr (O HP7).2);have hB7:B≤U7.heap.size:=(O HP7).1.bd.2.2.2.2;have hly:=O HLK;have HSPC:=Y (Zon (O HP7).1 hT (Gy (O HS) (O HKT7) (by omega) hbd.1 hbd.2.1) l.size hly.s0 hly.s1 (by simp; omega));have l2:=((cR (O HL7) 2):_=some (Value.int .i64 l.size));clear hly;obtain⟨m7,hm7⟩:∃ m7:Zf,m7={ m5 with tr:=m5.tr++[((k:Int),ws)] }:=⟨_,rfl⟩;rw [← hm7] at HP7 HQ2 HSPC;have HSM:=Y (show m7.sc=m5.sc by rw [hm7]);clear hm7;go_wp2_with fail
    refine(O HSPC).mono ?_;rintro e w8 ⟨rfl,h8,x8⟩;have hk8:=x8.low hB7;have HKT8:=Y ((O HKT7).tr hk8);have HKW8:=Y ((O HKW7).tr hk8);have HL8:=Y ((x8.oth lb (Zc (O HL7)) (by omega) (by omega)).trans (O HL7));have H8:=Y h8;clear h8 x8 hk8 HSPC l2;cases h9:(Zz G.T m7 l.size).2 with
    | false =>
     have HQ3:=Y (show Xk G.T C m (k:Int)=(Zz G.T m7 l.size).1 by rw [O HQ2,if_neg (by rw [h9]; decide)]);go_wp2;go_returns;rw [O HQ3];exact⟨⟨_,rfl⟩,⟨_,O H8⟩,O HKT8⟩
    | true =>
     have HQ3:=Y (show Xk G.T C m (k:Int)=Xw G.T (Zz G.T m7 l.size).1 l.res by rw [O HQ2,if_pos h9]);have hly:=O HLK;have hls:=O HLY w8 (O HKW8);have HANC:=Y (Zmd (O H8) hT (.slice rp l.res.length rc) l.res L l.size hls.res hmL hsL hly.rs (by rw [hly.res]; have:=O HSG; have:=this.r4; omega) (fun i=>by
      rw [show(Zz G.T m7 l.size).1.sc=m7.sc from(Md G.T m7 l.size).sc,O HSM];by_cases hi:i<m5.sc.length
      ·
       exact O HSC _ (Iw hi 0)
      ·
       simp [List.getD,hi]))
     have l1:=((cR (O HL8) 1):_=some (Value.slice rp l.res.length rc));clear hly hls;go_wp2_with fail
     refine(O HANC).mono ?_;rintro e w9 ⟨⟨v9,rfl⟩,h9',x9⟩;have H9:=Y h9';have HKT9:=Y ((O HKT8).tr (x9.low (O H8).bd.2.2.2.2));clear h9' x9 HANC l1;go_wp2;go_returns;rw [O HQ3];exact⟨⟨_,rfl⟩,⟨_,O H9⟩,O HKT9⟩
  ·
   have hix:Gr F (C.externs.length:Int)=false:=decide_eq_false hin;have HQ:=Y (show Xk G.T C m F=m.fault 1 by unfold Xk; rw [if_neg (by rw [ha]; decide),if_neg hin]);refine wp_region_held_drew (S:=fun V=>∃ k,V=w1.drewN k) (by kernel_rfl) ⟨1,rfl⟩ (fun _=>?_);change wpAnyH _ _ _ _ _ _ _ _ (w1.drewN 1)
   refine tE 0 ?_;refine tE 1 ?_;refine tE 2 ?_;refine tE 3 ?_;refine tE 4 ?_;refine tE 5 ?_;refine tE 6 ?_;refine tO 7 fun K hK=>?_;go_simp;refine(Xh F C.externs.length (w1.drewN 1)).mono ?_;rintro e w2 ⟨rfl,hw2⟩;subst w2;rw [hix];refine hK.out _ _ ⟨1,rfl⟩ (fun _=>?_);clear hK K;change wpAnyH _ _ _ _ _ _ _ _ (w1.drewN (1))
   try simp only [Act.put,zA,zB,zC,zD,zE,zF]
   refine tE 8 ?_;refine wpAnyH_done (by kernel_rfl) ?_ _;clear c79 c6 hix;go_wp2_with fail
   refine(Ri ((O HM1).dr 1) 1).mono ?_;rintro e w3 ⟨⟨v3,rfl⟩,h3,x3⟩;have H3:=Y h3;have X3:=Y (((O HK1).dr 1).tr (x3.low (show B≤(w1.drewN 1).heap.size from(O HM1).bd.2.2.2.2)));clear h3 x3;go_wp2;go_returns;rw [O HQ];exact⟨⟨_,rfl⟩,⟨_,O H3⟩,O X3⟩
end
set_option maxHeartbeats 2000000
set_option maxRecDepth 100000
theorem Zfe (ss:List (List Int×Int))(v:Value)(w:World)(A:Nat)(h:Na w A v ss)(hA:A≤w.heap.size):Calls Tryz.prog 72 #[v] w fun e w'=>e=.returned (.bool (ss.all Xy))∧Below w.heap.size w w':=by
 obtain⟨p,c,rfl,hc1,hc2,hat⟩:=h;have HAT:=Y hat;clear hat;go_enter Tryz.func72,Tryz.ntmps72
 go_wp2_with fail
 go_loopw [7] (fun j w'=>∃ k:Nat,j=.int .i64 k∧k≤ss.length∧Below w.heap.size w w'∧(ss.take k).all Xy=true) (fun j _=>ss.length-(intOf j).toNat)
 case atStart=>exact⟨0,rfl,by omega,Below.refl _ _,by simp⟩
 case round =>
  obtain⟨k,rfl,hk,hbw,hall⟩:=hrel;have hws:=hbw.size;by_cases hk2:k<ss.length
  ·
   obtain⟨g,so,lv,rfl,hg,d0,d1,hli,-⟩:=O HAT k hk2;have e0:=(World.cell?_of_block (hbw.block g (by omega))).trans d0;have e1:=(World.cell?_of_block (hbw.block g (by omega))).trans d1;have hgd:ss[k]=ss.getD k ([],0):=by simp [List.getD,hk2]
   have HNX:=Y (show(ss.take (k+1)).all Xy=Xy (ss.getD k ([],0)) by
    rw [List.take_succ_eq_append_getElem hk2,List.all_append,hall,hgd];simp)
   have HBAD:=Y (fun hb:Xy (ss.getD k ([],0))=false=>show ss.all Xy=false by
    rw [List.all_eq_false];exact⟨ss[k],List.getElem_mem hk2,by rw [hgd,hb]; decide⟩)
   generalize ss.getD k ([],0)=s at e0 e1 hli HNX HBAD d0 d1;obtain⟨ps,r⟩:=s;simp only at e1 hli;obtain⟨lp,lc,rfl⟩:=hli.shape;obtain⟨-,hb2,hz2⟩:=Zs wr (.cells #[.slice lp ps.length lc,.int .i64 r] 59 (0,0));have HB2:=Y (Zb hbw hb2 hws);have HC:=Y (Zlq (.slice lp ps.length lc) ps r _ (hli.below (Zb hbw hb2 hws)));clear hall hgd d0 d1 hli hb2 hz2 hbw;go_wp2_with fail
   refine(O HC).mono ?_;rintro e w3 ⟨rfl,hb3⟩;have HB3:=Y (Zb (O HB2) hb3 (O HB2).size);clear hb3 HC e0 e1;cases hs:Xy (ps,r) with
   | false =>
    go_wp2;go_ret;rw [O HBAD hs];exact⟨rfl,O HB3⟩
   | true =>
    go_wp2;go_roundw
    case rel=>exact⟨k+1,by go_num,by omega,O HB3,by rw [O HNX,hs]⟩
    case measure=>simp [intOf]; omega
  ·
   have hkn:k=ss.length:=by omega
   subst hkn;rw [List.take_length] at hall;have HA2:=Y hall;have HB:=Y hbw;clear hall hbw;go_wp2;go_ret;rw [O HA2];exact⟨rfl,O HB⟩
end Go.Proofs.YtnlcfnjeagmemaaGreatDoor
