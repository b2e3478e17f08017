import Derived.Test.YtkenknfgeoecbaaGreatDoorJ22
namespace Go.Proofs.YtkenknfgeoecbaaGreatDoor
open Go.RowKit
set_option maxHeartbeats 4000000
set_option maxRecDepth 100000
theorem Zgz (f:Zj)(pv b c d:Value)(w:World)(hp:LS 2 w pv f.params.length (fun k=>La (f.params.getD k (0,0))))(hn:f.params.length<=8796093022208) :
 Calls Tryz.prog 85 #[.agg #[pv,.int .i64 f.results,b,c,d]] w fun e w'=>∃ v,e=.returned (.agg #[v,.int .i64 f.results])∧Li w' v (Jw f).1∧Below w.heap.size w w'∧(∀ sb so n c,v=.slice (some ⟨sb,so,none⟩) n c->w.heap.size<=sb):=by
 obtain⟨ti,hti,hz0,hz1,hz2⟩:=Gy Tryz.infoInt;have hx:=al0 w (.cells #[pv,.int .i64 f.results,b,c,d] 71 (0,0));have hp1:=hp.below hx.2.1;have hx2:=al0 (w.alloc (.cells #[pv,.int .i64 f.results,b,c,d] 71 (0,0))) (.cells #[.slice none 0 0,.int .i64 0] 43 (0,0));have hp2:=hp1.below hx2.2.1;have hx3:=al0 ((w.alloc (.cells #[pv,.int .i64 f.results,b,c,d] 71 (0,0))).alloc (.cells #[.slice none 0 0,.int .i64 0] 43 (0,0))) (.cells #[.slice none 0 0,.int .i64 f.results] 43 (0,0));have hp3:=hp2.below hx3.2.1;have hs1:=hx.2.2;have hs2:=hx2.2.2;have hs3:=hx3.2.2;have hW1:=Zc (Zc hx.2.1 hx2.2.1 (by omega)) hx3.2.1 (by omega);have hrr:=(hx3.2.1.block (w.heap.size+1) (by omega)).trans (hs1 ▸ hx2.1);have hrs:=hx3.1;rw [hs2,hs1] at hrs hs3;obtain⟨p,cap,rfl,hcap,hlt,hc⟩:=hp3.pairs;have hpb:=hp;have HC:=O hc;have HW1:=O hW1;have HRS:=O hrs;have HRR:=O hrr;have HS3:=O hs3;have HPB:=O hp.pairs;clear hc hx hp hp1 hx2 hp2 hW1 hrs hrr hx3 hp3 hs1 hs2 hs3 hpb;go_enter Tryz.func85,Tryz.ntmps85
 go_wp2_with fail
 generalize World.alloc (World.alloc (World.alloc w _) _) _=W at HC HW1 HRS HRR HS3 ⊢;go_loopw [12] (fun j w'=>∃(k:Nat) (v:Value),j=.int .i64 k∧k<=f.params.length∧w'.heap[w.heap.size+1+1]?=some (.cells #[v,.int .i64 f.results] 43 (0,0))∧w'.ownsRow W.heap.size 3 1 v k (wTk f.params k)∧Below (w.heap.size+2) W w') (fun j _=>f.params.length-(intOf j).toNat)
 case atStart=>exact⟨0,_,rfl,by omega,J HRS,World.ownsRow_nil _ _ _ _,Below.refl _ _⟩
 case round =>
  obtain⟨k,v,rfl,hk,hrow,how,hbw⟩:=hrel;have hws:=hbw.size;have cv:=(cR hrow 0);have r0:=fun X:Obj=>(Gw hrow 0 X).trans rfl;have fz:=fun j=>frozen_of_row _ _ j _ _ hrow;obtain⟨vp,vn,vc,hvs⟩:∃ vp vn vc,v=.slice vp vn vc:=by
   rcases how.2 with⟨e,_⟩ | ⟨g,cap,cur,e,_⟩
   ·exact⟨_,_,_,e⟩
   ·exact⟨_,_,_,e⟩
  subst hvs;by_cases hk2:k<f.params.length
  ·obtain⟨p',cap',he,-,-,hcc0⟩:=J HPB;injection he with e1 e2 e3;subst e1 e3;obtain⟨sb,so,rfl,hcc⟩:=hcc0 (by omega);have hsb:sb<w.heap.size:=World.block_lt_of_cell? w _ (hcc k hk2).1;have hbb:Below w.heap.size w wr:=(J HW1).trans (hbw.mono (Nat.le_add_right _ _));have c1:=(hbb.cell (p:=⟨sb,so+k*2,none⟩) hsb).trans (hcc k hk2).1;have c2:=(hbb.cell (p:=⟨sb,so+k*2+1,none⟩) hsb).trans (hcc k hk2).2;have hT:=J HS3;have hTl:w.heap.size+1+1<wr.heap.size:=by omega
   have HTL:=O hTl;have HTK:=O (Zck f.params k hk2);have HOW:=O how;have HBW:=O hbw;have HROW:=O hrow;clear hcc hcc0 how hbw hbb hrow hT hTl e2 fz cv HC;generalize f.params.getD k (0,0)=xy at c1 c2 HTK;obtain⟨x,y⟩:=xy;simp only at c1 c2;go_wp2_with (at_builtin; refine wpList_append_own _ rfl _ _ 23 rfl W.heap.size 3 ti _ 1 8 Tryz.underlying23 hti hz0 hz1 hz2 rfl (by decide) _ _ _ rfl (((J HOW).alloc _).alloc _) ⟨wr.heap.size+1,0,none⟩ 1 1 [.int .i64 x] rfl rfl (by intro j u hj; match j,hj with | 0,hj=>(simp at hj; subst hj; exact(World.cell?_alloc_at _ _ _ _ (by simp)).trans rfl)) (by intro u hu; simp at hu; subst hu; rfl) ?c3 ?c4 ?c5 ?_)
   case c3=>unfold maxLen; omega
   case c4=>omega
   case c5=>first | omega | (simp; omega)
   intro v' w7 hown hgr _;obtain⟨g2,cap2,rfl⟩:=Kf hown;have hTl:=J HTL;have hT:=J HS3;have hne:∀ q,q<W.heap.size->some q≠(Value.slice vp vn vc).ownBlock:=fun q hq e=>by have:=((J HOW).lt q e.symm).1; omega
   have hrow7:=(hgr.block (w.heap.size+1+1) (by simp; omega) (hne _ (by omega))).trans ((((Below.refl wr.heap.size wr).alloc (Nat.le_refl _) _).alloc (by simp) _).block (w.heap.size+1+1) hTl |>.trans (J HROW));have c7:=(cR hrow7 0);have f7:=frozen_of_row _ _ 0 _ _ hrow7;have HNR:=O (heap_setCell_same w7 (w.heap.size+1+1) 0 _ _ (.slice (some ⟨g2,0,none⟩) (k+1) cap2) hrow7);have HNW:=O (show w7.ownsRow W.heap.size 3 1 (.slice (some ⟨g2,0,none⟩) (k+1) cap2) (k+1) (wTk f.params (k+1)) by rw [J HTK]; exact hown);have HN2:=O (Ke (w':=w7.setCell ⟨w.heap.size+1+1,0,none⟩ (.slice (some ⟨g2,0,none⟩) (k+1) cap2)) (J HNW) (fun g hg=>heap_setCell_other _ _ _ _ (by show g≠w.heap.size+1+1; omega)));have HB7:=O (show Below (w.heap.size+2) W (w7.setCell ⟨w.heap.size+1+1,0,none⟩ (.slice (some ⟨g2,0,none⟩) (k+1) cap2)) from
    have hb7:Below (w.heap.size+2) W w7:=(((J HBW).alloc (by omega) _).alloc (by simp; omega) _).trans ⟨hgr.os,hgr.tape,hgr.output,hgr.size,fun q hq=>hgr.block q (by simp; omega) (hne q (by omega))⟩;⟨hb7.os,hb7.tape,hb7.output,by simpa using hb7.size,fun q hq=>(heap_setCell_other _ _ _ _ (by show q≠w.heap.size+1+1; omega)).trans (hb7.block q hq)⟩)
   clear hown hgr hne hTl hT hrow7 r0 c1 c2;go_wp2;go_roundw
   case rel=>exact⟨k+1,_,by go_num,by omega,J HNR,J HN2,J HB7⟩
   case measure=>simp [intOf]; omega
  ·obtain rfl:k=f.params.length:=by omega
   have hvn:vn=f.params.length:=by
    rcases how.2 with⟨e,e0⟩ | ⟨g,cap,cur,e,_⟩
    ·injection e with _ e2 _; omega
    ·injection e with _ e2 _
   subst vn;unfold wTk at how;rw [List.take_length] at how;have hT:=J HS3;have HRR2:=O ((hbw.block (w.heap.size+1) (by omega)).trans (J HRR));have HRS2:=O hrow;have HOW:=O how;have HBW:=O hbw;clear hrow how hbw hT r0 fz cv;go_wp2_with (first | (refine wpList_load_row rfl 43 (.tmp 3) rfl (w.heap.size+1+1) rfl 43 #[.slice vp f.params.length vc,.int .i64 f.results] (0,0) _ (J HRS2) Tryz.underlying43 rfl (Tryz.infSigK.trans rfl) ?_) | (refine wpList_store_row rfl 43 (.tmp 2) (.tmp 24) rfl (w.heap.size+1) #[.slice vp f.params.length vc,.int .i64 f.results] rfl rfl 43 _ (J HRR2) (Tryz.infSigK.trans rfl) rfl (by simp [Value.oneCell']) ?_))
   refine bodyPost_ret (Gx (fn:=Tryz.f85) (q:=2) (uy:=43) rfl _ _ (w.heap.size+1) 43 #[.slice vp f.params.length vc,.int .i64 f.results] (0,0) _ rfl (setRow_heap _ _ _ _ _ _ (J HRR2)) Tryz.underlying43 rfl (Tryz.infSigK.trans rfl)) rfl ?_;have hT:=J HS3;refine⟨_,rfl,Li.of_own (base:=W.heap.size) (by rw [show((Jw f).1).length=f.params.length by simp [Jw]]; exact Ke (J HOW) (fun g hg=>setRow_other _ _ _ _ (by omega))) (by simp [Jw]; omega),Zg ((J HW1).trans ((J HBW).mono (by omega))) (by omega),fun sb so n c e=>by have h:=((J HOW).lt sb (by rw [e]; rfl)).1; omega⟩
set_option maxHeartbeats 4000000
set_option maxRecDepth 100000
theorem Tryz.infoU64:(Tryz.prog.info? 90).map (fun i=>(i.zero,i.size,i.bytes))=some (some (.int .u64 0),1,8):=by kernel_rfl
theorem Yad (l:List Int)(n:Int):uC (l++[n])=uC l++[.int .u64 n]:=by simp [uC]
theorem Gd {w:World}{B e size n:Nat}{v:Value}{xs:List Value}(h:w.ownsRow B e size v n xs):∃ p c,v=.slice p n c:=by
 rcases h.2 with⟨e,e0⟩ | ⟨g,cap,cur,e,-⟩
 ·exact⟨none,0,by rw [e0]; exact e⟩
 ·exact⟨_,_,e⟩
theorem Zmh (v ls:List Int)(k:Nat)(h:k<ls.length):Mh v (ls.take (k+1))=Mh v (ls.take k)++[v.getD (ls.getD k 0).toNat 0]:=by unfold Mh;rw [List.take_add_one,List.getElem?_eq_getElem h,List.map_append,Ma ls 0 k h];rfl
theorem Zvd (v ds vs:List Int):(Zhd v ds vs).length=v.length:=by
 unfold Zhd;generalize ds.zip vs=l;induction l generalizing v with
 | nil=>rfl
 | cons a l ih=>rw [List.foldl_cons,ih]; simp
theorem Zjl {w:World}{B e n k:Nat}{p:Option Addr}{c:Nat}{xs:List Value}(h:w.ownsRow B e 1 (.slice p n c) n xs)(hk:k<n):∃ g,p=some ⟨g,0,none⟩∧B<=g∧w.cell? ⟨g,k,none⟩=xs[k]?:=by
 rcases h.2 with⟨-,e0⟩ | ⟨g,cap,cur,e1,h2,h3,h4,-,h6,h7⟩
 ·omega
 ·injection e1 with e1 _ _;refine⟨g,e1,h2,(Zl h3 k).trans ?_⟩;rw [← h7,List.getElem?_take,if_pos (by omega)];simp
theorem Zve (w0:World)(x:Ud)(q lo hi lg:Nat)(bp sp op:Option Addr)(bc sc oc:Nat)(gs:List Nat)(B:Nat->Value)(ls:List Int)(lp:Option Addr)(lc:Nat)(w:World)(h:Ia w0 w x q lo hi lg bp sp op bc sc oc gs B)(hl:Li w (.slice lp ls.length lc) ls)(hln:ls.length<=1000)(hin:∀ k,k<ls.length->0<=ls.getD k 0∧ls.getD k 0<x.v.length) :
 Calls Tryz.prog 192 #[.pointer (some ⟨q,0,none⟩),.slice lp ls.length lc] w fun e w'=>∃ v,e=.returned v∧w'.ownsRow w.heap.size 90 1 v ls.length (uC (Mh x.v ls))∧Below w.heap.size w w':=by
 obtain⟨ti,hti,hty0,hty1,hty2⟩:=Gy Tryz.infoU64;have H:=O h;have HL:=O hl;have HIN:=O hin;clear h hl hin;go_enter Tryz.func192,Tryz.ntmps192
 go_wp2;go_loopw [10,5] (fun sk sv w'=>∃(k:Nat) (v:Value),sk=.int .i64 k∧sv=v∧k<=ls.length∧w'.ownsRow w.heap.size 90 1 v k (uC (Mh x.v (ls.take k)))∧Below w.heap.size w w') (fun sk _ _=>ls.length-(intOf sk).toNat)
 case atStart=>exact⟨0,_,rfl,rfl,by omega,World.ownsRow_nil _ _ _ _,Below.refl _ _⟩
 case round =>
  obtain⟨k,v0,rfl,rfl,hk,how,hbw⟩:=hrel;obtain⟨vp,vc,rfl⟩:=Gd how;by_cases hk2:k<ls.length
  ·obtain⟨p',c',e1,-,-,hcc⟩:=(J HL).below hbw;injection e1 with f1 f2 f3;obtain⟨sb,so,hsp,hcell⟩:=hcc (by omega);rw [← f1] at hsp;subst hsp;have d:=hcell k hk2;obtain⟨hx0,hx1⟩:=J HIN k hk2;obtain⟨m,hm⟩:∃ m:Nat,ls.getD k 0=m:=⟨(ls.getD k 0).toNat,by omega⟩;have HNX:=O (show Mh x.v (ls.take (k+1))=Mh x.v (ls.take k)++[x.v.getD m 0] by rw [Zmh _ _ _ hk2,hm,Int.toNat_natCast]);rw [hm] at d hx1;have hF:=Mf (J H) hbw;have c3:=cR hF.row 3;have hml:m<x.v.length:=by omega
   have v0:wr.cell? ⟨lg,m,none⟩=some (.int .u64 (x.v.getD m 0)):=(Zl hF.loc m).trans (by simp [uC,List.getD,hml]);have hwz:=hbw.size;have HOW:=O how;have HBW:=O hbw;clear f1 f2 f3 hcc hcell hx0 hx1 hm hF how hbw;obtain⟨y,hy⟩:∃ y,y=x.v.getD m 0:=⟨_,rfl⟩;rw [← hy] at v0 HNX;clear hy;go_wp2_with (at_builtin; refine wpList_append_own _ rfl _ _ 84 rfl w.heap.size 90 ti _ 1 8 Tryz.underlying84 hti hty0 hty1 hty2 rfl (by decide) _ _ _ rfl (World.ownsRow.alloc (J HOW) _) ⟨wr.heap.size,0,none⟩ 1 1 [.int .u64 y] rfl rfl (by intro j u hj; match j,hj with | 0,hj=>(simp at hj; subst hj; simp [Addr.add])) (by intro u hu; simp at hu; subst hu; rfl) ?c3 ?c4 ?c5 ?_)
   case c3=>unfold maxLen; omega
   case c4=>omega
   case c5=>first | omega | (simp; omega)
   intro v7 w7 hown7 hgr7 _;have hb7:Below w.heap.size w w7:=by have ha:=(al0 wr (.cells #[.int .u64 y] 90 (0,0)));have hzz:=(J HBW).size;refine⟨hgr7.os.trans (ha.2.1.os.trans (J HBW).os),hgr7.tape.trans (ha.2.1.tape.trans (J HBW).tape),hgr7.output.trans (ha.2.1.output.trans (J HBW).output),by have:=hgr7.size; rw [ha.2.2] at this; omega,fun q hq=>?_⟩;exact(hgr7.block q (by rw [ha.2.2]; omega) (fun e=>by have:=(World.ownsRow.lt (J HOW) q e.symm).1; omega)).trans ((ha.2.1.block q (by omega)).trans ((J HBW).block q hq))
   have HX:=O (show w7.ownsRow w.heap.size 90 1 v7 (k+1) (uC (Mh x.v (ls.take (k+1)))) by rw [J HNX,Yad]; exact hown7);have HB7:=O hb7;clear hown7 hgr7 hb7 d c3 v0 HOW HBW HNX;go_wp2;go_roundw
   case rel=>exact⟨k+1,_,by go_num,rfl,by omega,J HX,J HB7⟩
   case measure=>simp [intOf]; omega
  ·have hkn:k=ls.length:=by omega
   subst hkn;rw [List.take_length] at how;have HOW:=O how;have HBW:=O hbw;clear how hbw;go_wp2;go_ret;exact⟨_,rfl,J HOW,J HBW⟩
set_option maxHeartbeats 4000000
set_option maxRecDepth 100000
theorem Zju (p:Lq)(w:World):Calls Tryz.prog 143 #[.agg #[.int .i64 p.1,.int .i64 p.2]] w fun e w'=>e=.returned (.bool (Cx p))∧Below w.heap.size w w':=by
 obtain⟨a,b⟩:=p;by_cases h:a=-1
 ·subst h;go_enter Tryz.func143,Tryz.ntmps143
  go_wp2;go_returns;exact⟨rfl,by go_grown⟩
 ·have h1:(a==-1)=false:=by simpa using h
  have HC:=O (show Cx (a,b)=false from decide_eq_false h);go_enter Tryz.func143,Tryz.ntmps143
  go_wp2;go_returns;exact⟨by rw [J HC]; rfl,by go_grown⟩
def Nf (T:Yc)(p:Lq):Bool:=if p.1=-1 then decide (0<=p.2∧p.2<65536∧p.2 % 8=0) else decide (0<=p.1∧p.1<T.r∧p.2=0∧p.1≠T.sp∧p.1≠T.t0∧p.1≠T.t1)
theorem Kp {T:Yc}{b:Int}:Nf T (-1,b)=decide (0<=b∧b<65536∧b % 8=0):=if_pos rfl
theorem Uf {T:Yc}{a b:Int}(h:¬ a=-1):Nf T (a,b)=decide (0<=a∧a<T.r∧b=0∧a≠T.sp∧a≠T.t0∧a≠T.t1):=if_neg h
theorem Zfy (T:Yc)(p:Lq)(w:World):Calls Tryz.prog 95 #[.agg #[.int .i64 T.r,.int .i64 T.sp,.int .i64 T.lk,.int .i64 T.t0,.int .i64 T.t1,.slice T.pa T.ag.length T.ca,.slice T.pr T.rs.length T.cr,.slice T.ps T.ss.length T.cs,.int .i64 T.al,.int .i64 T.sh,.int .i64 T.br,.bool T.pairs],.agg #[.int .i64 p.1,.int .i64 p.2]] w fun e w'=>e=.returned (.bool (Nf T p))∧Below w.heap.size w w':=by
 obtain⟨a,b⟩:=p;obtain⟨r0,r1,hB,hZ⟩:=Oa w (.cells #[.int .i64 T.r,.int .i64 T.sp,.int .i64 T.lk,.int .i64 T.t0,.int .i64 T.t1,.slice T.pa T.ag.length T.ca,.slice T.pr T.rs.length T.cr,.slice T.ps T.ss.length T.cs,.int .i64 T.al,.int .i64 T.sh,.int .i64 T.br,.bool T.pairs] 25 (0,0)) (.cells #[.int .i64 a,.int .i64 b] 34 (0,0));have HR0:=O r0;have HR1:=O r1;have HB:=O hB;have HZ:=O hZ;clear r0 r1 hB hZ;go_enter Tryz.func95,Tryz.ntmps95
 go_wp2_with fail
 generalize World.alloc (World.alloc w _) _=W at HR0 HR1 HB HZ ⊢;refine(Zju (a,b) W).mono ?_;rintro e w1 ⟨rfl,hb1⟩;have HB1:=O (Zc (J HB) hb1 (by have:=J HZ; omega));have q0:=(hb1.block w.heap.size (by have:=J HZ; omega)).trans (J HR0);have q1:=(hb1.block (w.heap.size+1) (by have:=J HZ; omega)).trans (J HR1);have t0:=cR q0 0;have t1:=cR q0 1;have t3:=cR q0 3;have t4:=cR q0 4;have s0:=cR q1 0;have s1:=cR q1 1;clear q0 q1 hb1 HR0 HR1;by_cases ha:a=-1
 ·subst ha;rw [show Cx ((-1:Int),b)=true from rfl];by_cases h1:0<=b
  ·by_cases h2:b<65536
   ·by_cases h3:b % 8=0
    ·have h4:(b % 8==0)=true:=by simpa using h3
     have HD:=O (decide_eq_true (show 0<=b∧b<65536∧b % 8=0 from⟨h1,h2,h3⟩));clear h3;go_wp2;go_returns;exact⟨by rw [Kp,J HD]; rfl,J HB1⟩
    ·have h4:(b % 8==0)=false:=by simpa using h3
     have HD:=O (decide_eq_false (show ¬ (0<=b∧b<65536∧b % 8=0) from fun h=>h3 h.2.2));clear h3;go_wp2;go_returns;exact⟨by rw [Kp,J HD]; rfl,J HB1⟩
   ·have HD:=O (decide_eq_false (show ¬ (0<=b∧b<65536∧b % 8=0) from fun h=>h2 h.2.1));go_wp2;go_returns;exact⟨by rw [Kp,J HD]; rfl,J HB1⟩
  ·have HD:=O (decide_eq_false (show ¬ (0<=b∧b<65536∧b % 8=0) from fun h=>h1 h.1));go_wp2;go_returns;exact⟨by rw [Kp,J HD]; rfl,J HB1⟩
 ·rw [show Cx (a,b)=false from decide_eq_false ha];have HA:=O ha;clear ha;by_cases h0:¬ (0<=a)
  ·have HD:=O (decide_eq_false (show ¬ (0<=a∧a<T.r∧b=0∧a≠T.sp∧a≠T.t0∧a≠T.t1) from fun h=>h0 h.1));have h0:=Int.not_le.1 h0;go_wp2;go_returns;exact⟨by rw [Uf (J HA),J HD]; rfl,J HB1⟩
  have h0:=Decidable.not_not.1 h0;by_cases h1:¬ (a<T.r)
  ·have HD:=O (decide_eq_false (show ¬ (0<=a∧a<T.r∧b=0∧a≠T.sp∧a≠T.t0∧a≠T.t1) from fun h=>h1 h.2.1));have h1:=Int.not_lt.1 h1;go_wp2;go_returns;exact⟨by rw [Uf (J HA),J HD]; rfl,J HB1⟩
  have h1:=Decidable.not_not.1 h1;by_cases h2:¬ (b=0)
  ·have HD:=O (decide_eq_false (show ¬ (0<=a∧a<T.r∧b=0∧a≠T.sp∧a≠T.t0∧a≠T.t1) from fun h=>h2 h.2.2.1));have e2:(b==0)=false:=by simpa using h2
   clear h2;go_wp2;go_returns;exact⟨by rw [Uf (J HA),J HD]; rfl,J HB1⟩
  have h2:=Decidable.not_not.1 h2;have e2:(b==0)=true:=by simpa using h2
  have H2:=O h2;clear h2;by_cases h3:¬ (a≠T.sp)
  ·have HD:=O (decide_eq_false (show ¬ (0<=a∧a<T.r∧b=0∧a≠T.sp∧a≠T.t0∧a≠T.t1) from fun h=>h3 h.2.2.2.1));have e3:(a != T.sp)=false:=by simpa using h3
   clear h3;go_wp2;go_returns;exact⟨by rw [Uf (J HA),J HD]; rfl,J HB1⟩
  have h3:=Decidable.not_not.1 h3;have e3:(a != T.sp)=true:=by simpa using h3
  have H3:=O h3;clear h3;by_cases h4:¬ (a≠T.t0)
  ·have HD:=O (decide_eq_false (show ¬ (0<=a∧a<T.r∧b=0∧a≠T.sp∧a≠T.t0∧a≠T.t1) from fun h=>h4 h.2.2.2.2.1));have e4:(a != T.t0)=false:=by simpa using h4
   clear h4;go_wp2;go_returns;exact⟨by rw [Uf (J HA),J HD]; rfl,J HB1⟩
  have h4:=Decidable.not_not.1 h4;have e4:(a != T.t0)=true:=by simpa using h4
  have H4:=O h4;clear h4;by_cases h5:¬ (a≠T.t1)
  ·have HD:=O (decide_eq_false (show ¬ (0<=a∧a<T.r∧b=0∧a≠T.sp∧a≠T.t0∧a≠T.t1) from fun h=>h5 h.2.2.2.2.2));have e5:(a != T.t1)=false:=by simpa using h5
   clear h5;go_wp2;go_returns;exact⟨by rw [Uf (J HA),J HD]; rfl,J HB1⟩
  have h5:=Decidable.not_not.1 h5;have e5:(a != T.t1)=true:=by simpa using h5
  have H5:=O h5;clear h5;have HD:=O (decide_eq_true (show 0<=a∧a<T.r∧b=0∧a≠T.sp∧a≠T.t0∧a≠T.t1 from⟨h0,h1,J H2,J H3,J H4,J H5⟩));go_wp2;go_returns;exact⟨by rw [Uf (J HA),J HD]; rfl,J HB1⟩
end Go.Proofs.YtkenknfgeoecbaaGreatDoor
