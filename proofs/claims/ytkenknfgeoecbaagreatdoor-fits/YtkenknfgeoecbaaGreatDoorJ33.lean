import Derived.Test.YtkenknfgeoecbaaGreatDoorJ38
namespace Go.Proofs.YtkenknfgeoecbaaGreatDoor
open Go.RowKit
set_option maxHeartbeats 4000000
set_option maxRecDepth 100000
def Ue:Rp->Int
 | .inl (_,_,_,_)=>1
 | .inr (.inl (_,_,_,_))=>2
 | .inr (.inr (_,_))=>3
def Cd:Rp->List Int
 | .inl (l,_,_,_)=>l
 | .inr (.inl (c,_,_,_))=>[c]
 | .inr (.inr (_,_))=>[]
def Da:Rp->List (Int×List Int)
 | .inl (_,_,_,tr)=>tr
 | .inr (.inl (_,_,_,tr))=>tr
 | .inr (.inr (_,tr))=>tr
def Ms (fuel:Nat):Rp->Nat
 | .inl (_,m,_,_)=>fuel-m
 | .inr (.inl (_,m,_,_))=>fuel-m
 | .inr (.inr (_,_))=>fuel
theorem Yan {P:Zk}{x:Ud}{R st:List Ud}{sc sc':List Int}{tr tr':List (Int×List Int)}(h:stp P x R sc tr=.go st sc' tr'):st.length<=R.length+2∧tr'.length<=tr.length+1:=by
 unfold stp at h;split at h
 ·obtain⟨h1,-,h3⟩:=Io.go_inj h; subst h1 h3; simp
 split at h
 ·obtain⟨h1,-,h3⟩:=Io.go_inj h; subst h1 h3; simp
 split at h
 ·cases R with
  | nil=>cases h
  | cons c R=>obtain⟨h1,-,h3⟩:=Io.go_inj h; subst h1 h3; simp
 split at h
 ·obtain⟨h1,-,h3⟩:=Io.go_inj h; subst h1 h3; simp
 split at h
 ·cases h
 ·obtain⟨h1,-,h3⟩:=Io.go_inj h; subst h1 h3; simp
theorem Yao {P:Zk}{x:Ud}{R st:List Ud}{sc sc':List Int}{tr tr':List (Int×List Int)}(hG:Mi P)(hwf:WfS P (x :: R))(hR:R=[])(h:stp P x R sc tr=.go st sc' tr'):∃ y,st=[y]:=by
 have hon:=((WfS.top hwf).insG hG).on;subst hR;unfold stp at h;rw [if_neg (by omega),if_neg (by omega)] at h;split at h
 ·cases h
 rw [if_neg (by omega),if_neg (by omega)] at h;obtain⟨h1,-,-⟩:=Io.go_inj h;exact⟨_,h1.symm⟩
def GoI (P:Zk)(w0 w':World)(rb b:Nat)(fv:Value)(fuel n:Nat)(r:Rp):Prop :=
 ∃(f:FrR) (R:List FrR) (sp:Option Addr) (scc:Nat) (sc:List Int) (frv tv:Value) (tr:List (Int×List Int)) (es:List Value),RnR w' rb fv (.slice sp sc.length scc) frv 0 (.slice none 0 0) tv n∧LiU w0 (.slice sp sc.length scc) sc∧Gu w0 w' rb b (f :: R) frv tv tr es∧WfS P ((f :: R).map (·.x))∧(∀ n ∈ sc,0<=n∧n<18446744073709551616)∧r=ev P (fuel-n) ((f :: R).map (·.x)) sc tr∧R.length<=n∧tr.length<=n∧R=[]
theorem Zvn {P:Zk}{w0 w':World}{rb b:Nat}{fv:Value}{fuel n:Nat}{r:Rp}{x:Ud}{R:List Ud}{sc:List Int}{tr:List (Int×List Int)}(hG:Mi P)(hwf:WfS P (x :: R))(hsc:∀ n ∈ sc,0<=n∧n<18446744073709551616)(hr:r=ev P (fuel-n) (x :: R) sc tr)(hn:n<fuel)(hR:R.length<=n)(ht:tr.length<=n)(hR0:R=[])(h:Yeq w0 w' rb b fv ((n:Int)+1) (stp P x R sc tr)) :
 GoI P w0 w' rb b fv fuel (n+1) r∨((Ue r=1∨Ue r=2)∧Zrj w' rb b fv (Ms fuel r) (Ue r) (Cd r) (Da r)):=by
 have hf:fuel-n=(fuel-(n+1))+1:=by omega
 rw [hf,Yem] at hr;cases hs:stp P x R sc tr using Io.el with
 | go st sc' tr' =>
  rw [hs] at hr h;obtain⟨hw,hs'⟩:=Yeo hG hwf hsc tr hs;have hl:=Yan hs;obtain⟨st,sp,scc,frv,tv,es,rfl,h1,h2,h3⟩:=h;left
  cases st with
  | nil=>exact hw.elim
  | cons f R'=>exact⟨f,R',sp,scc,sc',frv,tv,tr',es,h1,h2,h3,hw,hs',hr,by simp at hl; omega,by omega,by obtain⟨y,hy⟩:=Yao hG hwf hR0 hs; rw [List.map_cons] at hy; injection hy with _ hy; exact List.map_eq_nil_iff.1 hy⟩
 | done l sc' tr' =>
  rw [hs] at hr h;right
  subst hr;refine⟨Or.inl rfl,?_⟩;have:(Ms fuel (Io.run P (fuel-(n+1)) (.done l sc' tr')):Int)=(n:Int)+1:=by simp [Io.run,Ms]; omega
  rw [this];exact h
 | trap c sc' tr' =>
  rw [hs] at hr h;right
  subst hr;refine⟨Or.inr rfl,?_⟩;have:(Ms fuel (Io.run P (fuel-(n+1)) (.trap c sc' tr')):Int)=(n:Int)+1:=by simp [Io.run,Ms]; omega
  rw [this];exact h
theorem Gu.set {w0 V:World}{rb b:Nat}{st:List FrR}{frv tv:Value}{tr:List (Int×List Int)}{es:List Value}(h:Gu w0 V rb b st frv tv tr es)(hrow:∃ cs,V.heap[rb]?=some (.cells cs 202 (0,0)))(j:Nat)(v:Value):Gu w0 (V.setCell ⟨rb,j,none⟩ v) rb b st frv tv tr es:=h.own hrow ⟨rfl,rfl,rfl,by simp,fun q hq=>heap_setCell_other _ _ _ _ hq⟩
theorem Zdo {b rb:Nat}(w:World)(j:Nat)(v:Value)(h:b<=rb):Below b w (w.setCell ⟨rb,j,none⟩ v):=⟨rfl,rfl,rfl,by simp,fun q hq=>heap_setCell_other _ _ _ _ (by show q≠rb; omega)⟩
theorem Yap (P:Zk)(w0 w:World)(rb b fb fo fc fuel:Nat)(A:Nat->Array Value)(r:Rp)(hG:Mi P)(hPg:PgI w0 P fb fo A)(hfu:fuel<=20000)(h:GoI P w0 w rb b (.slice (some ⟨fb,fo,none⟩) P.funcs.length fc) fuel 0 r)(hbrb:b<=rb) :
 Calls Tryz.prog 87 #[.pointer (some ⟨rb,0,none⟩),.int .i64 (fuel:Int)] w fun e w'=>(∃ v,e=.returned v)∧Zrj w' rb b (.slice (some ⟨fb,fo,none⟩) P.funcs.length fc) (Ms fuel r) (Ue r) (Cd r) (Da r)∧Below b w w':=by
 have HG:=O hG;have HPG:=O hPg;have H0:=O h;clear hG hPg h;go_enter Tryz.func87,Tryz.ntmps87
 go_wp2_with fail
 go_loopg [] (fuel+1) (fun k w'=>Below b w w'∧((∃ n:Nat,k=fuel-n+1∧n<=fuel∧GoI P w0 w' rb b (.slice (some ⟨fb,fo,none⟩) P.funcs.length fc) fuel n r)∨(k=0∧(Ue r=1∨Ue r=2)∧Zrj w' rb b (.slice (some ⟨fb,fo,none⟩) P.funcs.length fc) (Ms fuel r) (Ue r) (Cd r) (Da r))))
 case atStart=>exact⟨Below.refl _ _,Or.inl ⟨0,by omega,by omega,J H0⟩⟩
 case round =>
  obtain⟨hB,hrel⟩:=hrel;have HB:=O hB;clear hB;rcases hrel with⟨n,hk,hn,f,R,sp,scc,sc,frv,tv,tr,es,hrow,hL,hS,hwf,hsr,hr,hRl,htl,hR0⟩ | ⟨hk,hkd,he⟩
  ·have c3:=cR hrow 3;have c7:=cR hrow 7;have z7:=frozen_of_row _ _ 7 _ _ hrow;have z3:=frozen_of_row _ _ 3 _ _ hrow;have HK:=O hk;have HR:=O hr;have HR0:=O hR0;clear hk hr hR0;by_cases hnf:n<fuel
   ·have h1:RnR (wr.setCell ⟨rb,7,none⟩ (.int .i64 ((n:Int)+1))) rb (.slice (some ⟨fb,fo,none⟩) P.funcs.length fc) (.slice sp sc.length scc) frv 0 (.slice none 0 0) tv ((n:Int)+1):=heap_setCell_same _ _ 7 _ _ _ hrow;have hS1:=hS.set ⟨_,hrow⟩ 7 (.int .i64 ((n:Int)+1));have hB1:=(J HB).trans (Zdo wr 7 (.int .i64 ((n:Int)+1)) hbrb);obtain⟨g,gc,rfl⟩:=Zfw hS1.fr;have HROW1:=O h1;have HS1:=O hS1;have HB1:=O hB1;have HL:=O hL;have HWF:=O hwf;have HSR:=O hsr;have hnI:(n:Int)<(fuel:Int):=by omega
    clear hrow hS hL hwf hsr h1 hS1 hB1;go_upto_region 2 with fail
    clear c3 c7 z7 z3;generalize World.setCell wr _ _=U at HROW1 HS1 HB1 ⊢;obtain⟨m,hm⟩:∃ m,m=R.length:=⟨_,rfl⟩;have HM:=O hm;have c2:U.cell? ⟨rb,2,none⟩=some (.slice (some ⟨g,0,none⟩) (m+1) gc):=by rw [hm]; exact(cR (J HROW1) 2)
    have cp:U.cell? ⟨g,m,none⟩=some (.pointer (some ⟨f.q,0,none⟩)):=by
     obtain⟨g',e,-,hc⟩:=Zjl (J HS1).fr (k:=m) (by rw [hm]; simp);injection e with e;injection e with e;subst e;rw [hc];have h2:Cu (f :: R)=Cu R++[.pointer (some ⟨f.q,0,none⟩)]:=by simp [Cu]
     rw [h2,hm,List.getElem?_append_right (by simp [Cu])];simp [Cu]
    have d2:U.drew.cell? ⟨rb,2,none⟩=some (.slice (some ⟨g,0,none⟩) (m+1) gc):=c2;have dp:U.drew.cell? ⟨g,m,none⟩=some (.pointer (some ⟨f.q,0,none⟩)):=cp;have hmi:IntKind.i64.wrap (m:Int)=(m:Int):=IntKind.wrap_of_boundsK (by omega) (by omega);have hm0:(0:Int)<=(m:Int):=by omega
    have hm1:(m:Int)<(m:Int)+1:=by omega
    have hml:m<=100000:=by omega
    have HST:=O (Yer (w:=U.drew) (J HR0) (J HG) (J HPG) (J HWF) ((J HS1).grow (Below.refl _ _).drew) (J HROW1) (J HL) (by omega) (by omega));have HRL:=O hRl;have HTL:=O htl;clear hm hRl htl;go_region_with (go_at_call 127; refine(J HST).mono ?_; rintro e w5 ⟨⟨v5,rfl⟩,hA5,hB5⟩; have HA5:=O hA5; have HB5:=O hB5; clear hA5 hB5)
    all_goals
     clear c2 cp d2 dp;go_wp2;have hn':=Zvn (J HG) (J HWF) (J HSR) (J HR) hnf (by simpa using J HRL) (J HTL) (by rw [J HR0]; rfl) (J HA5);have hB6:Below b w w5:=(J HB1).trans ⟨(J HB5).os,(J HB5).tape,(J HB5).output,(J HB5).size,(J HB5).block⟩;rcases hn' with hgo | ⟨hkd,hend⟩
     ·go_roundg (fuel-(n+1)+1)
      case measure=>rw [J HK]; omega
      case rel=>exact⟨hB6,Or.inl ⟨n+1,rfl,by omega,hgo⟩⟩
     ·go_roundg 0
      case measure=>rw [J HK]; omega
      case rel=>exact⟨hB6,Or.inr ⟨rfl,hkd,hend⟩⟩
   ·have hnn:n=fuel:=by omega
    subst hnn;have h1:RnR (wr.setCell ⟨rb,3,none⟩ (.int .i64 3)) rb (.slice (some ⟨fb,fo,none⟩) P.funcs.length fc) (.slice sp sc.length scc) frv 3 (.slice none 0 0) tv (n:Int):=heap_setCell_same _ _ 3 _ _ _ hrow;have hS1:=hS.set ⟨_,hrow⟩ 3 (.int .i64 3);have hB1:=(J HB).trans (Zdo wr 3 (.int .i64 3) hbrb);obtain⟨tp,tc,rfl⟩:=Gd hS.tr.row;have HROW1:=O h1;have HS1:=O hS1;have HB1:=O hB1;clear hrow hS hL hwf hsr h1 hS1 hB1 hnf;go_wp2;go_returns;refine⟨⟨_,rfl⟩,?_,J HB1⟩;have hr:=J HR;rw [Nat.sub_self] at hr;have hr2:r=.spent sc tr:=by rw [hr]; rfl
    rw [hr2];exact⟨_,frv,tp,tc,es,none,0,J HROW1,World.ownsRow_nil _ _ _ _,(J HS1).trE⟩
  ·have hkd0:(Ue r==0)=false:=by rcases hkd with h | h <;> rw [h] <;> rfl
   obtain⟨scv,frv,tp,tc,es,vp,vc,hrow,hv,ht⟩:=he;have c3:=cR hrow 3;have HE:=O (show Zrj wr rb b (.slice (some ⟨fb,fo,none⟩) P.funcs.length fc) (Ms fuel r) (Ue r) (Cd r) (Da r) from⟨scv,frv,tp,tc,es,vp,vc,hrow,hv,ht⟩);clear hrow hv ht hkd hk;go_wp2;go_returns;exact⟨⟨_,rfl⟩,J HE,J HB⟩
set_option maxHeartbeats 8000000
set_option maxRecDepth 100000
def Ny (l:List Gq)(k:Nat):List Gq:=(l.take k).filter fun p=>decide (p.1≠p.2)
theorem Zvx {l:List Gq}{k:Nat}(h:k<l.length):Ny l (k+1)=Ny l k++(if (l.getD k Ru).1=(l.getD k Ru).2 then [] else [l.getD k Ru]):=by
 unfold Ny;rw [Cv h,List.filter_append];congr 1
 by_cases e:(l.getD k Ru).1=(l.getD k Ru).2
 ·rw [if_pos e,List.filter_cons_of_neg (by simpa using e)];rfl
 ·rw [if_neg e,List.filter_cons_of_pos (by simpa using e)];rfl
theorem Yaz (l:List Gq)(k:Nat):(Ny l k).length<=k:=by unfold Ny;have:=List.length_filter_le (fun p:Gq=>decide (p.1≠p.2)) (l.take k);rw [List.length_take] at this;omega
theorem Zvy (l:List Gq)(p:Gq):Nh (l++[p])=Ng (Nh l) p.2 1:=by
 funext q
 rw [Ybg,Ybh];unfold Ng;by_cases h:p.2=q
 ·rw [if_pos h,if_pos h.symm]
 ·rw [if_neg h,if_neg (fun e=>h e.symm)]; omega
structure OrN (T:Yc)(l:List Gq)(K:Nat):Prop where
 en:(Ji T.t0 T.t1 K (Jk l)).left=[]
 k:K<=100
 nc:∀ k,k<K->∀ p ∈ (Ji T.t0 T.t1 k (Jk l)).left,Cx p.1=false
theorem Yhd (T:Yc)(l:List Gq)(lv:Value)(w:World)(hl:PrS w lv l)(hn:l.length<=64)(K:Nat)(hO:OrN T l K):Calls Tryz.prog 57 #[.agg #[.int .i64 T.r,.int .i64 T.sp,.int .i64 T.lk,.int .i64 T.t0,.int .i64 T.t1,.slice T.pa T.ag.length T.ca,.slice T.pr T.rs.length T.cr,.slice T.ps T.ss.length T.cs,.int .i64 T.al,.int .i64 T.sh,.int .i64 T.br,.bool T.pairs],lv] w fun e w'=>∃ v k,e=.returned v∧(Ji T.t0 T.t1 k (Jk l)).left=[]∧w'.ownsRow w.heap.size 36 4 v (Ji T.t0 T.t1 k (Jk l)).made.length (Kq (Ji T.t0 T.t1 k (Jk l)).made)∧Below w.heap.size w w':=by
 obtain⟨ti,hti,hty0,hty1,hty2⟩:=Gy Tryz.infoPr;obtain⟨lp,lc,rfl,-⟩:=hl.shape;have HMM:∀ V,(Instr.makeMap 38 none).run Tryz.prog V=.ok (.map (some V.heap.size)) (V.alloc (.map #[] 0)):=fun V=>rfl;obtain⟨r0,r1,r2,hz0,hb0⟩:=Zsx w (.cells #[.int .i64 T.r,.int .i64 T.sp,.int .i64 T.lk,.int .i64 T.t0,.int .i64 T.t1,.slice T.pa T.ag.length T.ca,.slice T.pr T.rs.length T.cr,.slice T.ps T.ss.length T.cs,.int .i64 T.al,.int .i64 T.sh,.int .i64 T.br,.bool T.pairs] 25 (0,0)) (.map #[] 0) (.cells #[.int .i64 T.r,.int .i64 T.sp,.int .i64 T.lk,.int .i64 T.t0,.int .i64 T.t1,.slice T.pa T.ag.length T.ca,.slice T.pr T.rs.length T.cr,.slice T.ps T.ss.length T.cs,.int .i64 T.al,.int .i64 T.sh,.int .i64 T.br,.bool T.pairs,.slice none 0 0,.map (some (w.heap.size+1)),.slice none 0 0] 213 (0,0));have HS0:=O (show Uk _ w.heap.size (w.heap.size+1+1) (w.heap.size+1) T (.slice none 0 0) (.slice none 0 0) ⟨Ny l 0,Nh (Ny l 0),[]⟩ (64+0) from⟨r2,World.ownsRow_nil _ _ _ _,World.ownsRow_nil _ _ _ _,fun g h=>(by cases h),⟨_,[],r1,MpO.new,fun q=>rfl⟩,fun q=>(show -((64+0:Nat):Int)<=0∧(0:Int)<=((64+0:Nat):Int) by omega),Nat.zero_le _,Nat.zero_le _,by omega,by omega⟩);have HB0:=O hb0;have HL:=O hl;have HO:=O hO;clear hl hO r0 r1 r2 hb0 hz0;go_enter Tryz.func57,Tryz.ntmps57
 go_wp2_with fail
 clear HMM;generalize World.alloc (World.alloc (World.alloc w _) _) _=W at HS0 HB0 ⊢;generalize w.heap.size+1+1=b at HS0 ⊢;generalize w.heap.size+1=mr at HS0 ⊢;go_loopw [14] (fun j w'=>∃(k:Nat) (lv':Value),j=.int .i64 k∧k<=l.length∧Uk w' w.heap.size b mr T lv' (.slice none 0 0) ⟨Ny l k,Nh (Ny l k),[]⟩ (64+k)∧Below w.heap.size w w') (fun j _=>l.length-(intOf j).toNat)
 case atStart=>exact⟨0,_,rfl,by omega,J HS0,J HB0⟩
 case round =>
  obtain⟨k,lv',rfl,hk,hW,hb⟩:=hrel;obtain⟨qp,qc,rfl⟩:=Zv hW.lo;have HW:=O hW;have HB:=O hb;clear hW hb;by_cases hlt:k<l.length
  ·obtain⟨sb,so,rfl,hsb,c0,c1,c2,c3⟩:=(J HL).at hlt;have d0:=((J HB).cell (p:=⟨sb,so+k*4,none⟩) hsb).trans c0;have d1:=((J HB).cell (p:=⟨sb,so+k*4+1,none⟩) hsb).trans c1;have d2:=((J HB).cell (p:=⟨sb,so+k*4+2,none⟩) hsb).trans c2;have d3:=((J HB).cell (p:=⟨sb,so+k*4+3,none⟩) hsb).trans c3;have hl64:(Ny l k).length<64:=by have:=Yaz l k; omega
   have HNX:=O (Zvx hlt);generalize l.getD k Ru=p at d0 d1 d2 d3 HNX;have hal:=al0 wr (.cells #[.int .i64 p.1.1,.int .i64 p.1.2,.int .i64 p.2.1,.int .i64 p.2.2] 36 (0,0));have HAL:=O hal;clear c0 c1 c2 c3 hal;go_upto_region 5 with fail
   clear d0 d1 d2 d3;have HP1:=O (J HAL).1;have HW1:=O ((J HW).below (J HAL).2.1);have HB1:=O (show Below w.heap.size w _ from Zc (J HB) (J HAL).2.1 (J HB).size);clear HAL;generalize World.alloc wr _=W1 at HP1 HW1 HB1 ⊢;obtain⟨e0,e1,e2,e3⟩:=cT4 (J HP1);have HCL:=O (show Uk W1 w.heap.size b mr T (.slice qp (Ny l k).length qc) (.slice none 0 0) ⟨Ny l k,Nh (Ny l k),[]⟩ (64+k) from J HW1);by_cases hpe:p.1=p.2
   ·have HN2:=O (show Ny l (k+1)=Ny l k by rw [J HNX,if_pos hpe,List.append_nil]);rw [← hpe] at e2 e3;clear hpe;go_wp2;go_roundw
    case rel=>exact⟨k+1,_,by go_num,by omega,by rw [J HN2]; exact(J HCL).more (by omega),J HB1⟩
    case measure=>simp [intOf]; omega
   ·have HN2:=O (show Ny l (k+1)=Ny l k++[p] by rw [J HNX,if_neg hpe]);have hor:¬ p.1.1=p.2.1∨(p.1.1=p.2.1∧¬ p.1.2=p.2.2):=by
     by_cases h1:p.1.1=p.2.1
     ·exact Or.inr ⟨h1,fun h2=>hpe (Prod.ext h1 h2)⟩
     ·exact Or.inl h1
    clear hpe;rcases hor with h1 | ⟨h0,h1⟩;case' inr=>rw [← h0] at e2;clear h0
    all_goals
     go_upto_region 6 with fail
     clear e0 e1 e2 e3 h1;have HNP:=O (show Value.ownBlock (.slice qp (Ny l k).length qc)≠some wr.heap.size from fun e=>by have:=((J HW).lo.lt _ e).2; omega);have hbw:=(J HW).lt;have HC:=O (show(fun V:World=>V.cell? ⟨b,12,none⟩=some (Value.slice qp (Ny l k).length qc)∧V.cell? ⟨wr.heap.size,0,none⟩=some (.int .i64 p.1.1)∧V.cell? ⟨wr.heap.size,1,none⟩=some (.int .i64 p.1.2)∧V.cell? ⟨wr.heap.size,2,none⟩=some (.int .i64 p.2.1)∧V.cell? ⟨wr.heap.size,3,none⟩=some (.int .i64 p.2.2)) W1.drew from⟨(cR (J HW1).row 12),(cR (J HP1) 0),(cR (J HP1) 1),(cR (J HP1) 2),(cR (J HP1) 3)⟩);have HCN:=O (show ∀ V:World,(∀ g,g<W1.heap.size->g≠b->(Value.slice qp (Ny l k).length qc).ownBlock≠some g->V.heap[g]?=W1.heap[g]?)->V.cell? ⟨b,12,none⟩=some (Value.slice qp (Ny l k).length qc)->(fun V:World=>V.cell? ⟨b,12,none⟩=some (Value.slice qp (Ny l k).length qc)∧V.cell? ⟨wr.heap.size,0,none⟩=some (.int .i64 p.1.1)∧V.cell? ⟨wr.heap.size,1,none⟩=some (.int .i64 p.1.2)∧V.cell? ⟨wr.heap.size,2,none⟩=some (.int .i64 p.2.1)∧V.cell? ⟨wr.heap.size,3,none⟩=some (.int .i64 p.2.2)) V from fun V hk hc=>⟨hc,(cR ((hk wr.heap.size (Zi (J HP1)) (by omega) (J HNP)).trans (J HP1)) 0),(cR ((hk wr.heap.size (Zi (J HP1)) (by omega) (J HNP)).trans (J HP1)) 1),(cR ((hk wr.heap.size (Zi (J HP1)) (by omega) (J HNP)).trans (J HP1)) 2),(cR ((hk wr.heap.size (Zi (J HP1)) (by omega) (J HNP)).trans (J HP1)) 3)⟩);refine Xb (C:=fun V:World=>V.cell? ⟨b,12,none⟩=some (Value.slice qp (Ny l k).length qc)∧V.cell? ⟨wr.heap.size,0,none⟩=some (.int .i64 p.1.1)∧V.cell? ⟨wr.heap.size,1,none⟩=some (.int .i64 p.1.2)∧V.cell? ⟨wr.heap.size,2,none⟩=some (.int .i64 p.2.1)∧V.cell? ⟨wr.heap.size,3,none⟩=some (.int .i64 p.2.2)) (d:=10) (by kernel_rfl) ?_
     refine vD 0 (J HC) ?_;refine vD 1 (J HC) ?_;refine vD 2 (J HC) ?_;refine vD 3 (J HC) ?_;refine vD 4 (J HC) ?_;refine vD 5 (J HC) ?_;refine vO 6 fun K hK=>?_;go_simp;obtain⟨r2,hb2,hz2⟩:=al0 W1 (.cells #[.int .i64 p.1.1,.int .i64 p.1.2,.int .i64 p.2.1,.int .i64 p.2.2] 36 (0,0));have HB2:=O (show Below W1.heap.size W1 (W1.alloc (.cells #[.int .i64 p.1.1,.int .i64 p.1.2,.int .i64 p.2.1,.int .i64 p.2.2] 36 (0,0))).drew from⟨hb2.os,hb2.tape,hb2.output,hb2.size,hb2.block⟩);have HS2:=O ((J HW1).below (J HB2));have HR2:=O (show(W1.alloc (.cells #[.int .i64 p.1.1,.int .i64 p.1.2,.int .i64 p.2.1,.int .i64 p.2.2] 36 (0,0))).drew.heap[W1.heap.size]?=_ from r2);clear r2 hb2 hz2;generalize World.drew (World.alloc W1 _)=V2 at HB2 HS2 HR2 ⊢;refine kO hK (fun _=>J HCN V2 (fun g hg _ _=>(J HB2).block g hg) (Zl (J HS2).row 12)) ?_;clear hK K;refine vO 7 fun K hK=>?_;refine Iq rfl (.tmp 27) (.tmp 29) 26 rfl w.heap.size 36 ti _ 4 32 Tryz.underlying26 hti hty0 hty1 hty2 rfl (by decide) (Value.slice qp (Ny l k).length qc) (Ny l k).length (Kq (Ny l k)) (by simp [Act.eval]) (J HS2).lo ⟨W1.heap.size,0,none⟩ 1 1 (prL p) (by simp [Act.eval]) rfl (Zvs (J HR2)) (by intro u hu; simp [prL] at hu; rcases hu with rfl | rfl | rfl | rfl <;> rfl) (by unfold maxLen; have:=(J HS2).ml; have:=(J HS2).ll; omega) (by have:=(J HS2).ml; have:=(J HS2).ll; omega) (by have:=(J HB2).size; have:=(J HW1).hb; have:=(J HW1).lt.1; omega) ?_;intro v7 w7 hown7 hgr7 hblk7;obtain⟨hr7,hS7⟩:=(J HS2).lefA hgr7 hown7 hblk7 hl64
     obtain⟨p7,q7,rfl⟩:=Zv hown7;have HK7:=O (show(∀ g,g<W1.heap.size->(Value.slice qp (Ny l k).length qc).ownBlock≠some g->w7.heap[g]?=W1.heap[g]?)∧w7.os=W1.os∧w7.tape=W1.tape∧w7.output=W1.output∧W1.heap.size<=w7.heap.size∧(∀ g,Value.ownBlock (.slice p7 ((Ny l k).length+1) q7)=some g->(Value.slice qp (Ny l k).length qc).ownBlock=some g∨W1.heap.size<=g) from⟨fun g hg hn=>(hgr7.block g (by have:=(J HB2).size; omega) (fun e=>hn e.symm)).trans ((J HB2).block g hg),hgr7.os.trans (J HB2).os,hgr7.tape.trans (J HB2).tape,hgr7.output.trans (J HB2).output,by have:=hgr7.size; have:=(J HB2).size; omega,fun g hg=>(hblk7 g hg).imp id (fun h=>by have:=(J HB2).size; omega)⟩);have c14:=cR hr7 12;have z14:w7.frozen? ⟨b,12,none⟩=false:=frozen_of_row _ _ 12 _ _ hr7;have HS7:=O hS7;clear hown7 hgr7 hblk7 hr7 hS7;refine kO hK (fun _=>J HCN w7 (fun g hg _ hn=>(J HK7).1 g hg hn) c14) ?_;clear hK K;refine vO 8 fun K hK=>?_;go_simp;refine kO hK (fun _=>J HCN w7 (fun g hg _ hn=>(J HK7).1 g hg hn) c14) ?_;clear hK K;refine vO 9 fun K hK=>?_;go_simp;refine kO hK (fun _=>J HCN w7 (fun g hg _ hn=>(J HK7).1 g hg hn) c14) ?_;clear hK K;refine vO 10 fun K hK=>?_;go_simp;refine kO hK (fun h=>(by cases h)) ?_;clear hK K;refine Jn (by kernel_rfl) ?_ _;have hkk:=Zmq (j:=12) (u:=.slice p7 ((Ny l k).length+1) q7) (Zdt (b:=b) (o:=Value.ownBlock (.slice qp (Ny l k).length qc)) (Below.refl W1.heap.size W1)) (show ApK W1 w7 _ (.slice p7 ((Ny l k).length+1) q7) from J HK7) (fun g h=>Or.inl h)
     have HLW:=O (Zms (J HB1) hkk.1 (J HW).hb (fun g e=>((J HW).lo.lt g e).1) (J HB1).size);have HP7:=O (((J HK7).1 wr.heap.size (Zi (J HP1)) (J HNP)).trans (J HP1));have HP8:=O (show(w7.setCell ⟨b,12,none⟩ (.slice p7 ((Ny l k).length+1) q7)).heap[wr.heap.size]?=_ from(heap_setCell_other _ _ _ _ (show wr.heap.size≠b by omega)).trans (J HP7));clear hkk HK7 HP7 HP1 HB1 c14 z14 HC HCN HB2 HS2 HR2 HNP HCL HW1;generalize World.setCell w7 _ _=W8 at HS7 HLW HP8 ⊢;generalize Value.slice p7 ((Ny l k).length+1) q7=v8 at HS7 ⊢;have hcq:Nh (Ny l k) p.2<=64:=by have h1:=List.length_filter_le (fun r:Gq=>decide (r.2=p.2)) (Ny l k);unfold Nh;omega
     have hcq0:=Yez (Ny l k) p.2;go_upto_region 7 with fail
     obtain⟨om,mm,hm1,hm2,hm3⟩:=(J HS7).mp;have hmr:=(J HS7).lt.2;have hlk:∀ V:World,V.heap[mr]?=some om->(Instr.lookup 38 (.map (some mr)) (.agg #[.int .i64 p.2.1,.int .i64 p.2.2]) false).run Tryz.prog V=.ok (.int .i64 (Nh (Ny l k) p.2)) V:=fun V hV=>by have:=Ly hV hm2 (p.2.1,p.2.2); rw [hm3] at this; exact this
     obtain⟨ve,sn,V4,o1,he1,hs4,⟨m1,hm4,hm5⟩,he2⟩:=Iz (w:=W8.drew) (show W8.heap[mr]?=some om from hm1) hm2 (p.2.1,p.2.2);have hlk2:∀ V:World,V.heap[mr]?=some o1->(Instr.lookup 38 (.map (some mr)) (.agg #[.int .i64 p.2.1,.int .i64 p.2.2]) false).run Tryz.prog V=.ok (.int .i64 (Nh (Ny l k) p.2)) V:=fun V hV=>by have:=Ly hV hm4 (p.2.1,p.2.2); rw [hm5,hm3] at this; exact this
     have hbm:b≠mr:=fun e=>by
      obtain⟨es,ck,rfl,-⟩:=hm2;rw [← e,(J HS7).row] at hm1;injection hm1 with hm1;cases hm1
     have hqm:wr.heap.size≠mr:=fun e=>by
      obtain⟨es,ck,rfl,-⟩:=hm2;rw [← e,J HP8] at hm1;injection hm1 with hm1;cases hm1
     have hbd:=(J HS7).bd p.2;simp only at hbd;have HWR:=O (show IntKind.i64.wrap (Nh (Ny l k) p.2+1)=Nh (Ny l k) p.2+1 from IntKind.wrap_of_boundsK (by omega) (by omega));have HC:=O (show(fun V:World=>V.cell? ⟨b,13,none⟩=some (.map (some mr))∧V.cell? ⟨wr.heap.size,2,none⟩=some (.int .i64 p.2.1)∧V.cell? ⟨wr.heap.size,3,none⟩=some (.int .i64 p.2.2)∧(Instr.lookup 38 (.map (some mr)) (.agg #[.int .i64 p.2.1,.int .i64 p.2.2]) false).run Tryz.prog V=.ok (.int .i64 (Nh (Ny l k) p.2)) V) W8.drew from⟨(cR (J HS7).row 13),(cR (J HP8) 2),(cR (J HP8) 3),hlk _ hm1⟩);have HC2:=O (show ∀ V:World,(∀ g,g≠mr->V.heap[g]?=W8.heap[g]?)->V.heap[mr]?=some o1->(fun V:World=>V.cell? ⟨b,13,none⟩=some (.map (some mr))∧V.cell? ⟨wr.heap.size,2,none⟩=some (.int .i64 p.2.1)∧V.cell? ⟨wr.heap.size,3,none⟩=some (.int .i64 p.2.2)∧(Instr.lookup 38 (.map (some mr)) (.agg #[.int .i64 p.2.1,.int .i64 p.2.2]) false).run Tryz.prog V=.ok (.int .i64 (Nh (Ny l k) p.2)) V) V from fun V h1 h2=>⟨(cR ((h1 b hbm).trans (J HS7).row) 13),(cR ((h1 _ hqm).trans (J HP8)) 2),(cR ((h1 _ hqm).trans (J HP8)) 3),hlk2 V h2⟩);have HA4:=O (show(∀ g,g≠mr->V4.heap[g]?=W8.heap[g]?)∧V4.heap[mr]?=some o1∧V4.os=W8.os∧V4.tape=W8.tape∧V4.output=W8.output∧V4.heap.size=W8.heap.size from⟨hs4.2.1,hs4.1,hs4.2.2.1,hs4.2.2.2.1,hs4.2.2.2.2.1,hs4.2.2.2.2.2⟩);have HE2:=O he2;have HM3:=O hm3;clear hlk hlk2 hs4 hm1 hm2 hm3 hm4 hm5 he2 hbm hqm
     refine Xb (C:=fun V:World=>V.cell? ⟨b,13,none⟩=some (.map (some mr))∧V.cell? ⟨wr.heap.size,2,none⟩=some (.int .i64 p.2.1)∧V.cell? ⟨wr.heap.size,3,none⟩=some (.int .i64 p.2.2)∧(Instr.lookup 38 (.map (some mr)) (.agg #[.int .i64 p.2.1,.int .i64 p.2.2]) false).run Tryz.prog V=.ok (.int .i64 (Nh (Ny l k) p.2)) V) (d:=10) (by kernel_rfl) ?_;refine vD 0 (J HC) ?_;refine vD 1 (J HC) ?_;refine vD 2 (J HC) ?_;refine vD 3 (J HC) ?_;refine vD 4 (J HC) ?_;refine vD 5 (J HC) ?_;refine vD 6 (J HC) ?_;refine vD 7 (J HC) ?_;refine vO 8 fun K hK=>?_;go_simp;clear he1;refine kO hK (fun _=>J HC2 V4 (J HA4).1 (J HA4).2.1) ?_;clear hK K;refine vO 9 fun K hK=>?_;go_simp;refine kO hK (fun _=>J HC2 V4 (J HA4).1 (J HA4).2.1) ?_;clear hK K;obtain⟨V5,o2,he3,hs5,hm6⟩:=J HE2 V4 (IntKind.i64.wrap (Nh (Ny l k) p.2+1)) (J HA4).2.1;rw [J HWR] at hm6;have HM6:=O hm6;have HS5:=O hs5;clear hm6 hs5;refine vO 10 fun K hK=>?_;go_simp;clear he3;have HA5:=O (show(∀ g,g≠mr->V5.heap[g]?=W8.heap[g]?)∧V5.heap[mr]?=some o2∧V5.os=W8.os∧V5.tape=W8.tape∧V5.output=W8.output∧V5.heap.size=W8.heap.size by have hs:=J HS5;exact⟨fun g hg=>(hs.2.1 g hg).trans ((J HA4).1 g hg),hs.1,hs.2.2.1.trans (J HA4).2.2.1,hs.2.2.2.1.trans (J HA4).2.2.2.1,hs.2.2.2.2.1.trans (J HA4).2.2.2.2.1,hs.2.2.2.2.2.trans (J HA4).2.2.2.2.2⟩)
     refine kO hK (fun h=>(by cases h)) ?_;clear hK K;refine Jn (by kernel_rfl) ?_ _;clear HC HC2 HE2 HA4 HS5;have HX:=O (show Uk V5 w.heap.size b mr T v8 (.slice none 0 0) ⟨Ny l (k+1),Nh (Ny l (k+1)),[]⟩ (64+(k+1))∧Below w.heap.size w V5 from by
      have hA:=J HA5;refine⟨?_,?_⟩
      ·rw [J HN2,Zvy];exact(J HS7).map (V:=V5) hA.1 hA.2.1 (J HM6) (rd:=Ng (Nh (Ny l k)) p.2 1) (fun r=>by
        rw [Np];unfold Ng;by_cases hr:r=p.2
        ·rw [if_pos hr,if_pos hr,hr]
        ·rw [if_neg hr,if_neg hr]; exact J HM3 r) (fun r=>by simp only; unfold Ng; split <;> omega)
      ·have h:=J HLW;exact⟨hA.2.2.1.trans h.os,hA.2.2.2.1.trans h.tape,hA.2.2.2.2.1.trans h.output,by rw [hA.2.2.2.2.2]; exact h.size,fun r hr=>(hA.1 r (fun e=>by have:=(J HW).hm; omega)).trans (h.block r hr)⟩)
     clear HA5 HM6 HM3;go_wp2;go_roundw
     case rel=>exact⟨k+1,_,by go_num,by omega,(J HX).1,(J HX).2⟩
     case measure=>simp [intOf]; omega
  ·obtain rfl:k=l.length:=by omega
   have hst:(⟨Ny l l.length,Nh (Ny l l.length),[]⟩:Ce)=Jk l:=by unfold Ny Jk; rw [List.take_length]
   have HW2:=HW;rw [hst] at HW2;have HRN:=O (Yew wr w.heap.size b mr T _ _ (Jk l) (64+l.length) K (J HO).en (J HO).k (J HO).nc (J HW2) (by omega));clear hst HW2;go_wp2_with fail
   refine(J HRN).mono ?_;rintro e w5 ⟨⟨v5,rfl⟩,⟨k5,lv5,mv5,h1,h3⟩,hb5⟩;obtain⟨mp5,mc5,rfl⟩:=Zv h3.mo;have c14:=cR h3.row 14;have HF:=O (show(Ji T.t0 T.t1 k5 (Jk l)).left=[]∧w5.ownsRow w.heap.size 36 4 (.slice mp5 (Ji T.t0 T.t1 k5 (Jk l)).made.length mc5) (Ji T.t0 T.t1 k5 (Jk l)).made.length (Kq (Ji T.t0 T.t1 k5 (Jk l)).made)∧Below w.heap.size w w5 from⟨h1,h3.mo,(J HB).trans hb5⟩);clear h1 h3 hb5 HRN;go_wp2;go_returns;exact⟨_,k5,rfl,J HF⟩
end Go.Proofs.YtkenknfgeoecbaaGreatDoor
