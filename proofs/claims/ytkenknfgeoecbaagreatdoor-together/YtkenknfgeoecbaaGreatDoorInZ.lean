import Derived.Test.YtkenknfgeoecbaaGreatDoorJ29
namespace Go.Proofs.YtkenknfgeoecbaaGreatDoor
open Go.RowKit
set_option maxHeartbeats 4000000
set_option maxRecDepth 100000
def On:Dx->Int
 | .inl (_,_,_,_)=>1
 | .inr (.inl (_,_,_,_))=>2
 | .inr (.inr (_,_))=>3
def Kb:Dx->List Int
 | .inl (l,_,_,_)=>l
 | .inr (.inl (c,_,_,_))=>[c]
 | .inr (.inr (_,_))=>[]
def Uo:Dx->List (Int×List Int)
 | .inl (_,_,_,tr)=>tr
 | .inr (.inl (_,_,_,tr))=>tr
 | .inr (.inr (_,tr))=>tr
def Mc (fuel:Nat):Dx->Nat
 | .inl (_,m,_,_)=>fuel-m
 | .inr (.inl (_,m,_,_))=>fuel-m
 | .inr (.inr (_,_))=>fuel
theorem Zyx {P:Zj}{x:Ol}{R st:List Ol}{sc sc':List Int}{tr tr':List (Int×List Int)}(h:stp P x R sc tr=.go st sc' tr'):st.length<=R.length+2∧tr'.length<=tr.length+1:=by
 unfold stp at h;split at h
 ·obtain⟨h1,-,h3⟩:=Kx.go_inj h; subst h1 h3; simp
 split at h
 ·obtain⟨h1,-,h3⟩:=Kx.go_inj h; subst h1 h3; simp
 split at h
 ·cases R with
  | nil=>cases h
  | cons c R=>obtain⟨h1,-,h3⟩:=Kx.go_inj h; subst h1 h3; simp
 split at h
 ·obtain⟨h1,-,h3⟩:=Kx.go_inj h; subst h1 h3; simp
 split at h
 ·cases h
 ·obtain⟨h1,-,h3⟩:=Kx.go_inj h; subst h1 h3; simp
theorem Zyy {P:Zj}{x:Ol}{R st:List Ol}{sc sc':List Int}{tr tr':List (Int×List Int)}(hG:Mb P)(hwf:WfS P (x :: R))(hR:R=[])(h:stp P x R sc tr=.go st sc' tr'):∃ y,st=[y]:=by
 have hon:=((WfS.top hwf).insG hG).on;subst hR;unfold stp at h;rw [if_neg (by omega),if_neg (by omega)] at h;split at h
 ·cases h
 rw [if_neg (by omega),if_neg (by omega)] at h;obtain⟨h1,-,-⟩:=Kx.go_inj h;exact⟨_,h1.symm⟩
def GoI (P:Zj)(w0 w':World)(rb b:Nat)(fv:Value)(fuel n:Nat)(r:Dx):Prop :=
 ∃(f:FrR) (R:List FrR) (sp:Option Addr) (scc:Nat) (sc:List Int) (frv tv:Value) (tr:List (Int×List Int)) (es:List Value),Ij w' rb fv (.slice sp sc.length scc) frv 0 (.slice none 0 0) tv n∧LiU w0 (.slice sp sc.length scc) sc∧Gj w0 w' rb b (f :: R) frv tv tr es∧WfS P ((f :: R).map (·.x))∧(∀ n ∈ sc,0<=n∧n<18446744073709551616)∧r=ev P (fuel-n) ((f :: R).map (·.x)) sc tr∧R.length<=n∧tr.length<=n∧R=[]
theorem Zue {P:Zj}{w0 w':World}{rb b:Nat}{fv:Value}{fuel n:Nat}{r:Dx}{x:Ol}{R:List Ol}{sc:List Int}{tr:List (Int×List Int)}(hG:Mb P)(hwf:WfS P (x :: R))(hsc:∀ n ∈ sc,0<=n∧n<18446744073709551616)(hr:r=ev P (fuel-n) (x :: R) sc tr)(hn:n<fuel)(hR:R.length<=n)(ht:tr.length<=n)(hR0:R=[])(h:Yde w0 w' rb b fv ((n:Int)+1) (stp P x R sc tr)) :
 GoI P w0 w' rb b fv fuel (n+1) r∨((On r=1∨On r=2)∧Zqy w' rb b fv (Mc fuel r) (On r) (Kb r) (Uo r)):=by
 have hf:fuel-n=(fuel-(n+1))+1:=by omega
 rw [hf,Yda] at hr;cases hs:stp P x R sc tr using Kx.el with
 | go st sc' tr' =>
  rw [hs] at hr h;obtain⟨hw,hs'⟩:=Ydc hG hwf hsc tr hs;have hl:=Zyx hs;obtain⟨st,sp,scc,frv,tv,es,rfl,h1,h2,h3⟩:=h;left
  cases st with
  | nil=>exact hw.elim
  | cons f R'=>exact⟨f,R',sp,scc,sc',frv,tv,tr',es,h1,h2,h3,hw,hs',hr,by simp at hl; omega,by omega,by obtain⟨y,hy⟩:=Zyy hG hwf hR0 hs; rw [List.map_cons] at hy; injection hy with _ hy; exact List.map_eq_nil_iff.1 hy⟩
 | done l sc' tr' =>
  rw [hs] at hr h;right
  subst hr;refine⟨Or.inl rfl,?_⟩;have:(Mc fuel (Kx.run P (fuel-(n+1)) (.done l sc' tr')):Int)=(n:Int)+1:=by simp [Kx.run,Mc]; omega
  rw [this];exact h
 | trap c sc' tr' =>
  rw [hs] at hr h;right
  subst hr;refine⟨Or.inr rfl,?_⟩;have:(Mc fuel (Kx.run P (fuel-(n+1)) (.trap c sc' tr')):Int)=(n:Int)+1:=by simp [Kx.run,Mc]; omega
  rw [this];exact h
theorem Gj.set {w0 V:World}{rb b:Nat}{st:List FrR}{frv tv:Value}{tr:List (Int×List Int)}{es:List Value}(h:Gj w0 V rb b st frv tv tr es)(hrow:∃ cs,V.heap[rb]?=some (.cells cs 202 (0,0)))(j:Nat)(v:Value):Gj w0 (V.setCell ⟨rb,j,none⟩ v) rb b st frv tv tr es:=h.own hrow ⟨rfl,rfl,rfl,by simp,fun q hq=>heap_setCell_other _ _ _ _ hq⟩
theorem Zck {b rb:Nat}(w:World)(j:Nat)(v:Value)(h:b<=rb):Below b w (w.setCell ⟨rb,j,none⟩ v):=⟨rfl,rfl,rfl,by simp,fun q hq=>heap_setCell_other _ _ _ _ (by show q≠rb; omega)⟩
theorem Zyz (P:Zj)(w0 w:World)(rb b fb fo fc fuel:Nat)(A:Nat->Array Value)(r:Dx)(hG:Mb P)(hPg:PgI w0 P fb fo A)(hfu:fuel<=20000)(h:GoI P w0 w rb b (.slice (some ⟨fb,fo,none⟩) P.funcs.length fc) fuel 0 r)(hbrb:b<=rb) :
 Calls Tryz.prog 87 #[.pointer (some ⟨rb,0,none⟩),.int .i64 (fuel:Int)] w fun e w'=>(∃ v,e=.returned v)∧Zqy w' rb b (.slice (some ⟨fb,fo,none⟩) P.funcs.length fc) (Mc fuel r) (On r) (Kb r) (Uo r)∧Below b w w':=by
 have HG:=Za hG;have HPG:=Za hPg;have H0:=Za h;clear hG hPg h;go_enter Tryz.func87,Tryz.ntmps87
 go_wp2_with fail
 go_loopg [] (fuel+1) (fun k w'=>Below b w w'∧((∃ n:Nat,k=fuel-n+1∧n<=fuel∧GoI P w0 w' rb b (.slice (some ⟨fb,fo,none⟩) P.funcs.length fc) fuel n r)∨(k=0∧(On r=1∨On r=2)∧Zqy w' rb b (.slice (some ⟨fb,fo,none⟩) P.funcs.length fc) (Mc fuel r) (On r) (Kb r) (Uo r))))
 case atStart=>exact⟨Below.refl _ _,Or.inl ⟨0,by omega,by omega,J H0⟩⟩
 case round =>
  obtain⟨hB,hrel⟩:=hrel;have HB:=Za hB;clear hB;rcases hrel with⟨n,hk,hn,f,R,sp,scc,sc,frv,tv,tr,es,hrow,hL,hS,hwf,hsr,hr,hRl,htl,hR0⟩ | ⟨hk,hkd,he⟩
  ·have c3:=cR hrow 3;have c7:=cR hrow 7;have z7:=frozen_of_row _ _ 7 _ _ hrow;have z3:=frozen_of_row _ _ 3 _ _ hrow;have HK:=Za hk;have HR:=Za hr;have HR0:=Za hR0;clear hk hr hR0;by_cases hnf:n<fuel
   ·have h1:Ij (wr.setCell ⟨rb,7,none⟩ (.int .i64 ((n:Int)+1))) rb (.slice (some ⟨fb,fo,none⟩) P.funcs.length fc) (.slice sp sc.length scc) frv 0 (.slice none 0 0) tv ((n:Int)+1):=heap_setCell_same _ _ 7 _ _ _ hrow;have hS1:=hS.set ⟨_,hrow⟩ 7 (.int .i64 ((n:Int)+1));have hB1:=(J HB).trans (Zck wr 7 (.int .i64 ((n:Int)+1)) hbrb);obtain⟨g,gc,rfl⟩:=Zex hS1.fr;have HROW1:=Za h1;have HS1:=Za hS1;have HB1:=Za hB1;have HL:=Za hL;have HWF:=Za hwf;have HSR:=Za hsr;have hnI:(n:Int)<(fuel:Int):=by omega
    clear hrow hS hL hwf hsr h1 hS1 hB1;go_upto_region 2 with fail
    clear c3 c7 z7 z3;generalize World.setCell wr _ _=U at HROW1 HS1 HB1 ⊢;obtain⟨m,hm⟩:∃ m,m=R.length:=⟨_,rfl⟩;have HM:=Za hm;have c2:U.cell? ⟨rb,2,none⟩=some (.slice (some ⟨g,0,none⟩) (m+1) gc):=by rw [hm]; exact(cR (J HROW1) 2)
    have cp:U.cell? ⟨g,m,none⟩=some (.pointer (some ⟨f.q,0,none⟩)):=by
     obtain⟨g',e,-,hc⟩:=Zis (J HS1).fr (k:=m) (by rw [hm]; simp);injection e with e;injection e with e;subst e;rw [hc];have h2:Km (f :: R)=Km R++[.pointer (some ⟨f.q,0,none⟩)]:=by simp [Km]
     rw [h2,hm,List.getElem?_append_right (by simp [Km])];simp [Km]
    have d2:U.drew.cell? ⟨rb,2,none⟩=some (.slice (some ⟨g,0,none⟩) (m+1) gc):=c2;have dp:U.drew.cell? ⟨g,m,none⟩=some (.pointer (some ⟨f.q,0,none⟩)):=cp;have hmi:IntKind.i64.wrap (m:Int)=(m:Int):=IntKind.wrap_of_boundsK (by omega) (by omega);have hm0:(0:Int)<=(m:Int):=by omega
    have hm1:(m:Int)<(m:Int)+1:=by omega
    have hml:m<=100000:=by omega
    have HST:=Za (Ydf (w:=U.drew) (J HR0) (J HG) (J HPG) (J HWF) ((J HS1).grow (Below.refl _ _).drew) (J HROW1) (J HL) (by omega) (by omega));have HRL:=Za hRl;have HTL:=Za htl;clear hm hRl htl;go_region_with (go_at_call 127; refine(J HST).mono ?_; rintro e w5 ⟨⟨v5,rfl⟩,hA5,hB5⟩; have HA5:=Za hA5; have HB5:=Za hB5; clear hA5 hB5)
    all_goals
     clear c2 cp d2 dp;go_wp2;have hn':=Zue (J HG) (J HWF) (J HSR) (J HR) hnf (by simpa using J HRL) (J HTL) (by rw [J HR0]; rfl) (J HA5);have hB6:Below b w w5:=(J HB1).trans ⟨(J HB5).os,(J HB5).tape,(J HB5).output,(J HB5).size,(J HB5).block⟩;rcases hn' with hgo | ⟨hkd,hend⟩
     ·go_roundg (fuel-(n+1)+1)
      case measure=>rw [J HK]; omega
      case rel=>exact⟨hB6,Or.inl ⟨n+1,rfl,by omega,hgo⟩⟩
     ·go_roundg 0
      case measure=>rw [J HK]; omega
      case rel=>exact⟨hB6,Or.inr ⟨rfl,hkd,hend⟩⟩
   ·have hnn:n=fuel:=by omega
    subst hnn;have h1:Ij (wr.setCell ⟨rb,3,none⟩ (.int .i64 3)) rb (.slice (some ⟨fb,fo,none⟩) P.funcs.length fc) (.slice sp sc.length scc) frv 3 (.slice none 0 0) tv (n:Int):=heap_setCell_same _ _ 3 _ _ _ hrow;have hS1:=hS.set ⟨_,hrow⟩ 3 (.int .i64 3);have hB1:=(J HB).trans (Zck wr 3 (.int .i64 3) hbrb);obtain⟨tp,tc,rfl⟩:=Js hS.tr.row;have HROW1:=Za h1;have HS1:=Za hS1;have HB1:=Za hB1;clear hrow hS hL hwf hsr h1 hS1 hB1 hnf;go_wp2;go_returns;refine⟨⟨_,rfl⟩,?_,J HB1⟩;have hr:=J HR;rw [Nat.sub_self] at hr;have hr2:r=.spent sc tr:=by rw [hr]; rfl
    rw [hr2];exact⟨_,frv,tp,tc,es,none,0,J HROW1,World.ownsRow_nil _ _ _ _,(J HS1).trE⟩
  ·have hkd0:(On r==0)=false:=by rcases hkd with h | h <;> rw [h] <;> rfl
   obtain⟨scv,frv,tp,tc,es,vp,vc,hrow,hv,ht⟩:=he;have c3:=cR hrow 3;have HE:=Za (show Zqy wr rb b (.slice (some ⟨fb,fo,none⟩) P.funcs.length fc) (Mc fuel r) (On r) (Kb r) (Uo r) from⟨scv,frv,tp,tc,es,vp,vc,hrow,hv,ht⟩);clear hrow hv ht hkd hk;go_wp2;go_returns;exact⟨⟨_,rfl⟩,J HE,J HB⟩
end Go.Proofs.YtkenknfgeoecbaaGreatDoor
