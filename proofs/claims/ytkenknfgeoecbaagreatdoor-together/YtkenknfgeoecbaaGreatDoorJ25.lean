import Derived.Test.YtkenknfgeoecbaaGreatDoorJ21
import Derived.Deep.CutBlock
import Derived.Deep.DeepCutAuto
namespace Go.Proofs.YtkenknfgeoecbaaGreatDoor
open Go.RowKit
set_option maxHeartbeats 4000000
set_option maxRecDepth 100000
theorem Zsk {xs:List Value}{n:Nat}(f:Nat->Int×Int)(hl:xs.length=n*2)(h:∀ j,j<n->xs[j*2]?=some (.int .i64 (f j).1)∧xs[j*2+1]?=some (.int .i64 (f j).2)):xs=plC ((List.range n).map f):=by
 apply List.ext_getElem?
 intro i;have hlen:(plC ((List.range n).map f)).length=n*2:=by rw [Zfp]; simp
 by_cases hi:i<n*2
 ·have hg:=Zns ((List.range n).map f) (i / 2) (by simp; omega);have hd:((List.range n).map f).getD (i / 2) (0,0)=f (i / 2):=by simp [List.getD,show i / 2<n by omega]
  rw [hd] at hg;have hx:=h (i / 2) (by omega);rcases Nat.mod_two_eq_zero_or_one i with hm | hm
  ·have e:i=i / 2*2:=by omega
   rw [e,hx.1,hg.1]
  ·have e:i=i / 2*2+1:=by omega
   rw [e,hx.2,hg.2]
 ·rw [List.getElem?_eq_none (by omega),List.getElem?_eq_none (by omega)]
def Dh (L n:Nat)(u1:Nat)(s:Jq)(k:Nat):Jq:=⟨if rgS L n u1=true then u1+k else L,if rgS L n u1=true then s.c else s.c+8*k,s.p⟩
theorem Zhq {ag:List Int}{n u1:Nat}{s:Jq}{k:Nat}(hk:k<n):plW ag (Dh ag.length n u1 s k)=plS ag (rgS ag.length n u1) u1 s.c k∧nxW ag (Dh ag.length n u1 s k)=Dh ag.length n u1 s (k+1):=by
 unfold plW nxW Dh plS;cases hr:rgS ag.length n u1 with
 | true =>
  have:u1+n<=ag.length:=by unfold rgS at hr; exact of_decide_eq_true hr
  simp only [if_true];rw [if_pos (by omega),if_pos (by omega)];exact⟨rfl,rfl⟩
 | false=>simp only [Bool.false_eq_true,if_false];rw [if_neg (by omega),if_neg (by omega)];refine⟨rfl,?_⟩;simp only [Jq.mk.injEq,true_and,and_true];omega
theorem Tryz.infoPl:(Tryz.prog.info? 34).map (fun i=>(i.zero,i.size,i.bytes))=some (some (.agg #[.int .i64 0,.int .i64 0]),2,16):=by kernel_rfl
theorem Yei (n:Nat)(hn:n<=1000)(w:World):(Instr.makeSlice 45 (.int .i64 (n:Int)) (.int .i64 (n:Int))).run Tryz.prog w=.ok (.slice (some ⟨w.heap.size,0,none⟩) n n) (w.alloc (.cells (madeCells #[.int .i64 0,.int .i64 0] (n*2)) 34)):=by obtain⟨ti,hti,hz0,hz1,hz2⟩:=Ly Tryz.infoPl;have h:=run_make (P:=Tryz.prog) w 45 34 ti _ Tryz.underlying45 hti hz0 .i64 .i64 (n:Int) (n:Int) (by omega) (Int.le_refl _) (by rw [hz2]; omega) (by omega);rw [hz1,Int.toNat_natCast] at h;exact h
theorem Zsl (T:Yh)(s:Jq)(G n:Nat)(w:World)(hG:Yo w G T s)(hT:TbR w G T)(hn1:1<=n)(hn8:n<=8)(hu:s.u<=T.ag.length)(hL:T.ag.length<=1000)(hc0:0<=s.c)(hc1:s.c<=1000) :
 Calls Tryz.prog 148 #[.pointer (some ⟨G,0,none⟩),.int .i64 n] w fun e w'=>∃ v,e=.returned v∧Ki w' w.heap.size v ((List.range n).map (plS T.ag (rgS T.ag.length n (u1S T.pairs n s.u)) (u1S T.pairs n s.u) s.c))∧Yo w' G T (Dh T.ag.length n (u1S T.pairs n s.u) s n)∧w.grownBy w' (some G):=by
 obtain⟨ti,hti,hz0,hz1,hz2⟩:=Ly Tryz.infoPl;have HG:=Za hG;have HT:=Za hT;have hlt:=hG.lt;have hu1:u1S T.pairs n s.u<=s.u+1:=by unfold u1S; split <;> omega
 clear hG hT;go_enter Tryz.func148,Tryz.ntmps148
 go_upto_region 1 with fail
 go_cut [23] from 7 (fun b wc=>wc=w∧b=.bool (decide (1<n)&&(T.pairs&&decide (s.u % 2=1))))
 case first =>
  have y12:=(J HG).k12;have y11:=(J HG).k11;have HN:=Za (True.intro);cases hp:T.pairs with
  | false =>
   rw [hp] at y11;have HPP:=Za hp;clear hp;go_wp2;go_meet
   case rel=>exact⟨rfl,by rw [J HPP]; simp⟩
  | true =>
   rw [hp] at y11;have HPP:=Za hp;clear hp;by_cases h2:2<=n
   ·by_cases h3:s.u % 2=1
    ·have zz:((s.u:Int) % 2==1)=true:=by simp; omega
     have hx:=Za h3;clear h3;go_wp2;go_meet
     case rel=>exact⟨rfl,by rw [J HPP,decide_eq_true (J hx),decide_eq_true (show 1<n by omega)]; rfl⟩
    ·have zz:((s.u:Int) % 2==1)=false:=by simp; omega
     have hx:=Za h3;clear h3;go_wp2;go_meet
     case rel=>exact⟨rfl,by rw [decide_eq_false (J hx)]; simp⟩
   ·go_wp2;go_meet
    case rel=>exact⟨rfl,by rw [decide_eq_false (show ¬ 1<n by omega)]; rfl⟩
 case rest =>
  obtain⟨hwc,rfl⟩:=hcut;subst wc;go_upto_if 23 with fail
  go_cut [] from 7 (fun wd=>Yo wd G T ⟨u1S T.pairs n s.u,s.c,s.p⟩∧w.grownBy wd (some G))
  case first =>
   have y12:=(J HG).k12;have fz:=(J HG).fz 12;cases hb:(decide (1<n)&&(T.pairs&&decide (s.u % 2=1))) with
   | false =>
    have hx:=Za (show Yo w G T ⟨u1S T.pairs n s.u,s.c,s.p⟩∧w.grownBy w (some G) by rw [show u1S T.pairs n s.u=s.u by unfold u1S; rw [hb]; rfl]; exact⟨J HG,Of w _⟩);clear hb;go_wp2;go_meet
    case rel=>exact J hx
   | true =>
    have hx:=Za (show Yo (w.setCell ⟨G,12,none⟩ (.int .i64 ((s.u+1:Nat):Int))) G T ⟨u1S T.pairs n s.u,s.c,s.p⟩∧w.grownBy (w.setCell ⟨G,12,none⟩ (.int .i64 ((s.u+1:Nat):Int))) (some G) by rw [show u1S T.pairs n s.u=s.u+1 by unfold u1S; rw [hb]; rfl]; exact⟨(J HG).u _,Ud (Of w _)⟩);clear hb;go_wp2;go_meet
    case rel=>exact J hx
  case rest =>
   obtain⟨hG1,hgb1⟩:=hcut;have HG1:=Za hG1;have HGB1:=Za hgb1;obtain⟨u1,hue⟩:∃ u1,u1=u1S T.pairs n s.u:=⟨_,rfl⟩;rw [← hue] at hG1 HG1 hu1;have HUE:=Za hue;clear hue;have y12:=(J HG1).k12;have y5:=(J HG1).k5;go_wp2_with fail
   go_quiet (fail)
   clear y12 y5;generalize hk:World.drewN _ _=wq;obtain⟨hGq,hgbq⟩:Yo wq G T ⟨u1,s.c,s.p⟩∧w.grownBy wq (some G):=by subst hk; exact⟨J HG1,Zie (J HGB1) _⟩
   have HGq:=Za hGq;have HGBq:=Za hgbq;clear hk hGq hgbq HG1 HGB1 hG1 hgb1;go_upto_if 43 with fail
   go_cut [] from 31 (fun wd=>Yo wd G T (Dh T.ag.length n u1 s 0)∧w.grownBy wd (some G))
   case first =>
    have fz:=(J HGq).fz 12;have y12:=(J HGq).k12;have y5:=(J HGq).k5;by_cases h:u1+n<=T.ag.length
    ·have hx:=Za (show Yo wq G T (Dh T.ag.length n u1 s 0)∧w.grownBy wq (some G) by rw [show Dh T.ag.length n u1 s 0=⟨u1,s.c,s.p⟩ by unfold Dh rgS; simp [h]]; exact⟨J HGq,J HGBq⟩);go_wp2;go_meet
     case rel=>exact J hx
    ·have hx:=Za (show Yo (wq.setCell ⟨G,12,none⟩ (.int .i64 (T.ag.length:Int))) G T (Dh T.ag.length n u1 s 0)∧w.grownBy (wq.setCell ⟨G,12,none⟩ (.int .i64 (T.ag.length:Int))) (some G) by rw [show Dh T.ag.length n u1 s 0=⟨T.ag.length,s.c,s.p⟩ by unfold Dh rgS; simp [h]]; exact⟨(J HGq).u _,Ud (J HGBq)⟩);go_wp2;go_meet
     case rel=>exact J hx
   case rest =>
    obtain⟨hG2,hgb2⟩:=hcut;have HG2:=Za hG2;have HGB2:=Za hgb2;clear hG2 hgb2;have hmk:=fun V=>Yei n (by omega) V;go_wp2_with fail
    clear hmk;obtain⟨hR,hB,hs⟩:=al0 wc (.cells (madeCells #[.int .i64 0,.int .i64 0] (n*2)) 34 (0,0));have hgs:=(J HGB2).size;have hwT:w.heap.size<=wc.heap.size:=hgs;have HGB3:=Za (Ge (J HGB2) (Jl (o:=some G) hB));have HG3:=Za ((J HG2).new (.cells (madeCells #[.int .i64 0,.int .i64 0] (n*2)) 34 (0,0)));have HR3:=Za hR;clear HG2 HGB2 hR hB hgs HGq HGBq;generalize hTp:wc.heap.size=Tp at HR3 hs hwT ⊢;generalize World.alloc wc _=V at HG3 HGB3 HR3 hs ⊢;clear hTp;go_loopw [57] (fun j w'=>∃(k:Nat) (cs:Array Value),j=.int .i64 k∧k<=n∧w'.heap[Tp]?=some (.cells cs 34 (0,0))∧cs.size=n*2∧(∀ q,q<k->cs[q*2]?=some (.int .i64 (plS T.ag (rgS T.ag.length n u1) u1 s.c q).1)∧cs[q*2+1]?=some (.int .i64 (plS T.ag (rgS T.ag.length n u1) u1 s.c q).2))∧Yo w' G T (Dh T.ag.length n u1 s k)∧w.grownBy w' (some G)) (fun j _=>n-(intOf j).toNat)
    case atStart=>exact⟨0,_,rfl,by omega,J HR3,size_madeCells _ _,fun q hq=>by omega,J HG3,J HGB3⟩
    case round =>
     clear HG3 HGB3 HR3;obtain⟨k,cs,rfl,hk,hrow,hsz,hcs,hGk,hgb⟩:=hrel;have HRW:=Za hrow;have HCS:=Za hcs;have HGK:=Za hGk;have HGB:=Za hgb;have hgsz:=hgb.size;have hTw:=Zh hrow;clear hrow hcs hGk hgb;by_cases hk2:k<n
     ·have hw1:=(Zhq (ag:=T.ag) (u1:=u1) (s:=s) hk2).1;have hw2:=(Zhq (ag:=T.ag) (u1:=u1) (s:=s) hk2).2;have HC:=Za (Znp T (Dh T.ag.length n u1 s k) G wr (J HGK) ((J HT).gb (J HGB) hlt) (by omega) (by unfold Dh; simp only; split <;> omega) (by unfold Dh; simp only; split <;> omega) (by unfold Dh; simp only; split <;> omega));rw [hw1,hw2] at HC;have HW2:=Za hw2;clear hw1 hw2;generalize hpl:plS T.ag (rgS T.ag.length n u1) u1 s.c k=xy at HC;have HPL:=Za hpl;clear hpl;obtain⟨x,y⟩:=xy;simp only at HC;go_wp2_with fail
      refine(J HC).mono ?_;rintro e w2 ⟨rfl,hG5,hgb5⟩;have hTG:Tp≠G:=by omega
      have hr5:=(hgb5.block Tp hTw (by intro e; injection e with e; omega)).trans (J HRW);obtain⟨x0,hx0⟩:∃ x0,cs[k*2]?=some x0:=⟨_,Array.getElem?_eq_getElem (by omega)⟩;obtain⟨x1,hx1⟩:∃ x1,cs[k*2+1]?=some x1:=⟨_,Array.getElem?_eq_getElem (by omega)⟩;have c0:=(Zi hr5 (k*2)).trans hx0;have c1:=(Zi hr5 (k*2+1)).trans hx1;have z0:=frozen_of_row _ _ (k*2) _ _ hr5;have z1:=frozen_of_row _ _ (k*2+1) _ _ hr5;have HR6:=Za (heap_setCell_same _ _ (k*2+1) _ _ (.int .i64 y) (heap_setCell_same _ _ (k*2) _ _ (.int .i64 x) hr5));have HG6:=Za ((hG5.oth (b:=Tp) (j:=k*2) (v:=.int .i64 x) (by omega)).oth (b:=Tp) (j:=k*2+1) (v:=.int .i64 y) (by omega));have HGB6:=Za (Mu (b:=Tp) (j:=k*2+1) (v:=.int .i64 y) (Mu (b:=Tp) (j:=k*2) (v:=.int .i64 x) (Ge (J HGB) hgb5) (by omega)) (by omega));have HNX:=Za (show ∀ q,q<k+1->((cs.setIfInBounds (k*2) (.int .i64 x)).setIfInBounds (k*2+1) (.int .i64 y))[q*2]?=some (.int .i64 (plS T.ag (rgS T.ag.length n u1) u1 s.c q).1)∧((cs.setIfInBounds (k*2) (.int .i64 x)).setIfInBounds (k*2+1) (.int .i64 y))[q*2+1]?=some (.int .i64 (plS T.ag (rgS T.ag.length n u1) u1 s.c q).2) from fun q hq=>by
       by_cases hqk:q=k
       ·subst hqk;rw [J HPL];refine⟨?_,?_⟩
        ·rw [Array.getElem?_setIfInBounds_ne (by omega),Array.getElem?_setIfInBounds_self_of_lt (by omega)]
        ·rw [Array.getElem?_setIfInBounds_self_of_lt (by simp; omega)]
       ·have h:=J HCS q (by omega);refine⟨?_,?_⟩
        ·rw [Array.getElem?_setIfInBounds_ne (by omega),Array.getElem?_setIfInBounds_ne (by omega)]; exact h.1
        ·rw [Array.getElem?_setIfInBounds_ne (by omega),Array.getElem?_setIfInBounds_ne (by omega)]; exact h.2)
      clear hr5 hx0 hx1 hG5 hgb5;go_wp2;go_roundw
      case rel=>exact⟨k+1,_,by go_num,by omega,J HR6,by simp; omega,J HNX,J HG6,J HGB6⟩
      case measure=>simp [intOf]; omega
     ·obtain rfl:k=n:=by omega
      go_wp2;go_ret;rw [← J HUE];have he:=Zsk (xs:=cs.toList) (n:=k) (plS T.ag (rgS T.ag.length k u1) u1 s.c) (by simp; omega) (fun j hj=>by have h:=J HCS j hj; simpa using h);refine⟨_,rfl,⟨by rw [Zfp],Or.inr ⟨Tp,k,cs,by simp,hwT,J HRW,by simp,by simp [maxLen]; omega,hsz,?_⟩⟩,J HGK,J HGB⟩;rw [← he];simp only [List.length_map,List.length_range];rw [List.take_of_length_le (by simp; omega)]
set_option maxHeartbeats 4000000
set_option maxRecDepth 100000
theorem Tryz.infSpK:(Tryz.prog.info? 52).map (·.size)=some 3:=by kernel_rfl
theorem Znq {V:World}{B b:Nat}{x:Int×Int}(h:V.heap[b]?=some (.cells #[.int .i64 x.1,.int .i64 x.2] 34 (0,0)))(hb:B<=b):Ki V B (.slice (some ⟨b,0,none⟩) 1 1) [x] :=
 ⟨rfl,Or.inr ⟨b,1,_,rfl,hb,h,Nat.le_refl _,by simp [maxLen],rfl,rfl⟩⟩
theorem Znr {V:World}{B B' T:Nat}{cs:Array Value}{v:Value}{xs:List (Int×Int)}(h:Ki V B v xs)(hb:T<B)(hB:B'<=B):Ki (V.setRow T cs) B' v xs:=by
 obtain⟨h1,h2 | ⟨g,cap,cur,e1,e2,e3,e4⟩⟩:=h
 ·exact⟨h1,Or.inl h2⟩
 ·exact⟨h1,Or.inr ⟨g,cap,cur,e1,Nat.le_trans hB e2,(setRow_other _ _ _ _ (by omega)).trans e3,e4⟩⟩
theorem Zeh {ag:List Int}{br:Int}{pr:Bool}{n:Int}{s:Jq}(h:n=0∨br<n):Kr ag br pr n s=⟨[plW ag s],decide (br<n),if br<n then s.p else 0⟩∧Oe ag.length br pr n s=⟨(nxW ag s).u,(nxW ag s).c,if br<n then s.p+8*n else s.p⟩:=by
 have hw:wdS br n=1:=by unfold wdS; rw [if_pos h]
 unfold Kr Oe;rw [hw,Zfo];have hr:rgS ag.length 1 s.u=decide (s.u<ag.length):=by unfold rgS; exact decide_eq_decide.2 (by omega)
 rw [hr];by_cases hu:s.u<ag.length
 ·simp only [decide_eq_true hu,if_true];refine⟨?_,?_⟩
  ·simp only [List.range_succ,List.range_zero,List.nil_append,List.map_cons,List.map_nil,plS,plW,if_pos hu,if_true,Nat.add_zero]
  ·simp only [nxW,if_pos hu]
 ·simp only [decide_eq_false hu,Bool.false_eq_true,if_false];refine⟨?_,?_⟩
  ·simp only [List.range_succ,List.range_zero,List.nil_append,List.map_cons,List.map_nil,plS,plW,if_neg hu,Bool.false_eq_true,if_false];simp
  ·simp only [nxW,if_neg hu];simp
theorem Zlb {ag:List Int}{br:Int}{pr:Bool}{n:Nat}{s:Jq}(h0:0<n)(h1:(n:Int)<=br)(hu:s.u<=ag.length):Kr ag br pr n s=⟨(List.range n).map (plS ag (rgS ag.length n (u1S pr n s.u)) (u1S pr n s.u) s.c),false,0⟩∧Oe ag.length br pr n s=Dh ag.length n (u1S pr n s.u) s n:=by
 have hw:wdS br n=n:=by unfold wdS; rw [if_neg (by omega)]; omega
 unfold Kr Oe Dh;rw [hw];refine⟨?_,?_⟩
 ·rw [decide_eq_false (by omega),if_neg (by omega)]
 ·cases hr:rgS ag.length n (u1S pr n s.u) with
  | true=>simp only [if_true]; rw [if_neg (show ¬ br<(n:Int) by omega)]
  | false =>
   simp only [Bool.false_eq_true,if_false];rw [if_neg (show ¬ br<(n:Int) by omega)];by_cases h2:1<n
   ·rw [if_pos h2]
   ·obtain rfl:n=1:=by omega
    rw [if_neg (by omega)];rw [Zfo] at hr ⊢;unfold rgS at hr;have:=of_decide_eq_false hr;rw [show s.u=ag.length by omega]
theorem Ybq (T:Yh)(s:Jq)(G:Nat)(n:Int)(w:World)(hG:Yo w G T s)(hT:TbR w G T)(hn0:0<=n)(hn8:n<=8)(hu:s.u<=T.ag.length)(hL:T.ag.length<=1000)(hc0:0<=s.c)(hc1:s.c<=1000)(hp0:0<=s.p)(hp1:s.p<=1000) :
 Calls Tryz.prog 101 #[.pointer (some ⟨G,0,none⟩),.int .i64 n] w fun e w'=>∃ pv,e=.returned (.agg #[pv,.bool (Kr T.ag T.br T.pairs n s).ref,.int .i64 (Kr T.ag T.br T.pairs n s).at_])∧Ki w' w.heap.size pv (Kr T.ag T.br T.pairs n s).pl∧Yo w' G T (Oe T.ag.length T.br T.pairs n s)∧w.grownBy w' (some G):=by
 have HG:=Za hG;have HT:=Za hT;have hlt:=hG.lt;have y10:=fun X:Obj=>(hG.new X).k10;have HW:=Za (fun V (hg:Yo V G T s) (hgb:w.grownBy V (some G))=>Znp T s G V hg (hT.gb hgb hlt) (by omega) (by omega) (by omega) (by omega));clear hG hT;obtain⟨hR,hB,hs⟩:=al0 w (.cells #[.slice none 0 0,.bool false,.int .i64 0] 52 (0,0));have HR:=Za hR;have HB:=Za (Jl (o:=some G) hB);have HG0:=Za ((J HG).new (.cells #[.slice none 0 0,.bool false,.int .i64 0] 52 (0,0)));clear hR hB HG;by_cases h1:T.br<n
 ·have hs9:=Zeh (ag:=T.ag) (pr:=T.pairs) (s:=s) (Or.inr h1);rw [hs9.1,hs9.2];clear hs9;simp only [decide_eq_true h1,if_pos h1];have hp2:(nxW T.ag s).p=s.p:=by unfold nxW; split <;> rfl
  generalize plW T.ag s=xy at HW ⊢;generalize nxW T.ag s=s2 at HW hp2 ⊢;obtain⟨x,y⟩:=xy;simp only at HW;go_enter Tryz.func101,Tryz.ntmps101
  go_wp2_with fail
  clear y10;generalize World.alloc w _=W at HR HB HG0 hs ⊢;refine(J HW W (J HG0) (J HB)).mono ?_;rintro e w2 ⟨rfl,hG2,hgb2⟩;have hz2:=hgb2.size;obtain⟨hR3,hB3,hs3⟩:=al0 w2 (.cells #[.int .i64 x,.int .i64 y] 34 (0,0));have HC:=Za (Zxd T s2 G n _ (hG2.new (.cells #[.int .i64 x,.int .i64 y] 34 (0,0))) (by omega) (by omega) hn0 (by omega));have HRA:=Za ((hB3.block w.heap.size (by omega)).trans ((hgb2.block w.heap.size (by omega) (by intro e; injection e with e; omega)).trans (J HR)));have HRB:=Za hR3;have HGB:=Za (Ge (J HB) (Ge hgb2 (Jl (o:=some G) hB3)));clear hG2 hgb2 hR3 hB3 HW;go_wp2_with fail
  generalize hTb:w2.heap.size=Tb at HRB hs3 hz2 ⊢;generalize World.alloc w2 _=W3 at HC HRA HRB HGB hs3 ⊢;refine(J HC).mono ?_;rintro e w4 ⟨rfl,hG4,hgb4⟩;rw [hp2] at hG4 ⊢;have HR4:=Za ((hgb4.block w.heap.size (by omega) (by intro e; injection e with e; omega)).trans (J HRA));have HP4:=Za ((hgb4.block Tb (by omega) (by intro e; injection e with e; omega)).trans (J HRB));have HG4:=Za hG4;have HGB4:=Za (Ge (J HGB) hgb4);clear hG4 hgb4 HC HRA HRB HGB;go_wp2_with (refine wpList_store_row rfl 52 _ _ rfl w.heap.size #[.slice (some ⟨Tb,0,none⟩) 1 1,.bool true,.int .i64 s.p] rfl rfl 52 _ (J HR4) (Tryz.infSpK.trans rfl) rfl (by simp [Value.oneCell']) ?_)
  refine bodyPost_ret (Jo (fn:=Tryz.f101) (q:=4) (uy:=52) rfl _ _ w.heap.size 52 #[.slice (some ⟨Tb,0,none⟩) 1 1,.bool true,.int .i64 s.p] (0,0) _ rfl (setRow_heap _ _ _ _ _ _ (J HR4)) Tryz.underlying52 rfl (Tryz.infSpK.trans rfl)) rfl ?_;exact⟨_,rfl,Znq ((setRow_other _ _ _ _ (by omega)).trans (J HP4)) (by omega),(setRow_other _ _ _ _ (by omega)).trans (J HG4),Zay (J HGB4) (Nat.le_refl _)⟩
 ·by_cases h2:0<n
  ·obtain⟨m,rfl⟩:∃ m:Nat,n=m:=⟨n.toNat,by omega⟩;have hs9:=Zlb (ag:=T.ag) (pr:=T.pairs) (s:=s) (show 0<m by omega) (show(m:Int)<=T.br by omega) hu;rw [hs9.1,hs9.2];clear hs9 HW;simp only;go_enter Tryz.func101,Tryz.ntmps101
   go_wp2_with fail
   clear y10;generalize World.alloc w _=W at HR HB HG0 hs ⊢;refine(Zsl T s G m W (J HG0) ((J HT).gb (J HB) hlt) (by omega) (by omega) hu hL hc0 hc1).mono ?_;rintro e w2 ⟨v,rfl,hP2,hG2,hgb2⟩;obtain⟨pb,pn,pc,hv⟩:∃ pb pn pc,v=.slice pb pn pc:=by
    rcases hP2.2 with⟨e,_⟩ | ⟨g,cap,cur,e,_⟩
    ·exact⟨_,_,_,e⟩
    ·exact⟨_,_,_,e⟩
   subst hv;have HR4:=Za ((hgb2.block w.heap.size (by omega) (by intro e; injection e with e; omega)).trans (J HR));have HP4:=Za hP2;have HG4:=Za hG2;have HGB4:=Za (Ge (J HB) hgb2);clear hP2 hG2 hgb2;go_wp2_with (refine wpList_store_row rfl 52 _ _ rfl w.heap.size #[.slice pb pn pc,.bool false,.int .i64 0] rfl rfl 52 _ (J HR4) (Tryz.infSpK.trans rfl) rfl (by simp [Value.oneCell']) ?_)
   refine bodyPost_ret (Jo (fn:=Tryz.f101) (q:=4) (uy:=52) rfl _ _ w.heap.size 52 #[.slice pb pn pc,.bool false,.int .i64 0] (0,0) _ rfl (setRow_heap _ _ _ _ _ _ (J HR4)) Tryz.underlying52 rfl (Tryz.infSpK.trans rfl)) rfl ?_;exact⟨_,rfl,Znr (J HP4) (by omega) (by omega),(setRow_other _ _ _ _ (by omega)).trans (J HG4),Zay (J HGB4) (Nat.le_refl _)⟩
  ·obtain rfl:n=0:=by omega
   have hs9:=Zeh (ag:=T.ag) (br:=T.br) (pr:=T.pairs) (n:=0) (s:=s) (Or.inl rfl);rw [hs9.1,hs9.2];clear hs9;simp only [decide_eq_false h1,if_neg h1];have hp2:(nxW T.ag s).p=s.p:=by unfold nxW; split <;> rfl
   generalize plW T.ag s=xy at HW ⊢;generalize nxW T.ag s=s2 at HW hp2 ⊢;obtain⟨x,y⟩:=xy;simp only at HW;go_enter Tryz.func101,Tryz.ntmps101
   go_wp2_with fail
   clear y10;generalize World.alloc w _=W at HR HB HG0 hs ⊢;refine(J HW W (J HG0) (J HB)).mono ?_;rintro e w2 ⟨rfl,hG2,hgb2⟩;have hz2:=hgb2.size;obtain⟨hR3,hB3,hs3⟩:=al0 w2 (.cells #[.int .i64 x,.int .i64 y] 34 (0,0));have HR4:=Za ((hB3.block w.heap.size (by omega)).trans ((hgb2.block w.heap.size (by omega) (by intro e; injection e with e; omega)).trans (J HR)));have HP4:=Za hR3;have HG4:=Za (hG2.new (.cells #[.int .i64 x,.int .i64 y] 34 (0,0)));have HGB4:=Za (Ge (J HB) (Ge hgb2 (Jl (o:=some G) hB3)));clear hG2 hgb2 hR3 hB3 HW;go_wp2_with (refine wpList_store_row rfl 52 _ _ rfl w.heap.size #[.slice (some ⟨w2.heap.size,0,none⟩) 1 1,.bool false,.int .i64 0] rfl rfl 52 _ (J HR4) (Tryz.infSpK.trans rfl) rfl (by simp [Value.oneCell']) ?_)
   refine bodyPost_ret (Jo (fn:=Tryz.f101) (q:=4) (uy:=52) rfl _ _ w.heap.size 52 #[.slice (some ⟨w2.heap.size,0,none⟩) 1 1,.bool false,.int .i64 0] (0,0) _ rfl (setRow_heap _ _ _ _ _ _ (J HR4)) Tryz.underlying52 rfl (Tryz.infSpK.trans rfl)) rfl ?_;refine⟨_,rfl,Znq ((setRow_other _ _ _ _ (by omega)).trans (J HP4)) (by omega),?_,Zay (J HGB4) (Nat.le_refl _)⟩;rw [← hp2];exact(setRow_other _ _ _ _ (by omega)).trans (J HG4)
set_option maxHeartbeats 4000000
set_option maxRecDepth 100000
theorem Zhr {cs:Array Value}{n k:Nat}{f:Nat->Int×Int}{x y:Int}(hsz:cs.size=n*2)(hk:k<n)(hxy:f k=(x,y))(hcs:∀ q,q<k->cs[q*2]?=some (.int .i64 (f q).1)∧cs[q*2+1]?=some (.int .i64 (f q).2)) :
 ∀ q,q<k+1->((cs.setIfInBounds (k*2) (.int .i64 x)).setIfInBounds (k*2+1) (.int .i64 y))[q*2]?=some (.int .i64 (f q).1)∧((cs.setIfInBounds (k*2) (.int .i64 x)).setIfInBounds (k*2+1) (.int .i64 y))[q*2+1]?=some (.int .i64 (f q).2):=fun q hq=>by
 by_cases hqk:q=k
 ·subst hqk;rw [hxy];refine⟨?_,?_⟩
  ·rw [Array.getElem?_setIfInBounds_ne (by omega),Array.getElem?_setIfInBounds_self_of_lt (by omega)]
  ·rw [Array.getElem?_setIfInBounds_self_of_lt (by simp; omega)]
 ·have h:=hcs q (by omega);refine⟨?_,?_⟩
  ·rw [Array.getElem?_setIfInBounds_ne (by omega),Array.getElem?_setIfInBounds_ne (by omega)]; exact h.1
  ·rw [Array.getElem?_setIfInBounds_ne (by omega),Array.getElem?_setIfInBounds_ne (by omega)]; exact h.2
theorem Ybr (T:Yh)(s:Jq)(G n:Nat)(w:World)(hG:Yo w G T s)(hT:TbR w G T)(hn4:n<=8)(hL:T.rs.length<=1000)(hc0:0<=s.c)(hc1:s.c<=1000) :
 Calls Tryz.prog 102 #[.pointer (some ⟨G,0,none⟩),.int .i64 n] w fun e w'=>∃ v,e=.returned v∧Ki w' w.heap.size v ((List.range n).map (Zdn T.rs s.c))∧Yo w' G T ⟨s.u,Xg T.rs s.c n,s.p⟩∧w.grownBy w' (some G):=by
 have HG:=Za hG;have HT:=Za hT;have hlt:=hG.lt;have hmk:=fun V=>Yei n (by omega) V;clear hG hT;go_enter Tryz.func102,Tryz.ntmps102
 go_wp2_with fail
 clear hmk;obtain⟨hR,hB,hs⟩:=al0 w (.cells (madeCells #[.int .i64 0,.int .i64 0] (n*2)) 34 (0,0));have HGB3:=Za (Jl (o:=some G) hB);have HG3:=Za ((J HG).new (.cells (madeCells #[.int .i64 0,.int .i64 0] (n*2)) 34 (0,0)));have HR3:=Za hR;clear hR hB;generalize World.alloc w _=V at HG3 HGB3 HR3 hs ⊢;go_loopw [11] (fun j w'=>∃(k:Nat) (cs:Array Value),j=.int .i64 k∧k<=n∧w'.heap[w.heap.size]?=some (.cells cs 34 (0,0))∧cs.size=n*2∧(∀ q,q<k->cs[q*2]?=some (.int .i64 (Zdn T.rs s.c q).1)∧cs[q*2+1]?=some (.int .i64 (Zdn T.rs s.c q).2))∧Yo w' G T ⟨s.u,Xg T.rs s.c k,s.p⟩∧w.grownBy w' (some G)) (fun j _=>n-(intOf j).toNat)
 case atStart=>exact⟨0,_,rfl,by omega,J HR3,size_madeCells _ _,fun q hq=>by omega,by rw [show Xg T.rs s.c 0=s.c by unfold Xg; simp]; exact J HG3,J HGB3⟩
 case round =>
  clear HG3 HGB3 HR3;obtain⟨k,cs,rfl,hk,hrow,hsz,hcs,hGk,hgb⟩:=hrel;have HRW:=Za hrow;have HCS:=Za hcs;have HGK:=Za hGk;have HGB:=Za hgb;have hgsz:=hgb.size;have hTw:=Zh hrow;by_cases hk2:k<n
  ·have y6:=hGk.k6;obtain⟨x0,hx0⟩:∃ x0,cs[k*2]?=some x0:=⟨_,Array.getElem?_eq_getElem (by omega)⟩;obtain⟨x1,hx1⟩:∃ x1,cs[k*2+1]?=some x1:=⟨_,Array.getElem?_eq_getElem (by omega)⟩;by_cases hr:k<T.rs.length
   ·have hrs:=(J HT).gb hgb hlt;obtain⟨sb,so,hpa,-,hc⟩:=hrs.r.at hr;have c:=hc k hr;rw [hpa] at y6;have hres:Zdn T.rs s.c k=(T.rs.getD k 0,0):=by unfold Zdn; rw [if_pos hr]
    have hrc:Xg T.rs s.c (k+1)=Xg T.rs s.c k:=by unfold Xg; rw [show k+1-T.rs.length=0 by omega,show k-T.rs.length=0 by omega]
    generalize T.rs.getD k 0=x at hres c;have c0:=(Zi hrow (k*2)).trans hx0;have c1:=(Zi hrow (k*2+1)).trans hx1;have z0:=frozen_of_row _ _ (k*2) _ _ hrow;have z1:=frozen_of_row _ _ (k*2+1) _ _ hrow;have HR6:=Za (heap_setCell_same _ _ (k*2+1) _ _ (.int .i64 0) (heap_setCell_same _ _ (k*2) _ _ (.int .i64 x) hrow));have HG6:=Za (show Yo _ G T ⟨s.u,Xg T.rs s.c (k+1),s.p⟩ by rw [hrc]; exact(hGk.oth (b:=w.heap.size) (j:=k*2) (v:=.int .i64 x) (by omega)).oth (b:=w.heap.size) (j:=k*2+1) (v:=.int .i64 0) (by omega));have HGB6:=Za (Mu (b:=w.heap.size) (j:=k*2+1) (v:=.int .i64 0) (Mu (b:=w.heap.size) (j:=k*2) (v:=.int .i64 x) hgb (Nat.le_refl _)) (Nat.le_refl _));have HNX:=Za (Zhr hsz hk2 hres hcs);clear hrow hx0 hx1 hcs hGk hgb hres hrc hc hrs;go_wp2;go_roundw
    case rel=>exact⟨k+1,_,by go_num,by omega,J HR6,by simp; omega,J HNX,J HG6,J HGB6⟩
    case measure=>simp [intOf]; omega
   ·have hres:Zdn T.rs s.c k=(-1,Xg T.rs s.c k):=by unfold Zdn Xg; rw [if_neg hr]
    have hrc:Xg T.rs s.c (k+1)=Xg T.rs s.c k+8:=by unfold Xg; rw [show k+1-T.rs.length=(k-T.rs.length)+1 by omega]; omega
    have hrb:0<=Xg T.rs s.c k∧Xg T.rs s.c k<=2000:=by unfold Xg; omega
    have HNX:=Za (Zhr hsz hk2 hres hcs);have HRC:=Za hrc;clear hres hrc hrow hcs hGk hgb;generalize Xg T.rs s.c k=y at HNX HRC HGK hrb;go_wp2_with fail
    refine(Zno T ⟨s.u,y,s.p⟩ G wr (J HGK) (by show -1000000<=y; omega) (by show y<=1000000; omega)).mono ?_;rintro e w2 ⟨rfl,hG5,hgb5⟩;have hr5:=(hgb5.block w.heap.size hTw (by intro e; injection e with e; omega)).trans (J HRW);have c0:=(Zi hr5 (k*2)).trans hx0;have c1:=(Zi hr5 (k*2+1)).trans hx1;have z0:=frozen_of_row _ _ (k*2) _ _ hr5;have z1:=frozen_of_row _ _ (k*2+1) _ _ hr5;have HR6:=Za (heap_setCell_same _ _ (k*2+1) _ _ (.int .i64 y) (heap_setCell_same _ _ (k*2) _ _ (.int .i64 (-1)) hr5));have HG6:=Za (show Yo _ G T ⟨s.u,Xg T.rs s.c (k+1),s.p⟩ by rw [J HRC]; exact(hG5.oth (b:=w.heap.size) (j:=k*2) (v:=.int .i64 (-1)) (by omega)).oth (b:=w.heap.size) (j:=k*2+1) (v:=.int .i64 y) (by omega));have HGB6:=Za (Mu (b:=w.heap.size) (j:=k*2+1) (v:=.int .i64 y) (Mu (b:=w.heap.size) (j:=k*2) (v:=.int .i64 (-1)) (Ge (J HGB) hgb5) (Nat.le_refl _)) (Nat.le_refl _));clear hr5 hG5 hgb5 hx0 hx1 y6;go_wp2;go_roundw
    case rel=>exact⟨k+1,_,by go_num,by omega,J HR6,by simp; omega,J HNX,J HG6,J HGB6⟩
    case measure=>simp [intOf]; omega
  ·obtain rfl:k=n:=by omega
   clear hrow hcs hGk hgb;go_wp2;go_ret;have he:=Zsk (xs:=cs.toList) (n:=k) (Zdn T.rs s.c) (by simp; omega) (fun j hj=>by have h:=J HCS j hj; simpa using h);refine⟨_,rfl,⟨by rw [Zfp],Or.inr ⟨w.heap.size,k,cs,by simp,Nat.le_refl _,J HRW,by simp,by simp [maxLen]; omega,hsz,?_⟩⟩,J HGK,J HGB⟩;rw [← he];simp only [List.length_map,List.length_range];rw [List.take_of_length_le (by simp; omega)]
set_option maxHeartbeats 4000000
set_option maxRecDepth 100000
theorem Zlc {P:Program}{ops:Array Oper}{o:Oper}{a:Act}{w:World}{K:Act->World->Prop}{Q:Exit->Act->World->Prop}{E:Prop}(hg:o.guard=none)(f:FuncId)(args:Array Value){F:Value->World->Prop}
 (hrun:(execOp a.eval o).run P w=.ok (.enter f args) w) (hF:Calls P f args w fun e w'=>∃ v,e=.returned v∧F v w') (h:∀ v w',F v w'->K (a.put o.dst v) w'):if Region.wanted o (yielded ops a.tmps)=true then Oper.wp P o a w K Q else E:=by
 have hw:Region.wanted o (yielded ops a.tmps)=true:=by simp [Region.wanted,hg]
 rw [if_pos hw];unfold Oper.wp;rw [hrun];refine hF.mono ?_;rintro e w' ⟨v,rfl,hv⟩;exact h v w' hv
theorem Zxe {P:Program}{ops:Array Oper}{o:Oper}{a:Act}{w:World}{K:Act->World->Prop}{Q:Exit->Act->World->Prop}{E:Prop}
 (hg:o.guard=none) (s x:Operand) (t:TypeId) (ho:o.op=.call { callee:=.builtin .append,args:=#[s,x],argTypes:=#[t,t] })
 (base:Nat) (e:TypeId) (i:TypeInfo) (z:Value) (size bytes:Nat) (ht:P.underlying t=some (.slice e)) (hi:P.info? e=some i) (hz:i.zero=some z)
 (hsize:i.size=size) (hby:i.bytes=bytes) (hzs:z.cells.size=size) (hsz:0<size)
 (v:Value) (n:Nat) (xs:List Value) (hs:a.eval s=v) (hown:w.ownsRow base e size v n xs)
 (ad:Addr) (m c:Nat) (news:List Value) (hx:a.eval x=.slice (some ad) m c) (hl:news.length=m*size) (hnews:∀ j u,news[j]?=some u->w.cell? (ad.add j)=some u) (h1:∀ u ∈ news,u.oneCell'=true)
 (h63:n+m<=maxLen) (hbytes:(n+m)*bytes<=140737488355328) (hbase:base<=w.heap.size)
 (h:∀ v' w',w'.ownsRow base e size v' (n+m) (xs++news)->w.grownBy w' v.ownBlock->K (a.put o.dst v') w') :
 if Region.wanted o (yielded ops a.tmps)=true then Oper.wp P o a w K Q else E:=by
 have hw:Region.wanted o (yielded ops a.tmps)=true:=by simp [Region.wanted,hg]
 rw [if_pos hw];exact wp_append_own w s x t ho base e i z size bytes ht hi hz hsize hby hzs hsz v n xs hs hown ad m c news hx hl hnews h1 h63 hbytes hbase (fun v' w' h2 h3 _=>h v' w' h2 h3)
theorem Ybs {w w':World}{B G:Nat}{v:Value}{xs:List (Int×Int)}(h:Ki w B v xs)(hg:w.grownBy w' (some G))(hG:G<B):Ki w' B v xs :=
 Xh h hg (fun g hv e=>by injection e with e; have:=(World.ownsRow.lt h g hv).1; omega)
theorem Zhs {w:World}{B B':Nat}{v:Value}{xs:List (Int×Int)}(h:Ki w B v xs)(hB:B'<=B):Ki w B' v xs:=by
 obtain⟨h1,h2 | ⟨g,cap,cur,e1,e2,e3⟩⟩:=h
 ·exact⟨h1,Or.inl h2⟩
 ·exact⟨h1,Or.inr ⟨g,cap,cur,e1,Nat.le_trans hB e2,e3⟩⟩
theorem Zxf {w w':World}{B B' n:Nat}{v av:Value}{xs:List (Int×Int)}{ys:List Value}(h:Ki w B v xs)(ha:w.ownsRow B' 52 3 av n ys)(hg:w.grownBy w' av.ownBlock):Ki w' B v xs :=
 Xh h hg (fun g hv e=>by
  rcases h.2 with⟨e1,-⟩ | ⟨g1,c1,cur1,e1,-,r1,-⟩
  ·rw [e1] at hv; cases hv
  ·rcases ha.2 with⟨e2,-⟩ | ⟨g2,c2,cur2,e2,-,r2,-⟩
   ·rw [e2] at e; cases e
   ·rw [e1] at hv;rw [e2] at e;injection hv with hv;injection e with e;simp only at hv e;rw [hv] at r1;rw [e] at r2;rw [r1] at r2;injection r2 with r2;injection r2 with _ r2 _;exact absurd r2 (by decide))
theorem Zax {w:World}{B b j:Nat}{v u:Value}{xs:List (Int×Int)}(h:Ki w B v xs)(hb:b<B):Ki (w.setCell ⟨b,j,none⟩ u) B v xs:=ownsRow_setCell_below h (a:=⟨b,j,none⟩) hb u
theorem Tryz.infLyK:(Tryz.prog.info? 47).map (·.size)=some 4:=by kernel_rfl
theorem Tryz.infoSp:(Tryz.prog.info? 52).map (fun i=>(i.zero,i.size,i.bytes))=some (some (.agg #[.slice none 0 0,.bool false,.int .i64 0]),3,40):=by kernel_rfl
theorem Zpv {α:Type}(l:List α)(x d:α)(k:Nat)(h:k<l.length+1):(l++[x]).getD k d=if k<l.length then l.getD k d else x:=by
 split
 ·rename_i hk;simp [List.getD,List.getElem?_append_left hk]
 ·rename_i hk;obtain rfl:k=l.length:=by omega
  simp [List.getD]
theorem Zbo {w:World}{B T size n:Nat}{v:Value}{xs:List Value}(h:w.ownsRow B T size v (n+1) xs):∃ g c,v=.slice (some ⟨g,0,none⟩) (n+1) c:=by
 rcases h.2 with⟨e,e0⟩ | ⟨g,cap,cur,e,-⟩
 ·omega
 ·exact⟨_,_,e⟩
theorem Ct {w:World}{B:Nat}{v:Value}{xs:List (Int×Int)}(h:Ki w B v xs):∃ p n c,v=.slice p n c:=by
 rcases h.2 with⟨e,e0⟩ | ⟨g,cap,cur,e,-⟩
 ·exact⟨_,_,_,e⟩
 ·exact⟨_,_,_,e⟩
structure OfI (W:World)(b0:Nat)(T:Yh)(ps:List Int)(k:Nat)(av:Value)(pvs:List Value)(w:World):Prop where
 low:Below (b0+3) W w
 giv:Yo w (b0+3) T (stA T.ag.length T.br T.pairs ps T.sh k)
 row:w.heap[b0+4]?=some (.cells #[av,.slice none 0 0,.int .i64 0,.int .i64 0] 47 (0,0))
 len:pvs.length=k
 own:w.ownsRow (b0+5) 52 3 av k (Zid pvs ((List.range k).map (Cu T.ag T.br T.pairs ps T.sh)))
 each:∀ j,j<k->Ki w (b0+5) (pvs.getD j undef) (Cu T.ag T.br T.pairs ps T.sh j).pl
theorem OfI.next {W w3 w7 wr:World}{b0 k:Nat}{T:Yh}{ps:List Int}{av v7 pv:Value}{pvs:List Value}{sp:Zia}(hI:OfI W b0 T ps k av pvs wr)(hz:b0+5<=wr.heap.size)(hgb:wr.drew.grownBy w3 (some (b0+3)))(hG:Yo w3 (b0+3) T (stA T.ag.length T.br T.pairs ps T.sh (k+1)))(hP:Ki w3 wr.heap.size pv sp.pl)(hsp:Cu T.ag T.br T.pairs ps T.sh k=sp)
 (hgr:(w3.alloc (.cells #[pv,.bool sp.ref,.int .i64 sp.at_] 52 (0,0))).grownBy w7 av.ownBlock) (hown:w7.ownsRow (b0+5) 52 3 v7 (k+1) (Zid pvs ((List.range k).map (Cu T.ag T.br T.pairs ps T.sh))++[pv,.bool sp.ref,.int .i64 sp.at_])) :
 OfI W b0 T ps (k+1) v7 (pvs++[pv]) (w7.setCell ⟨b0+4,0,none⟩ v7):=by
 have hz3:wr.heap.size<=w3.heap.size:=hgb.size;have ha:=al0 w3 (.cells #[pv,.bool sp.ref,.int .i64 sp.at_] 52 (0,0));have hz7:=hgr.size;have how3:w3.ownsRow (b0+5) 52 3 av k (Zid pvs ((List.range k).map (Cu T.ag T.br T.pairs ps T.sh))):=Xh (w:=wr.drew) hI.own hgb (fun g hg e=>by injection e with e; have:=(World.ownsRow.lt hI.own g hg).1; omega);have hne:∀ q,q<b0+5->some q≠av.ownBlock:=fun q hq e=>by have:=(World.ownsRow.lt hI.own q e.symm).1; omega
 have hblk:∀ q,q<b0+5->q≠b0+3->q≠b0+4->(w7.setCell ⟨b0+4,0,none⟩ v7).heap[q]?=wr.heap[q]?:=fun q h1 h2 h3=>(heap_setCell_other _ _ _ _ (by show q≠b0+4; exact h3)).trans ((hgr.block q (by rw [ha.2.2]; omega) (hne q h1)).trans ((ha.2.1.block q (by omega)).trans (hgb.block q (by show q<wr.heap.size; omega) (by intro e; injection e with e; omega))))
 have hP':∀{v:Value} {xs:List (Int×Int)},Ki w3 (b0+5) v xs->Ki (w7.setCell ⟨b0+4,0,none⟩ v7) (b0+5) v xs:=fun{v xs} h=>Zax (Zxf (w:=w3.alloc (.cells #[pv,.bool sp.ref,.int .i64 sp.at_] 52 (0,0))) (World.ownsRow.alloc h _) (World.ownsRow.alloc how3 _) hgr) (by omega);have hrw:w7.heap[b0+4]?=some (.cells #[av,.slice none 0 0,.int .i64 0,.int .i64 0] 47 (0,0)):=(hgr.block (b0+4) (by rw [ha.2.2]; omega) (hne _ (by omega))).trans ((ha.2.1.block (b0+4) (by omega)).trans ((hgb.block (b0+4) (by show b0+4<wr.heap.size; omega) (by intro e; injection e with e; omega)).trans hI.row));refine⟨⟨?_,?_,?_,?_,fun q hq=>(hblk q (by omega) (by omega) (by omega)).trans (hI.low.block q hq)⟩,?_,heap_setCell_same _ _ 0 _ _ _ hrw,by simp [hI.len],?_,fun j hj=>?_⟩
 ·exact hgr.os.trans (ha.2.1.os.trans (hgb.os.trans hI.low.os))
 ·exact hgr.tape.trans (ha.2.1.tape.trans (hgb.tape.trans hI.low.tape))
 ·exact hgr.output.trans (ha.2.1.output.trans (hgb.output.trans hI.low.output))
 ·have:=hI.low.size;have h:(w7.setCell ⟨b0+4,0,none⟩ v7).heap.size=w7.heap.size:=by simp
  omega
 ·exact(heap_setCell_other _ _ _ _ (by show b0+3≠b0+4; omega)).trans ((hgr.block (b0+3) (by rw [ha.2.2]; omega) (hne _ (by omega))).trans ((ha.2.1.block (b0+3) (by omega)).trans hG))
 ·rw [Rp,Zpx _ _ _ _ (by simp [hI.len]),hsp];exact ownsRow_setCell_below hown (a:=⟨b0+4,0,none⟩) (by show b0+4<b0+5; omega) v7
 ·rw [Zpv _ _ _ _ (by rw [hI.len]; exact hj)];split
  ·rename_i h;rw [hI.len] at h;exact hP' (Ybs (w:=wr.drew) (hI.each j h) hgb (by omega))
  ·rename_i h;rw [hI.len] at h;obtain rfl:j=k:=by omega
   rw [hsp];exact hP' (Zhs hP hz)
theorem Yej (T:Yh)(ps:List Int)(pq:Option Addr)(cq:Nat)(n:Int)(w:World)(hT:TbR w w.heap.size T)(hps:Li w (.slice pq ps.length cq) ps)(hsig:Gg ps 0 8=true)(hpl:ps.length<=8)(hn0:0<=n)(hn4:n<=4)(hLa:T.ag.length<=100)(hLr:T.rs.length<=100)(hs0:0<=T.sh)(hs1:T.sh<=100) :
 Calls Tryz.prog 63 #[.agg T.box,.agg #[.slice pq ps.length cq,.int .i64 n]] w fun e w'=>∃ av rv pvs,e=.returned (.agg #[av,rv,.int .i64 (Zib T.ag T.rs T.br T.pairs T.sh ps n).size,.int .i64 (Zib T.ag T.rs T.br T.pairs T.sh ps n).copies])∧Dj w' w.heap.size av rv (Zib T.ag T.rs T.br T.pairs T.sh ps n) pvs∧Below w.heap.size w w':=by
 obtain⟨ti,hti,hz0,hz1,hz2⟩:=Ly Tryz.infoSp;have hB:Below w.heap.size w (((((w.alloc (.cells T.box 25 (0,0))).alloc (.cells #[.slice pq ps.length cq,.int .i64 n] 43 (0,0))).alloc (.cells #[.slice none 0 0,.slice none 0 0,.int .i64 0,.int .i64 0] 47 (0,0))).alloc (.cells (Zic T ⟨0,T.sh,0⟩) 231 (0,0))).alloc (.cells #[.slice none 0 0,.slice none 0 0,.int .i64 0,.int .i64 0] 47 (0,0))):=(((((Below.refl w.heap.size w).alloc (Nat.le_refl _) (.cells T.box 25 (0,0))).alloc (by simp) (.cells #[.slice pq ps.length cq,.int .i64 n] 43 (0,0))).alloc (by simp; omega) (.cells #[.slice none 0 0,.slice none 0 0,.int .i64 0,.int .i64 0] 47 (0,0))).alloc (by simp; omega) (.cells (Zic T ⟨0,T.sh,0⟩) 231 (0,0))).alloc (by simp; omega) (.cells #[.slice none 0 0,.slice none 0 0,.int .i64 0,.int .i64 0] 47 (0,0));obtain⟨r0,r1,r2,r3,hZ⟩:=Yeh w (.cells T.box 25 (0,0)) (.cells #[.slice pq ps.length cq,.int .i64 n] 43 (0,0)) (.cells #[.slice none 0 0,.slice none 0 0,.int .i64 0,.int .i64 0] 47 (0,0)) (.cells (Zic T ⟨0,T.sh,0⟩) 231 (0,0)) (.cells #[.slice none 0 0,.slice none 0 0,.int .i64 0,.int .i64 0] 47 (0,0));have r4:(((((w.alloc (.cells T.box 25 (0,0))).alloc (.cells #[.slice pq ps.length cq,.int .i64 n] 43 (0,0))).alloc (.cells #[.slice none 0 0,.slice none 0 0,.int .i64 0,.int .i64 0] 47 (0,0))).alloc (.cells (Zic T ⟨0,T.sh,0⟩) 231 (0,0))).alloc (.cells #[.slice none 0 0,.slice none 0 0,.int .i64 0,.int .i64 0] 47 (0,0))).heap[w.heap.size+4]?=some (.cells #[.slice none 0 0,.slice none 0 0,.int .i64 0,.int .i64 0] 47 (0,0)):=by have:=heap_alloc_new ((((w.alloc (.cells T.box 25 (0,0))).alloc (.cells #[.slice pq ps.length cq,.int .i64 n] 43 (0,0))).alloc (.cells #[.slice none 0 0,.slice none 0 0,.int .i64 0,.int .i64 0] 47 (0,0))).alloc (.cells (Zic T ⟨0,T.sh,0⟩) 231 (0,0))) (.cells #[.slice none 0 0,.slice none 0 0,.int .i64 0,.int .i64 0] 47 (0,0)); simpa using this
 have HB:=Za hB;have HR1:=Za r1;have HR2:=Za r2;have HG0:=Za (show Yo _ (w.heap.size+3) T ⟨0,T.sh,0⟩ from r3);have HR4:=Za r4;have HPS:=Za hps;have HT:=Za hT;have HSIG:=Za hsig;have hlt:ps.length<9223372036854775808:=by omega
 clear hB r0 r1 r2 r3 r4 hps hT hsig;unfold Yh.box Zic at *;go_enter Tryz.func63,Tryz.ntmps63
 go_wp2_with fail
 generalize World.alloc (World.alloc (World.alloc (World.alloc (World.alloc w _) _) _) _) _=W at HB HR1 HR2 HG0 HR4 hZ ⊢;generalize hb0:w.heap.size=b0 at HB HR1 HR2 HG0 HR4 HT hZ ⊢;have HI0:=Za (show OfI W b0 T ps 0 (.slice none 0 0) [] W from⟨Below.refl _ _,J HG0,J HR4,rfl,World.ownsRow_nil _ _ _ _,fun j hj=>by omega⟩);go_loopw [17] (fun j w'=>∃(k:Nat) (av:Value) (pvs:List Value),j=.int .i64 k∧k<=ps.length∧OfI W b0 T ps k av pvs w') (fun j _=>ps.length-(intOf j).toNat)
 case atStart=>exact⟨0,_,_,rfl,by omega,J HI0⟩
 case round =>
  clear HI0 HG0 HR4;obtain⟨k,av,pvs,rfl,hk,hI⟩:=hrel;have hwz:=hI.low.size;have hok:=Zle (L:=T.ag.length) (br:=T.br) (pr:=T.pairs) (sh:=T.sh) (J HSIG) k hk;by_cases hk2:k<ps.length
  ·have hnk:=Gv (J HSIG) hk2;unfold Gn at hnk;obtain⟨hm0,hm8⟩:=of_decide_eq_true hnk;have hTk:TbR wr (b0+3) T:=by
    have hm:∀{v:Value} {ns:List Int},Sk w b0 v ns->Sk wr (b0+3) v ns:=fun{v ns} h=>by
     rcases h with h | ⟨sb,so,cap,e1,e2,e3⟩
     ·exact Or.inl h
     ·refine Or.inr ⟨sb,so,cap,e1,by omega,fun i hi=>?_⟩;have e4:=e3 i hi;have hl:=World.block_lt_of_cell? w _ e4;simp only at hl;exact(World.cell?_of_block (show wr.heap[sb]?=w.heap[sb]? from(hI.low.block sb (by omega)).trans ((J HB).block sb (by omega)))).trans e4
    have ht:=J HT;exact⟨hm ht.a,hm ht.r,hm ht.s⟩
   obtain⟨p',cap',he,-,-,hcc⟩:=J HPS;injection he with j1 j2 j3;obtain⟨sb,so,hpq,hc⟩:=hcc (by omega);have c:=hc k hk2;have hsb:=World.block_lt_of_cell? w _ c;simp only at hsb;have cw:wr.cell? ⟨sb,so+k,none⟩=some (.int .i64 (ps.getD k 0)):=(World.cell?_of_block (show wr.heap[sb]?=w.heap[sb]? from(hI.low.block sb (by omega)).trans ((J HB).block sb (by omega)))).trans c;obtain⟨ap,ac,hav⟩:∃ ap ac,av=.slice ap k ac:=by
    rcases hI.own.2 with⟨e,e0⟩ | ⟨g,cap,cur,e,_⟩
    ·exact⟨_,_,by rw [e0]; exact e⟩
    ·exact⟨_,_,e⟩
   subst hav;have y0:=(cR hI.row 0);have hok1:=hok.u;have hok2:=hok.c0;have hok3:=hok.c1;have hok4:=hok.p0;have hok5:=hok.p1;have HC:=Za (Ybq T (stA T.ag.length T.br T.pairs ps T.sh k) (b0+3) (ps.getD k 0) wr.drew hI.giv (hTk.gb (Jl (Below.refl wr.heap.size wr).drew) (by omega)) hm0 hm8 hok1 (by omega) (by omega) (by omega) (by omega) (by omega));have HI:=Za hI;have HSN:=Za (show Oe T.ag.length T.br T.pairs (ps.getD k 0) (stA T.ag.length T.br T.pairs ps T.sh k)=stA T.ag.length T.br T.pairs ps T.sh (k+1) from rfl);have HSP:=Za (show Kr T.ag T.br T.pairs (ps.getD k 0) (stA T.ag.length T.br T.pairs ps T.sh k)=Cu T.ag T.br T.pairs ps T.sh k from rfl);rw [J HSN,J HSP] at HC;have hwr5:b0+5<=wr.heap.size:=by omega
   rw [j1,hpq];clear hI hTk hok hok1 hok2 hok3 hok4 hok5 hcc hc c j1 j2 j3 HSN HSP;generalize hzz:ps.getD k 0=zz at HC cw;clear hzz hnk hm0 hm8;generalize hsp:Cu T.ag T.br T.pairs ps T.sh k=sp at HC;have HSPE:=Za hsp;clear hsp;have HF:=Za (show Calls Tryz.prog 101 #[.pointer (some ⟨b0+3,0,none⟩),.int .i64 zz] wr.drew (fun e w3=>∃ v,e=.returned v∧∃ pv,v=.agg #[pv,.bool sp.ref,.int .i64 sp.at_]∧Ki w3 wr.heap.size pv sp.pl∧Yo w3 (b0+3) T (stA T.ag.length T.br T.pairs ps T.sh (k+1))∧wr.drew.grownBy w3 (some (b0+3))) from(J HC).mono (by
    rintro e w3 ⟨pv,rfl,h1,h2,h3⟩;exact⟨_,rfl,pv,rfl,h1,h2,h3⟩))
   clear HC;go_wp2_with fail
   go_region_law (first | (refine Zxe rfl (.tmp 22) (.tmp 26) 44 rfl (b0+5) 52 ti _ 3 40 Tryz.underlying44 hti hz0 hz1 hz2 rfl (by decide) (.slice ap k ac) k (Zid pvs ((List.range k).map (Cu T.ag T.br T.pairs ps T.sh))) (by simp [Act.eval]) ((J HOW3).alloc _) ⟨w3.heap.size,0,none⟩ 1 1 [.slice vp vn vc,.bool sp.ref,.int .i64 sp.at_] (by simp [Act.eval]) rfl (by intro j u hj; match j,hj with | 0,hj=>(simp at hj; subst hj; simp [Addr.add]) | 1,hj=>(simp at hj; subst hj; simp [Addr.add]) | 2,hj=>(simp at hj; subst hj; simp [Addr.add])) (by intro u hu; simp at hu; rcases hu with rfl | rfl | rfl <;> rfl) (by unfold maxLen; omega) (by omega) (by simp; omega) ?_; intro v7 w7 hown7 hgr7; have hr7:=J HR7 w7 hgr7; have j0:=(cR hr7 0); have g0:=frozen_of_row _ _ 0 _ _ hr7; obtain⟨gg7,cc7,rfl⟩:=Zbo hown7; have HOW7:=Za hown7; have HGR7:=Za hgr7; have HROW7:=Za hr7; clear hown7 hgr7 hr7) | (refine Zlc rfl 101 #[.pointer (some ⟨b0+3,0,none⟩),.int .i64 zz] (by simp [go_sem]) (J HF) ?_; rintro v w3 ⟨pv,rfl,hP3,hG3,hgb3⟩; obtain⟨vp,vn,vc,rfl⟩:=Ct hP3; have hw3:wr.heap.size<=w3.heap.size:=hgb3.size; have hr3:=(hgb3.block (b0+4) (by show b0+4<wr.heap.size; omega) (by intro e; injection e with e; omega)).trans (J HI).row; have h0:=(cR hr3 0); have h0a:=fun X:Obj=>(Gm hr3 0 X).trans rfl; have HOW3:=Za (Xh (w:=wr.drew) (J HI).own hgb3 (fun g hg e=>by injection e with e; have:=(World.ownsRow.lt (J HI).own g hg).1; omega)); have HP3:=Za hP3; have HG3:=Za hG3; have HGB3:=Za hgb3; have HR3:=Za hr3; have HR7:=Za (fun w7 (hgr:(w3.alloc (.cells #[.slice vp vn vc,.bool sp.ref,.int .i64 sp.at_] 52 (0,0))).grownBy w7 (Value.slice ap k ac).ownBlock)=>(hgr.block (b0+4) (by simp; omega) (by intro e; have:=(World.ownsRow.lt (J HOW3) (b0+4) e.symm).1; omega)).trans (((al0 w3 (.cells #[.slice vp vn vc,.bool sp.ref,.int .i64 sp.at_] 52 (0,0))).2.1.block (b0+4) (by omega)).trans hr3)); clear hP3 hG3 hgb3 hr3))
   all_goals (
    have hx:=Za ((J HI).next hwr5 (J HGB3) (J HG3) (J HP3) (J HSPE) (J HGR7) (J HOW7));clear HGR7 HOW7 HROW7 HR7 HR3 HGB3 HG3 HP3 HOW3 h0 h0a HF;go_wp2;go_roundw
    case rel=>exact⟨k+1,_,_,by go_num,by omega,J hx⟩
    case measure=>simp [intOf]; omega)
  ·obtain rfl:k=ps.length:=by omega
   obtain⟨m,rfl⟩:∃ m:Nat,n=m:=⟨n.toNat,by omega⟩;have hok1:=hok.u;have hok2:=hok.c0;have hok3:=hok.c1;have hTk:TbR wr (b0+3) T:=by
    have hm:∀{v:Value} {ns:List Int},Sk w b0 v ns->Sk wr (b0+3) v ns:=fun{v ns} h=>by
     rcases h with h | ⟨sb,so,cap,e1,e2,e3⟩
     ·exact Or.inl h
     ·refine Or.inr ⟨sb,so,cap,e1,by omega,fun i hi=>?_⟩;have e4:=e3 i hi;have hl:=World.block_lt_of_cell? w _ e4;simp only at hl;exact(World.cell?_of_block (show wr.heap[sb]?=w.heap[sb]? from(hI.low.block sb (by omega)).trans ((J HB).block sb (by omega)))).trans e4
    have ht:=J HT;exact⟨hm ht.a,hm ht.r,hm ht.s⟩
   have HC:=Za (Ybr T (stA T.ag.length T.br T.pairs ps T.sh ps.length) (b0+3) m wr hI.giv hTk (by omega) (by omega) (by omega) (by omega));obtain⟨ap,ac,hav⟩:∃ ap ac,av=.slice ap ps.length ac:=by
    rcases hI.own.2 with⟨e,e0⟩ | ⟨g,cap,cur,e,_⟩
    ·exact⟨_,_,by rw [e0]; exact e⟩
    ·exact⟨_,_,e⟩
   subst hav;have s1:=(cR ((hI.low.block (b0+1) (by omega)).trans (J HR1)) 1);have HI:=Za hI;have HE:=Za (show Zib T.ag T.rs T.br T.pairs T.sh ps m=⟨(List.range ps.length).map (Cu T.ag T.br T.pairs ps T.sh),(List.range m).map (Zdn T.rs (stA T.ag.length T.br T.pairs ps T.sh ps.length).c),Xg T.rs (stA T.ag.length T.br T.pairs ps T.sh ps.length).c m,(stA T.ag.length T.br T.pairs ps T.sh ps.length).p⟩ from rfl);clear hI hTk hok hok1 hok2 hok3;generalize stA T.ag.length T.br T.pairs ps T.sh ps.length=s9 at HC HE;go_wp2_with fail
   refine(J HC).mono ?_;rintro e w2 ⟨v,rfl,hP2,hG2,hgb2⟩;have hz2:=hgb2.size;obtain⟨rp,rn,rc,rfl⟩:=Ct hP2;have hrl:=(hgb2.block (b0+4) (by omega) (by intro e; injection e with e; omega)).trans (J HI).row;have hrr:=(hgb2.block (b0+2) (by omega) (by intro e; injection e with e; omega)).trans (((J HI).low.block (b0+2) (by omega)).trans (J HR2));have l1:=(cR hrl 1);have z1:=frozen_of_row _ _ 1 _ _ hrl;have hru:=heap_setCell_same _ _ 1 _ _ (.slice rp rn rc) hrl;have hgu:=hG2.oth (b:=b0+4) (j:=1) (v:=.slice rp rn rc) (by omega);have hru2:=(heap_setCell_other w2 ⟨b0+4,1,none⟩ (b0+2) (.slice rp rn rc) (by show b0+2≠b0+4; omega)).trans hrr;have hPu:=Zax (b:=b0+4) (j:=1) (u:=.slice rp rn rc) (Zhs hP2 (show b0+5<=wr.heap.size by omega)) (by omega);have HRU:=Za hru;have HGU:=Za hgu;have HRR:=Za hru2;have HPU:=Za hPu;have HGB2:=Za hgb2;clear hrr hP2 hG2 hgb2 s1 hru hgu hru2 hPu hrl;go_wp2_with fail
   clear l1 z1;generalize hUU:w2.setCell _ _=U at HRU HGU HRR HPU ⊢;have HUU:=Za hUU;clear hUU;have l2:=(cR (J HRU) 2);have l3:=(cR (J HRU) 3);have z2:=frozen_of_row _ _ 2 _ _ (J HRU);have z3:=frozen_of_row _ _ 3 _ _ (J HRU);have HK0:=Za (show U.drew.cell? ⟨b0+3,13,none⟩=some (.int .i64 (Xg T.rs s9.c m))∧U.drew.cell? ⟨b0+3,14,none⟩=some (.int .i64 s9.p) from⟨(J HGU).k13,(J HGU).k14⟩);have HK1:=Za (show(U.drew.setCell ⟨b0+4,2,none⟩ (.int .i64 (Xg T.rs s9.c m))).cell? ⟨b0+3,13,none⟩=some (.int .i64 (Xg T.rs s9.c m))∧(U.drew.setCell ⟨b0+4,2,none⟩ (.int .i64 (Xg T.rs s9.c m))).cell? ⟨b0+3,14,none⟩=some (.int .i64 s9.p) from⟨((J HGU).oth (w:=U.drew) (b:=b0+4) (j:=2) (v:=.int .i64 (Xg T.rs s9.c m)) (by omega)).k13,((J HGU).oth (w:=U.drew) (b:=b0+4) (j:=2) (v:=.int .i64 (Xg T.rs s9.c m)) (by omega)).k14⟩);have HK2:=Za (show((U.drew.setCell ⟨b0+4,2,none⟩ (.int .i64 (Xg T.rs s9.c m))).setCell ⟨b0+4,3,none⟩ (.int .i64 s9.p)).cell? ⟨b0+3,13,none⟩=some (.int .i64 (Xg T.rs s9.c m))∧((U.drew.setCell ⟨b0+4,2,none⟩ (.int .i64 (Xg T.rs s9.c m))).setCell ⟨b0+4,3,none⟩ (.int .i64 s9.p)).cell? ⟨b0+3,14,none⟩=some (.int .i64 s9.p) from⟨(((J HGU).oth (w:=U.drew) (b:=b0+4) (j:=2) (v:=.int .i64 (Xg T.rs s9.c m)) (by omega)).oth (b:=b0+4) (j:=3) (v:=.int .i64 s9.p) (by omega)).k13,(((J HGU).oth (w:=U.drew) (b:=b0+4) (j:=2) (v:=.int .i64 (Xg T.rs s9.c m)) (by omega)).oth (b:=b0+4) (j:=3) (v:=.int .i64 s9.p) (by omega)).k14⟩)
   refine wp_region_held_drew (S:=fun V=>V.cell? ⟨b0+3,13,none⟩=some (.int .i64 (Xg T.rs s9.c m))∧V.cell? ⟨b0+3,14,none⟩=some (.int .i64 s9.p)) (by kernel_rfl) (J HK0) (fun hHeld=>?_);refine tT 0 ?_;refine tT 1 ?_;refine tT 2 ?_;refine tT 3 ?_;refine tT 4 ?_;refine tT 5 ?_;refine tT 6 ?_;refine tT 7 ?_;refine tT 8 ?_;refine tO 9 fun K hK=>?_;go_simp;refine kO hK (J HK1) (fun hHeld2=>?_);clear hK K;refine tT 10 ?_;refine tO 11 fun K hK=>?_;go_simp;refine kO hK (J HK2) (fun hHeld2=>?_);clear hK K;refine wpAnyH_done (by kernel_rfl) ?_ _;have hrz:((U.setCell ⟨b0+1+1+1+1,2,none⟩ (.int .i64 (Xg T.rs s9.c m))).setCell ⟨b0+1+1+1+1,3,none⟩ (.int .i64 s9.p)).drew.heap[b0+4]?=some (.cells #[.slice ap ps.length ac,.slice rp rn rc,.int .i64 (Xg T.rs s9.c m),.int .i64 s9.p] 47 (0,0)):=heap_setCell_same _ _ 3 _ _ _ (heap_setCell_same U.drew _ 2 _ _ _ (J HRU));have hrq:((U.setCell ⟨b0+1+1+1+1,2,none⟩ (.int .i64 (Xg T.rs s9.c m))).setCell ⟨b0+1+1+1+1,3,none⟩ (.int .i64 s9.p)).drew.heap[b0+2]?=_:=(heap_setCell_other (U.drew.setCell ⟨b0+4,2,none⟩ (.int .i64 (Xg T.rs s9.c m))) ⟨b0+4,3,none⟩ (b0+2) (.int .i64 s9.p) (by show b0+2≠b0+4; omega)).trans ((heap_setCell_other U.drew ⟨b0+4,2,none⟩ (b0+2) (.int .i64 (Xg T.rs s9.c m)) (by show b0+2≠b0+4; omega)).trans (J HRR));have hpz:Ki ((U.setCell ⟨b0+1+1+1+1,2,none⟩ (.int .i64 (Xg T.rs s9.c m))).setCell ⟨b0+1+1+1+1,3,none⟩ (.int .i64 s9.p)).drew (b0+5) _ _:=Zax (b:=b0+4) (j:=3) (u:=.int .i64 s9.p) (Zax (w:=U.drew) (b:=b0+4) (j:=2) (u:=.int .i64 (Xg T.rs s9.c m)) (J HPU) (by omega)) (by omega)
   have hbz:∀ q,q≠b0+3->q≠b0+4->q<wr.heap.size->((U.setCell ⟨b0+1+1+1+1,2,none⟩ (.int .i64 (Xg T.rs s9.c m))).setCell ⟨b0+1+1+1+1,3,none⟩ (.int .i64 s9.p)).drew.heap[q]?=wr.heap[q]?:=fun q h1 h2 h3=>by
    have e:=J HUU;subst e;exact(heap_setCell_other ((w2.setCell ⟨b0+4,1,none⟩ (.slice rp rn rc)).setCell ⟨b0+4,2,none⟩ (.int .i64 (Xg T.rs s9.c m))) ⟨b0+4,3,none⟩ q (.int .i64 s9.p) h2).trans ((heap_setCell_other (w2.setCell ⟨b0+4,1,none⟩ (.slice rp rn rc)) ⟨b0+4,2,none⟩ q _ h2).trans ((heap_setCell_other w2 ⟨b0+4,1,none⟩ q _ h2).trans ((J HGB2).block q h3 (by intro e; injection e with e; omega))))
   have hoz:((U.setCell ⟨b0+1+1+1+1,2,none⟩ (.int .i64 (Xg T.rs s9.c m))).setCell ⟨b0+1+1+1+1,3,none⟩ (.int .i64 s9.p)).drew.os=wr.os∧((U.setCell ⟨b0+1+1+1+1,2,none⟩ (.int .i64 (Xg T.rs s9.c m))).setCell ⟨b0+1+1+1+1,3,none⟩ (.int .i64 s9.p)).drew.tape=wr.tape∧((U.setCell ⟨b0+1+1+1+1,2,none⟩ (.int .i64 (Xg T.rs s9.c m))).setCell ⟨b0+1+1+1+1,3,none⟩ (.int .i64 s9.p)).drew.output=wr.output∧((U.setCell ⟨b0+1+1+1+1,2,none⟩ (.int .i64 (Xg T.rs s9.c m))).setCell ⟨b0+1+1+1+1,3,none⟩ (.int .i64 s9.p)).drew.heap.size=w2.heap.size:=by have e:=J HUU;subst e;exact⟨(J HGB2).os,(J HGB2).tape,(J HGB2).output,by simp⟩
   clear l2 l3 z2 z3 HK0 HK1 HK2;generalize ((U.setCell ⟨b0+1+1+1+1,2,none⟩ (.int .i64 (Xg T.rs s9.c m))).setCell ⟨b0+1+1+1+1,3,none⟩ (.int .i64 s9.p)).drew=Z at hrz hrq hpz hbz hoz ⊢;obtain⟨y0,y1,y2,y3⟩:=cT4 hrz;have HRQ:=Za hrq;have HPZ:=Za hpz;have HBZ:=Za hbz;have HOZ:=Za hoz;clear hrz hrq hpz hbz hoz;go_wp2_with (refine wpList_store_row rfl 47 _ _ rfl (b0+2) #[.slice ap ps.length ac,.slice rp rn rc,.int .i64 (Xg T.rs s9.c m),.int .i64 s9.p] rfl rfl 47 _ (J HRQ) (Tryz.infLyK.trans rfl) rfl (by simp [Value.oneCell']) ?_)
   refine bodyPost_ret (Jo (fn:=Tryz.f63) (q:=4) (uy:=47) rfl _ _ (b0+2) 47 #[.slice ap ps.length ac,.slice rp rn rc,.int .i64 (Xg T.rs s9.c m),.int .i64 s9.p] (0,0) _ rfl (setRow_heap _ _ _ _ _ _ (J HRQ)) Tryz.underlying47 rfl (Tryz.infLyK.trans rfl)) rfl ?_;have hI:=J HI;have hob:=J HOZ;have hzz:=(J HGB2).size;rw [hb0,J HE];have hown:∀{e:TypeId} {size n:Nat} {v:Value} {xs:List Value},wr.ownsRow (b0+5) e size v n xs->(Z.setRow (b0+2) #[.slice ap ps.length ac,.slice rp rn rc,.int .i64 (Xg T.rs s9.c m),.int .i64 s9.p]).ownsRow b0 e size v n xs:=fun{e size n v xs} h=>by
    obtain⟨h1,h2 | ⟨g,cap,cur,e1,e2,e3,e4⟩⟩:=h
    ·exact⟨h1,Or.inl h2⟩
    ·exact⟨h1,Or.inr ⟨g,cap,cur,e1,by omega,(setRow_other _ _ _ _ (by omega)).trans ((J HBZ g (by omega) (by omega) (Zh e3)).trans e3),e4⟩⟩
   refine⟨_,_,pvs,rfl,⟨by simp [hI.len],?_,fun j hj=>?_,?_⟩,?_⟩
   ·have h:=hown hI.own;simpa using h
   ·have hj2:j<ps.length:=by simpa using hj
    have h:=hown (hI.each j hj2);have e:((List.range ps.length).map (Cu T.ag T.br T.pairs ps T.sh)).getD j Zsp=Cu T.ag T.br T.pairs ps T.sh j:=by simp [List.getD,hj2]
    show Ki _ b0 (pvs.getD j undef) (((List.range ps.length).map (Cu T.ag T.br T.pairs ps T.sh)).getD j Zsp).pl;rw [e];exact h
   ·exact Znr (J HPZ) (by omega) (by omega)
   ·refine⟨?_,?_,?_,?_,fun q hq=>?_⟩
    ·exact hob.1.trans (hI.low.os.trans (J HB).os)
    ·exact hob.2.1.trans (hI.low.tape.trans (J HB).tape)
    ·exact hob.2.2.1.trans (hI.low.output.trans (J HB).output)
    ·have h:(Z.setRow (b0+2) #[.slice ap ps.length ac,.slice rp rn rc,.int .i64 (Xg T.rs s9.c m),.int .i64 s9.p]).heap.size=Z.heap.size:=by simp [World.setRow]
     have:=hob.2.2.2;omega
    ·exact(setRow_other _ _ _ _ (by omega)).trans ((J HBZ q (by omega) (by omega) (by omega)).trans ((hI.low.block q (by omega)).trans ((J HB).block q hq)))
set_option maxHeartbeats 4000000
set_option maxRecDepth 100000
theorem Di {P:Program}{fn:Func}{p q:Tmp}{px:TypeId}(h:fn.results=#[.cell p px,.tmp q])(tmps:Array Value)(w:World)(g:Nat)(t:TypeId)(cs:Array Value)(fr:Nat×Nat)(d:TypeDesc)
 (hp:tmps.getD p undef=.pointer (some ⟨g,0,none⟩)) (hg:w.heap[g]?=some (.cells cs t fr)) (hu:P.underlying px=some d) (hd:(match d with | .struct _ | .array _ _=>true | _=>false)=true) (hi:(P.info? px).map (·.size)=some cs.size) :
 (results fn tmps).run P w=.ok (.tuple #[.agg cs,tmps.getD q undef]) w:=by
 have e1:tmps[p]?.getD undef=.pointer (some ⟨g,0,none⟩):=by simpa using hp
 simp [results,h,e1,asAddr,run_loadVar_row w g t px cs fr d hg hu hd hi]
theorem Zsm (w:World)(X0 X1 X2:Obj):(((w.alloc X0).alloc X1).alloc X2).heap[w.heap.size]?=some X0∧(((w.alloc X0).alloc X1).alloc X2).heap[w.heap.size+1]?=some X1∧(((w.alloc X0).alloc X1).alloc X2).heap[w.heap.size+1+1]?=some X2∧(((w.alloc X0).alloc X1).alloc X2).heap.size=w.heap.size+1+1+1∧Below w.heap.size w (((w.alloc X0).alloc X1).alloc X2):=by obtain⟨r0,b0,s0⟩:=al0 w X0;obtain⟨r1,b1,s1⟩:=al0 (w.alloc X0) X1;obtain⟨r2,b2,s2⟩:=al0 ((w.alloc X0).alloc X1) X2;rw [s0] at r1;rw [s1,s0] at r2;exact⟨(b2.block _ (by omega)).trans ((b1.block _ (by omega)).trans r0),(b2.block _ (by omega)).trans r1,r2,by omega,Zd (Zd b0 b1 (by omega)) b2 (by omega)⟩
def Zhu:Zdm:=⟨[],[],0,0⟩
theorem Dj.no (w:World)(B:Nat):Dj w B (.slice none 0 0) (.slice none 0 0) Zhu []:=⟨rfl,World.ownsRow_nil _ _ _ _,fun k hk=>absurd hk (by simp [Zhu]),World.ownsRow_nil _ _ _ _⟩
theorem Dj.row {w:World}{B B' b:Nat}{cs:Array Value}{av rv:Value}{l:Zdm}{pvs:List Value}(h:Dj w B av rv l pvs)(hb:b<B)(hB:B'<=B):Dj (w.setRow b cs) B' av rv l pvs:=by
 have k:∀{n size:Nat} {e:TypeId} {v:Value} {xs:List Value},w.ownsRow B e size v n xs->(w.setRow b cs).ownsRow B' e size v n xs:=fun{n size e v xs} h=>by
  obtain⟨h1,h2 | ⟨g,cap,cur,e1,e2,e3,e4⟩⟩:=h
  ·exact⟨h1,Or.inl h2⟩
  ·exact⟨h1,Or.inr ⟨g,cap,cur,e1,Nat.le_trans hB e2,(setRow_other _ _ _ _ (by omega)).trans e3,e4⟩⟩
 exact⟨h.len,k h.args,fun j hj=>k (h.each j hj),k h.res⟩
theorem Dj.keep {w w':World}{B:Nat}{av rv:Value}{l:Zdm}{pvs:List Value}(h:Dj w B av rv l pvs)(hb:Below w.heap.size w w'):Dj w' B av rv l pvs :=
 ⟨h.len,Xh h.args (Jl (o:=none) hb) (fun g _ e=>by cases e),fun j hj=>Xh (h.each j hj) (Jl (o:=none) hb) (fun g _ e=>by cases e),Xh h.res (Jl (o:=none) hb) (fun g _ e=>by cases e)⟩
theorem Dj.same {w w':World}{B B':Nat}{av rv:Value}{l:Zdm}{pvs:List Value}(h:Dj w B av rv l pvs)(hs:∀ q,B<=q->w'.heap[q]?=w.heap[q]?)(hB:B'<=B):Dj w' B' av rv l pvs:=by
 have k:∀{n size:Nat} {e:TypeId} {v:Value} {xs:List Value},w.ownsRow B e size v n xs->w'.ownsRow B' e size v n xs:=fun{n size e v xs} h=>by
  obtain⟨h1,h2 | ⟨g,cap,cur,e1,e2,e3,e4⟩⟩:=h
  ·exact⟨h1,Or.inl h2⟩
  ·exact⟨h1,Or.inr ⟨g,cap,cur,e1,Nat.le_trans hB e2,(hs g e2).trans e3,e4⟩⟩
 exact⟨h.len,k h.args,fun j hj=>k (h.each j hj),k h.res⟩
theorem Dj.shapes {w:World}{B:Nat}{av rv:Value}{l:Zdm}{pvs:List Value}(h:Dj w B av rv l pvs):(∃ p n c,av=.slice p n c)∧∃ p n c,rv=.slice p n c:=by
 refine⟨?_,Ct h.res⟩;rcases h.args.2 with⟨e,-⟩ | ⟨g,cap,cur,e,-⟩
 ·exact⟨_,_,_,e⟩
 ·exact⟨_,_,_,e⟩
def Ro (T:Yh):Bool:=Jj T.r T.sp T.lk T.t0 T.t1 T.ag T.rs T.ss T.al T.sh T.br
def Kf (T:Yh)(ps:List Int)(n:Int):Int:=if Ro T=false then 2 else if Ns (ps,n)=false then 6 else 0
def Ut (T:Yh)(ps:List Int)(n:Int):Zdm:=if Kf T ps n=0 then Zib T.ag T.rs T.br T.pairs T.sh ps n else Zhu
def Re (n:Int):Value:=if n=0 then .nilIface else .iface 127 (.int .i64 n)
theorem Zei {T:Yh}(h:Ro T=true):T.ag.length<=100∧T.rs.length<=100∧0<=T.sh∧T.sh<=100:=by unfold Ro Jj Zar Zfi at h;simp at h;omega
theorem Zej {ps:List Int}{n:Int}(h:Ns (ps,n)=true):ps.length<=8∧0<=n∧n<=4∧Gg ps 0 8=true:=by unfold Ns Gn at h;simp only [Bool.and_eq_true,decide_eq_true_eq] at h;exact⟨h.1,h.2.1.1,h.2.1.2,h.2.2⟩
structure TbO (w:World)(T:Yh):Prop where
 a:Li w (.slice T.pa T.ag.length T.ca) T.ag
 r:Li w (.slice T.pr T.rs.length T.cr) T.rs
 s:Li w (.slice T.ps T.ss.length T.cs) T.ss
theorem TbO.below {w w':World}{T:Yh}(h:TbO w T)(hb:Below w.heap.size w w'):TbO w' T:=⟨h.a.below hb,h.r.below hb,h.s.below hb⟩
theorem Li.low {w:World}{p:Option Addr}{c:Nat}{ns:List Int}(h:Li w (.slice p ns.length c) ns):Sk w w.heap.size (.slice p ns.length c) ns:=by
 obtain⟨p',c',e,h2,h3,h4⟩:=h;injection e with e1 e2 e3;subst e1 e3;by_cases h0:0<ns.length
 ·obtain⟨sb,so,e,hc⟩:=h4 h0;exact Or.inr ⟨sb,so,c,by rw [e],by have:=World.block_lt_of_cell? w _ (hc 0 h0); simpa using this,hc⟩
 ·have hn:ns=[]:=List.length_eq_zero_iff.1 (by omega);exact Or.inl ⟨hn,p,c,by rw [hn]; rfl⟩
theorem Li.cap {w:World}{p:Option Addr}{c:Nat}{ns:List Int}(h:Li w (.slice p ns.length c) ns):∀ a n cap,Value.slice p ns.length c=.slice a n cap->n<=cap:=fun a n cap e=>by
 obtain⟨p',c',e',h2,h3,h4⟩:=h;injection e' with e1 e2 e3;injection e with f1 f2 f3;omega
theorem TbO.low {w:World}{T:Yh}(h:TbO w T):TbR w w.heap.size T:=⟨h.a.low,h.r.low,h.s.low⟩
theorem Ybt (T:Yh)(ps:List Int)(pq:Option Addr)(cq:Nat)(n:Int)(w:World)(hT:TbO w T)(hps:Li w (.slice pq ps.length cq) ps) :
 Calls Tryz.prog 42 #[.agg T.box,.agg #[.slice pq ps.length cq,.int .i64 n]] w fun e w'=>∃ av rv pvs,e=.returned (.tuple #[.agg #[av,rv,.int .i64 (Ut T ps n).size,.int .i64 (Ut T ps n).copies],Re (Kf T ps n)])∧Dj w' w.heap.size av rv (Ut T ps n) pvs∧Below w.heap.size w w':=by
 have hx:=Zsm w (.cells T.box 25 (0,0)) (.cells #[.slice pq ps.length cq,.int .i64 n] 43 (0,0)) (.cells #[.slice none 0 0,.slice none 0 0,.int .i64 0,.int .i64 0] 47 (0,0));obtain⟨r0,r1,r2,hZ,hB⟩:=hx;have HR0:=Za r0;have HR1:=Za r1;have HR2:=Za r2;have HB:=Za hB;have HT:=Za hT;have HPS:=Za hps;clear r0 r1 r2 hB hT hps;have HBX:=Za (show T.box=Zt T.r T.sp T.lk T.t0 T.t1 (.slice T.pa T.ag.length T.ca) (.slice T.pr T.rs.length T.cr) (.slice T.ps T.ss.length T.cs) T.al T.sh T.br T.pairs from rfl);unfold Yh.box at HR0 HR1 HR2 HB hZ ⊢;go_enter Tryz.func42,Tryz.ntmps42
 go_wp2_with fail
 generalize World.alloc (World.alloc (World.alloc w _) _) _=W at HR0 HR1 HR2 HB hZ ⊢;refine(Zbh T.r T.sp T.lk T.t0 T.t1 (.slice T.pa T.ag.length T.ca) (.slice T.pr T.rs.length T.cr) (.slice T.ps T.ss.length T.cs) T.al T.sh T.br T.pairs T.ag T.rs T.ss W ((J HT).below (J HB)).a.rs ((J HT).below (J HB)).r.rs ((J HT).below (J HB)).s.rs (J HT).a.cap (J HT).r.cap (J HT).s.cap).mono ?_;rintro e w2 ⟨rfl,hb2⟩;have hs2:=hb2.size;have HB2:=Za (Zd (J HB) hb2 (by omega));have HA0:=Za ((hb2.block w.heap.size (by omega)).trans (J HR0));have HA1:=Za ((hb2.block (w.heap.size+1) (by omega)).trans (J HR1));have HA2:=Za ((hb2.block (w.heap.size+1+1) (by omega)).trans (J HR2));clear hb2 HR0 HR1 HR2;cases ht:Jj T.r T.sp T.lk T.t0 T.t1 T.ag T.rs T.ss T.al T.sh T.br with
 | false =>
  have HN:=Za (show Kf T ps n=2 by unfold Kf Ro; rw [ht]; rfl);have HL:=Za (show Ut T ps n=Zhu by unfold Ut; rw [J HN]; rfl);clear ht;unfold Zgw;go_wp2_with (refine wpList_store_row rfl 47 _ _ rfl (w.heap.size+1+1) #[.slice none 0 0,.slice none 0 0,.int .i64 0,.int .i64 0] rfl rfl 47 _ (J HA2) (Tryz.infLyK.trans rfl) rfl (by simp [Value.oneCell']) ?_)
  refine bodyPost_ret (Di (fn:=Tryz.f42) (p:=4) (q:=5) (px:=47) rfl _ _ (w.heap.size+1+1) 47 #[.slice none 0 0,.slice none 0 0,.int .i64 0,.int .i64 0] (0,0) _ rfl (setRow_heap _ _ _ _ _ _ (J HA2)) Tryz.underlying47 rfl (Tryz.infLyK.trans rfl)) rfl ?_;refine⟨_,_,[],by rw [J HL,J HN]; rfl,?_,Zg (J HB2) (by omega)⟩;rw [J HL];exact Dj.no _ _
 | true =>
  have HTT:=Za (show Ro T=true from ht);clear ht;have x0:=(cR (J HA1) 0);have x1:=(cR (J HA1) 1);unfold Zgw;go_wp2_with fail
  clear x0 x1;refine(Cr _ ps n w2 ((J HPS).below (J HB2))).mono ?_;rintro e w3 ⟨rfl,hb3⟩;have hs3:=hb3.size;have HB3:=Za (Zd (J HB2) hb3 (by omega));have HC0:=Za ((hb3.block w.heap.size (by omega)).trans (J HA0));have HC1:=Za ((hb3.block (w.heap.size+1) (by omega)).trans (J HA1));have HC2:=Za ((hb3.block (w.heap.size+1+1) (by omega)).trans (J HA2));clear hb3 HA0 HA1 HA2;cases hg:Ns (ps,n) with
  | false =>
   have HN:=Za (show Kf T ps n=6 by unfold Kf; rw [J HTT,hg]; rfl);have HL:=Za (show Ut T ps n=Zhu by unfold Ut; rw [J HN]; rfl);clear hg;go_wp2_with (refine wpList_store_row rfl 47 _ _ rfl (w.heap.size+1+1) #[.slice none 0 0,.slice none 0 0,.int .i64 0,.int .i64 0] rfl rfl 47 _ (J HC2) (Tryz.infLyK.trans rfl) rfl (by simp [Value.oneCell']) ?_)
   refine bodyPost_ret (Di (fn:=Tryz.f42) (p:=4) (q:=5) (px:=47) rfl _ _ (w.heap.size+1+1) 47 #[.slice none 0 0,.slice none 0 0,.int .i64 0,.int .i64 0] (0,0) _ rfl (setRow_heap _ _ _ _ _ _ (J HC2)) Tryz.underlying47 rfl (Tryz.infLyK.trans rfl)) rfl ?_;refine⟨_,_,[],by rw [J HL,J HN]; rfl,?_,Zg (J HB3) (by omega)⟩;rw [J HL];exact Dj.no _ _
  | true =>
   have HN:=Za (show Kf T ps n=0 by unfold Kf; rw [J HTT,hg]; rfl);have HL:=Za (show Ut T ps n=Zib T.ag T.rs T.br T.pairs T.sh ps n by unfold Ut; rw [J HN]; rfl);obtain⟨q1,q2,q3,q4⟩:=Zej hg;obtain⟨t1,t2,t3,t4⟩:=Zei (J HTT);have HC:=Za (Yej T ps pq cq n w3 ((J HT).below (J HB3)).low ((J HPS).below (J HB3)) q4 q1 q2 q3 t1 t2 t3 t4);unfold Yh.box at HC;clear hg q1 q2 q3 q4 t1 t2 t3 t4;have x0:=(cR (J HC1) 0);have x1:=(cR (J HC1) 1);obtain⟨b0,b1,b2,b3,b4,b5,b6,b7,b8,b9,b10,b11⟩:=cT12 (J HC0);go_wp2_with fail
   clear x0 x1 b0 b1 b2 b3 b4 b5 b6 b7 b8 b9 b10 b11;refine(J HC).mono ?_;rintro e w4 ⟨av,rv,pvs,rfl,hlay,hb4⟩;obtain⟨⟨ap,an,ac,rfl⟩,rp,rn,rc,rfl⟩:=hlay.shapes;have HLY:=Za hlay;have HB4:=Za (Zd (J HB3) hb4 (by omega));have HD2:=Za ((hb4.block (w.heap.size+1+1) (by omega)).trans (J HC2));clear hlay hb4;generalize Zib T.ag T.rs T.br T.pairs T.sh ps n=le at HL HLY ⊢;go_wp2_with (refine wpList_store_row rfl 47 _ _ rfl (w.heap.size+1+1) #[.slice ap an ac,.slice rp rn rc,.int .i64 le.size,.int .i64 le.copies] rfl rfl 47 _ (J HD2) (Tryz.infLyK.trans rfl) rfl (by simp [Value.oneCell']) ?_)
   refine bodyPost_ret (Di (fn:=Tryz.f42) (p:=4) (q:=5) (px:=47) rfl _ _ (w.heap.size+1+1) 47 #[.slice ap an ac,.slice rp rn rc,.int .i64 le.size,.int .i64 le.copies] (0,0) _ rfl (setRow_heap _ _ _ _ _ _ (J HD2)) Tryz.underlying47 rfl (Tryz.infLyK.trans rfl)) rfl ?_;refine⟨_,_,pvs,by rw [J HL,J HN]; rfl,?_,Zg (J HB4) (by omega)⟩;rw [J HL];exact(J HLY).row (by omega) (by omega)
structure Zlw (s:List Int×Int):Prop where
 n:Gg s.1 0 8=true
 l:s.1.length<=8
 r0:0<=s.2
 r4:s.2<=4
structure Zqr (T:Yh):Prop where
 a:T.ag.length<=100
 r:T.rs.length<=100
 s0:0<=T.sh
 s1:T.sh<=100
def Sr (T:Yh)(s:List Int×Int):Zdm:=Zib T.ag T.rs T.br T.pairs T.sh s.1 s.2
def Zak (P:Zj)(i:Yj):Option (List Int×Int) :=
 if i.op=12∨i.op=17 then some (Le (P.funcs.getD i.f.toNat Zk)) else if i.op=13 then some (P.externs.getD i.f.toNat ([],0)) else none
def Yev (T:Yh)(own s:List Int×Int):Bool:=decide ((Sr T s).copies=0)&&(decide ((Sr T s).size<=(Sr T own).size)&&decide (s.2<=T.rs.length))
def Zal (T:Yh)(P:Zj)(own:List Int×Int)(i:Yj):Option (List Int×Int) :=
 match Zak P i with
 | none=>none
 | some s=>if (decide (i.op=17)&&Yev T own s)=true then none else some s
def Ss (T:Yh)(P:Zj)(own:List Int×Int)(bs:List (List Yj))(k:Nat):List (List Int×Int):=(bs.take k).flatMap fun b=>b.filterMap (Zal T P own)
def Ie (T:Yh)(P:Zj)(own:List Int×Int)(bs:List (List Yj))(k j:Nat):List (List Int×Int):=Ss T P own bs k++((bs.getD k []).take j).filterMap (Zal T P own)
theorem Zqs (T:Yh)(P:Zj)(own:List Int×Int)(bs:List (List Yj))(k:Nat):Ie T P own bs k 0=Ss T P own bs k:=by simp [Ie]
theorem Zqt (T:Yh)(P:Zj)(own:List Int×Int)(bs:List (List Yj))(k j:Nat)(h:j<(bs.getD k []).length) :
 Ie T P own bs k (j+1)=Ie T P own bs k j++(Zal T P own ((bs.getD k []).getD j Lc)).toList:=by
 unfold Ie;rw [List.append_assoc];congr 1
 rw [List.take_add_one,List.filterMap_append];congr 1
 generalize bs.getD k []=b at h ⊢;rw [List.getElem?_eq_getElem h,show b.getD j Lc=b[j] by simp [List.getD,h]];simp only [Option.toList_some,List.filterMap_cons,List.filterMap_nil];cases Zal T P own b[j] <;> rfl
theorem Zeu (T:Yh)(P:Zj)(own:List Int×Int)(bs:List (List Yj))(k:Nat)(h:k<bs.length):Ie T P own bs k (bs.getD k []).length=Ss T P own bs (k+1):=by unfold Ie Ss;rw [List.take_length,List.take_add_one,List.flatMap_append,List.getElem?_eq_getElem h,show bs.getD k []=bs[k] by simp [List.getD,h]];simp
def lyC (vs:List (Value×Value))(ls:List Zdm):List Value:=(vs.zip ls).flatMap fun x=>[x.1.1,x.1.2,.int .i64 x.2.size,.int .i64 x.2.copies]
def LyO (w:World)(B:Nat)(v:Value)(T:Yh)(ss:List (List Int×Int)):Prop:=∃ vs:List (Value×Value),vs.length=ss.length∧(∀ x ∈ vs,x.1.oneCell'=true∧x.2.oneCell'=true)∧w.ownsRow B 47 4 v ss.length (lyC vs (ss.map (Sr T)))
theorem Zce {P:Zj}{i:Yj}(h1:¬ (i.op=12∨i.op=17))(h2:¬ i.op=13):Zak P i=none:=by unfold Zak; rw [if_neg h1,if_neg h2]
set_option maxHeartbeats 4000000
set_option maxRecDepth 100000
theorem Mp {P:Program}{fn:Func}{p q:Tmp}{px:TypeId}(h:fn.results=#[.cell p px,.tmp q])(tmps:Array Value)(w:World)(g:Nat)(t:TypeId)(cs:Array Value)(fr:Nat×Nat)(d:TypeDesc)
 (hp:tmps.getD p undef=.pointer (some ⟨g,0,none⟩)) (hg:w.heap[g]?=some (.cells cs t fr)) (hu:P.underlying px=some d) (hd:(match d with | .struct _ | .array _ _=>true | _=>false)=true) (hi:(P.info? px).map (·.size)=some cs.size) :
 (results fn tmps).run P w=.ok (.tuple #[.agg cs,tmps.getD q undef]) w:=by
 have e1:tmps[p]?.getD undef=.pointer (some ⟨g,0,none⟩):=by simpa using hp
 simp [results,h,e1,asAddr,run_loadVar_row w g t px cs fr d hg hu hd hi]
theorem Sa (w:World)(X0 X1 X2:Obj):(((w.alloc X0).alloc X1).alloc X2).heap[w.heap.size]?=some X0∧(((w.alloc X0).alloc X1).alloc X2).heap[w.heap.size+1]?=some X1∧(((w.alloc X0).alloc X1).alloc X2).heap[w.heap.size+1+1]?=some X2∧(((w.alloc X0).alloc X1).alloc X2).heap.size=w.heap.size+1+1+1∧Below w.heap.size w (((w.alloc X0).alloc X1).alloc X2):=by obtain⟨r0,b0,s0⟩:=al0 w X0;obtain⟨r1,b1,s1⟩:=al0 (w.alloc X0) X1;obtain⟨r2,b2,s2⟩:=al0 ((w.alloc X0).alloc X1) X2;rw [s0] at r1;rw [s1,s0] at r2;exact⟨(b2.block _ (by omega)).trans ((b1.block _ (by omega)).trans r0),(b2.block _ (by omega)).trans r1,r2,by omega,Zd (Zd b0 b1 (by omega)) b2 (by omega)⟩
theorem Ztm (P:Zj)(i:Yj)(fv ev av ov:Value)(A E:Nat->Array Value)(w:World)(hP:Mk w fv ev P A E)(hon:i.op=3∨i.op=16∨i.op=0)(hav:∃ p n c,av=.slice p n c)(hov:∃ p n c,ov=.slice p n c) :
 Calls Tryz.prog 153 #[.agg #[fv,ev],.agg #[.int .i64 i.op,.int .i64 i.d,.int .i64 i.a,.int .i64 i.bb,.int .u64 i.n,.int .i64 i.f,av,ov]] w fun e w'=>∃ lv,e=.returned (.tuple #[.agg #[lv,.int .i64 ((Zak P i).getD ([],0)).2],.bool (Zak P i).isSome])∧Li w' lv ((Zak P i).getD ([],0)).1∧Below w.heap.size w w':=by
 obtain⟨ap,an,ac,rfl⟩:=hav;obtain⟨op',on,oc,rfl⟩:=hov;obtain⟨r0,r1,r2,hZ,hB⟩:=Sa w (.cells #[fv,ev] 62 (0,0)) (.cells #[.int .i64 i.op,.int .i64 i.d,.int .i64 i.a,.int .i64 i.bb,.int .u64 i.n,.int .i64 i.f,.slice ap an ac,.slice op' on oc] 110 (0,0)) (.cells #[.slice none 0 0,.int .i64 0] 43 (0,0));obtain⟨pf,cf,hfs,-,hlf,hcf⟩:=(hP.below hB).fs;obtain⟨pe,ce,hes,-,hle,hce⟩:=(hP.below hB).es;subst hfs hes;have hlf':P.funcs.length<9223372036854775808:=hlf;have hle':P.externs.length<9223372036854775808:=hle;have HR2:=Za r2;have HB:=Za hB;clear r0 r1 r2 hB hcf hce hP hlf hle;obtain⟨iop,id_,ia,ib,iN,iF,iargs,iouts⟩:=i;simp only at *;have HSG:=Za (show Zak P ⟨iop,id_,ia,ib,iN,iF,iargs,iouts⟩=none from Zce (by simp only; omega) (by simp only; omega));have z1:(iop==12)=false:=by simp; omega
 have z2:(iop==17)=false:=by simp; omega
 have z3:(iop==13)=false:=by simp; omega
 clear hon;go_enter Tryz.func153,Tryz.ntmps153
 go_wp2_with (refine wpList_store_row rfl 43 _ _ rfl (w.heap.size+1+1) #[.slice none 0 0,.int .i64 0] rfl rfl 43 _ (J HR2) (Tryz.infSigK.trans rfl) rfl (by simp [Value.oneCell']) ?_)
 refine bodyPost_ret (Mp (fn:=Tryz.f153) (p:=4) (q:=5) (px:=43) rfl _ _ (w.heap.size+1+1) 43 #[.slice none 0 0,.int .i64 0] (0,0) _ rfl (setRow_heap _ _ _ _ _ _ (J HR2)) Tryz.underlying43 rfl (Tryz.infSigK.trans rfl)) rfl ?_;exact⟨_,by rw [J HSG]; rfl,by rw [J HSG]; exact Li.nil _,Zg (J HB) (by omega)⟩
end Go.Proofs.YtkenknfgeoecbaaGreatDoor
