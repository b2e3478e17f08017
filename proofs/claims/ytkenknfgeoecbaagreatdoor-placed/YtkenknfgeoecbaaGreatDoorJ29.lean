import Derived.Test.YtkenknfgeoecbaaGreatDoorJ24
namespace Go.Proofs.YtkenknfgeoecbaaGreatDoor
open Go.RowKit
set_option maxHeartbeats 4000000
set_option maxRecDepth 100000
theorem Zth {xs:List Value}{n:Nat}(f:Nat→Int×Int)(hl:xs.length=n*2)(h:∀ j,j<n→xs[j*2]?=some (.int .i64 (f j).1)∧xs[j*2+1]?=some (.int .i64 (f j).2)):xs=Rr ((List.range n).map f):=by
 apply List.ext_getElem?
 intro i;have hlen:(Rr ((List.range n).map f)).length=n*2:=by rw [Dm]; simp
 by_cases hi:i<n*2
 ·have hg:=Zbi ((List.range n).map f) (i / 2) (by simp; omega);have hd:((List.range n).map f).getD (i / 2) (0,0)=f (i / 2):=by simp [List.getD,show i / 2<n by omega]
  rw [hd] at hg;have hx:=h (i / 2) (by omega);rcases Nat.mod_two_eq_zero_or_one i with hm | hm
  ·have e:i=i / 2*2:=by omega
   rw [e,hx.1,hg.1]
  ·have e:i=i / 2*2+1:=by omega
   rw [e,hx.2,hg.2]
 ·rw [List.getElem?_eq_none (by omega),List.getElem?_eq_none (by omega)]
def Dj (L n:Nat)(u1:Nat)(s:Jq)(k:Nat):Jq:=⟨if rgS L n u1=true then u1+k else L,if rgS L n u1=true then s.c else s.c+8*k,s.p⟩
theorem Zhs {ag:List Int}{n u1:Nat}{s:Jq}{k:Nat}(hk:k<n):plW ag (Dj ag.length n u1 s k)=plS ag (rgS ag.length n u1) u1 s.c k∧nxW ag (Dj ag.length n u1 s k)=Dj ag.length n u1 s (k+1):=by
 unfold plW nxW Dj plS;cases hr:rgS ag.length n u1 with
 | true =>
  have:u1+n≤ag.length:=by unfold rgS at hr; exact of_decide_eq_true hr
  simp only [if_true];rw [if_pos (by omega),if_pos (by omega)];exact⟨rfl,rfl⟩
 | false=>simp only [Bool.false_eq_true,if_false];rw [if_neg (by omega),if_neg (by omega)];refine⟨rfl,?_⟩;simp only [Jq.mk.injEq,true_and,and_true];omega
theorem Tryz.infoPl:(Tryz.prog.info? 34).map (fun i=>(i.zero,i.size,i.bytes))=some (some (.agg #[.int .i64 0,.int .i64 0]),2,16):=by kernel_rfl
theorem Yfd (n:Nat)(hn:n≤1000)(w:World):(Instr.makeSlice 45 (.int .i64 (n:Int)) (.int .i64 (n:Int))).run Tryz.prog w=.ok (.slice (some ⟨w.heap.size,0,none⟩) n n) (w.alloc (.cells (madeCells #[.int .i64 0,.int .i64 0] (n*2)) 34)):=by obtain⟨ti,hti,hz0,hz1,hz2⟩:=Js Tryz.infoPl;have h:=run_make (P:=Tryz.prog) w 45 34 ti _ Tryz.underlying45 hti hz0 .i64 .i64 (n:Int) (n:Int) (by omega) (Int.le_refl _) (by rw [hz2]; omega) (by omega);rw [hz1,Int.toNat_natCast] at h;exact h
theorem Zti (T:Yh)(s:Jq)(G n:Nat)(w:World)(hG:Yn w G T s)(hT:TbR w G T)(hn1:1≤n)(hn8:n≤8)(hu:s.u≤T.ag.length)(hL:T.ag.length≤1000)(hc0:0≤s.c)(hc1:s.c≤1000) :
 Calls Tryz.prog 148 #[.pointer (some ⟨G,0,none⟩),.int .i64 n] w fun e w'=>∃ v,e=.returned v∧Uu w' w.heap.size v ((List.range n).map (plS T.ag (rgS T.ag.length n (Rz T.pairs n s.u)) (Rz T.pairs n s.u) s.c))∧Yn w' G T (Dj T.ag.length n (Rz T.pairs n s.u) s n)∧w.grownBy w' (some G):=by
 obtain⟨ti,hti,hz0,hz1,hz2⟩:=Js Tryz.infoPl;have HG:=Za hG;have HT:=Za hT;have hlt:=hG.lt;have hu1:Rz T.pairs n s.u≤s.u+1:=by unfold Rz; split <;> omega
 clear hG hT;go_enter Tryz.func148,Tryz.ntmps148
 go_upto_region 1 with fail
 go_cut [23] from 7 (fun b wc=>wc=w∧b=.bool (decide (1<n)&&(T.pairs&&decide (s.u % 2=1))))
 case first =>
  have y12:=(J HG).k12;have y11:=(J HG).k11;have HN:=Za (True.intro);cases hp:T.pairs with
  | false =>
   rw [hp] at y11;have HPP:=Za hp;clear hp;go_wp2;go_meet
   case rel=>exact⟨rfl,by rw [J HPP]; simp⟩
  | true =>
   rw [hp] at y11;have HPP:=Za hp;clear hp;by_cases h2:2≤n
   ·by_cases h3:s.u % 2=1
    ·have zz:((s.u:Int) % 2==1)=true:=by simp; omega
     have hx:=Za h3;clear h3;go_wp2;go_meet
     case rel=>exact⟨rfl,by rw [J HPP,decide_eq_true (J hx),decide_eq_true (show 1<n by omega)]; rfl⟩
    ·have zz:((s.u:Int) % 2==1)=false:=by simp; omega
     have hx:=Za h3;clear h3;go_wp2;go_meet
     case rel=>exact⟨rfl,by rw [decide_eq_false (J hx)]; simp⟩
   ·go_wp2;go_meet
    case rel=>exact⟨rfl,by rw [decide_eq_false (show ¬ 1<n by omega)]; rfl⟩
 case rest =>
  obtain⟨hwc,rfl⟩:=hcut;subst wc;go_upto_if 23 with fail
  go_cut [] from 7 (fun wd=>Yn wd G T ⟨Rz T.pairs n s.u,s.c,s.p⟩∧w.grownBy wd (some G))
  case first =>
   have y12:=(J HG).k12;have fz:=(J HG).fz 12;cases hb:(decide (1<n)&&(T.pairs&&decide (s.u % 2=1))) with
   | false =>
    have hx:=Za (show Yn w G T ⟨Rz T.pairs n s.u,s.c,s.p⟩∧w.grownBy w (some G) by rw [show Rz T.pairs n s.u=s.u by unfold Rz; rw [hb]; rfl]; exact⟨J HG,Ol w _⟩);clear hb;go_wp2;go_meet
    case rel=>exact J hx
   | true =>
    have hx:=Za (show Yn (w.setCell ⟨G,12,none⟩ (.int .i64 ((s.u+1:Nat):Int))) G T ⟨Rz T.pairs n s.u,s.c,s.p⟩∧w.grownBy (w.setCell ⟨G,12,none⟩ (.int .i64 ((s.u+1:Nat):Int))) (some G) by rw [show Rz T.pairs n s.u=s.u+1 by unfold Rz; rw [hb]; rfl]; exact⟨(J HG).u _,Ud (Ol w _)⟩);clear hb;go_wp2;go_meet
    case rel=>exact J hx
  case rest =>
   obtain⟨hG1,hgb1⟩:=hcut;have HG1:=Za hG1;have HGB1:=Za hgb1;obtain⟨u1,hue⟩:∃ u1,u1=Rz T.pairs n s.u:=⟨_,rfl⟩;rw [← hue] at hG1 HG1 hu1;have HUE:=Za hue;clear hue;have y12:=(J HG1).k12;have y5:=(J HG1).k5;go_wp2_with fail
   go_quiet (fail)
   clear y12 y5;generalize hk:World.drewN _ _=wq;obtain⟨hGq,hgbq⟩:Yn wq G T ⟨u1,s.c,s.p⟩∧w.grownBy wq (some G):=by subst hk; exact⟨J HG1,Zib (J HGB1) _⟩
   have HGq:=Za hGq;have HGBq:=Za hgbq;clear hk hGq hgbq HG1 HGB1 hG1 hgb1;go_upto_if 43 with fail
   go_cut [] from 31 (fun wd=>Yn wd G T (Dj T.ag.length n u1 s 0)∧w.grownBy wd (some G))
   case first =>
    have fz:=(J HGq).fz 12;have y12:=(J HGq).k12;have y5:=(J HGq).k5;by_cases h:u1+n≤T.ag.length
    ·have hx:=Za (show Yn wq G T (Dj T.ag.length n u1 s 0)∧w.grownBy wq (some G) by rw [show Dj T.ag.length n u1 s 0=⟨u1,s.c,s.p⟩ by unfold Dj rgS; simp [h]]; exact⟨J HGq,J HGBq⟩);go_wp2;go_meet
     case rel=>exact J hx
    ·have hx:=Za (show Yn (wq.setCell ⟨G,12,none⟩ (.int .i64 (T.ag.length:Int))) G T (Dj T.ag.length n u1 s 0)∧w.grownBy (wq.setCell ⟨G,12,none⟩ (.int .i64 (T.ag.length:Int))) (some G) by rw [show Dj T.ag.length n u1 s 0=⟨T.ag.length,s.c,s.p⟩ by unfold Dj rgS; simp [h]]; exact⟨(J HGq).u _,Ud (J HGBq)⟩);go_wp2;go_meet
     case rel=>exact J hx
   case rest =>
    obtain⟨hG2,hgb2⟩:=hcut;have HG2:=Za hG2;have HGB2:=Za hgb2;clear hG2 hgb2;have hmk:=fun V=>Yfd n (by omega) V;go_wp2_with fail
    clear hmk;obtain⟨hR,hB,hs⟩:=al0 wc (.cells (madeCells #[.int .i64 0,.int .i64 0] (n*2)) 34 (0,0));have hgs:=(J HGB2).size;have hwT:w.heap.size≤wc.heap.size:=hgs;have HGB3:=Za (Gh (J HGB2) (Xe (o:=some G) hB));have HG3:=Za ((J HG2).new (.cells (madeCells #[.int .i64 0,.int .i64 0] (n*2)) 34 (0,0)));have HR3:=Za hR;clear HG2 HGB2 hR hB hgs HGq HGBq;generalize hTp:wc.heap.size=Tp at HR3 hs hwT ⊢;generalize World.alloc wc _=V at HG3 HGB3 HR3 hs ⊢;clear hTp;go_loopw [57] (fun j w'=>∃(k:Nat) (cs:Array Value),j=.int .i64 k∧k≤n∧w'.heap[Tp]?=some (.cells cs 34 (0,0))∧cs.size=n*2∧(∀ q,q<k→cs[q*2]?=some (.int .i64 (plS T.ag (rgS T.ag.length n u1) u1 s.c q).1)∧cs[q*2+1]?=some (.int .i64 (plS T.ag (rgS T.ag.length n u1) u1 s.c q).2))∧Yn w' G T (Dj T.ag.length n u1 s k)∧w.grownBy w' (some G)) (fun j _=>n-(intOf j).toNat)
    case atStart=>exact⟨0,_,rfl,by omega,J HR3,size_madeCells _ _,fun q hq=>by omega,J HG3,J HGB3⟩
    case round =>
     clear HG3 HGB3 HR3;obtain⟨k,cs,rfl,hk,hrow,hsz,hcs,hGk,hgb⟩:=hrel;have HRW:=Za hrow;have HCS:=Za hcs;have HGK:=Za hGk;have HGB:=Za hgb;have hgsz:=hgb.size;have hTw:=Zi hrow;clear hrow hcs hGk hgb;by_cases hk2:k<n
     ·have hw1:=(Zhs (ag:=T.ag) (u1:=u1) (s:=s) hk2).1;have hw2:=(Zhs (ag:=T.ag) (u1:=u1) (s:=s) hk2).2;have HC:=Za (Znp T (Dj T.ag.length n u1 s k) G wr (J HGK) ((J HT).gb (J HGB) hlt) (by omega) (by unfold Dj; simp only; split <;> omega) (by unfold Dj; simp only; split <;> omega) (by unfold Dj; simp only; split <;> omega));rw [hw1,hw2] at HC;have HW2:=Za hw2;clear hw1 hw2;generalize hpl:plS T.ag (rgS T.ag.length n u1) u1 s.c k=xy at HC;have HPL:=Za hpl;clear hpl;obtain⟨x,y⟩:=xy;simp only at HC;go_wp2_with fail
      refine(J HC).mono ?_;rintro e w2 ⟨rfl,hG5,hgb5⟩;have hTG:Tp≠G:=by omega
      have hr5:=(hgb5.block Tp hTw (by intro e; injection e with e; omega)).trans (J HRW);obtain⟨x0,hx0⟩:∃ x0,cs[k*2]?=some x0:=⟨_,Array.getElem?_eq_getElem (by omega)⟩;obtain⟨x1,hx1⟩:∃ x1,cs[k*2+1]?=some x1:=⟨_,Array.getElem?_eq_getElem (by omega)⟩;have c0:=(Zh hr5 (k*2)).trans hx0;have c1:=(Zh hr5 (k*2+1)).trans hx1;have z0:=frozen_of_row _ _ (k*2) _ _ hr5;have z1:=frozen_of_row _ _ (k*2+1) _ _ hr5;have HR6:=Za (heap_setCell_same _ _ (k*2+1) _ _ (.int .i64 y) (heap_setCell_same _ _ (k*2) _ _ (.int .i64 x) hr5));have HG6:=Za ((hG5.oth (b:=Tp) (j:=k*2) (v:=.int .i64 x) (by omega)).oth (b:=Tp) (j:=k*2+1) (v:=.int .i64 y) (by omega));have HGB6:=Za (Mz (b:=Tp) (j:=k*2+1) (v:=.int .i64 y) (Mz (b:=Tp) (j:=k*2) (v:=.int .i64 x) (Gh (J HGB) hgb5) (by omega)) (by omega));have HNX:=Za (show ∀ q,q<k+1→((cs.setIfInBounds (k*2) (.int .i64 x)).setIfInBounds (k*2+1) (.int .i64 y))[q*2]?=some (.int .i64 (plS T.ag (rgS T.ag.length n u1) u1 s.c q).1)∧((cs.setIfInBounds (k*2) (.int .i64 x)).setIfInBounds (k*2+1) (.int .i64 y))[q*2+1]?=some (.int .i64 (plS T.ag (rgS T.ag.length n u1) u1 s.c q).2) from fun q hq=>by
       by_cases hqk:q=k
       ·subst hqk;rw [J HPL];refine⟨?_,?_⟩
        ·rw [Array.getElem?_setIfInBounds_ne (by omega),Array.getElem?_setIfInBounds_self_of_lt (by omega)]
        ·rw [Array.getElem?_setIfInBounds_self_of_lt (by simp; omega)]
       ·have h:=J HCS q (by omega);refine⟨?_,?_⟩
        ·rw [Array.getElem?_setIfInBounds_ne (by omega),Array.getElem?_setIfInBounds_ne (by omega)]; exact h.1
        ·rw [Array.getElem?_setIfInBounds_ne (by omega),Array.getElem?_setIfInBounds_ne (by omega)]; exact h.2)
      clear hr5 hx0 hx1 hG5 hgb5;go_wp2;go_roundw
      case rel=>exact⟨k+1,_,by go_num,by omega,J HR6,by simp; omega,J HNX,J HG6,J HGB6⟩
      case measure=>simp [intOf]; omega
     ·obtain rfl:k=n:=by omega
      go_wp2;go_ret;rw [← J HUE];have he:=Zth (xs:=cs.toList) (n:=k) (plS T.ag (rgS T.ag.length k u1) u1 s.c) (by simp; omega) (fun j hj=>by have h:=J HCS j hj; simpa using h);refine⟨_,rfl,⟨by rw [Dm],Or.inr ⟨Tp,k,cs,by simp,hwT,J HRW,by simp,by simp [maxLen]; omega,hsz,?_⟩⟩,J HGK,J HGB⟩;rw [← he];simp only [List.length_map,List.length_range];rw [List.take_of_length_le (by simp; omega)]
set_option maxHeartbeats 4000000
set_option maxRecDepth 100000
theorem Tryz.infSpK:(Tryz.prog.info? 52).map (·.size)=some 3:=by kernel_rfl
theorem Znq {V:World}{B b:Nat}{x:Int×Int}(h:V.heap[b]?=some (.cells #[.int .i64 x.1,.int .i64 x.2] 34 (0,0)))(hb:B≤b):Uu V B (.slice (some ⟨b,0,none⟩) 1 1) [x] :=
 ⟨rfl,Or.inr ⟨b,1,_,rfl,hb,h,Nat.le_refl _,by simp [maxLen],rfl,rfl⟩⟩
theorem Znr {V:World}{B B' T:Nat}{cs:Array Value}{v:Value}{xs:List (Int×Int)}(h:Uu V B v xs)(hb:T<B)(hB:B'≤B):Uu (V.setRow T cs) B' v xs:=by
 obtain⟨h1,h2 | ⟨g,cap,cur,e1,e2,e3,e4⟩⟩:=h
 ·exact⟨h1,Or.inl h2⟩
 ·exact⟨h1,Or.inr ⟨g,cap,cur,e1,Nat.le_trans hB e2,(setRow_other _ _ _ _ (by omega)).trans e3,e4⟩⟩
theorem Zeu {ag:List Int}{br:Int}{pr:Bool}{n:Int}{s:Jq}(h:n=0∨br<n):Ch ag br pr n s=⟨[plW ag s],decide (br<n),if br<n then s.p else 0⟩∧Md ag.length br pr n s=⟨(nxW ag s).u,(nxW ag s).c,if br<n then s.p+8*n else s.p⟩:=by
 have hw:Oj br n=1:=by unfold Oj; rw [if_pos h]
 unfold Ch Md;rw [hw,Zfy];have hr:rgS ag.length 1 s.u=decide (s.u<ag.length):=by unfold rgS; exact decide_eq_decide.2 (by omega)
 rw [hr];by_cases hu:s.u<ag.length
 ·simp only [decide_eq_true hu,if_true];refine⟨?_,?_⟩
  ·simp only [List.range_succ,List.range_zero,List.nil_append,List.map_cons,List.map_nil,plS,plW,if_pos hu,if_true,Nat.add_zero]
  ·simp only [nxW,if_pos hu]
 ·simp only [decide_eq_false hu,Bool.false_eq_true,if_false];refine⟨?_,?_⟩
  ·simp only [List.range_succ,List.range_zero,List.nil_append,List.map_cons,List.map_nil,plS,plW,if_neg hu,Bool.false_eq_true,if_false];simp
  ·simp only [nxW,if_neg hu];simp
theorem Zkr {ag:List Int}{br:Int}{pr:Bool}{n:Nat}{s:Jq}(h0:0<n)(h1:(n:Int)≤br)(hu:s.u≤ag.length):Ch ag br pr n s=⟨(List.range n).map (plS ag (rgS ag.length n (Rz pr n s.u)) (Rz pr n s.u) s.c),false,0⟩∧Md ag.length br pr n s=Dj ag.length n (Rz pr n s.u) s n:=by
 have hw:Oj br n=n:=by unfold Oj; rw [if_neg (by omega)]; omega
 unfold Ch Md Dj;rw [hw];refine⟨?_,?_⟩
 ·rw [decide_eq_false (by omega),if_neg (by omega)]
 ·cases hr:rgS ag.length n (Rz pr n s.u) with
  | true=>simp only [if_true]; rw [if_neg (show ¬ br<(n:Int) by omega)]
  | false =>
   simp only [Bool.false_eq_true,if_false];rw [if_neg (show ¬ br<(n:Int) by omega)];by_cases h2:1<n
   ·rw [if_pos h2]
   ·obtain rfl:n=1:=by omega
    rw [if_neg (by omega)];rw [Zfy] at hr ⊢;unfold rgS at hr;have:=of_decide_eq_false hr;rw [show s.u=ag.length by omega]
theorem Ycc (T:Yh)(s:Jq)(G:Nat)(n:Int)(w:World)(hG:Yn w G T s)(hT:TbR w G T)(hn0:0≤n)(hn8:n≤8)(hu:s.u≤T.ag.length)(hL:T.ag.length≤1000)(hc0:0≤s.c)(hc1:s.c≤1000)(hp0:0≤s.p)(hp1:s.p≤1000) :
 Calls Tryz.prog 101 #[.pointer (some ⟨G,0,none⟩),.int .i64 n] w fun e w'=>∃ pv,e=.returned (.agg #[pv,.bool (Ch T.ag T.br T.pairs n s).ref,.int .i64 (Ch T.ag T.br T.pairs n s).at_])∧Uu w' w.heap.size pv (Ch T.ag T.br T.pairs n s).pl∧Yn w' G T (Md T.ag.length T.br T.pairs n s)∧w.grownBy w' (some G):=by
 have HG:=Za hG;have HT:=Za hT;have hlt:=hG.lt;have y10:=fun X:Obj=>(hG.new X).k10;have HW:=Za (fun V (hg:Yn V G T s) (hgb:w.grownBy V (some G))=>Znp T s G V hg (hT.gb hgb hlt) (by omega) (by omega) (by omega) (by omega));clear hG hT;obtain⟨hR,hB,hs⟩:=al0 w (.cells #[.slice none 0 0,.bool false,.int .i64 0] 52 (0,0));have HR:=Za hR;have HB:=Za (Xe (o:=some G) hB);have HG0:=Za ((J HG).new (.cells #[.slice none 0 0,.bool false,.int .i64 0] 52 (0,0)));clear hR hB HG;by_cases h1:T.br<n
 ·have hs9:=Zeu (ag:=T.ag) (pr:=T.pairs) (s:=s) (Or.inr h1);rw [hs9.1,hs9.2];clear hs9;simp only [decide_eq_true h1,if_pos h1];have hp2:(nxW T.ag s).p=s.p:=by unfold nxW; split <;> rfl
  generalize plW T.ag s=xy at HW ⊢;generalize nxW T.ag s=s2 at HW hp2 ⊢;obtain⟨x,y⟩:=xy;simp only at HW;go_enter Tryz.func101,Tryz.ntmps101
  go_wp2_with fail
  clear y10;generalize World.alloc w _=W at HR HB HG0 hs ⊢;refine(J HW W (J HG0) (J HB)).mono ?_;rintro e w2 ⟨rfl,hG2,hgb2⟩;have hz2:=hgb2.size;obtain⟨hR3,hB3,hs3⟩:=al0 w2 (.cells #[.int .i64 x,.int .i64 y] 34 (0,0));have HC:=Za (Zxv T s2 G n _ (hG2.new (.cells #[.int .i64 x,.int .i64 y] 34 (0,0))) (by omega) (by omega) hn0 (by omega));have HRA:=Za ((hB3.block w.heap.size (by omega)).trans ((hgb2.block w.heap.size (by omega) (by intro e; injection e with e; omega)).trans (J HR)));have HRB:=Za hR3;have HGB:=Za (Gh (J HB) (Gh hgb2 (Xe (o:=some G) hB3)));clear hG2 hgb2 hR3 hB3 HW;go_wp2_with fail
  generalize hTb:w2.heap.size=Tb at HRB hs3 hz2 ⊢;generalize World.alloc w2 _=W3 at HC HRA HRB HGB hs3 ⊢;refine(J HC).mono ?_;rintro e w4 ⟨rfl,hG4,hgb4⟩;rw [hp2] at hG4 ⊢;have HR4:=Za ((hgb4.block w.heap.size (by omega) (by intro e; injection e with e; omega)).trans (J HRA));have HP4:=Za ((hgb4.block Tb (by omega) (by intro e; injection e with e; omega)).trans (J HRB));have HG4:=Za hG4;have HGB4:=Za (Gh (J HGB) hgb4);clear hG4 hgb4 HC HRA HRB HGB;go_wp2_with (refine wpList_store_row rfl 52 _ _ rfl w.heap.size #[.slice (some ⟨Tb,0,none⟩) 1 1,.bool true,.int .i64 s.p] rfl rfl 52 _ (J HR4) (Tryz.infSpK.trans rfl) rfl (by simp [Value.oneCell']) ?_)
  refine bodyPost_ret (Gs (fn:=Tryz.f101) (q:=4) (uy:=52) rfl _ _ w.heap.size 52 #[.slice (some ⟨Tb,0,none⟩) 1 1,.bool true,.int .i64 s.p] (0,0) _ rfl (setRow_heap _ _ _ _ _ _ (J HR4)) Tryz.underlying52 rfl (Tryz.infSpK.trans rfl)) rfl ?_;exact⟨_,rfl,Znq ((setRow_other _ _ _ _ (by omega)).trans (J HP4)) (by omega),(setRow_other _ _ _ _ (by omega)).trans (J HG4),Zbj (J HGB4) (Nat.le_refl _)⟩
 ·by_cases h2:0<n
  ·obtain⟨m,rfl⟩:∃ m:Nat,n=m:=⟨n.toNat,by omega⟩;have hs9:=Zkr (ag:=T.ag) (pr:=T.pairs) (s:=s) (show 0<m by omega) (show(m:Int)≤T.br by omega) hu;rw [hs9.1,hs9.2];clear hs9 HW;simp only;go_enter Tryz.func101,Tryz.ntmps101
   go_wp2_with fail
   clear y10;generalize World.alloc w _=W at HR HB HG0 hs ⊢;refine(Zti T s G m W (J HG0) ((J HT).gb (J HB) hlt) (by omega) (by omega) hu hL hc0 hc1).mono ?_;rintro e w2 ⟨v,rfl,hP2,hG2,hgb2⟩;obtain⟨pb,pn,pc,hv⟩:∃ pb pn pc,v=.slice pb pn pc:=by
    rcases hP2.2 with⟨e,_⟩ | ⟨g,cap,cur,e,_⟩
    ·exact⟨_,_,_,e⟩
    ·exact⟨_,_,_,e⟩
   subst hv;have HR4:=Za ((hgb2.block w.heap.size (by omega) (by intro e; injection e with e; omega)).trans (J HR));have HP4:=Za hP2;have HG4:=Za hG2;have HGB4:=Za (Gh (J HB) hgb2);clear hP2 hG2 hgb2;go_wp2_with (refine wpList_store_row rfl 52 _ _ rfl w.heap.size #[.slice pb pn pc,.bool false,.int .i64 0] rfl rfl 52 _ (J HR4) (Tryz.infSpK.trans rfl) rfl (by simp [Value.oneCell']) ?_)
   refine bodyPost_ret (Gs (fn:=Tryz.f101) (q:=4) (uy:=52) rfl _ _ w.heap.size 52 #[.slice pb pn pc,.bool false,.int .i64 0] (0,0) _ rfl (setRow_heap _ _ _ _ _ _ (J HR4)) Tryz.underlying52 rfl (Tryz.infSpK.trans rfl)) rfl ?_;exact⟨_,rfl,Znr (J HP4) (by omega) (by omega),(setRow_other _ _ _ _ (by omega)).trans (J HG4),Zbj (J HGB4) (Nat.le_refl _)⟩
  ·obtain rfl:n=0:=by omega
   have hs9:=Zeu (ag:=T.ag) (br:=T.br) (pr:=T.pairs) (n:=0) (s:=s) (Or.inl rfl);rw [hs9.1,hs9.2];clear hs9;simp only [decide_eq_false h1,if_neg h1];have hp2:(nxW T.ag s).p=s.p:=by unfold nxW; split <;> rfl
   generalize plW T.ag s=xy at HW ⊢;generalize nxW T.ag s=s2 at HW hp2 ⊢;obtain⟨x,y⟩:=xy;simp only at HW;go_enter Tryz.func101,Tryz.ntmps101
   go_wp2_with fail
   clear y10;generalize World.alloc w _=W at HR HB HG0 hs ⊢;refine(J HW W (J HG0) (J HB)).mono ?_;rintro e w2 ⟨rfl,hG2,hgb2⟩;have hz2:=hgb2.size;obtain⟨hR3,hB3,hs3⟩:=al0 w2 (.cells #[.int .i64 x,.int .i64 y] 34 (0,0));have HR4:=Za ((hB3.block w.heap.size (by omega)).trans ((hgb2.block w.heap.size (by omega) (by intro e; injection e with e; omega)).trans (J HR)));have HP4:=Za hR3;have HG4:=Za (hG2.new (.cells #[.int .i64 x,.int .i64 y] 34 (0,0)));have HGB4:=Za (Gh (J HB) (Gh hgb2 (Xe (o:=some G) hB3)));clear hG2 hgb2 hR3 hB3 HW;go_wp2_with (refine wpList_store_row rfl 52 _ _ rfl w.heap.size #[.slice (some ⟨w2.heap.size,0,none⟩) 1 1,.bool false,.int .i64 0] rfl rfl 52 _ (J HR4) (Tryz.infSpK.trans rfl) rfl (by simp [Value.oneCell']) ?_)
   refine bodyPost_ret (Gs (fn:=Tryz.f101) (q:=4) (uy:=52) rfl _ _ w.heap.size 52 #[.slice (some ⟨w2.heap.size,0,none⟩) 1 1,.bool false,.int .i64 0] (0,0) _ rfl (setRow_heap _ _ _ _ _ _ (J HR4)) Tryz.underlying52 rfl (Tryz.infSpK.trans rfl)) rfl ?_;refine⟨_,rfl,Znq ((setRow_other _ _ _ _ (by omega)).trans (J HP4)) (by omega),?_,Zbj (J HGB4) (Nat.le_refl _)⟩;rw [← hp2];exact(setRow_other _ _ _ _ (by omega)).trans (J HG4)
set_option maxHeartbeats 4000000
set_option maxRecDepth 100000
theorem Zht {cs:Array Value}{n k:Nat}{f:Nat→Int×Int}{x y:Int}(hsz:cs.size=n*2)(hk:k<n)(hxy:f k=(x,y))(hcs:∀ q,q<k→cs[q*2]?=some (.int .i64 (f q).1)∧cs[q*2+1]?=some (.int .i64 (f q).2)) :
 ∀ q,q<k+1→((cs.setIfInBounds (k*2) (.int .i64 x)).setIfInBounds (k*2+1) (.int .i64 y))[q*2]?=some (.int .i64 (f q).1)∧((cs.setIfInBounds (k*2) (.int .i64 x)).setIfInBounds (k*2+1) (.int .i64 y))[q*2+1]?=some (.int .i64 (f q).2):=fun q hq=>by
 by_cases hqk:q=k
 ·subst hqk;rw [hxy];refine⟨?_,?_⟩
  ·rw [Array.getElem?_setIfInBounds_ne (by omega),Array.getElem?_setIfInBounds_self_of_lt (by omega)]
  ·rw [Array.getElem?_setIfInBounds_self_of_lt (by simp; omega)]
 ·have h:=hcs q (by omega);refine⟨?_,?_⟩
  ·rw [Array.getElem?_setIfInBounds_ne (by omega),Array.getElem?_setIfInBounds_ne (by omega)]; exact h.1
  ·rw [Array.getElem?_setIfInBounds_ne (by omega),Array.getElem?_setIfInBounds_ne (by omega)]; exact h.2
theorem Ycd (T:Yh)(s:Jq)(G n:Nat)(w:World)(hG:Yn w G T s)(hT:TbR w G T)(hn4:n≤8)(hL:T.rs.length≤1000)(hc0:0≤s.c)(hc1:s.c≤1000) :
 Calls Tryz.prog 102 #[.pointer (some ⟨G,0,none⟩),.int .i64 n] w fun e w'=>∃ v,e=.returned v∧Uu w' w.heap.size v ((List.range n).map (Kd T.rs s.c))∧Yn w' G T ⟨s.u,Xd T.rs s.c n,s.p⟩∧w.grownBy w' (some G):=by
 have HG:=Za hG;have HT:=Za hT;have hlt:=hG.lt;have hmk:=fun V=>Yfd n (by omega) V;clear hG hT;go_enter Tryz.func102,Tryz.ntmps102
 go_wp2_with fail
 clear hmk;obtain⟨hR,hB,hs⟩:=al0 w (.cells (madeCells #[.int .i64 0,.int .i64 0] (n*2)) 34 (0,0));have HGB3:=Za (Xe (o:=some G) hB);have HG3:=Za ((J HG).new (.cells (madeCells #[.int .i64 0,.int .i64 0] (n*2)) 34 (0,0)));have HR3:=Za hR;clear hR hB;generalize World.alloc w _=V at HG3 HGB3 HR3 hs ⊢;go_loopw [11] (fun j w'=>∃(k:Nat) (cs:Array Value),j=.int .i64 k∧k≤n∧w'.heap[w.heap.size]?=some (.cells cs 34 (0,0))∧cs.size=n*2∧(∀ q,q<k→cs[q*2]?=some (.int .i64 (Kd T.rs s.c q).1)∧cs[q*2+1]?=some (.int .i64 (Kd T.rs s.c q).2))∧Yn w' G T ⟨s.u,Xd T.rs s.c k,s.p⟩∧w.grownBy w' (some G)) (fun j _=>n-(intOf j).toNat)
 case atStart=>exact⟨0,_,rfl,by omega,J HR3,size_madeCells _ _,fun q hq=>by omega,by rw [show Xd T.rs s.c 0=s.c by unfold Xd; simp]; exact J HG3,J HGB3⟩
 case round =>
  clear HG3 HGB3 HR3;obtain⟨k,cs,rfl,hk,hrow,hsz,hcs,hGk,hgb⟩:=hrel;have HRW:=Za hrow;have HCS:=Za hcs;have HGK:=Za hGk;have HGB:=Za hgb;have hgsz:=hgb.size;have hTw:=Zi hrow;by_cases hk2:k<n
  ·have y6:=hGk.k6;obtain⟨x0,hx0⟩:∃ x0,cs[k*2]?=some x0:=⟨_,Array.getElem?_eq_getElem (by omega)⟩;obtain⟨x1,hx1⟩:∃ x1,cs[k*2+1]?=some x1:=⟨_,Array.getElem?_eq_getElem (by omega)⟩;by_cases hr:k<T.rs.length
   ·have hrs:=(J HT).gb hgb hlt;obtain⟨sb,so,hpa,-,hc⟩:=hrs.r.at hr;have c:=hc k hr;rw [hpa] at y6;have hres:Kd T.rs s.c k=(T.rs.getD k 0,0):=by unfold Kd; rw [if_pos hr]
    have hrc:Xd T.rs s.c (k+1)=Xd T.rs s.c k:=by unfold Xd; rw [show k+1-T.rs.length=0 by omega,show k-T.rs.length=0 by omega]
    generalize T.rs.getD k 0=x at hres c;have c0:=(Zh hrow (k*2)).trans hx0;have c1:=(Zh hrow (k*2+1)).trans hx1;have z0:=frozen_of_row _ _ (k*2) _ _ hrow;have z1:=frozen_of_row _ _ (k*2+1) _ _ hrow;have HR6:=Za (heap_setCell_same _ _ (k*2+1) _ _ (.int .i64 0) (heap_setCell_same _ _ (k*2) _ _ (.int .i64 x) hrow));have HG6:=Za (show Yn _ G T ⟨s.u,Xd T.rs s.c (k+1),s.p⟩ by rw [hrc]; exact(hGk.oth (b:=w.heap.size) (j:=k*2) (v:=.int .i64 x) (by omega)).oth (b:=w.heap.size) (j:=k*2+1) (v:=.int .i64 0) (by omega));have HGB6:=Za (Mz (b:=w.heap.size) (j:=k*2+1) (v:=.int .i64 0) (Mz (b:=w.heap.size) (j:=k*2) (v:=.int .i64 x) hgb (Nat.le_refl _)) (Nat.le_refl _));have HNX:=Za (Zht hsz hk2 hres hcs);clear hrow hx0 hx1 hcs hGk hgb hres hrc hc hrs;go_wp2;go_roundw
    case rel=>exact⟨k+1,_,by go_num,by omega,J HR6,by simp; omega,J HNX,J HG6,J HGB6⟩
    case measure=>simp [intOf]; omega
   ·have hres:Kd T.rs s.c k=(-1,Xd T.rs s.c k):=by unfold Kd Xd; rw [if_neg hr]
    have hrc:Xd T.rs s.c (k+1)=Xd T.rs s.c k+8:=by unfold Xd; rw [show k+1-T.rs.length=(k-T.rs.length)+1 by omega]; omega
    have hrb:0≤Xd T.rs s.c k∧Xd T.rs s.c k≤2000:=by unfold Xd; omega
    have HNX:=Za (Zht hsz hk2 hres hcs);have HRC:=Za hrc;clear hres hrc hrow hcs hGk hgb;generalize Xd T.rs s.c k=y at HNX HRC HGK hrb;go_wp2_with fail
    refine(Zno T ⟨s.u,y,s.p⟩ G wr (J HGK) (by show -1000000≤y; omega) (by show y≤1000000; omega)).mono ?_;rintro e w2 ⟨rfl,hG5,hgb5⟩;have hr5:=(hgb5.block w.heap.size hTw (by intro e; injection e with e; omega)).trans (J HRW);have c0:=(Zh hr5 (k*2)).trans hx0;have c1:=(Zh hr5 (k*2+1)).trans hx1;have z0:=frozen_of_row _ _ (k*2) _ _ hr5;have z1:=frozen_of_row _ _ (k*2+1) _ _ hr5;have HR6:=Za (heap_setCell_same _ _ (k*2+1) _ _ (.int .i64 y) (heap_setCell_same _ _ (k*2) _ _ (.int .i64 (-1)) hr5));have HG6:=Za (show Yn _ G T ⟨s.u,Xd T.rs s.c (k+1),s.p⟩ by rw [J HRC]; exact(hG5.oth (b:=w.heap.size) (j:=k*2) (v:=.int .i64 (-1)) (by omega)).oth (b:=w.heap.size) (j:=k*2+1) (v:=.int .i64 y) (by omega));have HGB6:=Za (Mz (b:=w.heap.size) (j:=k*2+1) (v:=.int .i64 y) (Mz (b:=w.heap.size) (j:=k*2) (v:=.int .i64 (-1)) (Gh (J HGB) hgb5) (Nat.le_refl _)) (Nat.le_refl _));clear hr5 hG5 hgb5 hx0 hx1 y6;go_wp2;go_roundw
    case rel=>exact⟨k+1,_,by go_num,by omega,J HR6,by simp; omega,J HNX,J HG6,J HGB6⟩
    case measure=>simp [intOf]; omega
  ·obtain rfl:k=n:=by omega
   clear hrow hcs hGk hgb;go_wp2;go_ret;have he:=Zth (xs:=cs.toList) (n:=k) (Kd T.rs s.c) (by simp; omega) (fun j hj=>by have h:=J HCS j hj; simpa using h);refine⟨_,rfl,⟨by rw [Dm],Or.inr ⟨w.heap.size,k,cs,by simp,Nat.le_refl _,J HRW,by simp,by simp [maxLen]; omega,hsz,?_⟩⟩,J HGK,J HGB⟩;rw [← he];simp only [List.length_map,List.length_range];rw [List.take_of_length_le (by simp; omega)]
set_option maxHeartbeats 4000000
set_option maxRecDepth 100000
theorem Zks {P:Program}{ops:Array Oper}{o:Oper}{a:Act}{w:World}{K:Act→World→Prop}{Q:Exit→Act→World→Prop}{E:Prop}(hg:o.guard=none)(f:FuncId)(args:Array Value){F:Value→World→Prop}
 (hrun:(execOp a.eval o).run P w=.ok (.enter f args) w) (hF:Calls P f args w fun e w'=>∃ v,e=.returned v∧F v w') (h:∀ v w',F v w'→K (a.put o.dst v) w'):if Region.wanted o (yielded ops a.tmps)=true then Oper.wp P o a w K Q else E:=by
 have hw:Region.wanted o (yielded ops a.tmps)=true:=by simp [Region.wanted,hg]
 rw [if_pos hw];unfold Oper.wp;rw [hrun];refine hF.mono ?_;rintro e w' ⟨v,rfl,hv⟩;exact h v w' hv
theorem Zxw {P:Program}{ops:Array Oper}{o:Oper}{a:Act}{w:World}{K:Act→World→Prop}{Q:Exit→Act→World→Prop}{E:Prop}
 (hg:o.guard=none) (s x:Operand) (t:TypeId) (ho:o.op=.call { callee:=.builtin .append,args:=#[s,x],argTypes:=#[t,t] })
 (base:Nat) (e:TypeId) (i:TypeInfo) (z:Value) (size bytes:Nat) (ht:P.underlying t=some (.slice e)) (hi:P.info? e=some i) (hz:i.zero=some z)
 (hsize:i.size=size) (hby:i.bytes=bytes) (hzs:z.cells.size=size) (hsz:0<size)
 (v:Value) (n:Nat) (xs:List Value) (hs:a.eval s=v) (hown:w.ownsRow base e size v n xs)
 (ad:Addr) (m c:Nat) (news:List Value) (hx:a.eval x=.slice (some ad) m c) (hl:news.length=m*size) (hnews:∀ j u,news[j]?=some u→w.cell? (ad.add j)=some u) (h1:∀ u ∈ news,u.oneCell'=true)
 (h63:n+m≤maxLen) (hbytes:(n+m)*bytes≤140737488355328) (hbase:base≤w.heap.size)
 (h:∀ v' w',w'.ownsRow base e size v' (n+m) (xs++news)→w.grownBy w' v.ownBlock→K (a.put o.dst v') w') :
 if Region.wanted o (yielded ops a.tmps)=true then Oper.wp P o a w K Q else E:=by
 have hw:Region.wanted o (yielded ops a.tmps)=true:=by simp [Region.wanted,hg]
 rw [if_pos hw];exact wp_append_own w s x t ho base e i z size bytes ht hi hz hsize hby hzs hsz v n xs hs hown ad m c news hx hl hnews h1 h63 hbytes hbase (fun v' w' h2 h3 _=>h v' w' h2 h3)
theorem Yce {w w':World}{B G:Nat}{v:Value}{xs:List (Int×Int)}(h:Uu w B v xs)(hg:w.grownBy w' (some G))(hG:G<B):Uu w' B v xs :=
 Yd h hg (fun g hv e=>by injection e with e; have:=(World.ownsRow.lt h g hv).1; omega)
theorem Zhu {w:World}{B B':Nat}{v:Value}{xs:List (Int×Int)}(h:Uu w B v xs)(hB:B'≤B):Uu w B' v xs:=by
 obtain⟨h1,h2 | ⟨g,cap,cur,e1,e2,e3⟩⟩:=h
 ·exact⟨h1,Or.inl h2⟩
 ·exact⟨h1,Or.inr ⟨g,cap,cur,e1,Nat.le_trans hB e2,e3⟩⟩
theorem Zxx {w w':World}{B B' n:Nat}{v av:Value}{xs:List (Int×Int)}{ys:List Value}(h:Uu w B v xs)(ha:w.ownsRow B' 52 3 av n ys)(hg:w.grownBy w' av.ownBlock):Uu w' B v xs :=
 Yd h hg (fun g hv e=>by
  rcases h.2 with⟨e1,-⟩ | ⟨g1,c1,cur1,e1,-,r1,-⟩
  ·rw [e1] at hv; cases hv
  ·rcases ha.2 with⟨e2,-⟩ | ⟨g2,c2,cur2,e2,-,r2,-⟩
   ·rw [e2] at e; cases e
   ·rw [e1] at hv;rw [e2] at e;injection hv with hv;injection e with e;simp only at hv e;rw [hv] at r1;rw [e] at r2;rw [r1] at r2;injection r2 with r2;injection r2 with _ r2 _;exact absurd r2 (by decide))
theorem Zbh {w:World}{B b j:Nat}{v u:Value}{xs:List (Int×Int)}(h:Uu w B v xs)(hb:b<B):Uu (w.setCell ⟨b,j,none⟩ u) B v xs:=ownsRow_setCell_below h (a:=⟨b,j,none⟩) hb u
theorem Tryz.infLyK:(Tryz.prog.info? 47).map (·.size)=some 4:=by kernel_rfl
theorem Tryz.infoSp:(Tryz.prog.info? 52).map (fun i=>(i.zero,i.size,i.bytes))=some (some (.agg #[.slice none 0 0,.bool false,.int .i64 0]),3,40):=by kernel_rfl
theorem Zpv {α:Type}(l:List α)(x d:α)(k:Nat)(h:k<l.length+1):(l++[x]).getD k d=if k<l.length then l.getD k d else x:=by
 split
 ·rename_i hk;simp [List.getD,List.getElem?_append_left hk]
 ·rename_i hk;obtain rfl:k=l.length:=by omega
  simp [List.getD]
theorem Zcc {w:World}{B T size n:Nat}{v:Value}{xs:List Value}(h:w.ownsRow B T size v (n+1) xs):∃ g c,v=.slice (some ⟨g,0,none⟩) (n+1) c:=by
 rcases h.2 with⟨e,e0⟩ | ⟨g,cap,cur,e,-⟩
 ·omega
 ·exact⟨_,_,e⟩
theorem Im {w:World}{B:Nat}{v:Value}{xs:List (Int×Int)}(h:Uu w B v xs):∃ p n c,v=.slice p n c:=by
 rcases h.2 with⟨e,e0⟩ | ⟨g,cap,cur,e,-⟩
 ·exact⟨_,_,_,e⟩
 ·exact⟨_,_,_,e⟩
structure OfI (W:World)(b0:Nat)(T:Yh)(ps:List Int)(k:Nat)(av:Value)(pvs:List Value)(w:World):Prop where
 low:Below (b0+3) W w
 giv:Yn w (b0+3) T (Ml T.ag.length T.br T.pairs ps T.sh k)
 row:w.heap[b0+4]?=some (.cells #[av,.slice none 0 0,.int .i64 0,.int .i64 0] 47 (0,0))
 len:pvs.length=k
 own:w.ownsRow (b0+5) 52 3 av k (Io pvs ((List.range k).map (Gb T.ag T.br T.pairs ps T.sh)))
 each:∀ j,j<k→Uu w (b0+5) (pvs.getD j undef) (Gb T.ag T.br T.pairs ps T.sh j).pl
theorem OfI.next {W w3 w7 wr:World}{b0 k:Nat}{T:Yh}{ps:List Int}{av v7 pv:Value}{pvs:List Value}{sp:Zfx}(hI:OfI W b0 T ps k av pvs wr)(hz:b0+5≤wr.heap.size)(hgb:wr.drew.grownBy w3 (some (b0+3)))(hG:Yn w3 (b0+3) T (Ml T.ag.length T.br T.pairs ps T.sh (k+1)))(hP:Uu w3 wr.heap.size pv sp.pl)(hsp:Gb T.ag T.br T.pairs ps T.sh k=sp)
 (hgr:(w3.alloc (.cells #[pv,.bool sp.ref,.int .i64 sp.at_] 52 (0,0))).grownBy w7 av.ownBlock) (hown:w7.ownsRow (b0+5) 52 3 v7 (k+1) (Io pvs ((List.range k).map (Gb T.ag T.br T.pairs ps T.sh))++[pv,.bool sp.ref,.int .i64 sp.at_])) :
 OfI W b0 T ps (k+1) v7 (pvs++[pv]) (w7.setCell ⟨b0+4,0,none⟩ v7):=by
 have hz3:wr.heap.size≤w3.heap.size:=hgb.size;have ha:=al0 w3 (.cells #[pv,.bool sp.ref,.int .i64 sp.at_] 52 (0,0));have hz7:=hgr.size;have how3:w3.ownsRow (b0+5) 52 3 av k (Io pvs ((List.range k).map (Gb T.ag T.br T.pairs ps T.sh))):=Yd (w:=wr.drew) hI.own hgb (fun g hg e=>by injection e with e; have:=(World.ownsRow.lt hI.own g hg).1; omega);have hne:∀ q,q<b0+5→some q≠av.ownBlock:=fun q hq e=>by have:=(World.ownsRow.lt hI.own q e.symm).1; omega
 have hblk:∀ q,q<b0+5→q≠b0+3→q≠b0+4→(w7.setCell ⟨b0+4,0,none⟩ v7).heap[q]?=wr.heap[q]?:=fun q h1 h2 h3=>(heap_setCell_other _ _ _ _ (by show q≠b0+4; exact h3)).trans ((hgr.block q (by rw [ha.2.2]; omega) (hne q h1)).trans ((ha.2.1.block q (by omega)).trans (hgb.block q (by show q<wr.heap.size; omega) (by intro e; injection e with e; omega))))
 have hP':∀{v:Value} {xs:List (Int×Int)},Uu w3 (b0+5) v xs→Uu (w7.setCell ⟨b0+4,0,none⟩ v7) (b0+5) v xs:=fun{v xs} h=>Zbh (Zxx (w:=w3.alloc (.cells #[pv,.bool sp.ref,.int .i64 sp.at_] 52 (0,0))) (World.ownsRow.alloc h _) (World.ownsRow.alloc how3 _) hgr) (by omega);have hrw:w7.heap[b0+4]?=some (.cells #[av,.slice none 0 0,.int .i64 0,.int .i64 0] 47 (0,0)):=(hgr.block (b0+4) (by rw [ha.2.2]; omega) (hne _ (by omega))).trans ((ha.2.1.block (b0+4) (by omega)).trans ((hgb.block (b0+4) (by show b0+4<wr.heap.size; omega) (by intro e; injection e with e; omega)).trans hI.row));refine⟨⟨?_,?_,?_,?_,fun q hq=>(hblk q (by omega) (by omega) (by omega)).trans (hI.low.block q hq)⟩,?_,heap_setCell_same _ _ 0 _ _ _ hrw,by simp [hI.len],?_,fun j hj=>?_⟩
 ·exact hgr.os.trans (ha.2.1.os.trans (hgb.os.trans hI.low.os))
 ·exact hgr.tape.trans (ha.2.1.tape.trans (hgb.tape.trans hI.low.tape))
 ·exact hgr.output.trans (ha.2.1.output.trans (hgb.output.trans hI.low.output))
 ·have:=hI.low.size;have h:(w7.setCell ⟨b0+4,0,none⟩ v7).heap.size=w7.heap.size:=by simp
  omega
 ·exact(heap_setCell_other _ _ _ _ (by show b0+3≠b0+4; omega)).trans ((hgr.block (b0+3) (by rw [ha.2.2]; omega) (hne _ (by omega))).trans ((ha.2.1.block (b0+3) (by omega)).trans hG))
 ·rw [Sa,Zpx _ _ _ _ (by simp [hI.len]),hsp];exact ownsRow_setCell_below hown (a:=⟨b0+4,0,none⟩) (by show b0+4<b0+5; omega) v7
 ·rw [Zpv _ _ _ _ (by rw [hI.len]; exact hj)];split
  ·rename_i h;rw [hI.len] at h;exact hP' (Yce (w:=wr.drew) (hI.each j h) hgb (by omega))
  ·rename_i h;rw [hI.len] at h;obtain rfl:j=k:=by omega
   rw [hsp];exact hP' (Zhu hP hz)
theorem Yfe (T:Yh)(ps:List Int)(pq:Option Addr)(cq:Nat)(n:Int)(w:World)(hT:TbR w w.heap.size T)(hps:Li w (.slice pq ps.length cq) ps)(hsig:Xc ps 0 8=true)(hpl:ps.length≤8)(hn0:0≤n)(hn4:n≤4)(hLa:T.ag.length≤100)(hLr:T.rs.length≤100)(hs0:0≤T.sh)(hs1:T.sh≤100) :
 Calls Tryz.prog 63 #[.agg T.box,.agg #[.slice pq ps.length cq,.int .i64 n]] w fun e w'=>∃ av rv pvs,e=.returned (.agg #[av,rv,.int .i64 (Nf T.ag T.rs T.br T.pairs T.sh ps n).size,.int .i64 (Nf T.ag T.rs T.br T.pairs T.sh ps n).copies])∧Uv w' w.heap.size av rv (Nf T.ag T.rs T.br T.pairs T.sh ps n) pvs∧Below w.heap.size w w':=by
 obtain⟨ti,hti,hz0,hz1,hz2⟩:=Js Tryz.infoSp;have hB:Below w.heap.size w (((((w.alloc (.cells T.box 25 (0,0))).alloc (.cells #[.slice pq ps.length cq,.int .i64 n] 43 (0,0))).alloc (.cells #[.slice none 0 0,.slice none 0 0,.int .i64 0,.int .i64 0] 47 (0,0))).alloc (.cells (Zia T ⟨0,T.sh,0⟩) 231 (0,0))).alloc (.cells #[.slice none 0 0,.slice none 0 0,.int .i64 0,.int .i64 0] 47 (0,0))):=(((((Below.refl w.heap.size w).alloc (Nat.le_refl _) (.cells T.box 25 (0,0))).alloc (by simp) (.cells #[.slice pq ps.length cq,.int .i64 n] 43 (0,0))).alloc (by simp; omega) (.cells #[.slice none 0 0,.slice none 0 0,.int .i64 0,.int .i64 0] 47 (0,0))).alloc (by simp; omega) (.cells (Zia T ⟨0,T.sh,0⟩) 231 (0,0))).alloc (by simp; omega) (.cells #[.slice none 0 0,.slice none 0 0,.int .i64 0,.int .i64 0] 47 (0,0));obtain⟨r0,r1,r2,r3,hZ⟩:=Yfc w (.cells T.box 25 (0,0)) (.cells #[.slice pq ps.length cq,.int .i64 n] 43 (0,0)) (.cells #[.slice none 0 0,.slice none 0 0,.int .i64 0,.int .i64 0] 47 (0,0)) (.cells (Zia T ⟨0,T.sh,0⟩) 231 (0,0)) (.cells #[.slice none 0 0,.slice none 0 0,.int .i64 0,.int .i64 0] 47 (0,0));have r4:(((((w.alloc (.cells T.box 25 (0,0))).alloc (.cells #[.slice pq ps.length cq,.int .i64 n] 43 (0,0))).alloc (.cells #[.slice none 0 0,.slice none 0 0,.int .i64 0,.int .i64 0] 47 (0,0))).alloc (.cells (Zia T ⟨0,T.sh,0⟩) 231 (0,0))).alloc (.cells #[.slice none 0 0,.slice none 0 0,.int .i64 0,.int .i64 0] 47 (0,0))).heap[w.heap.size+4]?=some (.cells #[.slice none 0 0,.slice none 0 0,.int .i64 0,.int .i64 0] 47 (0,0)):=by have:=heap_alloc_new ((((w.alloc (.cells T.box 25 (0,0))).alloc (.cells #[.slice pq ps.length cq,.int .i64 n] 43 (0,0))).alloc (.cells #[.slice none 0 0,.slice none 0 0,.int .i64 0,.int .i64 0] 47 (0,0))).alloc (.cells (Zia T ⟨0,T.sh,0⟩) 231 (0,0))) (.cells #[.slice none 0 0,.slice none 0 0,.int .i64 0,.int .i64 0] 47 (0,0)); simpa using this
 have HB:=Za hB;have HR1:=Za r1;have HR2:=Za r2;have HG0:=Za (show Yn _ (w.heap.size+3) T ⟨0,T.sh,0⟩ from r3);have HR4:=Za r4;have HPS:=Za hps;have HT:=Za hT;have HSIG:=Za hsig;have hlt:ps.length<9223372036854775808:=by omega
 clear hB r0 r1 r2 r3 r4 hps hT hsig;unfold Yh.box Zia at *;go_enter Tryz.func63,Tryz.ntmps63
 go_wp2_with fail
 generalize World.alloc (World.alloc (World.alloc (World.alloc (World.alloc w _) _) _) _) _=W at HB HR1 HR2 HG0 HR4 hZ ⊢;generalize hb0:w.heap.size=b0 at HB HR1 HR2 HG0 HR4 HT hZ ⊢;have HI0:=Za (show OfI W b0 T ps 0 (.slice none 0 0) [] W from⟨Below.refl _ _,J HG0,J HR4,rfl,World.ownsRow_nil _ _ _ _,fun j hj=>by omega⟩);go_loopw [17] (fun j w'=>∃(k:Nat) (av:Value) (pvs:List Value),j=.int .i64 k∧k≤ps.length∧OfI W b0 T ps k av pvs w') (fun j _=>ps.length-(intOf j).toNat)
 case atStart=>exact⟨0,_,_,rfl,by omega,J HI0⟩
 case round =>
  clear HI0 HG0 HR4;obtain⟨k,av,pvs,rfl,hk,hI⟩:=hrel;have hwz:=hI.low.size;have hok:=Kv (L:=T.ag.length) (br:=T.br) (pr:=T.pairs) (sh:=T.sh) (J HSIG) k hk;by_cases hk2:k<ps.length
  ·have hnk:=Ga (J HSIG) hk2;unfold Gq at hnk;obtain⟨hm0,hm8⟩:=of_decide_eq_true hnk;have hTk:TbR wr (b0+3) T:=by
    have hm:∀{v:Value} {ns:List Int},Sv w b0 v ns→Sv wr (b0+3) v ns:=fun{v ns} h=>by
     rcases h with h | ⟨sb,so,cap,e1,e2,e3⟩
     ·exact Or.inl h
     ·refine Or.inr ⟨sb,so,cap,e1,by omega,fun i hi=>?_⟩;have e4:=e3 i hi;have hl:=World.block_lt_of_cell? w _ e4;simp only at hl;exact(World.cell?_of_block (show wr.heap[sb]?=w.heap[sb]? from(hI.low.block sb (by omega)).trans ((J HB).block sb (by omega)))).trans e4
    have ht:=J HT;exact⟨hm ht.a,hm ht.r,hm ht.s⟩
   obtain⟨p',cap',he,-,-,hcc⟩:=J HPS;injection he with j1 j2 j3;obtain⟨sb,so,hpq,hc⟩:=hcc (by omega);have c:=hc k hk2;have hsb:=World.block_lt_of_cell? w _ c;simp only at hsb;have cw:wr.cell? ⟨sb,so+k,none⟩=some (.int .i64 (ps.getD k 0)):=(World.cell?_of_block (show wr.heap[sb]?=w.heap[sb]? from(hI.low.block sb (by omega)).trans ((J HB).block sb (by omega)))).trans c;obtain⟨ap,ac,hav⟩:∃ ap ac,av=.slice ap k ac:=by
    rcases hI.own.2 with⟨e,e0⟩ | ⟨g,cap,cur,e,_⟩
    ·exact⟨_,_,by rw [e0]; exact e⟩
    ·exact⟨_,_,e⟩
   subst hav;have y0:=(cR hI.row 0);have hok1:=hok.u;have hok2:=hok.c0;have hok3:=hok.c1;have hok4:=hok.p0;have hok5:=hok.p1;have HC:=Za (Ycc T (Ml T.ag.length T.br T.pairs ps T.sh k) (b0+3) (ps.getD k 0) wr.drew hI.giv (hTk.gb (Xe (Below.refl wr.heap.size wr).drew) (by omega)) hm0 hm8 hok1 (by omega) (by omega) (by omega) (by omega) (by omega));have HI:=Za hI;have HSN:=Za (show Md T.ag.length T.br T.pairs (ps.getD k 0) (Ml T.ag.length T.br T.pairs ps T.sh k)=Ml T.ag.length T.br T.pairs ps T.sh (k+1) from rfl);have HSP:=Za (show Ch T.ag T.br T.pairs (ps.getD k 0) (Ml T.ag.length T.br T.pairs ps T.sh k)=Gb T.ag T.br T.pairs ps T.sh k from rfl);rw [J HSN,J HSP] at HC;have hwr5:b0+5≤wr.heap.size:=by omega
   rw [j1,hpq];clear hI hTk hok hok1 hok2 hok3 hok4 hok5 hcc hc c j1 j2 j3 HSN HSP;generalize hzz:ps.getD k 0=zz at HC cw;clear hzz hnk hm0 hm8;generalize hsp:Gb T.ag T.br T.pairs ps T.sh k=sp at HC;have HSPE:=Za hsp;clear hsp;have HF:=Za (show Calls Tryz.prog 101 #[.pointer (some ⟨b0+3,0,none⟩),.int .i64 zz] wr.drew (fun e w3=>∃ v,e=.returned v∧∃ pv,v=.agg #[pv,.bool sp.ref,.int .i64 sp.at_]∧Uu w3 wr.heap.size pv sp.pl∧Yn w3 (b0+3) T (Ml T.ag.length T.br T.pairs ps T.sh (k+1))∧wr.drew.grownBy w3 (some (b0+3))) from(J HC).mono (by
    rintro e w3 ⟨pv,rfl,h1,h2,h3⟩;exact⟨_,rfl,pv,rfl,h1,h2,h3⟩))
   clear HC;go_wp2_with fail
   go_region_law (first | (refine Zxw rfl (.tmp 22) (.tmp 26) 44 rfl (b0+5) 52 ti _ 3 40 Tryz.underlying44 hti hz0 hz1 hz2 rfl (by decide) (.slice ap k ac) k (Io pvs ((List.range k).map (Gb T.ag T.br T.pairs ps T.sh))) (by simp [Act.eval]) ((J HOW3).alloc _) ⟨w3.heap.size,0,none⟩ 1 1 [.slice vp vn vc,.bool sp.ref,.int .i64 sp.at_] (by simp [Act.eval]) rfl (by intro j u hj; match j,hj with | 0,hj=>(simp at hj; subst hj; simp [Addr.add]) | 1,hj=>(simp at hj; subst hj; simp [Addr.add]) | 2,hj=>(simp at hj; subst hj; simp [Addr.add])) (by intro u hu; simp at hu; rcases hu with rfl | rfl | rfl <;> rfl) (by unfold maxLen; omega) (by omega) (by simp; omega) ?_; intro v7 w7 hown7 hgr7; have hr7:=J HR7 w7 hgr7; have j0:=(cR hr7 0); have g0:=frozen_of_row _ _ 0 _ _ hr7; obtain⟨gg7,cc7,rfl⟩:=Zcc hown7; have HOW7:=Za hown7; have HGR7:=Za hgr7; have HROW7:=Za hr7; clear hown7 hgr7 hr7) | (refine Zks rfl 101 #[.pointer (some ⟨b0+3,0,none⟩),.int .i64 zz] (by simp [go_sem]) (J HF) ?_; rintro v w3 ⟨pv,rfl,hP3,hG3,hgb3⟩; obtain⟨vp,vn,vc,rfl⟩:=Im hP3; have hw3:wr.heap.size≤w3.heap.size:=hgb3.size; have hr3:=(hgb3.block (b0+4) (by show b0+4<wr.heap.size; omega) (by intro e; injection e with e; omega)).trans (J HI).row; have h0:=(cR hr3 0); have h0a:=fun X:Obj=>(Gr hr3 0 X).trans rfl; have HOW3:=Za (Yd (w:=wr.drew) (J HI).own hgb3 (fun g hg e=>by injection e with e; have:=(World.ownsRow.lt (J HI).own g hg).1; omega)); have HP3:=Za hP3; have HG3:=Za hG3; have HGB3:=Za hgb3; have HR3:=Za hr3; have HR7:=Za (fun w7 (hgr:(w3.alloc (.cells #[.slice vp vn vc,.bool sp.ref,.int .i64 sp.at_] 52 (0,0))).grownBy w7 (Value.slice ap k ac).ownBlock)=>(hgr.block (b0+4) (by simp; omega) (by intro e; have:=(World.ownsRow.lt (J HOW3) (b0+4) e.symm).1; omega)).trans (((al0 w3 (.cells #[.slice vp vn vc,.bool sp.ref,.int .i64 sp.at_] 52 (0,0))).2.1.block (b0+4) (by omega)).trans hr3)); clear hP3 hG3 hgb3 hr3))
   all_goals (
    have hx:=Za ((J HI).next hwr5 (J HGB3) (J HG3) (J HP3) (J HSPE) (J HGR7) (J HOW7));clear HGR7 HOW7 HROW7 HR7 HR3 HGB3 HG3 HP3 HOW3 h0 h0a HF;go_wp2;go_roundw
    case rel=>exact⟨k+1,_,_,by go_num,by omega,J hx⟩
    case measure=>simp [intOf]; omega)
  ·obtain rfl:k=ps.length:=by omega
   obtain⟨m,rfl⟩:∃ m:Nat,n=m:=⟨n.toNat,by omega⟩;have hok1:=hok.u;have hok2:=hok.c0;have hok3:=hok.c1;have hTk:TbR wr (b0+3) T:=by
    have hm:∀{v:Value} {ns:List Int},Sv w b0 v ns→Sv wr (b0+3) v ns:=fun{v ns} h=>by
     rcases h with h | ⟨sb,so,cap,e1,e2,e3⟩
     ·exact Or.inl h
     ·refine Or.inr ⟨sb,so,cap,e1,by omega,fun i hi=>?_⟩;have e4:=e3 i hi;have hl:=World.block_lt_of_cell? w _ e4;simp only at hl;exact(World.cell?_of_block (show wr.heap[sb]?=w.heap[sb]? from(hI.low.block sb (by omega)).trans ((J HB).block sb (by omega)))).trans e4
    have ht:=J HT;exact⟨hm ht.a,hm ht.r,hm ht.s⟩
   have HC:=Za (Ycd T (Ml T.ag.length T.br T.pairs ps T.sh ps.length) (b0+3) m wr hI.giv hTk (by omega) (by omega) (by omega) (by omega));obtain⟨ap,ac,hav⟩:∃ ap ac,av=.slice ap ps.length ac:=by
    rcases hI.own.2 with⟨e,e0⟩ | ⟨g,cap,cur,e,_⟩
    ·exact⟨_,_,by rw [e0]; exact e⟩
    ·exact⟨_,_,e⟩
   subst hav;have s1:=(cR ((hI.low.block (b0+1) (by omega)).trans (J HR1)) 1);have HI:=Za hI;have HE:=Za (show Nf T.ag T.rs T.br T.pairs T.sh ps m=⟨(List.range ps.length).map (Gb T.ag T.br T.pairs ps T.sh),(List.range m).map (Kd T.rs (Ml T.ag.length T.br T.pairs ps T.sh ps.length).c),Xd T.rs (Ml T.ag.length T.br T.pairs ps T.sh ps.length).c m,(Ml T.ag.length T.br T.pairs ps T.sh ps.length).p⟩ from rfl);clear hI hTk hok hok1 hok2 hok3;generalize Ml T.ag.length T.br T.pairs ps T.sh ps.length=s9 at HC HE;go_wp2_with fail
   refine(J HC).mono ?_;rintro e w2 ⟨v,rfl,hP2,hG2,hgb2⟩;have hz2:=hgb2.size;obtain⟨rp,rn,rc,rfl⟩:=Im hP2;have hrl:=(hgb2.block (b0+4) (by omega) (by intro e; injection e with e; omega)).trans (J HI).row;have hrr:=(hgb2.block (b0+2) (by omega) (by intro e; injection e with e; omega)).trans (((J HI).low.block (b0+2) (by omega)).trans (J HR2));have l1:=(cR hrl 1);have z1:=frozen_of_row _ _ 1 _ _ hrl;have hru:=heap_setCell_same _ _ 1 _ _ (.slice rp rn rc) hrl;have hgu:=hG2.oth (b:=b0+4) (j:=1) (v:=.slice rp rn rc) (by omega);have hru2:=(heap_setCell_other w2 ⟨b0+4,1,none⟩ (b0+2) (.slice rp rn rc) (by show b0+2≠b0+4; omega)).trans hrr;have hPu:=Zbh (b:=b0+4) (j:=1) (u:=.slice rp rn rc) (Zhu hP2 (show b0+5≤wr.heap.size by omega)) (by omega);have HRU:=Za hru;have HGU:=Za hgu;have HRR:=Za hru2;have HPU:=Za hPu;have HGB2:=Za hgb2;clear hrr hP2 hG2 hgb2 s1 hru hgu hru2 hPu hrl;go_wp2_with fail
   clear l1 z1;generalize hUU:w2.setCell _ _=U at HRU HGU HRR HPU ⊢;have HUU:=Za hUU;clear hUU;have l2:=(cR (J HRU) 2);have l3:=(cR (J HRU) 3);have z2:=frozen_of_row _ _ 2 _ _ (J HRU);have z3:=frozen_of_row _ _ 3 _ _ (J HRU);have HK0:=Za (show U.drew.cell? ⟨b0+3,13,none⟩=some (.int .i64 (Xd T.rs s9.c m))∧U.drew.cell? ⟨b0+3,14,none⟩=some (.int .i64 s9.p) from⟨(J HGU).k13,(J HGU).k14⟩);have HK1:=Za (show(U.drew.setCell ⟨b0+4,2,none⟩ (.int .i64 (Xd T.rs s9.c m))).cell? ⟨b0+3,13,none⟩=some (.int .i64 (Xd T.rs s9.c m))∧(U.drew.setCell ⟨b0+4,2,none⟩ (.int .i64 (Xd T.rs s9.c m))).cell? ⟨b0+3,14,none⟩=some (.int .i64 s9.p) from⟨((J HGU).oth (w:=U.drew) (b:=b0+4) (j:=2) (v:=.int .i64 (Xd T.rs s9.c m)) (by omega)).k13,((J HGU).oth (w:=U.drew) (b:=b0+4) (j:=2) (v:=.int .i64 (Xd T.rs s9.c m)) (by omega)).k14⟩);have HK2:=Za (show((U.drew.setCell ⟨b0+4,2,none⟩ (.int .i64 (Xd T.rs s9.c m))).setCell ⟨b0+4,3,none⟩ (.int .i64 s9.p)).cell? ⟨b0+3,13,none⟩=some (.int .i64 (Xd T.rs s9.c m))∧((U.drew.setCell ⟨b0+4,2,none⟩ (.int .i64 (Xd T.rs s9.c m))).setCell ⟨b0+4,3,none⟩ (.int .i64 s9.p)).cell? ⟨b0+3,14,none⟩=some (.int .i64 s9.p) from⟨(((J HGU).oth (w:=U.drew) (b:=b0+4) (j:=2) (v:=.int .i64 (Xd T.rs s9.c m)) (by omega)).oth (b:=b0+4) (j:=3) (v:=.int .i64 s9.p) (by omega)).k13,(((J HGU).oth (w:=U.drew) (b:=b0+4) (j:=2) (v:=.int .i64 (Xd T.rs s9.c m)) (by omega)).oth (b:=b0+4) (j:=3) (v:=.int .i64 s9.p) (by omega)).k14⟩)
   refine wp_region_held_drew (S:=fun V=>V.cell? ⟨b0+3,13,none⟩=some (.int .i64 (Xd T.rs s9.c m))∧V.cell? ⟨b0+3,14,none⟩=some (.int .i64 s9.p)) (by kernel_rfl) (J HK0) (fun hHeld=>?_);refine tT 0 ?_;refine tT 1 ?_;refine tT 2 ?_;refine tT 3 ?_;refine tT 4 ?_;refine tT 5 ?_;refine tT 6 ?_;refine tT 7 ?_;refine tT 8 ?_;refine tO 9 fun K hK=>?_;go_simp;refine kO hK (J HK1) (fun hHeld2=>?_);clear hK K;refine tT 10 ?_;refine tO 11 fun K hK=>?_;go_simp;refine kO hK (J HK2) (fun hHeld2=>?_);clear hK K;refine wpAnyH_done (by kernel_rfl) ?_ _;have hrz:((U.setCell ⟨b0+1+1+1+1,2,none⟩ (.int .i64 (Xd T.rs s9.c m))).setCell ⟨b0+1+1+1+1,3,none⟩ (.int .i64 s9.p)).drew.heap[b0+4]?=some (.cells #[.slice ap ps.length ac,.slice rp rn rc,.int .i64 (Xd T.rs s9.c m),.int .i64 s9.p] 47 (0,0)):=heap_setCell_same _ _ 3 _ _ _ (heap_setCell_same U.drew _ 2 _ _ _ (J HRU));have hrq:((U.setCell ⟨b0+1+1+1+1,2,none⟩ (.int .i64 (Xd T.rs s9.c m))).setCell ⟨b0+1+1+1+1,3,none⟩ (.int .i64 s9.p)).drew.heap[b0+2]?=_:=(heap_setCell_other (U.drew.setCell ⟨b0+4,2,none⟩ (.int .i64 (Xd T.rs s9.c m))) ⟨b0+4,3,none⟩ (b0+2) (.int .i64 s9.p) (by show b0+2≠b0+4; omega)).trans ((heap_setCell_other U.drew ⟨b0+4,2,none⟩ (b0+2) (.int .i64 (Xd T.rs s9.c m)) (by show b0+2≠b0+4; omega)).trans (J HRR));have hpz:Uu ((U.setCell ⟨b0+1+1+1+1,2,none⟩ (.int .i64 (Xd T.rs s9.c m))).setCell ⟨b0+1+1+1+1,3,none⟩ (.int .i64 s9.p)).drew (b0+5) _ _:=Zbh (b:=b0+4) (j:=3) (u:=.int .i64 s9.p) (Zbh (w:=U.drew) (b:=b0+4) (j:=2) (u:=.int .i64 (Xd T.rs s9.c m)) (J HPU) (by omega)) (by omega)
   have hbz:∀ q,q≠b0+3→q≠b0+4→q<wr.heap.size→((U.setCell ⟨b0+1+1+1+1,2,none⟩ (.int .i64 (Xd T.rs s9.c m))).setCell ⟨b0+1+1+1+1,3,none⟩ (.int .i64 s9.p)).drew.heap[q]?=wr.heap[q]?:=fun q h1 h2 h3=>by
    have e:=J HUU;subst e;exact(heap_setCell_other ((w2.setCell ⟨b0+4,1,none⟩ (.slice rp rn rc)).setCell ⟨b0+4,2,none⟩ (.int .i64 (Xd T.rs s9.c m))) ⟨b0+4,3,none⟩ q (.int .i64 s9.p) h2).trans ((heap_setCell_other (w2.setCell ⟨b0+4,1,none⟩ (.slice rp rn rc)) ⟨b0+4,2,none⟩ q _ h2).trans ((heap_setCell_other w2 ⟨b0+4,1,none⟩ q _ h2).trans ((J HGB2).block q h3 (by intro e; injection e with e; omega))))
   have hoz:((U.setCell ⟨b0+1+1+1+1,2,none⟩ (.int .i64 (Xd T.rs s9.c m))).setCell ⟨b0+1+1+1+1,3,none⟩ (.int .i64 s9.p)).drew.os=wr.os∧((U.setCell ⟨b0+1+1+1+1,2,none⟩ (.int .i64 (Xd T.rs s9.c m))).setCell ⟨b0+1+1+1+1,3,none⟩ (.int .i64 s9.p)).drew.tape=wr.tape∧((U.setCell ⟨b0+1+1+1+1,2,none⟩ (.int .i64 (Xd T.rs s9.c m))).setCell ⟨b0+1+1+1+1,3,none⟩ (.int .i64 s9.p)).drew.output=wr.output∧((U.setCell ⟨b0+1+1+1+1,2,none⟩ (.int .i64 (Xd T.rs s9.c m))).setCell ⟨b0+1+1+1+1,3,none⟩ (.int .i64 s9.p)).drew.heap.size=w2.heap.size:=by have e:=J HUU;subst e;exact⟨(J HGB2).os,(J HGB2).tape,(J HGB2).output,by simp⟩
   clear l2 l3 z2 z3 HK0 HK1 HK2;generalize ((U.setCell ⟨b0+1+1+1+1,2,none⟩ (.int .i64 (Xd T.rs s9.c m))).setCell ⟨b0+1+1+1+1,3,none⟩ (.int .i64 s9.p)).drew=Z at hrz hrq hpz hbz hoz ⊢;obtain⟨y0,y1,y2,y3⟩:=cT4 hrz;have HRQ:=Za hrq;have HPZ:=Za hpz;have HBZ:=Za hbz;have HOZ:=Za hoz;clear hrz hrq hpz hbz hoz;go_wp2_with (refine wpList_store_row rfl 47 _ _ rfl (b0+2) #[.slice ap ps.length ac,.slice rp rn rc,.int .i64 (Xd T.rs s9.c m),.int .i64 s9.p] rfl rfl 47 _ (J HRQ) (Tryz.infLyK.trans rfl) rfl (by simp [Value.oneCell']) ?_)
   refine bodyPost_ret (Gs (fn:=Tryz.f63) (q:=4) (uy:=47) rfl _ _ (b0+2) 47 #[.slice ap ps.length ac,.slice rp rn rc,.int .i64 (Xd T.rs s9.c m),.int .i64 s9.p] (0,0) _ rfl (setRow_heap _ _ _ _ _ _ (J HRQ)) Tryz.underlying47 rfl (Tryz.infLyK.trans rfl)) rfl ?_;have hI:=J HI;have hob:=J HOZ;have hzz:=(J HGB2).size;rw [hb0,J HE];have hown:∀{e:TypeId} {size n:Nat} {v:Value} {xs:List Value},wr.ownsRow (b0+5) e size v n xs→(Z.setRow (b0+2) #[.slice ap ps.length ac,.slice rp rn rc,.int .i64 (Xd T.rs s9.c m),.int .i64 s9.p]).ownsRow b0 e size v n xs:=fun{e size n v xs} h=>by
    obtain⟨h1,h2 | ⟨g,cap,cur,e1,e2,e3,e4⟩⟩:=h
    ·exact⟨h1,Or.inl h2⟩
    ·exact⟨h1,Or.inr ⟨g,cap,cur,e1,by omega,(setRow_other _ _ _ _ (by omega)).trans ((J HBZ g (by omega) (by omega) (Zi e3)).trans e3),e4⟩⟩
   refine⟨_,_,pvs,rfl,⟨by simp [hI.len],?_,fun j hj=>?_,?_⟩,?_⟩
   ·have h:=hown hI.own;simpa using h
   ·have hj2:j<ps.length:=by simpa using hj
    have h:=hown (hI.each j hj2);have e:((List.range ps.length).map (Gb T.ag T.br T.pairs ps T.sh)).getD j Ci=Gb T.ag T.br T.pairs ps T.sh j:=by simp [List.getD,hj2]
    show Uu _ b0 (pvs.getD j undef) (((List.range ps.length).map (Gb T.ag T.br T.pairs ps T.sh)).getD j Ci).pl;rw [e];exact h
   ·exact Znr (J HPZ) (by omega) (by omega)
   ·refine⟨?_,?_,?_,?_,fun q hq=>?_⟩
    ·exact hob.1.trans (hI.low.os.trans (J HB).os)
    ·exact hob.2.1.trans (hI.low.tape.trans (J HB).tape)
    ·exact hob.2.2.1.trans (hI.low.output.trans (J HB).output)
    ·have h:(Z.setRow (b0+2) #[.slice ap ps.length ac,.slice rp rn rc,.int .i64 (Xd T.rs s9.c m),.int .i64 s9.p]).heap.size=Z.heap.size:=by simp [World.setRow]
     have:=hob.2.2.2;omega
    ·exact(setRow_other _ _ _ _ (by omega)).trans ((J HBZ q (by omega) (by omega) (by omega)).trans ((hI.low.block q (by omega)).trans ((J HB).block q hq)))
end Go.Proofs.YtkenknfgeoecbaaGreatDoor
