import Derived.Test.YtnlcfnjeagmemaaGreatDoorJ3
import Derived.Test.YtnlcfnjeagmemaaGreatDoorJ31
import Derived.Test.YtnlcfnjeagmemaaGreatDoorClFb
import Derived.Deep.DeepCutAuto
import Derived.Deep.CutBlock
import Derived.Deep.RegionLaw
import Derived.WalkSmall
namespace Go.Proofs.YtnlcfnjeagmemaaGreatDoor
open Go.RowKit
set_option maxHeartbeats 4000000
set_option maxRecDepth 100000
theorem Zus (T:Zm)(ps:List Int)(pq:Option Addr)(cq:Nat)(n:Int)(w:World)(hT:TbR w w.heap.size T)(hps:Li w (.slice pq ps.length cq) ps)(hsig:Gu ps 0 8=true)(hpl:ps.length≤8)(hn0:0≤n)(hn4:n≤4)(hLa:T.ag.length≤100)(hLr:T.rs.length≤100)(hs0:0≤T.sh)(hs1:T.sh≤100) :
 Calls Tryz.prog 24 #[.agg T.box,.agg #[.slice pq ps.length cq,.int .i64 n]] w fun e w'=>∃ av rv pvs,e=.returned (.agg #[av,rv,.int .i64 (St T.ag T.rs T.br T.pairs T.sh ps n).size,.int .i64 (St T.ag T.rs T.br T.pairs T.sh ps n).copies])∧Yo w' w.heap.size av rv (St T.ag T.rs T.br T.pairs T.sh ps n) pvs∧Below w.heap.size w w':=by
 obtain⟨ti,hti,hz0,hz1,hz2⟩:=Yr Tryz.infoSp;obtain⟨tp,htp,hq0,hq1,hq2⟩:=Yr Tryz.infoPl;have hB:Below w.heap.size w ((((w.alloc (.cells T.box 25 (0,0))).alloc (.cells #[.slice pq ps.length cq,.int .i64 n] 59 (0,0))).alloc (.cells #[.slice none 0 0,.slice none 0 0,.int .i64 0,.int .i64 0] 76 (0,0))).alloc (.cells #[.slice none 0 0,.slice none 0 0,.int .i64 0,.int .i64 0] 76 (0,0))):=((((Below.refl w.heap.size w).alloc (Nat.le_refl _) (.cells T.box 25 (0,0))).alloc (by simp) (.cells #[.slice pq ps.length cq,.int .i64 n] 59 (0,0))).alloc (by simp; omega) (.cells #[.slice none 0 0,.slice none 0 0,.int .i64 0,.int .i64 0] 76 (0,0))).alloc (by simp; omega) (.cells #[.slice none 0 0,.slice none 0 0,.int .i64 0,.int .i64 0] 76 (0,0));obtain⟨r0,r1,r2,r3,hZ⟩:=Zxh w (.cells T.box 25 (0,0)) (.cells #[.slice pq ps.length cq,.int .i64 n] 59 (0,0)) (.cells #[.slice none 0 0,.slice none 0 0,.int .i64 0,.int .i64 0] 76 (0,0)) (.cells #[.slice none 0 0,.slice none 0 0,.int .i64 0,.int .i64 0] 76 (0,0));have HB:=Y hB;have HR0:=Y r0;have HR1:=Y r1;have HR2:=Y r2;have HR3:=Y r3;have HPS:=Y hps;have HT:=Y hT;have HSIG:=Y hsig;have hlt:ps.length<9223372036854775808:=by omega
 clear hB r0 r1 r2 r3 hps hT hsig;unfold Zm.box at *;go_enter Tryz.func24,Tryz.ntmps24
 go_wp2_with fail
 go_quiet (fail)
 go_wp2_with fail
 generalize World.alloc (World.alloc (World.alloc (World.alloc w _) _) _) _=W at HB HR0 HR1 HR2 HR3 hZ ⊢;generalize hb0:w.heap.size=b0 at HB HR0 HR1 HR2 HR3 HT hZ ⊢;have HI0:=Y (fun k=>show RlI W b0 T ps 0 (.slice none 0 0) [] (W.drewN k) from⟨⟨rfl,rfl,rfl,Nat.le_refl _,fun _ _=>rfl⟩,O HR3,rfl,World.ownsRow_nil _ _ _ _,fun j hj=>by omega⟩);clear HR3;go_loopw [21,6,7] (fun j su sc w'=>∃(k:Nat) (av:Value) (pvs:List Value),j=.int .i64 k∧k≤ps.length∧su=.int .i64 (Ln T.ag.length T.br T.pairs ps T.sh k).u∧sc=.int .i64 (Ln T.ag.length T.br T.pairs ps T.sh k).c∧RlI W b0 T ps k av pvs w') (fun j _ _ _=>ps.length-(intOf j).toNat)
 case atStart=>exact⟨0,_,_,rfl,by omega,rfl,rfl,O HI0 _⟩
 case round =>
  clear HI0;obtain⟨k,av,pvs,rfl,hk,rfl,rfl,hI⟩:=hrel;have hwz:=hI.low.size;have hok:=Zcn (L:=T.ag.length) (br:=T.br) (pr:=T.pairs) (sh:=T.sh) (O HSIG) k hk;by_cases hk2:k<ps.length
  ·
   have hnk:=Ut (O HSIG) hk2;unfold Nf at hnk;obtain⟨hm0,hm8⟩:=of_decide_eq_true hnk;obtain⟨p',cap',he,-,-,hcc⟩:=O HPS;injection he with j1 j2 j3;obtain⟨sb,so,hpq,hc⟩:=hcc (by omega);have c:=hc k hk2;have hsb:=World.block_lt_of_cell? w _ c;simp only at hsb;have cw:wr.cell? ⟨sb,so+k,none⟩=some (.int .i64 (ps.getD k 0)):=(World.cell?_of_block (show wr.heap[sb]?=w.heap[sb]? from(hI.low.block sb (by omega)).trans ((O HB).block sb (by omega)))).trans c;obtain⟨ap,ac,hav⟩:∃ ap ac,av=.slice ap k ac:=by
    rcases hI.own.2 with⟨e,e0⟩ | ⟨g,cap,cur,e,_⟩
    ·
     exact⟨_,_,by rw [e0]; exact e⟩
    ·
     exact⟨_,_,e⟩
   subst hav;have hu0:=hok.u;have hc0:=hok.c0;have hc1:=hok.c1;have hp0:=hok.p0;have hp1:=hok.p1;have hrT:=(hI.low.block b0 (by omega)).trans (O HR0);have t5:=(cR hrT 5);have t10:=(cR hrT 10);have t11:=(cR hrT 11);have HI:=Y hI;have HSN:=Y (show Jv T.ag.length T.br T.pairs (ps.getD k 0) (Ln T.ag.length T.br T.pairs ps T.sh k)=Ln T.ag.length T.br T.pairs ps T.sh (k+1) from rfl);have HSP:=Y (show Lx T.ag T.br T.pairs (ps.getD k 0) (Ln T.ag.length T.br T.pairs ps T.sh k)=Gx T.ag T.br T.pairs ps T.sh k from rfl);rw [j1,hpq];clear hI hok hcc hc c j1 j2 j3 hrT hnk;generalize hs9:Ln T.ag.length T.br T.pairs ps T.sh k=s9 at HSN HSP hu0 hc0 hc1 hp0 hp1 ⊢;have HS9:=Y hs9;clear hs9;generalize ps.getD k 0=zz at HSN HSP cw hm0 hm8;have hb10:decide (T.br<zz)=decide (T.br<zz):=rfl;go_upto_region 8 with fail
   go_cut [34] (fun b wc=>b=.bool (decide (zz=0∨T.br<zz))∧wc=wr)
   case first =>
    by_cases h1:zz=0
    ·
     have z1:(zz==0)=true:=by simp [h1]
     have H1:=Y h1;clear h1;go_wp2;go_meet
     case rel=>exact⟨by simp [O H1],rfl⟩
    ·
     have z1:(zz==0)=false:=by simp [h1]
     have H1:=Y h1;clear h1;go_wp2;go_meet
     case rel=>exact⟨by simp [O H1],rfl⟩
   case rest =>
    obtain⟨rfl,hwc⟩:=hcut;subst wc;go_upto_if 34 with fail
    go_cut [11] (fun s wd=>s=.int .i64 (Ox T.br zz:Nat)∧wd=wr)
    case first =>
     cases hb:decide (zz=0∨T.br<zz) with
     | true =>
      have hx:=Y (show Ox T.br zz=1 by unfold Ox; rw [if_pos (of_decide_eq_true hb)]);clear hb;go_wp2;go_meet
      case rel=>exact⟨by rw [O hx]; rfl,rfl⟩
     | false =>
      have hx:=Y (show(Ox T.br zz:Int)=zz by unfold Ox; rw [if_neg (of_decide_eq_false hb)]; omega);clear hb;go_wp2;go_meet
      case rel=>exact⟨by rw [O hx],rfl⟩
    case rest =>
     obtain⟨rfl,hwc⟩:=hcut;subst wc;have hW1:=Zja T.br zz hm0;have hW8:=Znq T.br zz hm8;obtain⟨N,hN⟩:∃ N,N=Ox T.br zz:=⟨_,rfl⟩;rw [← hN] at hW1 hW8 ⊢;have HN:=Y hN;clear hN;go_upto_region 10 with fail
     go_cut [45] (fun b wd=>b=.bool (decide (1<N)&&(T.pairs&&decide (s9.u % 2=1)))∧wd=wr)
     case first =>
      by_cases h2:1<N
      ·
       rcases Bool.eq_false_or_eq_true T.pairs with hp | hp
       ·
        rw [hp] at t11;have HPP:=Y hp;clear hp;by_cases h3:s9.u % 2=1
        ·
         have z3:((s9.u:Int) % 2==1)=true:=by simp; omega
         have H3:=Y h3;clear h3;go_wp2;go_meet
         case rel=>exact⟨by rw [O HPP,decide_eq_true (O H3),decide_eq_true h2]; rfl,rfl⟩
        ·
         have z3:((s9.u:Int) % 2==1)=false:=by simp; omega
         have H3:=Y h3;clear h3;go_wp2;go_meet
         case rel=>exact⟨by rw [decide_eq_false (O H3)]; simp,rfl⟩
       ·
        rw [hp] at t11;have HPP:=Y hp;clear hp;go_wp2;go_meet
        case rel=>exact⟨by rw [O HPP]; simp,rfl⟩
      ·
       go_wp2;go_meet
       case rel=>exact⟨by rw [decide_eq_false h2]; rfl,rfl⟩
     case rest =>
      obtain⟨rfl,hwc⟩:=hcut;subst wc;go_upto_if 45 with fail
      go_cut [6] (fun s wd=>s=.int .i64 (Oq T.pairs N s9.u:Nat)∧wd=wr)
      case first =>
       cases hb:(decide (1<N)&&(T.pairs&&decide (s9.u % 2=1))) with
       | true =>
        have hx:=Y (show Oq T.pairs N s9.u=s9.u+1 by unfold Oq; rw [hb]; rfl);clear hb;go_wp2;go_meet
        case rel=>exact⟨by rw [O hx]; rfl,rfl⟩
       | false =>
        have hx:=Y (show Oq T.pairs N s9.u=s9.u by unfold Oq; rw [hb]; rfl);clear hb;go_wp2;go_meet
        case rel=>exact⟨by rw [O hx],rfl⟩
      case rest =>
       obtain⟨rfl,hwc⟩:=hcut;subst wc;have hlr:=(O HI).row;rw [O HS9] at hlr;have l3:=fun X:Obj=>(Zcf hlr 3 X).trans rfl;have z3:=fun X:Obj=>frozen_of_row _ _ 3 _ _ (((Zs wr X).2.1.block _ (Zc hlr)).trans hlr);obtain⟨bref,hbr⟩:∃ b,b=decide (T.br<zz):=⟨_,rfl⟩;rw [← hbr];have HBR:=Y hbr;clear hbr hb10;have HJ0:=Y (Id.first (ref:=bref) hlr);have hx:=Y (Id.refd (ref:=bref) (a2:=s9.p) (p2:=s9.p+8*zz) hlr);have hwb:b0+3<wr.heap.size:=by omega
       clear hlr;go_upto_if 50 with fail
       go_cut [] (fun wd=>Id wr b0 wr.heap.size (.slice ap k ac) (.slice none 0 0) bref (if bref=true then s9.p else 0) (if bref=true then s9.p+8*zz else s9.p) [] wd)
       case first =>
        cases bref with
        | true =>
         go_wp2;go_meet
         case rel=>exact O hx
        | false =>
         go_wp2;go_meet
         case rel=>exact O HJ0
       case rest =>
        have HJ:=Y hcut;have hjs:=hcut.size;have hrT:=(hcut.oth b0 (by omega) (by omega)).trans (((O HI).low.block b0 (by omega)).trans (O HR0));clear t5 t10 t11 l3 z3 HJ0 hx hcut;have t5:=(cR hrT 5);have HRT:=Y hrT;clear hrT;obtain⟨u1,hu1⟩:∃ u1,u1=Oq T.pairs N s9.u:=⟨_,rfl⟩;have hu2:u1≤s9.u+1:=by rw [hu1]; unfold Oq; split <;> omega
        rw [← hu1];have HU1:=Y hu1;clear hu1;generalize hAT:(if bref=true then s9.p else 0)=AT at HJ;generalize hPP:(if bref=true then s9.p+8*zz else s9.p)=PP at HJ;have HAT:=Y hAT;have HPP:=Y hPP;clear hAT hPP;generalize hTa:wr.heap.size=Ta at HJ hjs hwb ⊢;have HTA:=Y hTa;clear hTa;generalize hw0:wr=w0 at HJ HI hwz HTA cw ⊢;clear hw0;have HTW:=Y (fun(V:World) (h:Id w0 b0 Ta (.slice ap k ac) (.slice none 0 0) bref AT PP [] V)=>True.intro);clear HTW;have HLOW:=Y (show ∀ q,q<b0→w0.heap[q]?=w.heap[q]? from fun q hq=>((O HI).low.block q (by omega)).trans ((O HB).block q hq));obtain⟨rg,hrg⟩:∃ rg,rg=Rb T.ag.length N u1:=⟨_,rfl⟩;go_upto_region 16 with fail
        go_cut [13] (fun b wd=>b=.bool rg∧wd=wc)
        case first =>
         unfold Rb at hrg;by_cases hlq:u1+N≤T.ag.length
         ·
          rw [decide_eq_true hlq] at hrg;have HG:=Y hrg;clear hrg;go_wp2;go_meet
          case rel=>exact⟨by rw [O HG]; congr 1; exact decide_eq_true (by omega),rfl⟩
         ·
          rw [decide_eq_false hlq] at hrg;have HG:=Y hrg;clear hrg;go_wp2;go_meet
          case rel=>exact⟨by rw [O HG]; congr 1; exact decide_eq_false (by omega),rfl⟩
        case rest =>
         obtain⟨rfl,hwd⟩:=hcut;subst hwd;have hrg2:rg=true→u1+N≤T.ag.length:=fun e=>by rw [hrg] at e; unfold Rb at e; exact of_decide_eq_true e
         have HRG:=Y hrg;have HRG2:=Y hrg2;clear hrg hrg2 t5;go_wp2_with fail
         refine Zzq T w0 _ b0 Ta N u1 s9.c AT PP (.slice ap k ac) bref _ rg _ _ _ _ _ _ _ _ _ _ _ _ _ _ _ _ _ _ _ _ _ _ _ _ _ _ _ _ _ _ _ _ _ _ _ _ _ _ _ _ _ _ _ _ _ _ _ _ _ _ _ _ _ _ _ _ _ _ _ _ _ _ _ _ _ _ _ _ _ _ _ _ _ _ _ _ _ _ _ _ _ _ _ _ _ _ _ _ _ _ _ _ _ _ _ _ _ _ _ _ _ _ _ _ _ _ _ _ _ _ _ _ _ _ _ _ _ _ _ _ _ _ _ _ _ _ _ _ _ _ _ _ _ _ _ _ _ _ _ _ hwb hW8 (by omega) (by omega) (by omega) (by omega) ?e1 ?e2 (O HJ) (O HRG2) ?_;case e1=>exact((O HI).low.block b0 (by omega)).trans (O HR0)
         case e2 =>
          rcases(O HT).a with h | ⟨sb',so',cap',e1,e2,e3⟩
          ·
           exact Or.inl h
          ·
           exact Or.inr ⟨sb',so',cap',e1,e2,fun i hi=>(World.cell?_of_block (O HLOW sb' e2)).trans (e3 i hi)⟩
         intro w5 pv5 hJ5 u14 u67 u68 u69 u70 u71 u72 u73 u74 u75 u76 u77 u78 u79 u80 u81 u82 u83 u84 u85 u86 u87 u88 u89 u90 u91 u92 u93 u94;obtain⟨vp,vc,hpv⟩:=Ov hJ5.pl;rw [Gl] at hpv;subst hpv;have HJ5:=Y hJ5;have hjs5:=hJ5.size;have hrT:=(hJ5.oth b0 (by omega) (by omega)).trans (((O HI).low.block b0 (by omega)).trans (O HR0));have t5:=(cR hrT 5);clear hJ5 hrT HJ;go_upto_block 4 with fail
         go_cut [6] (fun s wd=>s=.int .i64 (if rg=true then u1+N else if 1<N then T.ag.length else u1:Nat)∧wd=w5)
         case first =>
          cases rg with
          | true =>
           go_wp2;go_meet
           case rel=>exact⟨by simp,rfl⟩
          | false =>
           by_cases hN1:1<N
           ·
            go_wp2;go_meet
            case rel=>exact⟨by simp [hN1],rfl⟩
           ·
            go_wp2;go_meet
            case rel=>exact⟨by simp [hN1],rfl⟩
         case rest =>
          obtain⟨rfl,hwd⟩:=hcut;subst hwd;clear t5;have hsp:=Y ((O HSP).symm.trans (Zho (O HN) (O HU1) (O HRG) (O HBR)));have hst:=Zhn (L:=T.ag.length) (s:=s9) (O HN) (O HU1) (O HRG);have hsq:=(Zrg (L:=T.ag.length) (pr:=T.pairs) (s:=s9) (O HBR)).symm;rw [O HSN] at hst hsq;have HSU:=Y hst.1;have HSC:=Y hst.2;have HSQ:=Y hsq;rw [O HAT] at hsp;rw [O HPP] at HSQ;have hJ5:=O HJ5;have HOW:=Y (Zcj hJ5 (O HTA).symm (O HI).own (Nat.le_refl _));have l0:=(cR hJ5.lrow 0);have a0:=(cR hJ5.arow 0);have a1:=(cR hJ5.arow 1);have a2:=(cR hJ5.arow 2);have HR7:=Y (fun w7 (hgr:(wc.alloc (.cells #[.slice vp N vc,.bool bref,.int .i64 AT] 87 (0,0))).grownBy w7 (Value.slice ap k ac).ownBlock)=>(hgr.block (b0+3) (by simp; omega) (by intro e; have:=(World.ownsRow.lt (O HOW) (b0+3) e.symm).1; omega)).trans (((Zs wc (.cells #[.slice vp N vc,.bool bref,.int .i64 AT] 87 (0,0))).2.1.block (b0+3) (by omega)).trans hJ5.lrow));have HNX:=Y (fun w7 v7 hgr hown=>(O HI).next (w7:=w7) (v7:=v7) hJ5 (O HTA).symm (by omega) (O hsp) (O HSQ) hgr hown);clear hst hsq hJ5 hsp HSP HSN HN HU1 HRG HBR HAT HPP HRG2;generalize hrgu:(if rg=true then u1+N else if 1<N then T.ag.length else u1)=un at HSU ⊢;generalize hrgc:(if rg=true then s9.c else s9.c+8*(N:Int))=cn at HSC ⊢;clear hrgu hrgc;go_wp2_with (at_builtin; refine wpList_append_own _ rfl _ _ 73 rfl (b0+4) 87 ti _ 3 40 Tryz.underlying73 hti hz0 hz1 hz2 rfl (by decide) _ _ _ rfl (World.ownsRow.alloc (O HOW) _) ⟨wc.heap.size,0,none⟩ 1 1 [.slice vp N vc,.bool bref,.int .i64 AT] rfl rfl (by intro j u hj; match j,hj with | 0,hj=>(simp at hj; subst hj; simp [Addr.add]) | 1,hj=>(simp at hj; subst hj; simp [Addr.add]) | 2,hj=>(simp at hj; subst hj; simp [Addr.add])) (by intro u hu; simp at hu; rcases hu with rfl | rfl | rfl <;> rfl) ?c3 ?c4 ?c5 ?_)
          case c3=>unfold maxLen; omega
          case c4=>omega
          case c5=>first | omega | (simp; omega)
          intro v7 w7 hown7 hgr7 _;have hx:=O HNX w7 v7 hgr7 hown7;have hr7:=O HR7 w7 hgr7;have j0:=(cR hr7 0);have g0:=frozen_of_row _ _ 0 _ _ hr7;obtain⟨gg7,cc7,rfl⟩:=Ll hown7;have HX:=Y hx;clear hown7 hgr7 hr7 hx HR7 HNX l0 a0 a1 a2 HOW HJ5;go_wp2;go_roundw
          case rel=>exact⟨k+1,_,_,by go_num,by omega,by rw [O HSU],by rw [O HSC],O HX⟩
          case measure=>simp [intOf]; omega
  ·
   obtain rfl:k=ps.length:=by omega
   obtain⟨m,rfl⟩:∃ m:Nat,n=m:=⟨n.toNat,by omega⟩;obtain⟨ap,ac,hav⟩:∃ ap ac,av=.slice ap ps.length ac:=by
    rcases hI.own.2 with⟨e,e0⟩ | ⟨g,cap,cur,e,_⟩
    ·
     exact⟨_,_,by rw [e0]; exact e⟩
    ·
     exact⟨_,_,e⟩
   subst hav;have hc0:=hok.c0;have hc1:=hok.c1;have hR0:=(hI.low.block b0 (by omega)).trans (O HR0);have hR1:=(hI.low.block (b0+1) (by omega)).trans (O HR1);have hR2:=(hI.low.block (b0+2) (by omega)).trans (O HR2);have HA0:=Y hR0;have HA1:=Y hR1;have HA2:=Y hR2;have HK0:=Y (RlK.first (Tb:=wr.heap.size) rfl hI.row);have HI:=Y hI;have HE:=Y (show St T.ag T.rs T.br T.pairs T.sh ps (m:Int)=⟨(List.range ps.length).map (Gx T.ag T.br T.pairs ps T.sh),(List.range m).map (My T.rs (Ln T.ag.length T.br T.pairs ps T.sh ps.length).c),Yj T.rs (Ln T.ag.length T.br T.pairs ps T.sh ps.length).c m,(Ln T.ag.length T.br T.pairs ps T.sh ps.length).p⟩ from rfl);have hwb:b0+3<wr.heap.size:=by omega
   clear hI hok hR0 hR1 hR2;generalize Ln T.ag.length T.br T.pairs ps T.sh ps.length=s9 at HE HK0 hc0 hc1 ⊢;go_wp2_with fail
   refine Zxn T wr _ b0 wr.heap.size m s9.c s9.p (.slice ap ps.length ac) (.slice pq ps.length cq) _ _ _ _ _ _ _ _ _ _ _ _ _ _ _ _ _ _ _ _ _ _ _ _ _ _ _ _ _ _ _ _ _ _ _ _ _ _ _ _ _ _ _ _ _ _ _ _ _ _ _ _ _ _ _ _ _ _ _ _ _ _ _ _ _ _ _ _ _ _ _ _ _ _ _ _ _ _ _ _ _ _ _ _ _ _ _ _ _ _ _ _ _ _ _ _ _ _ _ _ _ _ _ _ _ _ _ _ _ _ _ _ _ _ _ _ _ _ _ _ _ _ _ _ _ _ _ _ _ _ _ _ _ _ _ _ _ _ _ _ _ _ _ hwb (by omega) (by omega) (by omega) (by omega) (O HA0) (O HA1) ?e3 (O HK0) ?_;case e3 =>
    rcases(O HT).r with h | ⟨sb',so',cap',e1,e2,e3⟩
    ·
     exact Or.inl h
    ·
     exact Or.inr ⟨sb',so',cap',e1,e2,fun i hi=>(World.cell?_of_block (((O HI).low.block sb' (by omega)).trans ((O HB).block sb' e2))).trans (e3 i hi)⟩
   intro w6 rv hK6 u15 u113 u114 u115 u116 u117 u118 u119 u120 u121 u122 u123 u124 u125 u126 u127 u128 u129 u130 u131 u132 u133 u134 u135 u136 u137 u138 u139 u140 u141 u142 u143;obtain⟨rp,rc,hrv⟩:=Ov hK6.pl;rw [Gl] at hrv;subst hrv;have l0:=(cR hK6.lrow 0);have l1:=(cR hK6.lrow 1);have l2:=(cR hK6.lrow 2);have l3:=(cR hK6.lrow 3);have z2:=frozen_of_row _ _ 2 _ _ hK6.lrow;have hrr:=(hK6.oth (b0+2) (by omega) (by omega)).trans (O HA2);obtain⟨cz,hcz⟩:∃ cz,cz=Yj T.rs s9.c m:=⟨_,rfl⟩;rw [← hcz];have HCZ:=Y hcz;have HRQ:=Y ((heap_setCell_other w6 ⟨b0+3,2,none⟩ (b0+2) (.int .i64 cz) (by show b0+2≠b0+3; omega)).trans hrr);have HK6:=Y hK6;clear hrr hK6 hcz;go_wp2_with (refine wpList_store_row rfl 76 _ _ rfl (b0+2) #[.slice ap ps.length ac,.slice rp m rc,.int .i64 cz,.int .i64 s9.p] rfl rfl 76 _ (O HRQ) (Tryz.infLyK.trans rfl) rfl (by simp [Value.oneCell']) ?_)
   refine bodyPost_ret (Xu (fn:=Tryz.f24) (q:=4) (uy:=76) rfl _ _ (b0+2) 76 #[.slice ap ps.length ac,.slice rp m rc,.int .i64 cz,.int .i64 s9.p] (0,0) _ rfl (setRow_heap _ _ _ _ _ _ (O HRQ)) Tryz.underlying76 rfl (Tryz.infLyK.trans rfl)) rfl ?_;have hI:=O HI;have hK:=O HK6;have hzz:=hK.size;rw [hb0,O HE,← O HCZ];have hoth:∀ q,q<wr.heap.size→q≠b0+3→q≠b0+2→((w6.setCell ⟨b0+3,2,none⟩ (.int .i64 cz)).setRow (b0+2) #[.slice ap ps.length ac,.slice rp m rc,.int .i64 cz,.int .i64 s9.p]).heap[q]?=wr.heap[q]?:=fun q h1 h2 h3=>(setRow_other _ _ _ _ (by omega)).trans ((heap_setCell_other _ _ _ _ (by show q≠b0+3; omega)).trans (hK.oth q h1 h2));have hown:∀{e:TypeId} {size n:Nat} {v:Value} {xs:List Value},wr.ownsRow (b0+4) e size v n xs→((w6.setCell ⟨b0+3,2,none⟩ (.int .i64 cz)).setRow (b0+2) #[.slice ap ps.length ac,.slice rp m rc,.int .i64 cz,.int .i64 s9.p]).ownsRow b0 e size v n xs:=fun{e size n v xs} h=>by
    obtain⟨h1,h2 | ⟨g,cap,cur,e1,e2,e3,e4⟩⟩:=h
    ·
     exact⟨h1,Or.inl h2⟩
    ·
     exact⟨h1,Or.inr ⟨g,cap,cur,e1,by omega,(hoth g (Zc e3) (by omega) (by omega)).trans e3,e4⟩⟩
   refine⟨_,_,pvs,rfl,⟨by simp [hI.len],?_,fun j hj=>?_,?_⟩,?_⟩
   ·
    have h:=hown hI.own;simpa using h
   ·
    have hj2:j<ps.length:=by simpa using hj
    have h:=hown (hI.each j hj2);have e:((List.range ps.length).map (Gx T.ag T.br T.pairs ps T.sh)).getD j Xs=Gx T.ag T.br T.pairs ps T.sh j:=by simp [List.getD,hj2]
    show Gt _ b0 (pvs.getD j undef) (((List.range ps.length).map (Gx T.ag T.br T.pairs ps T.sh)).getD j Xs).pl;rw [e];exact h
   ·
    exact Zch (Uu (b:=b0+3) (j:=2) (u:=.int .i64 cz) hK.pl (by omega)) (by omega) (by omega)
   ·
    refine⟨?_,?_,?_,?_,fun q hq=>?_⟩
    ·
     exact hK.os.trans (hI.low.os.trans (O HB).os)
    ·
     exact hK.tape.trans (hI.low.tape.trans (O HB).tape)
    ·
     exact hK.output.trans (hI.low.output.trans (O HB).output)
    ·
     have h:((w6.setCell ⟨b0+3,2,none⟩ (.int .i64 cz)).setRow (b0+2) #[.slice ap ps.length ac,.slice rp m rc,.int .i64 cz,.int .i64 s9.p]).heap.size=w6.heap.size:=by simp [World.setRow]
     omega
    ·
     exact(hoth q (by omega) (by omega) (by omega)).trans ((hI.low.block q (by omega)).trans ((O HB).block q hq))
end Go.Proofs.YtnlcfnjeagmemaaGreatDoor
