import Derived.Test.YtnlcfnjeagmemaaGreatDoorJ3
import Derived.Test.YtnlcfnjeagmemaaGreatDoorJ17
import Derived.Laws.MakeOwn
import Derived.Laws.CopyOwn
namespace Go.Proofs.YtnlcfnjeagmemaaGreatDoor
open Go.RowKit
set_option maxHeartbeats 4000000
set_option maxRecDepth 100000
def Dh (ps:List Int)(k:Nat):Nat:=(max (ps.getD k 0) 1).toNat
def rdK (args:List Xm)(ps:List Int)(k:Nat):List (Xm×Nat):=((List.range args.length).drop k).flatMap fun k=>(List.range (Dh ps k)).map fun n=>(args.getD k Xs,n)
def rdJ (x:Xm)(c j:Nat):List (Xm×Nat):=((List.range c).drop j).map fun n=>(x,n)
theorem Ro {n k:Nat}(h:k<n):(List.range n).drop k=k :: (List.range n).drop (k+1):=by
 rw [List.drop_eq_getElem_cons (by simpa using h)];simp
theorem Zey (args:List Xm)(ps:List Int):Ng args ps=rdK args ps 0:=rfl
theorem Zez (args:List Xm)(ps:List Int)(k:Nat)(h:k<args.length):rdK args ps k=rdJ (args.getD k Xs) (Dh ps k) 0++rdK args ps (k+1):=by
 unfold rdK rdJ;rw [Ro h];simp
theorem Zjq (args:List Xm)(ps:List Int):rdK args ps args.length=[]:=by
 unfold rdK;rw [List.drop_of_length_le (by simp)];rfl
theorem Rp (x:Xm)(c j:Nat)(h:j<c):rdJ x c j=(x,j) :: rdJ x c (j+1):=by
 unfold rdJ;rw [Ro h];rfl
theorem Zcv (x:Xm)(c:Nat):rdJ x c c=[]:=by
 unfold rdJ;rw [List.drop_of_length_le (by simp)];rfl
theorem Iq (T:Zm)(m:Zf)(x:Xm×Nat)(r:List (Xm×Nat))(acc:List Int)(y:Int)(h:(m.wordOf T x.1 x.2).2=some y):Zo T m (x :: r) acc=Zo T m r (acc++[y]):=by
 rw [Zo,if_pos (by rw [h]; rfl),Sw T m x.1 x.2 (by rw [h]; rfl),h];rfl
theorem Rq (T:Zm)(m:Zf)(x:Xm×Nat)(r:List (Xm×Nat))(acc:List Int)(h:(m.wordOf T x.1 x.2).2=none):Zo T m (x :: r) acc=((m.wordOf T x.1 x.2).1,none):=by
 rw [Zo,if_neg (by rw [h]; decide)]
section
variable {w:World} {A B N:Nat} {G:Xn} {mb sb:Nat} {m:Zf}
theorem Zom (h:MR w A B N G mb sb m)(hT:TK G.T)(l:Yc)(av rv:Value)(pvs:List Value)(L:Nat)(hL:Yo w L av rv l pvs)(hmL:mb<L)(hsL:sb<L)(ps:List Int)(nr:Int)(hk:LyK G.T ps nr.toNat l)(lp:Option Addr)(lc:Nat)(hp:Lj w A (.slice lp ps.length lc) ps)(hp8:ps.length≤8) :
 Calls Tryz.prog 119 #[.pointer (some ⟨mb,0,none⟩),.agg #[.slice lp ps.length lc,.int .i64 nr],.agg #[av,rv,.int .i64 l.size,.int .i64 l.copies]] w fun e w'=>∃ v,e=.returned (.tuple #[v,.bool (Zo G.T m (Ng l.args ps) []).2.isSome])∧(∀ ws,(Zo G.T m (Ng l.args ps) []).2=some ws→w'.ownsRow w.heap.size 62 1 v ws.length (uC ws)∧ws.length≤64)∧(∃ N',MR w' A B N' G mb sb (Zo G.T m (Ng l.args ps) []).1)∧Kx w.heap.size mb sb w w':=by
 obtain⟨ti,hti,hty0,hty1,hty2⟩:=Yr Tryz.infoU64;obtain⟨r0,hb0,hz0⟩:=Zs w (.cells #[.slice lp ps.length lc,.int .i64 nr] 59 (0,0));obtain⟨r1,hb1,hz1⟩:=Zs (w.alloc (.cells #[.slice lp ps.length lc,.int .i64 nr] 59 (0,0))) (.cells #[av,rv,.int .i64 l.size,.int .i64 l.copies] 76 (0,0));have HM:=Y ((h.al (.cells #[.slice lp ps.length lc,.int .i64 nr] 59 (0,0))).al (.cells #[av,rv,.int .i64 l.size,.int .i64 l.copies] 76 (0,0)));have hbd:=h.bd;have hkx:=(Gh (a:=mb) (b:=sb) hb0).tr ((Gh (a:=mb) (b:=sb) hb1).low (by omega));have HK:=Y hkx;have HR0:=Y ((hb1.block _ (by omega)).trans r0);have HR1:=Y (show _ from r1);rw [hz0] at HR1;have HL:=Y (fun(V:World) (k:Kx w.heap.size mb sb w V)=>show Yo V L av rv l pvs from⟨hL.len,Xi hL.args k (fun g hg=>(hL.args.lt g hg).2) hmL hsL,fun i hi=>Xi (hL.each i hi) k (fun g hg=>((hL.each i hi).lt g hg).2) hmL hsL,Xi hL.res k (fun g hg=>(hL.res.lt g hg).2) hmL hsL⟩);have HP:=Y (fun(V:World) (k:Kx w.heap.size mb sb w V)=>show Lj V A (.slice lp ps.length lc) ps from Gy hp k (by omega) hbd.1 hbd.2.1);obtain⟨ap,ac,rfl⟩:=Ze hL.args;have HLK:=Y hk;have hzw:(World.alloc (w.alloc (.cells #[.slice lp ps.length lc,.int .i64 nr] 59 (0,0))) (.cells #[.slice ap l.args.length ac,rv,.int .i64 l.size,.int .i64 l.copies] 76 (0,0))).heap.size=w.heap.size+2:=by rw [hz1,hz0]
 have HZW:=Y hzw;have HAL:=Y hk.args;clear r0 hb0 r1 hb1 h hL hp hk hz0 hz1 hkx hzw;go_enter Tryz.func119,Tryz.ntmps119
 go_upto_region 2 with fail
 generalize World.alloc (w.alloc _) _=W at HM HK HR0 HR1 HZW ⊢;have c0:W.cell? ⟨w.heap.size+1,0,none⟩=some (.slice ap l.args.length ac):=(cR (O HR1) 0);go_wp2_with fail
 clear c0;go_loopw [17,8] (fun s17 s8 V=>∃(k:Nat) (v:Value) (acc:List Int),s17=.int .i64 k∧s8=v∧k≤l.args.length∧V.ownsRow W.heap.size 62 1 v acc.length (uC acc)∧MR V A B W.heap.size G mb sb m∧Kx W.heap.size mb sb W V∧Zo G.T m (Ng l.args ps) []=Zo G.T m (rdK l.args ps k) acc∧acc.length≤8*k) (fun s17 _ _=>l.args.length-(intOf s17).toNat)
 case atStart=>exact⟨0,_,[],rfl,rfl,by omega,World.ownsRow_nil _ _ _ _,(O HM).up (O HM).nb.2 (Nat.le_refl _),Kx.rf _ _ _ _,by rw [Zey],by simp⟩
 case round =>
  obtain⟨k,v0,acc,rfl,rfl,hk,how,hmr,hkx,hco,hac⟩:=hrel;obtain⟨vp,vc,rfl⟩:=Ze how;have hKw:Kx w.heap.size mb sb w wr:=(O HK).tr (hkx.low (by have:=O HZW; omega));by_cases hk2:k<l.args.length
  ·
   have hal:=O HAL;have hLy:=O HL wr hKw;obtain⟨g,gc,e1,hLg,hgs,d0,d1,d2⟩:=Zcl hLy hk2;have HPk:=Y (hLy.each k hk2);injection e1 with f1 f2 f3;subst f1;have hLK:=O HLK;have HPL:=Y (hLK.pl k (by omega));have HONE:=Y (hLK.one k (by omega));have HALL:=Y (hLK.all k (by omega));have hp8k:=hLK.p8 k (by omega);obtain⟨gp,sop,hpp,hgA,hpc⟩:=(O HP wr hKw).at (k:=k) (by omega);have e0:=hpc k (by omega);have e2:wr.cell? ⟨w.heap.size,0,none⟩=some (.slice lp ps.length lc):=(cR ((hkx.oth w.heap.size (by have:=O HZW; omega) (by omega) (by omega)).trans (O HR0)) 0);rw [hpp] at e2;have HCO:=Y (show Zo G.T m (Ng l.args ps) []=Zo G.T m (rdJ (l.args.getD k Xs) (Dh ps k) 0++rdK l.args ps (k+1)) acc by rw [hco,Zez _ _ _ hk2]);have hcw:((Dh ps k:Nat):Int)=max (ps.getD k 0) 1:=by unfold Dh; omega
   have hcw8:Dh ps k≤8:=by unfold Dh; omega
   have HCW:=Y (show(Dh ps k:Nat)=(max (ps.getD k 0) 1).toNat from rfl);generalize Dh ps k=c at hcw hcw8 HCO HCW;generalize ps.getD k 0=pz at e0 hcw HONE HALL hp8k HCW;have hpv:=Ze (O HPk);generalize pvs.getD k undef=pv at d0 HPk hpv;generalize l.args.getD k Xs=x at d1 d2 HPk HPL HONE HALL HCO hpv;obtain⟨qp,qc,rfl⟩:=hpv;have hkp:k<ps.length:=by omega
   clear hal;have HOW:=Y how;have HMR:=Y hmr;have HKX:=Y hkx;have hzr:=hkx.size;obtain⟨hra,hba,hsa⟩:=Zs wr (.cells #[.slice qp x.pl.length qc,.bool x.ref,.int .i64 x.at_] 87 (0,0));have HRA:=Y hra;have HBA:=Y hba;have HSA:=Y hsa;clear how hmr hkx hLy f2 f3 hLK hpc hpp hco hKw hra hba hsa;go_upto_region 5 with fail
   have HMA:=Y ((O HMR).al (.cells #[.slice qp x.pl.length qc,.bool x.ref,.int .i64 x.at_] 87 (0,0)));have e0':=(World.cell?_of_block ((O HBA).block gp (by have:=O HZW; omega))).trans e0;have e2':=(World.cell?_of_block ((O HBA).block w.heap.size (by have:=O HZW; omega))).trans e2;have HOWA:=Y (Xi (O HOW) (Gh (a:=mb) (b:=sb) (O HBA)) (fun g hg=>((O HOW).lt g hg).2) (by have:=O HZW; omega) (by have:=O HZW; omega));have HPA:=Y (Xi (O HPk) (Gh (a:=mb) (b:=sb) (O HBA)) (fun g hg=>((O HPk).lt g hg).2) hmL hsL);have HKA:=Y ((O HKX).tr ((Gh (a:=mb) (b:=sb) (O HBA)).low hzr));clear e0 e2 d0 d1 d2 HOW HPk HMR HKX HBA;generalize World.alloc wr _=V1 at HRA HSA HMA e0' e2' HOWA HPA HKA ⊢;generalize wr.heap.size=ba at HRA HSA hzr ⊢;have c27:∀ V,(Builtin.max_ #[3,3] 3 #[.int .i64 pz,.int .i64 1]).run Tryz.prog V=.ok (.int .i64 (c:Int)) V:=fun V=>by
    rw [run_max_int2,show(if (1:Int) > pz then (1:Int) else pz)=(c:Int) by split <;> omega]
   go_wp2;clear e0' e2';go_loopw [28,8] (fun s28 s8 V=>∃(j:Nat) (v:Value) (ac:List Int),s28=.int .i64 j∧s8=v∧j≤c∧V.ownsRow W.heap.size 62 1 v ac.length (uC ac)∧MR V A B W.heap.size G mb sb m∧Kx W.heap.size mb sb W V∧V.heap[ba]?=some (.cells #[.slice qp x.pl.length qc,.bool x.ref,.int .i64 x.at_] 87 (0,0))∧Gt V L (.slice qp x.pl.length qc) x.pl∧V1.heap.size≤V.heap.size∧Zo G.T m (Ng l.args ps) []=Zo G.T m (rdJ x c j++rdK l.args ps (k+1)) ac∧ac.length≤8*k+j) (fun s28 _ _=>c-(intOf s28).toNat)
   case atStart=>exact⟨0,_,acc,rfl,rfl,by omega,O HOWA,O HMA,O HKA,O HRA,O HPA,Nat.le_refl _,O HCO,by omega⟩
   case round =>
    obtain⟨j,v2,a2,rfl,rfl,hj,how,hmr,hkx,hsr,hpr,hzv,hco,hac2⟩:=hrel;obtain⟨vp2,vc2,rfl⟩:=Ze how;by_cases hj2:j<c
    ·
     have HOW:=Y how;have HMR:=Y hmr;have HKX:=Y hkx;have HSR:=Y hsr;have hzr2:=hkx.size;have HWO:=Y (Zmc hmr hT x (.slice qp x.pl.length qc) L l.size hpr hmL hsL (O HPL) j (fun hf=>by rw [O HALL hf,← O HCW]; exact hj2) (fun hf=>by rw [(O HONE hf).1]; decide) (by omega));have HPR:=Y hpr;have HCO2:=Y (show Zo G.T m (Ng l.args ps) []=Zo G.T m ((x,j) :: (rdJ x c (j+1)++rdK l.args ps (k+1))) a2 by rw [hco,Rp _ _ _ hj2]; rfl);have s0:=((cR hsr 0):_=some (Value.slice qp x.pl.length qc));have s1:=((cR hsr 1):_=some (Value.bool x.ref));have s2:=((cR hsr 2):_=some (Value.int .i64 x.at_));have HSA2:=Y (show ba<V1.heap.size by have:=O HSA; omega);clear how hmr hkx hpr hco hsr;go_wp2_with fail
     refine(O HWO).mono ?_;rintro e w2 ⟨rfl,h2,x2⟩;clear s0 s1 s2;cases hz:(m.wordOf G.T x j).2 with
     | none =>
      have HQ:=Y (show Zo G.T m (Ng l.args ps) []=((m.wordOf G.T x j).1,none) by rw [O HCO2,Rq G.T m (x,j) _ _ hz]);have H2:=Y h2;have X2:=Y ((O HK).tr (((O HKX).tr (x2.low hzr2)).low (by have:=O HZW; omega)));clear h2 x2;unfold Ly;simp only [Option.isSome_none,Option.getD_none];go_wp2;go_ret2;rw [O HQ];exact⟨_,rfl,(fun ws hw=>by cases hw),⟨_,O H2⟩,O X2⟩
     | some y =>
      have HNX:=Y (show Zo G.T m (Ng l.args ps) []=Zo G.T m (rdJ x c (j+1)++rdK l.args ps (k+1)) (a2++[y]) by rw [O HCO2,Iq G.T m (x,j) _ _ y hz]);have HM2:=Y (show MR w2 A B W.heap.size G mb sb m by have h3:=h2; rw [Sw G.T m x j (by rw [hz]; rfl)] at h3; exact h3);have HOW2:=Y (Xi (O HOW) x2 (fun g hg=>((O HOW).lt g hg).2) (by have:=O HZW; omega) (by have:=O HZW; omega));have HPR2:=Y (Xi (O HPR) x2 (fun g hg=>((O HPR).lt g hg).2) hmL hsL);have HSR2:=Y ((x2.oth ba (by have:=O HSA2; omega) (by have:=O HZW; omega) (by have:=O HZW; omega)).trans (O HSR));have hz2:=x2.size;have HK2:=Y ((O HKX).tr (x2.low hzr2));have hnum:a2.length+1≤100:=by have:=O HAL; omega
      have hzW2:W.heap.size≤w2.heap.size:=by omega
      have HZ2:=Y (show V1.heap.size≤w2.heap.size by omega);clear h2 x2 HWO;unfold Ly;simp only [Option.isSome_some,Option.getD_some];go_wp2_with (at_builtin; refine wpList_append_own _ rfl _ _ 33 rfl W.heap.size 62 ti _ 1 8 Tryz.underlying33 hti hty0 hty1 hty2 rfl (by decide) _ _ _ rfl (World.ownsRow.alloc (O HOW2) _) ⟨w2.heap.size,0,none⟩ 1 1 [.int .u64 y] rfl rfl (by intro j u hj; match j,hj with | 0,hj=>(simp at hj; subst hj; simp [Addr.add])) (by intro u hu; simp at hu; subst hu; rfl) ?c3 ?c4 ?c5 ?_)
      case c3=>unfold maxLen; omega
      case c4=>omega
      case c5=>first | omega | (simp; omega)
      intro v7 w7 hown7 hgr7 _;obtain⟨-,hba7,hza7⟩:=Zs w2 (.cells #[.int .u64 y] 62 (0,0));have hb7:Below W.heap.size w2 w7:=Rm (by omega) (fun g hg=>((O HOW2).lt g hg).1) hgr7;have hne7:(Value.slice vp2 a2.length vc2).ownBlock≠some ba:=fun e=>by
       obtain⟨cs7,hr7⟩:=Jg (O HOW2) e;exact Jf hr7 (O HSR2) (by decide) rfl
      have HX:=Y (show w7.ownsRow W.heap.size 62 1 v7 (a2++[y]).length (uC (a2++[y])) by rw [Rx,List.length_append]; exact hown7);have HM7:=Y ((O HM2).kn (Gh hb7) (hb7.block mb (by have:=O HZW; omega)) (hb7.block sb (by have:=O HZW; omega)));have HK7:=Y ((O HK2).tr (Gh (a:=mb) (b:=sb) hb7));have HSR7:=Y (((hgr7.block ba (by have:=O HSA2; omega) (fun e=>hne7 e.symm)).trans (hba7.block ba (by have:=O HSA2; omega))).trans (O HSR2));have HPR7:=Y (show Gt w7 L (.slice qp x.pl.length qc) x.pl from Yn (Yn (O HPR2) (fun g hg=>hba7.block g ((O HPR2).lt g hg).2)) (fun g hg=>hgr7.block g (by have:=((O HPR2).lt g hg).2; omega) (fun e=>by
       obtain⟨cs7,hr7⟩:=Jg (O HOW2) e.symm;obtain⟨cs8,hr8⟩:=Jg (O HPR2) hg;exact Jf hr7 hr8 (by decide) rfl)))
      have hz7:=hgr7.size;have HZ7:=Y (show V1.heap.size≤w7.heap.size by omega);clear hown7 hgr7 hb7 hba7 hza7 hne7 hz7 HOW2 HM2 HK2 HSR2 HPR2 HOW HMR HKX HSR HPR;go_wp2;go_roundw
      case rel=>exact⟨j+1,_,a2++[y],by go_num,rfl,by omega,O HX,O HM7,O HK7,O HSR7,O HPR7,O HZ7,O HNX,by simp; omega⟩
      case measure=>simp [intOf]; omega
    ·
     have hjc:j=c:=by omega
     subst hjc;rw [Zcv,List.nil_append] at hco;have HOW:=Y how;have HMR:=Y hmr;have HKX:=Y hkx;have HCO3:=Y hco;clear how hmr hkx hco hsr hpr;go_wp2;go_roundw
     case rel=>exact⟨k+1,_,a2,by go_num,rfl,by omega,O HOW,O HMR,O HKX,O HCO3,by omega⟩
     case measure=>simp [intOf]; omega
  ·
   have hkn:k=l.args.length:=by omega
   subst hkn;rw [Zjq] at hco;have HQ:=Y (show Zo G.T m (Ng l.args ps) []=(m,some acc) by rw [hco]; rfl);have HOW:=Y (Yh how (show w.heap.size≤W.heap.size by have:=O HZW; omega));have HMR:=Y hmr;have HKX:=Y hKw;have hnum:acc.length≤64:=by have:=O HAL; omega
   clear how hmr hkx hco hKw;go_wp2;go_ret2;rw [O HQ];exact⟨_,rfl,(fun ws hw=>by injection hw with hw; subst hw; exact⟨O HOW,hnum⟩),⟨_,O HMR⟩,O HKX⟩
end
set_option maxHeartbeats 4000000
set_option maxRecDepth 100000
def Mb (T:Zm)(R:Nat→Int)(base:Int)(k:Nat):Nat→Int:=fun r=>if r<k∧r≠T.spN∧T.ss.contains (r:Int)=false then IntKind.u64.wrap (base+r) else R r
theorem Ir (T:Zm)(R:Nat→Int)(base:Int):Mb T R base 0=R:=by
 funext r
 simp [Mb]
theorem Zbs (T:Zm)(R:Nat→Int)(base:Int)(k:Nat)(h1:k≠T.spN)(h2:T.ss.contains (k:Int)=false):Mb T R base (k+1)=Yy (Mb T R base k) k (IntKind.u64.wrap (base+k)):=by
 funext r
 unfold Mb Yy;by_cases hr:r=k
 ·
  subst hr;rw [if_pos ⟨by omega,h1,h2⟩,if_pos rfl]
 ·
  rw [if_neg hr];dsimp only;by_cases hc:r<k∧r≠T.spN∧T.ss.contains (r:Int)=false
  ·
   rw [if_pos hc,if_pos ⟨by omega,hc.2⟩]
  ·
   rw [if_neg hc,if_neg (fun h=>hc ⟨by omega,h.2⟩)]
theorem Rr (T:Zm)(R:Nat→Int)(base:Int)(k:Nat)(h:k=T.spN∨T.ss.contains (k:Int)=true):Mb T R base (k+1)=Mb T R base k:=by
 funext r
 unfold Mb;by_cases hr:r=k
 ·
  subst hr;rw [if_neg (fun hh=>by rcases h with h | h; exact hh.2.1 h; rw [h] at hh; exact absurd hh.2.2 (by decide)),if_neg (by omega)]
 ·
  by_cases hc:r<k∧r≠T.spN∧T.ss.contains (r:Int)=false
  ·
   rw [if_pos hc,if_pos ⟨by omega,hc.2⟩]
  ·
   rw [if_neg hc,if_neg (fun h=>hc ⟨by omega,h.2⟩)]
theorem Zbt (T:Zm)(R:Nat→Int)(base:Int)(k:Nat)(h:(k:Int)=T.r):Mb T R base k=Lk T R base:=by
 funext r
 unfold Mb Lk;by_cases hc:r<k∧r≠T.spN∧T.ss.contains (r:Int)=false
 ·
  rw [if_pos hc,if_pos ⟨by omega,hc.2⟩]
 ·
  rw [if_neg hc,if_neg (fun hh=>hc ⟨by omega,hh.2⟩)]
theorem Lj.rs {w:World}{b:Nat}{v:Value}{ns:List Int}(h:Lj w b v ns):Rs w v ns:=by
 rcases h with h | ⟨sb,so,cap,hv,-,hc⟩
 ·
  exact .inl h
 ·
  exact .inr ⟨sb,so,cap,hv,hc⟩
section
variable {w:World} {A B N:Nat} {G:Xn} {mb sb:Nat} {m:Zf}
theorem MR.setreg (h:MR w A B N G mb sb m)(r:Nat)(hr:r<16)(v:Int)(hv:0≤v∧v<18446744073709551616):MR (w.setCell ⟨mb,42+r,none⟩ (.int .u64 v)) A B N G mb sb { m with rg:=Yy m.rg r v }:=by
 obtain⟨P,es,k⟩:=h;exact k.lf (P':=P) (Zl mb (42+r) w (.int .u64 v)) (Yg k.mm.mi (Cj _ v r hr)) ⟨rfl,rfl,rfl,rfl,.inl ⟨rfl,rfl⟩⟩ rfl (Rh k.rb hv)
theorem Zon (h:MR w A B N G mb sb m)(hT:TK G.T)(hS:Lj w A (.slice G.T.ps G.T.ss.length G.T.cs) G.T.ss)(size:Int)(hs0:0≤size)(hs1:size≤1000)(htl:m.tr.length≤10000000) :
 Calls Tryz.prog 120 #[.pointer (some ⟨mb,0,none⟩),.int .i64 size] w fun e w'=>e=.returned (.bool (Zz G.T m size).2)∧MR w' A B N G mb sb (Zz G.T m size).1∧Kx w.heap.size mb sb w w':=by
 obtain⟨P,es,hP⟩:=h;obtain⟨tp,tc,htv⟩:=Ze hP.tr.row;have c84:w.cell? ⟨mb,84,none⟩=some (.slice tp m.tr.length tc):=by rw [← htv]; exact(cR hP.mm.mi 84)
 have c0:w.cell? ⟨mb,0,none⟩=some (.int .i64 G.T.r):=(cR hP.mm.mi 0);have h:MR w A B N G mb sb m:=⟨P,es,hP⟩;have hbd:=h.bd;have hwl:IntKind.u64.wrap (m.tr.length:Int)=m.tr.length:=by
  have:IntKind.u64.wrap (m.tr.length:Int)=(m.tr.length:Int) % 18446744073709551616:=by simp [IntKind.wrap,IntKind.bits,IntKind.signed]
  omega
 have HM:=Y h;have HS:=Y (fun(V:World) (k:Kx w.heap.size mb sb w V)=>show Lj V A (.slice G.T.ps G.T.ss.length G.T.cs) G.T.ss from Gy hS k (by omega) hbd.1 hbd.2.1);have HQ:=Y (show Zz G.T m size=Ys G.T (IntKind.u64.wrap (65536*(m.tr.length:Int))) ((size+7) / 8).toNat 0 { m with rg:=Lk G.T m.rg (IntKind.u64.wrap (65536*(m.tr.length:Int))) } from rfl);obtain⟨base,hbase⟩:∃ b,b=IntKind.u64.wrap (65536*(m.tr.length:Int)):=⟨_,rfl⟩;rw [← hbase] at HQ;have hbase':IntKind.u64.wrap (65536*(m.tr.length:Int))=base:=hbase.symm;obtain⟨rn,hrn⟩:∃ n:Nat,G.T.r=n:=⟨G.T.r.toNat,by have:=hT.r4; omega⟩;have r16:=hT.r16;rw [hrn] at c0 r16;have HRN:=Y hrn;clear h hP hS htv hbase hrn;go_enter Tryz.func120,Tryz.ntmps120
 go_wp2_with fail
 clear c84 c0;go_loopw [21] (fun s21 V=>∃ k:Nat,s21=.int .i64 k∧k≤rn∧MR V A B N G mb sb { m with rg:=Mb G.T m.rg base k }∧Kx w.heap.size mb sb w V) (fun s21 _=>rn-(intOf s21).toNat)
 case atStart=>exact⟨0,rfl,by omega,by rw [Ir]; exact O HM,Kx.rf _ _ _ _⟩
 case round =>
  obtain⟨k,rfl,hk,hmr,hkx⟩:=hrel;by_cases hk2:k<rn
  ·
   obtain⟨P1,hmi⟩:=hmr.row;have e1:wr.cell? ⟨mb,1,none⟩=some (.int .i64 (G.T.spN:Int)):=by rw [← hT.sp]; exact(cR hmi 1)
   have e7:wr.cell? ⟨mb,7,none⟩=some (.slice G.T.ps G.T.ss.length G.T.cs):=(cR hmi 7);have hk16:k<16:=by omega
   have hk1:(k:Int)<16:=by omega
   have q1:wr.cell? ⟨mb,42+k,none⟩=some (.int .u64 (Mb G.T m.rg base k k)):=(Zd hmi (42+k)).trans (Js _ k hk16);have z1:=frozen_of_row _ _ (42+k) _ _ hmi;have HMR:=Y hmr;have HKX:=Y hkx;have HCT:=Y (Du G.T.ss (k:Int) _ wr (O HS wr hkx).rs (by have:=hT.ls; omega));have hwk:IntKind.u64.wrap (k:Int)=k:=by
    have:IntKind.u64.wrap (k:Int)=(k:Int) % 18446744073709551616:=by simp [IntKind.wrap,IntKind.bits,IntKind.signed]
    omega
   generalize Mb G.T m.rg base k k=old at q1;clear hmr hkx hmi;by_cases hks:k=G.T.spN
   ·
    have hb:((k:Int) != (G.T.spN:Int))=false:=by rw [hks]; simp
    have HNX:=Y (Rr G.T m.rg base k (.inl hks));clear hks;go_wp2;go_roundw
    case rel=>exact⟨k+1,by go_num,by omega,by rw [O HNX]; exact O HMR,O HKX⟩
    case measure=>simp [intOf]; omega
   ·
    have hb:((k:Int) != (G.T.spN:Int))=true:=by simp; omega
    go_wp2_with fail
    refine(O HCT).mono ?_;rintro e w2 ⟨rfl,hw2⟩;subst w2;by_cases hin:(k:Int) ∈ G.T.ss
    ·
     have HNX:=Y (Rr G.T m.rg base k (.inr (by simpa using hin)));rw [decide_eq_true hin];go_wp2;go_roundw
     case rel=>exact⟨k+1,by go_num,by omega,by rw [O HNX]; exact O HMR,O HKX⟩
     case measure=>simp [intOf]; omega
    ·
     have HNX:=Y (Zbs G.T m.rg base k hks (by simpa using hin));rw [decide_eq_false hin];have HM2:=Y ((O HMR).setreg k hk16 (IntKind.u64.wrap (base+k)) (Mi _));have HK2:=Y ((O HKX).tr (Mc.kx (Zl mb (42+k) wr (.int .u64 (IntKind.u64.wrap (base+k))))));go_wp2;go_roundw
     case rel=>exact⟨k+1,by go_num,by omega,by rw [O HNX]; exact O HM2,O HK2⟩
     case measure=>simp [intOf]; omega
  ·
   have hkn:k=rn:=by omega
   subst hkn;rw [Zbt _ _ _ _ (O HRN).symm] at hmr;have HMR:=Y hmr;have HKX:=Y hkx;clear hmr hkx;obtain⟨cnt,hcnt⟩:∃ c,c=((size+7) / 8).toNat:=⟨_,rfl⟩;rw [← hcnt] at HQ;obtain⟨m1,hm1⟩:∃ s,s=({ m with rg:=Lk G.T m.rg base }:Zf):=⟨_,rfl⟩;rw [← hm1] at HQ HMR;clear hm1;go_wp2;go_loopw [7] (fun s7 V=>∃(j:Nat) (mm:Zf),s7=.int .i64 (8*(j:Int))∧j≤cnt∧MR V A B N G mb sb mm∧Kx w.heap.size mb sb w V∧Ys G.T base cnt 0 m1=Ys G.T base (cnt-j) j mm) (fun s7 _=>cnt+1-((intOf s7).toNat+7) / 8)
   case atStart=>exact⟨0,m1,rfl,by omega,O HMR,O HKX,rfl⟩
   case round =>
    obtain⟨j,mm,rfl,hj,hmr,hkx,hco⟩:=hrel;by_cases hj2:j<cnt
    ·
     have hlt:8*(j:Int)<size:=by omega
     have HKV:=Y hkx;have HMV:=Y hmr;have hwu:IntKind.u64.wrap (8*(j:Int))=8*(j:Int):=by
      have:IntKind.u64.wrap (8*(j:Int))=(8*(j:Int)) % 18446744073709551616:=by simp [IntKind.wrap,IntKind.bits,IntKind.signed]
      omega
     have HCO:=Y (show Ys G.T base cnt 0 m1=Ys G.T base (cnt-(j+1)+1) j mm by rw [hco,show cnt-j=cnt-(j+1)+1 by omega]);clear hmr hkx hco;go_wp2_with fail
     refine(Ns (O HMV) hT).mono ?_;rintro e w1 ⟨rfl,k1,hw1⟩;subst w1;go_wp2_with fail
     refine(Uc ((O HMV).dr k1) _ 8 _).mono ?_;rintro e w2 ⟨rfl,h2,x2⟩;have HM2:=Y h2;have HK2:=Y ((O HKV).tr (((Kx.rf _ _ _ wr).dr k1).tr (x2.low (O HKV).size)));clear h2 x2;cases hz:(mm.store (IntKind.u64.wrap (mm.sp G.T+8*(j:Int))) 8 (IntKind.u64.wrap (IntKind.u64.wrap (base+1000)+8*(j:Int)))).2 with
     | false =>
      have HQ2:=Y (show Ys G.T base cnt 0 m1=((mm.store (IntKind.u64.wrap (mm.sp G.T+8*(j:Int))) 8 (IntKind.u64.wrap (IntKind.u64.wrap (base+1000)+8*(j:Int)))).1,false) by rw [O HCO,Ys,if_neg (by rw [hz]; decide)]);go_wp2;go_ret;rw [O HQ,O HQ2];exact⟨rfl,O HM2,O HK2⟩
     | true =>
      have HQ2:=Y (show Ys G.T base cnt 0 m1=Ys G.T base (cnt-(j+1)) (j+1) (mm.store (IntKind.u64.wrap (mm.sp G.T+8*(j:Int))) 8 (IntKind.u64.wrap (IntKind.u64.wrap (base+1000)+8*(j:Int)))).1 by rw [O HCO,Ys,if_pos hz]);go_wp2;go_roundw
      case rel=>exact⟨j+1,_,by go_num,by omega,O HM2,O HK2,O HQ2⟩
      case measure=>simp [intOf]; omega
    ·
     have hjn:j=cnt:=by omega
     subst hjn;have hlt:¬ 8*(j:Int)<size:=by omega
     rw [Nat.sub_self,Ys] at hco;have HMV:=Y hmr;have HKV:=Y hkx;have HCO:=Y hco;clear hmr hkx hco;go_wp2;go_ret;rw [O HQ,O HCO];exact⟨rfl,O HMV,O HKV⟩
end
set_option maxHeartbeats 4000000
set_option maxRecDepth 100000
theorem Tryz.infoUx:(Tryz.prog.info? 62).map (·.size)=some 1:=by kernel_rfl
theorem Zjr (z:Value)(n:Nat):madeCells #[z] n=(List.replicate n z).toArray:=by
 apply Array.ext'
 apply List.ext_getElem?
 intro i;by_cases h:i<n
 ·
  simp [madeCells,h,Nat.mod_one]
 ·
  simp [madeCells,h]
theorem mkX (n:Nat)(hn:n≤1000000)(w:World):(Instr.makeSlice 33 (.int .i64 (n:Int)) (.int .i64 (n:Int))).run Tryz.prog w=.ok (.slice (some ⟨w.heap.size,0,none⟩) n n) (w.alloc (.cells (uC (List.replicate n 0)).toArray 62)):=by
 obtain⟨ti,hti,hz0,hz1,hz2⟩:=Yr Tryz.infoU64;have h:=run_make (P:=Tryz.prog) w 33 62 ti _ Tryz.underlying33 hti hz0 .i64 .i64 (n:Int) (n:Int) (by omega) (Int.le_refl _) (by rw [hz2]; omega) (by omega);rw [hz1,Int.toNat_natCast,Nat.mul_one,show(Value.int IntKind.u64 0).cells=#[.int .u64 0] from rfl,Zjr,show List.replicate n (Value.int IntKind.u64 0)=uC (List.replicate n 0) by simp [uC]] at h;exact h
def tld (sc:List Int)(n:Nat):List Int:=(List.range n).map fun k=>sc.getD k 0
theorem Yaa (sc:List Int)(n:Nat):splice (uC (List.replicate n 0)) 0 (uC (sc.take n))=uC (tld sc n):=by
 refine List.ext_getElem (by simp [splice,uC,tld]; omega) fun k h1 h2=>?_;have hk:k<n:=by simpa [uC,tld] using h2
 by_cases hs:k<sc.length
 ·
  have hm:k<min n sc.length:=by omega
  simp [splice,uC,tld,List.getD,hs,hm]
 ·
  have hm:¬ k<min n sc.length:=by omega
  simp [splice,uC,tld,List.getElem_append,List.getD,hs,hm]
theorem Lz.cut {w:World}{A:Nat}{x:Addr}{c m n:Nat}{sc:List Int}(h:Lz w A (.slice (some x) sc.length c) sc)(hm:m=min n sc.length):Lz w A (.slice (if c=m then some x else some (x.add m)) (sc.length-m) (c-m)) (sc.drop n):=by
 obtain⟨p,c',e,h2,h3,h4⟩:=h;injection e with e1 e2 e3;subst e1 e3;have hl:(sc.drop n).length=sc.length-m:=by clear h4; rw [List.length_drop,hm]; omega
 refine⟨_,_,by rw [hl],by omega,by omega,fun h0=>?_⟩;obtain⟨sb,so,e4,hlt,hc⟩:=h4 (by omega);injection e4 with e4;subst e4;rw [if_neg (by omega),Go.WideShapes.add_plain];refine⟨sb,so+m,rfl,hlt,fun i hi=>?_⟩;have hc2:=hc (m+i) (by omega);rw [show so+m+i=so+(m+i) by omega,hc2];have hmn:m=n:=by clear hc hc2 h4; rw [List.length_drop] at h0; omega
 subst hmn;simp [List.getD]
theorem Lz.none {w:World}{A c:Nat}{sc:List Int}(h:Lz w A (.slice none sc.length c) sc):sc=[]:=by
 obtain⟨p,c',e,h2,h3,h4⟩:=h;injection e with e1 e2 e3;rcases Nat.eq_zero_or_pos sc.length with h0 | h0
 ·
  exact List.eq_nil_of_length_eq_zero h0
 ·
  obtain⟨sb,so,e4,-⟩:=h4 h0;rw [← e1] at e4;cases e4
theorem Nu (T:Zm):∀(ps:List (Int×Int)) (m:Zf) (sc:List Int) (k:Nat),k<ps.length→Xa T m (ps.take (k+1)) sc=((Xa T m (ps.take k) sc).write T (ps.getD k (0,0)) (sc.getD k 0)).1
 | p :: r,m,sc,0,_=>by cases sc <;> simp [Xa]
 | p :: r,m,sc,k+1,h=>by
  have:=Nu T r (m.write T p (sc.headD 0)).1 sc.tail k (by simpa using h);simp only [List.take_succ_cons,Xa];rw [this];cases sc <;> simp [List.getD]
theorem MP.script {w:World}{A B N:Nat}{G:Xn}{mb sb:Nat}{P:PV}{es:List Value}{m:Zf}(h:MP w A B N G mb sb P es m)(v:Value)(sc:List Int)(hl:Lz w A v sc):MR (w.setCell ⟨mb,80,none⟩ v) A B N G mb sb { m with sc:=sc }:=by
 have ho:=Zl mb 80 w v;have hk:Kx N mb sb w (w.setCell ⟨mb,80,none⟩ v):=ho.kx;have hA:A≤N:=by have:=h.am; have:=h.bm; have:=h.bn; omega
 exact⟨{ P with scr:=v },es,h.mm.one (Yg h.mm.mi rfl) ho rfl,Xi h.vv hk h.vn h.bm h.bs,hl.kx hk hA h.am h.as_,h.tr.kx hk h.tn h.en h.bm h.bs,h.rb,h.am,h.as_,h.bm,h.bs,h.bn,Nat.le_trans h.nw hk.size,h.vn,h.tn,h.en⟩
section
variable {w:World} {A B N:Nat} {G:Xn} {mb sb:Nat} {m:Zf}
theorem Zmd (h:MR w A B N G mb sb m)(hT:TK G.T)(rv:Value)(res:List (Int×Int))(L:Nat)(size:Int)(hR:Gt w L rv res)(hmL:mb<L)(hsL:sb<L)(hpl:∀ p ∈ res,PlK G.T size p)(hn:res.length≤4)(hu:∀ k,0≤m.sc.getD k 0∧m.sc.getD k 0<18446744073709551616) :
 Calls Tryz.prog 121 #[.pointer (some ⟨mb,0,none⟩),rv] w fun e w'=>(∃ v,e=.returned v)∧MR w' A B N G mb sb (Xw G.T m res)∧Kx w.heap.size mb sb w w':=by
 have hbd:=h.bd;obtain⟨rp,rc,rfl⟩:=Ze hR;have HMK:=fun V=>mkX res.length (by omega) V;obtain⟨r0,hb0,hz0⟩:=Zs w (.cells (uC (List.replicate res.length 0)).toArray 62 (0,0));have HM:=Y h;obtain⟨P,es,hP⟩:=h.al (.cells (uC (List.replicate res.length 0)).toArray 62 (0,0));obtain⟨sp,scc,hsv,hsc2,hsc3,hsc4⟩:=hP.sc;have HSC:=Y (show Lz _ A (.slice sp m.sc.length scc) m.sc by rw [← hsv]; exact hP.sc);have c80:(w.alloc (.cells (uC (List.replicate res.length 0)).toArray 62 (0,0))).cell? ⟨mb,80,none⟩=some (.slice sp m.sc.length scc):=by rw [← hsv]; exact(cR hP.mm.mi 80)
 have HR0:=Y r0;have HB0:=Y hb0;have HZ0:=Y hz0;have HR:=Y (fun(V:World) (k:Kx w.heap.size mb sb w V)=>show Gt V L (.slice rp res.length rc) res from Xi hR k (fun g hg=>(hR.lt g hg).2) hmL hsL);have HU:=Y hu;have HPL:=Y hpl;clear r0 hb0 hz0 h hR hP hsv hsc4 hu hpl;go_enter Tryz.func121,Tryz.ntmps121
 go_upto_region 1 with fail
 generalize World.alloc w _=U at HR0 HB0 HZ0 HSC c80 ⊢;go_wp2_with (refine wpList_copy_splice rfl _ _ 33 33 rfl 62 Tryz.underlying33 (Tryz.infoUx.trans rfl) _ _ _ _ _ _ rfl rfl w.heap.size 0 (uC (List.replicate res.length 0)) 62 ?k1 (uC (m.sc.take res.length)) ?k2 ?k3 ?k4 ?k6 w.heap.size w ?k5 (Nat.le_refl _) ?_)
 case k1=>exact O HR0
 case k2=>simp [uC]; exact Nat.min_comm _ _
 case k3 =>
  intro h0;obtain⟨p',c',e,h2,h3,h4⟩:=O HSC;injection e with e1 e2 e3;obtain⟨sb',so,e4,hlt,hc⟩:=h4 (by simp [uC] at h0; omega);refine⟨⟨sb',so,none⟩,by rw [e1,e4],fun j v hj=>?_⟩;have hj2:j<m.sc.length∧j<res.length:=by
   have:=(List.getElem?_eq_some_iff.1 hj).1;simp [uC] at this;omega
  have hv:v=.int .u64 (m.sc.getD j 0):=by
   simp [uC,hj2] at hj;rw [← hj];simp [List.getD,hj2]
  subst hv;show World.cell? _ (Addr.add ⟨sb',so,none⟩ j)=_;rw [Go.WideShapes.add_plain];exact hc j hj2.1
 case k4=>simp [uC]; omega
 case k6 =>
  intro v hv;obtain⟨x,-,rfl⟩:=List.mem_map.1 hv;rfl
 case k5=>exact O HB0
 intro w8 HG8 hB8;have hrow8:=HG8.out;rw [Yaa] at hrow8;have HROW8:=Y hrow8;have hM8:=(O HM).kx (Gh hB8) (hB8.block mb (by omega)) (hB8.block sb (by omega));have HK8:=Y (Gh (a:=mb) (b:=sb) hB8);obtain⟨P8,es8,hP8⟩:=hM8;obtain⟨sp8,sc8,hsv8,h82,h83,h84⟩:=hP8.sc;have e80:w8.cell? ⟨mb,80,none⟩=some (.slice sp8 m.sc.length sc8):=by rw [← hsv8]; exact(cR hP8.mm.mi 80)
 have z80:=frozen_of_row _ _ 80 _ _ hP8.mm.mi;have HSC8:=Y (show Lz w8 A (.slice sp8 m.sc.length sc8) m.sc by rw [← hsv8]; exact hP8.sc);have HP8:=Y hP8;clear hrow8 HG8 hB8 hP8 hsv8 h84 c80 HR0 HB0 HZ0 HSC HM;generalize hm:(uC (m.sc.take res.length)).length=q;have hq:q=min res.length m.sc.length:=by rw [← hm]; simp [uC]
 clear hm;have hms:(q:Int)≤m.sc.length:=by omega
 have hm0:(0:Int)≤(q:Int):=by omega
 have hmN:q≤m.sc.length:=by omega
 cases sp8 with
 | none =>
  have hnil:=Lz.none (O HSC8);have h0:m.sc.length=0:=by rw [hnil]; rfl
  have hq0:q=0:=by omega
  have HL9:=Y (show Lz w8 A (.slice none 0 (sc8-q)) (m.sc.drop res.length) from by
   rw [hnil,List.drop_nil];exact⟨none,sc8-q,rfl,Nat.zero_le _,by decide,fun h=>absurd h (by decide)⟩)
  clear hnil hq0 hq;go_upto_region 3 with fail
  clear e80 z80 h0 hms hm0 hmN h82 h83;generalize hv9:(Value.slice none 0 (sc8-q))=v9 at HL9 ⊢;clear hv9;have HM9:=Y ((O HP8).script v9 (m.sc.drop res.length) (O HL9));have HK9:=Y ((O HK8).tr (Mc.kx (Zl mb 80 w8 v9)));have HT9:=Y ((show(w8.setCell ⟨mb,80,none⟩ v9).heap[w.heap.size]?=w8.heap[w.heap.size]? from heap_setCell_other _ _ _ _ (show w.heap.size≠mb by omega)).trans (O HROW8));generalize World.setCell w8 _ _=U9 at HM9 HK9 HT9 ⊢;go_wp2_with fail
  go_loopw [28] (fun s28 V=>∃ k:Nat,s28=.int .i64 k∧k≤res.length∧MR V A B N G mb sb (Xa G.T { m with sc:=m.sc.drop res.length } (res.take k) m.sc)∧Kx w.heap.size mb sb w V∧V.heap[w.heap.size]?=some (.cells (uC (tld m.sc res.length)).toArray 62 (0,0))) (fun s28 _=>res.length-(intOf s28).toNat)
  case atStart=>exact⟨0,rfl,by omega,O HM9,O HK9,O HT9⟩
  case round =>
   obtain⟨k,rfl,hk,hmr,hkx,htd⟩:=hrel;by_cases hk2:k<res.length
   ·
    obtain⟨g,cg,e1,hLg,d0,d1⟩:=Gv (O HR wr hkx) hk2;injection e1 with f1 f2 f3;subst f1;have hpk:=O HPL _ (Je hk2);have HNX:=Y (Nu G.T res { m with sc:=m.sc.drop res.length } m.sc k hk2);have hyb:=O HU k;have tk:wr.cell? ⟨w.heap.size,k,none⟩=some (.int .u64 (m.sc.getD k 0)):=(Zd htd k).trans (by simp [uC,tld,hk2]);generalize m.sc.getD k 0=y at hyb tk HNX;generalize res.getD k (0,0)=p at d0 d1 hpk HNX;obtain⟨pa,pb⟩:=p;simp only at d0 d1;have hpa:pa=-1∨0≤pa∧pa<16:=by
     have:=hT.r16;rcases hpk with h | h <;> simp only at h <;> omega
    obtain⟨hra,hba,hsa⟩:=Zs wr (.cells #[.int .i64 pa,.int .i64 pb] 91 (0,0));have HMA:=Y (hmr.al (.cells #[.int .i64 pa,.int .i64 pb] 91 (0,0)));have g0:=((cR hra 0):_=some (Value.int .i64 pa));have g1:=((cR hra 1):_=some (Value.int .i64 pb));have hzr:=hkx.size;have hwl:w.heap.size<wr.heap.size:=Zc htd;have tk2:=(World.cell?_of_block (hba.block w.heap.size hwl)).trans tk;have HT2:=Y ((hba.block w.heap.size hwl).trans htd);have HK2:=Y (hkx.tr ((Gh (a:=mb) (b:=sb) hba).low hzr));have HSA:=Y (show wr.heap.size<(wr.alloc (.cells #[.int .i64 pa,.int .i64 pb] 91 (0,0))).heap.size by omega);clear hmr hkx htd hra hba hsa hpk f2 f3;go_upto_region 6 with fail
    generalize World.alloc wr _=V2 at HMA g0 g1 tk2 HT2 HK2 HSA ⊢;clear d0 d1 tk;refine Zh (C:=fun V=>∃ k,V=V2.drewN k) (d:=6) (by kernel_rfl) ?_;change Ye _ _ _ _ _ _ _ _ _ (V2.drewN 1)
    refine vE 0 ?_;refine vE 1 ?_;refine vE 2 ?_;refine vE 3 ?_;refine vE 4 ?_;refine vE 5 ?_;refine vO 6 fun K hK=>?_;go_simp;refine(Rk ((O HMA).dr 1) hT pa pb y hpa hyb).mono ?_;rintro e w2 ⟨rfl,h2,x2⟩;have H2:=Y h2;have X2:=Y x2;clear h2 x2;refine kO hK (fun hx=>by cases hx) ?_;clear hK K;refine Zi (by kernel_rfl) ?_ _;have HM3:=Y (show MR w2 A B N G mb sb (Xa G.T { m with sc:=m.sc.drop res.length } (res.take (k+1)) m.sc) by rw [O HNX]; exact O H2);have HK3:=Y (((O HK2).dr 1).tr ((O X2).low (show w.heap.size≤V2.heap.size by have:=O HSA; omega)));have HT3:=Y (((O X2).oth w.heap.size (show w.heap.size<V2.heap.size by have:=O HSA; omega) (by omega) (by omega)).trans (O HT2));clear H2 X2 HNX HMA HT2 HK2;go_wp2;go_roundw
    case rel=>exact⟨k+1,by go_num,by omega,O HM3,O HK3,O HT3⟩
    case measure=>simp [intOf]; omega
   ·
    have hkn:k=res.length:=by omega
    subst hkn;rw [List.take_length] at hmr;have HMR:=Y hmr;have HKX:=Y hkx;clear hmr hkx htd;go_wp2;go_returns;exact⟨⟨_,rfl⟩,O HMR,O HKX⟩
 | some x =>
  have HL9:=Y ((O HSC8).cut hq);clear hq;go_upto_region 3 with fail
  clear e80 z80;generalize hv9:(Value.slice (if sc8=q then some x else some (x.add q)) (m.sc.length-q) (sc8-q))=v9 at HL9 ⊢;clear hv9;have HM9:=Y ((O HP8).script v9 (m.sc.drop res.length) (O HL9));have HK9:=Y ((O HK8).tr (Mc.kx (Zl mb 80 w8 v9)));have HT9:=Y ((show(w8.setCell ⟨mb,80,none⟩ v9).heap[w.heap.size]?=w8.heap[w.heap.size]? from heap_setCell_other _ _ _ _ (show w.heap.size≠mb by omega)).trans (O HROW8));generalize World.setCell w8 _ _=U9 at HM9 HK9 HT9 ⊢;go_wp2_with fail
  go_loopw [28] (fun s28 V=>∃ k:Nat,s28=.int .i64 k∧k≤res.length∧MR V A B N G mb sb (Xa G.T { m with sc:=m.sc.drop res.length } (res.take k) m.sc)∧Kx w.heap.size mb sb w V∧V.heap[w.heap.size]?=some (.cells (uC (tld m.sc res.length)).toArray 62 (0,0))) (fun s28 _=>res.length-(intOf s28).toNat)
  case atStart=>exact⟨0,rfl,by omega,O HM9,O HK9,O HT9⟩
  case round =>
   obtain⟨k,rfl,hk,hmr,hkx,htd⟩:=hrel;by_cases hk2:k<res.length
   ·
    obtain⟨g,cg,e1,hLg,d0,d1⟩:=Gv (O HR wr hkx) hk2;injection e1 with f1 f2 f3;subst f1;have hpk:=O HPL _ (Je hk2);have HNX:=Y (Nu G.T res { m with sc:=m.sc.drop res.length } m.sc k hk2);have hyb:=O HU k;have tk:wr.cell? ⟨w.heap.size,k,none⟩=some (.int .u64 (m.sc.getD k 0)):=(Zd htd k).trans (by simp [uC,tld,hk2]);generalize m.sc.getD k 0=y at hyb tk HNX;generalize res.getD k (0,0)=p at d0 d1 hpk HNX;obtain⟨pa,pb⟩:=p;simp only at d0 d1;have hpa:pa=-1∨0≤pa∧pa<16:=by
     have:=hT.r16;rcases hpk with h | h <;> simp only at h <;> omega
    obtain⟨hra,hba,hsa⟩:=Zs wr (.cells #[.int .i64 pa,.int .i64 pb] 91 (0,0));have HMA:=Y (hmr.al (.cells #[.int .i64 pa,.int .i64 pb] 91 (0,0)));have g0:=((cR hra 0):_=some (Value.int .i64 pa));have g1:=((cR hra 1):_=some (Value.int .i64 pb));have hzr:=hkx.size;have hwl:w.heap.size<wr.heap.size:=Zc htd;have tk2:=(World.cell?_of_block (hba.block w.heap.size hwl)).trans tk;have HT2:=Y ((hba.block w.heap.size hwl).trans htd);have HK2:=Y (hkx.tr ((Gh (a:=mb) (b:=sb) hba).low hzr));have HSA:=Y (show wr.heap.size<(wr.alloc (.cells #[.int .i64 pa,.int .i64 pb] 91 (0,0))).heap.size by omega);clear hmr hkx htd hra hba hsa hpk f2 f3;go_upto_region 6 with fail
    generalize World.alloc wr _=V2 at HMA g0 g1 tk2 HT2 HK2 HSA ⊢;clear d0 d1 tk;refine Zh (C:=fun V=>∃ k,V=V2.drewN k) (d:=6) (by kernel_rfl) ?_;change Ye _ _ _ _ _ _ _ _ _ (V2.drewN 1)
    refine vE 0 ?_;refine vE 1 ?_;refine vE 2 ?_;refine vE 3 ?_;refine vE 4 ?_;refine vE 5 ?_;refine vO 6 fun K hK=>?_;go_simp;refine(Rk ((O HMA).dr 1) hT pa pb y hpa hyb).mono ?_;rintro e w2 ⟨rfl,h2,x2⟩;have H2:=Y h2;have X2:=Y x2;clear h2 x2;refine kO hK (fun hx=>by cases hx) ?_;clear hK K;refine Zi (by kernel_rfl) ?_ _;have HM3:=Y (show MR w2 A B N G mb sb (Xa G.T { m with sc:=m.sc.drop res.length } (res.take (k+1)) m.sc) by rw [O HNX]; exact O H2);have HK3:=Y (((O HK2).dr 1).tr ((O X2).low (show w.heap.size≤V2.heap.size by have:=O HSA; omega)));have HT3:=Y (((O X2).oth w.heap.size (show w.heap.size<V2.heap.size by have:=O HSA; omega) (by omega) (by omega)).trans (O HT2));clear H2 X2 HNX HMA HT2 HK2;go_wp2;go_roundw
    case rel=>exact⟨k+1,by go_num,by omega,O HM3,O HK3,O HT3⟩
    case measure=>simp [intOf]; omega
   ·
    have hkn:k=res.length:=by omega
    subst hkn;rw [List.take_length] at hmr;have HMR:=Y hmr;have HKX:=Y hkx;clear hmr hkx htd;go_wp2;go_returns;exact⟨⟨_,rfl⟩,O HMR,O HKX⟩
end
end Go.Proofs.YtnlcfnjeagmemaaGreatDoor
