import Derived.Test.YtnlcfnjeagmemaaGreatDoorJ3
import Derived.Test.YtnlcfnjeagmemaaGreatDoorJ47
namespace Go.Proofs.YtnlcfnjeagmemaaGreatDoor
open Go.RowKit
set_option maxHeartbeats 4000000
set_option maxRecDepth 100000
theorem Nj {x:Int}(h:0≤x)(h2:x<9223372036854775808):IntKind.u64.wrap x=x:=Lb h (by omega)
theorem Zpu {m:Zf}(hz:Q0 m){x:Int}(v:Int)(h0:0≤x)(h1:x+8≤m.me.length)(hl:m.me.length≤65536):(m.store x 8 v).2=true∧Q0 (m.store x 8 v).1∧(m.store x 8 v).1.rg=m.rg∧(m.store x 8 v).1.me.length=m.me.length:=by
 have hs:(m.store x 8 v).2=true:=by
  rw [Ki];unfold Zf.reach;rw [if_neg (by decide),Zcb h0 (by omega),if_neg (by omega),if_neg (by omega)]
 exact⟨hs,Uj hz hs,Nz _ _ _ _,(Xx m _ _ _).len⟩
theorem Zby (ad:Int):∀(ws:List Int) (m:Zf) (j:Nat),Q0 m→0≤ad→ad+8*((j+ws.length:Nat):Int)≤m.me.length→m.me.length≤65536→Q0 (Yq ad m j ws)∧(Yq ad m j ws).rg=m.rg∧(Yq ad m j ws).me.length=m.me.length
 | [],m,j,hz,_,_,_=>⟨hz,rfl,rfl⟩
 | v :: r,m,j,hz,h0,h1,hl=>by
  rw [Yq];simp only [List.length_cons] at h1;rw [Nj (by omega) (by omega)];obtain⟨-,a2,a3,a4⟩:=Zpu hz (x:=ad+8*(j:Int)) v (by omega) (by omega) hl;obtain⟨b1,b2,b3⟩:=Zby ad r _ (j+1) a2 h0 (by rw [a4]; omega) (by omega);exact⟨b1,b2.trans a3,b3.trans a4⟩
theorem Zug {T:Zm}{m:Zf}{size:Int}(h0:0≤m.sp T)(h1:m.sp T+size≤m.me.length)(hl:m.me.length≤65536):Zdm T m size:=fun x hx h8 _=>by
 rw [Nj (x:=x) hx (by omega),Nj (by omega) (by omega)];unfold Zf.reach;rw [if_neg (by decide),Zcb (by omega) (by omega),if_neg (by omega),if_neg (by omega)]
theorem Zfx {T:Zm}(hT:TK T){m:Zf}{size:Int}{p:Int×Int}(v:Int)(hp:PlK T size p):(m.write T p v).1.sp T=m.sp T:=by
 unfold Zf.write;rcases hp with⟨e,-⟩ | ⟨h2,h3,h4⟩
 ·
  rw [if_pos e];unfold Zf.sp;rw [Nz]
 ·
  rw [if_neg (by omega)];have hne:p.1.toNat≠T.spN:=by have:=hT.sp; omega
  unfold Zf.setR;rw [if_neg hne];show Yy m.rg p.1.toNat v T.spN=m.rg T.spN;unfold Yy;rw [if_neg (fun e=>hne e.symm)]
theorem Yat {w W0:World}{C:Zk}{f:Int}{ws sc:List Int}{n:Nat}{st:Nat}{B N:Nat}{G:Ji}{eb rb sb:Nat}{a:Int}{m:Zf}{own:Yc}{tb ob fb lb L:Nat}{av rv:Value}{pvs:List Value}{ps:List Int}{nr:Nat}{ap:Option Addr}{ac:Nat}{s:Nat→Value}{V:World}(hX:XK w W0 G.T own tb ob fb lb L av rv pvs)(hb0:Below W0.heap.size W0 V)(hT:TK G.T)(h:ER V W0.heap.size B N G eb rb sb a m)(hz:Q0 m)(htr:m.tr=[])(hst:st≤4194304)(hiv:Nm C st 0 m)(hms:m.steps=0)(hn:n=m.me.length)(hly:LyK G.T ps nr own)(hwo:∀ R:Nat→Int,R G.T.spN=m.sp G.T→Zam G.T own R n)(hres:own.res.length≤1000)(hQ:EQ V B eb rb sb G C)(hag:G.T.ag.length≤100)(hrs:G.T.rs.length≤100)(hSE:Na W0 W0.heap.size G.ce C.externs)(hSG:∀ s ∈ C.externs,Mt s)(hfl:C.funcs.length≤1099511627776)(hbl:(Zg C).length≤1099511627776)(hcp:own.size+own.copies+m.sp G.T≤(n:Int))(hc1000:own.copies≤1000)(hs0:0≤m.sp G.T)(hw:Lz W0 W0.heap.size (.slice ap ws.length ac) ws)(hu:∀ x ∈ ws,0≤x∧x<18446744073709551616)(hwl:ws.length=Yl ps)(hps:∀ k,k<ps.length→0≤ps.getD k 0∧ps.getD k 0≤8)(hp8:ps.length≤8)(fN csn csc pc sg so cb:Nat)(pp:Option Addr)(hfN:f=(fN:Int))(hfs:fN<csn)(hc0:W0.cell? ⟨cb,0,none⟩=some (.slice (some ⟨sg,so,none⟩) csn csc))(hc1:W0.cell? ⟨sg,so+fN*2,none⟩=some (.slice pp ps.length pc))(hpl:Li W0 (.slice pp ps.length pc) ps)
 (hM:Lc G.T C f ws sc n st=(if ((Zu G.T own.size m own.args ps ws).call G.T C.funcs.length f 0).2=true then On G.T C own (Zu G.T own.size m own.args ps ws).rg st ((Zu G.T own.size m own.args ps ws).call G.T C.funcs.length f 0).1 else ((Zu G.T own.size m own.args ps ws).call G.T C.funcs.length f 0).1)) (hE:Lv G.T C f ws n st=0) (h2:s 2=.int .i64 f) (h3:s 3=.slice ap ws.length ac) (h5:s 5=.int .i64 (n:Int)) (h6:s 6=.int .i64 (st:Int)) (h7:s 7=.pointer (some ⟨tb,0,none⟩)) (h8:s 8=.pointer (some ⟨cb,0,none⟩)) (h14:s 14=.pointer (some ⟨ob,0,none⟩)) (h15:s 15=.pointer (some ⟨fb,0,none⟩)) (h16:s 16=.pointer (some ⟨lb,0,none⟩)) (h18:s 18=.pointer (some ⟨eb,0,none⟩)) (h21:s 21=.int .u64 (m.sp G.T)) :
 Code.wp Tryz.prog (xT Tryz.f8 13) (bodyPost Tryz.prog Tryz.f8 (Gc w G.T C f ws sc n st)) (Fz s) V:=by
 have hbd:=h.bd;have hb0z:=hb0.size;have hl:=h.len;have hn65:n≤65536:=by omega
 have hBV:∀ V',Ke B eb rb sb V V'→Below W0.heap.size W0 V':=fun V' k'=>⟨k'.os.trans hb0.os,k'.tape.trans hb0.tape,k'.output.trans hb0.output,Nat.le_trans hb0.size k'.size,fun q hq=>(k'.oth q (by omega) (by omega) (by omega) (by omega)).trans (hb0.block q hq)⟩;have HNEXT:=Y (fun(V':World) (N':Nat) (a':Int) (s':Nat→Value) (mz:Zf) (hmz:Zu G.T own.size m own.args ps ws=mz) (h':ER V' W0.heap.size B N' G eb rb sb a' mz) (hz':Q0 mz) (hsp':mz.sp G.T=m.sp G.T) (k':Ke B eb rb sb V V') (g2:s' 2=.int .i64 f) (g5:s' 5=.int .i64 (n:Int)) (g6:s' 6=.int .i64 (st:Int)) (g7:s' 7=.pointer (some ⟨tb,0,none⟩)) (g14:s' 14=.pointer (some ⟨ob,0,none⟩)) (g15:s' 15=.pointer (some ⟨fb,0,none⟩)) (g16:s' 16=.pointer (some ⟨lb,0,none⟩)) (g18:s' 18=.pointer (some ⟨eb,0,none⟩))=>show Code.wp Tryz.prog (xT Tryz.f8 14) (bodyPost Tryz.prog Tryz.f8 (Gc w G.T C f ws sc n st)) (Fz s') V' from by
  have hsm:Sm m mz:=by rw [← hmz]; exact Dq G.T own.size own.args m ps ws
  rw [hmz] at hM;exact Yas hX (hBV V' k') hT h' hz' (hsm.tr.trans htr) hst (hsm.iv hiv) (hsm.steps.trans hms) (hn.trans hsm.len.symm) hly (hwo mz.rg hsp') hres (hQ.ke k') hag hrs hSE hSG hfl hbl hM hE g2 g5 g6 g7 g14 g15 g16 g18)
 have HBV:=Y hBV;have HX:=Y hX;have HLY:=Y hly;have HPS:=Y hps;have HU:=Y hu;have HPL:=Y hpl;have c0:=(World.cell?_of_block (hb0.block cb (by have:=World.block_lt_of_cell? _ _ hc0; exact this))).trans hc0;have c1:=(World.cell?_of_block (hb0.block sg (by have:=World.block_lt_of_cell? _ _ hc1; exact this))).trans hc1;have hfI:(fN:Int)<(csn:Int):=by omega
 have HW0:=Y (show Lz V W0.heap.size (.slice ap ws.length ac) ws from hw.ke (Dm (a:=W0.heap.size) (b:=W0.heap.size) (c:=W0.heap.size) hb0) (Nat.le_refl _) (Nat.le_refl _) (Nat.le_refl _) (Nat.le_refl _));obtain⟨sp0,hsp0⟩:∃ x,x=m.sp G.T:=⟨_,rfl⟩;have HE0:=Y h;have hzm:=hz;subst hfN;rw [Gj,h2,h3,h5,h6,h7,h8,h14,h15,h16,h18,h21,← hsp0];have HSP:=Y hsp0;rw [← hsp0] at hcp hs0;have HML:=Y hn;clear h hX hb0 hM hE hiv hly hwo hQ hSE hSG hms hn htr hu hpl hps hw hc0 hc1 hBV hz h2 h3 h5 h6 h7 h8 h14 h15 h16 h18 h21 hsp0;conv=>arg 2; whnf
 refine wp_seq_k fun K hK=>?_;have HK:=Y hK;clear hK;go_wp2_with fail
 clear c0 c1;go_loopw [191,3] (fun s191 s3 V'=>∃(k:Nat) (wk:List Int) (qp0:Option Addr) (qc0:Nat) (mk:Zf),s191=.int .i64 k∧s3=.slice qp0 wk.length qc0∧k≤ps.length∧Lz V' W0.heap.size (.slice qp0 wk.length qc0) wk∧wk.length=Yl (ps.drop k)∧(∀ x ∈ wk,0≤x∧x<18446744073709551616)∧ER V' W0.heap.size B N G eb rb sb a mk∧Q0 mk∧mk.sp G.T=sp0∧mk.me.length=n∧Zu G.T own.size m own.args ps ws=Zu G.T own.size mk (own.args.drop k) (ps.drop k) wk∧Ke B eb rb sb V V') (fun s191 _ _=>ps.length-(intOf s191).toNat)
 case atStart=>exact⟨0,ws,ap,ac,m,rfl,rfl,by omega,O HW0,hwl,O HU,O HE0,hzm,(O HSP).symm,(O HML).symm,rfl,Ke.rf _ _ _ _ _⟩
 case round =>
  obtain⟨k,wk,qp0,qc0,mk,rfl,rfl,hk,hli,hwn,hwu,her,hzk,hsk,hmk,hco,hke⟩:=hrel;have hal:=(O HLY).args;by_cases hk2:k<ps.length
  ·
   have hbW:=O HBV wr hke;have hli0:=(O HPL).below hbW;obtain⟨p',c',e',-,-,h4'⟩:=hli0;injection e' with f1 f2 f3;subst f1;obtain⟨g0,po,hp0,hcp0⟩:=h4' (by omega);subst hp0;have d:=hcp0 k hk2;obtain⟨g,gc,e1,-,-,d0,d1,d2⟩:=Zcl (Yo.belx (O HX).lay hbW) (show k<own.args.length by omega);have hll:=(hbW.block lb (Zc (O HX).rl)).trans (O HX).rl;have l0:wr.cell? ⟨lb,0,none⟩=some (.slice (some ⟨g,0,none⟩) own.args.length gc):=by rw [← e1]; exact(cR hll 0)
   have HPLO0:=Y ((O HX).lay.each k (by omega));have HPK:=Y ((O HLY).pl k hk2);have HONE:=Y ((O HLY).one k hk2);have HALL:=Y ((O HLY).all k hk2);have hpk0:=O HPS k hk2;have hfd:=Zbn ps k hk2 hpk0.1;have hda:own.args.drop k=own.args.getD k Xs :: own.args.drop (k+1):=by
    have:k<own.args.length:=by omega
    rw [List.drop_eq_getElem_cons this];simp [List.getD,this]
   have hdp:ps.drop k=ps.getD k 0 :: ps.drop (k+1):=by
    rw [List.drop_eq_getElem_cons hk2];simp [List.getD,hk2]
   rw [hda,hdp,Zu] at hco;simp only [List.headD_cons,List.tail_cons] at hco;rw [hfd] at hwn;generalize own.args.getD k Xs=x at d1 d2 HPLO0 HPK HONE HALL hco;obtain⟨pn,hpn⟩:∃ q:Nat,ps.getD k 0=q:=⟨(ps.getD k 0).toNat,by omega⟩;rw [hpn] at d HONE HALL hco hwn hpk0;have hcnt:Om (pn:Int)=max pn 1:=by unfold Om; omega
   rw [hcnt] at hco hwn;have hplen:0<x.pl.length:=by
    cases hr:x.ref with
    | true=>rw [(O HONE hr).1]; decide
    | false=>rw [O HALL hr]; omega
   obtain⟨pg,qc,hpv,hLpg,hpgA,-⟩:=Ju (O HPLO0) hplen;rw [hpv] at d0 HPLO0;have HPLO:=Y (show Gt W0 L (.slice (some ⟨pg,0,none⟩) x.pl.length qc) x.pl from O HPLO0);obtain⟨ra,hba,hza⟩:=Zs wr (.cells #[.slice (some ⟨pg,0,none⟩) x.pl.length qc,.bool x.ref,.int .i64 x.at_] 87 (0,0));have y0:=((cR ra 0):_=some (Value.slice (some ⟨pg,0,none⟩) x.pl.length qc));have y1:=((cR ra 1):_=some (Value.bool x.ref));have HE2:=Y (her.al (.cells #[.slice (some ⟨pg,0,none⟩) x.pl.length qc,.bool x.ref,.int .i64 x.at_] 87 (0,0)));have HK2:=Y (hke.tr ((Dm (a:=eb) (b:=rb) (c:=sb) hba).low her.bd.2.2.2.2.2.2));have HLI:=Y (hli.ke (Dm (a:=eb) (b:=rb) (c:=sb) hba) hbW.size hbd.1 hbd.2.1 hbd.2.2.1);have HXR:=Y ra;have hxw:W0.heap.size≤wr.heap.size:=hbW.size;have hxB:B≤wr.heap.size:=her.bd.2.2.2.2.2.2;have HSK:=Y hsk;have HMK:=Y hmk;have HWM:=Y hwu;have HUB:=Y (fun j=>show 0≤wk.getD j 0∧wk.getD j 0<18446744073709551616 from by
    by_cases hj:j<wk.length
    ·
     rw [List.getD_eq_getElem?_getD,List.getElem?_eq_getElem hj];exact hwu _ (List.getElem_mem hj)
    ·
     rw [List.getD_eq_getElem?_getD,List.getElem?_eq_none (by omega)];exact⟨by decide,by decide⟩)
   have HZA:=Y hza;have HCO0:=Y hco;have HWN0:=Y hwn;have hkI:(k:Int)<(ps.length:Int):=by omega
   have halI:(k:Int)<(own.args.length:Int):=by omega
   have hwn2:max pn 1≤wk.length:=by omega
   clear h4' hcp0 hll hbW hda hdp hfd hpv HPLO0 ra hba hza her hke hli hsk hmk hwu hco hwn hal e1 f2 f3 hcnt hpn;go_upto_region 29 with fail
   clear d d0 d1 d2 l0;have hzV:=O HZA;generalize World.alloc wr _=V2 at HE2 HK2 HLI HXR y0 y1 hzV ⊢;generalize wr.heap.size=xb at HXR y0 y1 hzV hxw hxB ⊢;have hxV:xb<V2.heap.size:=by omega
   have hxe:xb≠eb∧xb≠rb∧xb≠sb:=⟨by omega,by omega,by omega⟩;have hBV2:B≤V2.heap.size:=by omega
   have HZV:=Y hzV;clear hzV HZA;cases hr:x.ref with
   | true =>
    rw [hr] at y1;obtain⟨hp1,hp2,hp3,hp4⟩:=O HONE hr;have hmx:max pn 1=pn:=by omega
    rw [hmx] at HCO0 HWN0 hwn2;have hs8:=(O HLY).s0;have hs9:=(O HLY).s1;obtain⟨pg',pc',f0,-,q0,q1⟩:=Gv (O HPLO) (show 0<x.pl.length by omega);injection f0 with f1 f2 f3;injection f1 with f1;injection f1 with f1;subst f1;have hplk:=O HPK _ (Je (show 0<x.pl.length by omega));have hpl1:x.pl=[x.pl.getD 0 (0,0)]:=by
     cases hx:x.pl with
     | nil=>rw [hx] at hp1; cases hp1
     | cons z r =>
      rw [hx] at hp1;have:r=[]:=List.eq_nil_of_length_eq_zero (by simpa using hp1);subst this;rfl
    generalize hpp:x.pl.getD 0 (0,0)=p at q0 q1 hplk hpl1;obtain⟨pa,pb⟩:=p;simp only [Nat.zero_mul,Nat.zero_add] at q0 q1;have HP0:=Y q0;have HP1:=Y q1;have hpa:pa=-1∨0≤pa∧pa<G.T.r∧pa≠G.T.sp:=by
     rcases hplk with h | h <;> simp only at h <;> omega
    obtain⟨ad,had⟩:∃ z:Int,z=sp0+(own.size+x.at_):=⟨_,rfl⟩;have hadb:0≤ad∧ad<18446744073709551616:=by omega
    have hw0:IntKind.u64.wrap (own.size+x.at_)=own.size+x.at_:=Nj (by omega) (by omega);have hadE:IntKind.u64.wrap (sp0+(own.size+x.at_))=ad:=by rw [had]; exact Nj (by omega) (by omega)
    have HI1:=Y (show IntKind.i64.wrap (own.size+x.at_)=own.size+x.at_ from Nl (by omega) (by omega));have HQS:=Y (fun j (hj:j≤pn)=>Zby ad (wk.take j) mk 0 hzk hadb.1 (by rw [List.length_take,O HMK]; omega) (by rw [O HMK]; omega));have HNS:=Y (fun j (hj:j<pn)=>show((Yq ad mk 0 (wk.take j)).store (Xr sp0 (own.size+x.at_+8*(j:Int))) 8 (wk.getD j 0)).1=Yq ad mk 0 (wk.take (j+1)) from by
     rw [Ua ad wk mk 0 j (by omega)];congr 2
     unfold Xr;rw [Nj (x:=own.size+x.at_+8*(j:Int)) (by omega) (by omega),Nj (x:=sp0+(own.size+x.at_+8*(j:Int))) (by omega) (by omega),Nj (x:=ad+8*((0+j:Nat):Int)) (by omega) (by omega),had];omega)
    have HWE:=Y (show((Yq ad mk 0 (wk.take pn)).write G.T (pa,pb) ad).1=Xb G.T own.size mk x (wk.take pn) from by
     unfold Xb;rw [if_pos hr,O HSK,hw0,hadE,hpl1];rfl)
    have hq:=O HQS pn (Nat.le_refl _);have hsq:(Yq ad mk 0 (wk.take pn)).sp G.T=sp0:=by rw [← O HSK]; unfold Zf.sp; rw [hq.2.1]
    have hwo2:=Zan ad hT (Zug (T:=G.T) (m:=Yq ad mk 0 (wk.take pn)) (size:=own.size) (by rw [hsq]; exact hs0) (by rw [hsq,hq.2.2,O HMK]; have:=(O HLY).c0; omega) (by rw [hq.2.2,O HMK]; omega)) hplk;have HSX:=Y (show Q0 (Xb G.T own.size mk x (wk.take pn))∧(Xb G.T own.size mk x (wk.take pn)).sp G.T=sp0∧(Xb G.T own.size mk x (wk.take pn)).me.length=n by
     refine⟨by rw [← O HWE]; exact hwo2.2.2 hq.1,?_,?_⟩
     ·
      rw [← O HWE,Zfx hT ad hplk];exact hsq
     ·
      rw [(Zbp G.T own.size mk x (wk.take pn)).len];exact O HMK)
    clear hplk hpl1 hpp q0 q1 hq hsq hwo2 f2 f3 hp1 hr y0 had;go_wp2_with fail
    go_loopw [25,3] (fun s25 s3 V'=>∃(j:Nat) (qp1:Option Addr) (qc1:Nat),s25=.int .i64 j∧s3=.slice qp1 (wk.drop j).length qc1∧j≤pn∧Lz V' W0.heap.size (.slice qp1 (wk.drop j).length qc1) (wk.drop j)∧ER V' W0.heap.size B N G eb rb sb a (Yq ad mk 0 (wk.take j))∧Ke V2.heap.size eb rb sb V2 V') (fun s25 _ _=>pn-(intOf s25).toNat)
    case atStart=>exact⟨0,qp0,qc0,rfl,rfl,by omega,O HLI,O HE2,Ke.rf _ _ _ _ _⟩
    case round =>
     obtain⟨j,qp1,qc1,rfl,rfl,hj,hli,her,hke⟩:=hrel;by_cases hj2:j<pn
     ·
      obtain⟨p',c',e',hcap,hlt,hat⟩:=hli;injection e' with f1 f2 f3;subst f1 f3;have hln:0<(wk.drop j).length:=by rw [List.length_drop]; omega
      obtain⟨g9,so9,hp9,hg9,hc9⟩:=hat hln;subst hp9;have hli:Lz wr W0.heap.size (.slice (some ⟨g9,so9,none⟩) (wk.drop j).length qc1) (wk.drop j):=⟨_,_,rfl,hcap,hlt,fun _=>⟨g9,so9,rfl,hg9,hc9⟩⟩;have s0:=hc9 0 hln;rw [Nat.add_zero,show(wk.drop j).getD 0 0=wk.getD j 0 by simp [List.getD]] at s0;have HL9:=Y (show Lz wr W0.heap.size (.slice (if qc1=1 then some (⟨g9,so9,none⟩:Addr) else some ⟨g9,so9+1,none⟩) ((wk.drop j).length-1) (qc1-1)) (wk.drop (j+1)) by
       have:=hli.cut (n:=1) (m:=1) (by omega);rw [List.drop_drop] at this;exact this)
      have hlx:(wk.drop j).length-1=(wk.drop (j+1)).length:=by simp only [List.length_drop]; omega
      have HST:=Y (fun k=>Uh (her.dr k) (O HQS j hj).1 sp0 (own.size+x.at_+8*(j:Int)) 8 (wk.getD j 0) (O HUB j));have HNX:=Y (O HNS j hj2);have hrl:=(hke.oth xb hxV hxe.1 hxe.2.1 hxe.2.2).trans (O HXR);have y2:wr.cell? ⟨xb,2,none⟩=some (.int .i64 x.at_):=(cR hrl 2);have hll:=((O HBV wr ((O HK2).tr (hke.low hBV2))).block lb (Zc (O HX).rl)).trans (O HX).rl;have l2:wr.cell? ⟨lb,2,none⟩=some (.int .i64 own.size):=(cR hll 2);have HKE:=Y hke;have h1n:(1:Int)≤((wk.drop j).length:Int):=by omega
      have h1N:1≤(wk.drop j).length:=hln;have hjI:(j:Int)<(pn:Int):=by omega
      have hi2:IntKind.i64.wrap (8*(j:Int))=8*(j:Int):=Nl (by omega) (by omega);have hi3:IntKind.i64.wrap (own.size+x.at_+8*(j:Int))=own.size+x.at_+8*(j:Int):=Nl (by omega) (by omega);have HI2:=Y hi2;have HI3:=Y hi3;clear hi2 hi3;clear hat hc9 her hke hrl hll hli;generalize hy:wk.getD j 0=y at s0 HST HNX;have HLX:=Y hlx;clear hy hlx;generalize (wk.drop j).length=nd at HL9 HLX s0 hcap hlt h1n h1N hln;go_upto_region 33 with fail
      refine Zh (C:=fun V9=>∃ k,V9=wr.drewN k) (d:=13) (by kernel_rfl) ?_;change Ye _ _ _ _ _ _ _ _ _ (wr.drewN 1)
      refine vE 0 ?_;refine vE 1 ?_;refine vE 2 ?_;refine vE 3 ?_;refine vE 4 ?_;refine vE 5 ?_;refine vE 6 ?_;refine vE 7 ?_;refine vE 8 ?_;refine vE 9 ?_;refine vE 10 ?_;refine vE 11 ?_;refine vE 12 ?_;refine vO 13 fun K hK=>?_;go_simp;rw [O HI1,O HI2,O HI3];refine(O HST 1).mono ?_;rintro e w5 ⟨rfl,h5,k5⟩;have HE5:=Y h5;have HK5:=Y (k5.ud);clear h5 k5 HST;refine kO hK (fun hx=>by cases hx) ?_;clear hK K;refine Zi (by kernel_rfl) ?_ _;clear s0 y2 l2;have HL5:=Y ((O HL9).ke (O HK5) (show W0.heap.size≤wr.heap.size by have:=(O HKE).size; omega) hbd.1 hbd.2.1 hbd.2.2.1);rw [O HNX] at HE5;have HK6:=Y ((O HKE).tr ((O HK5).low (O HKE).size));clear HL9 HK5;go_wp2;go_roundw
      case rel=>exact⟨j+1,_,_,by go_num,by rw [← O HLX],by omega,by rw [← O HLX]; exact O HL5,O HE5,O HK6⟩
      case measure=>simp [intOf]; omega
     ·
      have hjn:j=pn:=by omega
      subst hjn;have hrl:=(hke.oth xb hxV hxe.1 hxe.2.1 hxe.2.2).trans (O HXR);have y0:wr.cell? ⟨xb,0,none⟩=some (.slice (some ⟨pg,0,none⟩) x.pl.length qc):=(cR hrl 0);have y2:wr.cell? ⟨xb,2,none⟩=some (.int .i64 x.at_):=(cR hrl 2);have hbW:=O HBV wr ((O HK2).tr (hke.low hBV2));have hll:=(hbW.block lb (Zc (O HX).rl)).trans (O HX).rl;have l2:wr.cell? ⟨lb,2,none⟩=some (.int .i64 own.size):=(cR hll 2);have p0:=(World.cell?_of_block (hbW.block pg hpgA)).trans (O HP0);have p1:=(World.cell?_of_block (hbW.block pg hpgA)).trans (O HP1);have HWR:=Y (fun k=>Se (her.dr k) (O HQS j (Nat.le_refl _)).1 hT pa pb ad hpa hadb);have HKE:=Y hke;have HLI9:=Y hli;have hjb:¬ ((j:Int)<(j:Int)):=by omega
      clear hrl hbW hll her hke hli;go_upto_region 35 with fail
      refine Zh (C:=fun V9=>∃ k,V9=wr.drewN k) (d:=13) (by kernel_rfl) ?_;change Ye _ _ _ _ _ _ _ _ _ (wr.drewN 1)
      refine vE 0 ?_;refine vE 1 ?_;refine vE 2 ?_;refine vE 3 ?_;refine vE 4 ?_;refine vE 5 ?_;refine vE 6 ?_;refine vE 7 ?_;refine vE 8 ?_;refine vE 9 ?_;refine vE 10 ?_;refine vE 11 ?_;refine vE 12 ?_;refine vO 13 fun K hK=>?_;go_simp;rw [O HI1,hw0,hadE];refine(O HWR 1).mono ?_;rintro e w5 ⟨rfl,h5,k5⟩;have HE5:=Y h5;have HK5:=Y (k5.ud);clear h5 k5 HWR;refine kO hK (fun hx=>by cases hx) ?_;clear hK K;refine Zi (by kernel_rfl) ?_ _;clear y0 y2 l2 p0 p1;have HL5:=Y ((O HLI9).ke (O HK5) (show W0.heap.size≤wr.heap.size by have:=(O HKE).size; omega) hbd.1 hbd.2.1 hbd.2.2.1);have HK6:=Y (((O HK2).tr ((O HKE).low hBV2)).tr ((O HK5).low (show B≤wr.heap.size by have:=(O HKE).size; omega)));rw [O HWE] at HE5;clear HLI9 HK5 HKE;go_wp2;go_roundw
      case rel=>exact⟨k+1,wk.drop j,_,_,_,by go_num,by rw [List.length_drop],by omega,O HL5,by rw [List.length_drop]; have:=O HWN0; omega,fun i hi=>O HWM i (List.mem_of_mem_drop hi),O HE5,(O HSX).1,(O HSX).2.1,(O HSX).2.2,O HCO0,O HK6⟩
      case measure=>simp [intOf]; omega
   | false =>
    rw [hr] at y1;have hlen:=O HALL hr;have hmx:max pn 1=x.pl.length:=by omega
    rw [hmx] at HCO0 HWN0 hwn2;have HCX:=Y (fun mj (hm:Xa G.T mk x.pl (wk.take x.pl.length)=mj)=>show Zu G.T own.size m own.args ps ws=Zu G.T own.size mj (own.args.drop (k+1)) (ps.drop (k+1)) (wk.drop x.pl.length) from by
     rw [O HCO0];unfold Xb;rw [if_neg (by rw [hr]; decide),hm])
    have HWN:=Y (show(wk.drop x.pl.length).length=Yl (ps.drop (k+1)) by rw [List.length_drop]; have:=O HWN0; omega);have hpl16:x.pl.length≤8:=by omega
    clear hlen hmx hr HONE HALL;go_wp2_with fail
    clear y0;go_loopw [241,3] (fun s241 s3 V'=>∃(j:Nat) (qp1:Option Addr) (qc1:Nat) (mj:Zf),s241=.int .i64 j∧s3=.slice qp1 (wk.drop j).length qc1∧j≤x.pl.length∧Lz V' W0.heap.size (.slice qp1 (wk.drop j).length qc1) (wk.drop j)∧ER V' W0.heap.size B N G eb rb sb a mj∧Q0 mj∧mj.sp G.T=sp0∧mj.me.length=mk.me.length∧Xa G.T mk x.pl (wk.take x.pl.length)=Xa G.T mj (x.pl.drop j) ((wk.take x.pl.length).drop j)∧Ke V2.heap.size eb rb sb V2 V') (fun s241 _ _=>x.pl.length-(intOf s241).toNat)
    case atStart=>exact⟨0,qp0,qc0,mk,rfl,rfl,by omega,O HLI,O HE2,hzk,O HSK,rfl,rfl,Ke.rf _ _ _ _ _⟩
    case round =>
     obtain⟨j,qp1,qc1,mj,rfl,rfl,hj,hli,her,hzj,hsj,hlj,hco,hke⟩:=hrel;have HSJ:=Y hsj;have HLJ:=Y hlj;clear hsj hlj;by_cases hj2:j<x.pl.length
     ·
      have hplk:=O HPK _ (Je hj2);have hbW:=O HBV wr ((O HK2).tr (hke.low hBV2));obtain⟨pg',pc',f0,hLg,d0,d1⟩:=Gv (show Gt wr L (.slice (some ⟨pg,0,none⟩) x.pl.length qc) x.pl from Yn (O HPLO) fun g hg=>hbW.block g ((O HPLO).lt g hg).2) hj2;injection f0 with f1 f2 f3;injection f1 with f1;injection f1 with f1;subst f1;obtain⟨p',c',e',hcap,hlt,hat⟩:=hli;injection e' with f1 f2 f3;subst f1 f3;have hln:0<(wk.drop j).length:=by rw [List.length_drop]; omega
      obtain⟨g9,so9,hp9,hg9,hc9⟩:=hat hln;subst hp9;have hli:Lz wr W0.heap.size (.slice (some ⟨g9,so9,none⟩) (wk.drop j).length qc1) (wk.drop j):=⟨_,_,rfl,hcap,hlt,fun _=>⟨g9,so9,rfl,hg9,hc9⟩⟩;have s0:=hc9 0 hln;rw [Nat.add_zero,show(wk.drop j).getD 0 0=wk.getD j 0 by simp [List.getD]] at s0;have HL9:=Y (show Lz wr W0.heap.size (.slice (if qc1=1 then some (⟨g9,so9,none⟩:Addr) else some ⟨g9,so9+1,none⟩) ((wk.drop j).length-1) (qc1-1)) (wk.drop (j+1)) by
       have:=hli.cut (n:=1) (m:=1) (by omega);rw [List.drop_drop] at this;exact this)
      have hlx:(wk.drop j).length-1=(wk.drop (j+1)).length:=by simp only [List.length_drop]; omega
      have hdr:x.pl.drop j=x.pl.getD j (0,0) :: x.pl.drop (j+1):=by
       rw [List.drop_eq_getElem_cons hj2];simp [List.getD,hj2]
      have hwd:(wk.take x.pl.length).drop j=wk.getD j 0 :: (wk.take x.pl.length).drop (j+1):=by
       have hjl:j<(wk.take x.pl.length).length:=by rw [List.length_take]; omega
       rw [List.drop_eq_getElem_cons hjl];simp only [List.getElem_take,List.getD];rw [List.getElem?_eq_getElem (by omega)];rfl
      rw [hdr,hwd,Xa] at hco;simp only [List.headD_cons,List.tail_cons] at hco;generalize x.pl.getD j (0,0)=p at d0 d1 hplk hco;obtain⟨pa,pb⟩:=p;simp only at d0 d1;have hpa:pa=-1∨0≤pa∧pa<G.T.r∧pa≠G.T.sp:=by
       rcases hplk with h | h <;> simp only at h <;> omega
      have hwo2:=Zan (wk.getD j 0) hT (Zug (T:=G.T) (m:=mj) (size:=own.size) (by rw [O HSJ]; exact hs0) (by rw [O HSJ,O HLJ,O HMK]; have:=(O HLY).c0; omega) (by rw [O HLJ,O HMK]; omega)) hplk;have HWS:=Y (Zfx hT (m:=mj) (wk.getD j 0) hplk);have HWQ:=Y (hwo2.2.2 hzj);have HWL:=Y ((Um G.T mj (pa,pb) (wk.getD j 0)).len);obtain⟨ra,hba,hza⟩:=Zs wr (.cells #[.int .i64 pa,.int .i64 pb] 91 (0,0));have g0:=((cR ra 0):_=some (Value.int .i64 pa));have g1:=((cR ra 1):_=some (Value.int .i64 pb));have hs9:=(World.cell?_of_block (hba.block g9 (by have:=(O HBV wr ((O HK2).tr (hke.low hBV2))).size; omega))).trans s0;have HWR:=Y (fun k=>Se ((her.al (.cells #[.int .i64 pa,.int .i64 pb] 91 (0,0))).dr k) hzj hT pa pb (wk.getD j 0) hpa (O HUB j));have HKE:=Y (hke.tr ((Dm (a:=eb) (b:=rb) (c:=sb) hba).low hke.size));have HLA:=Y ((O HL9).ke (Dm (a:=eb) (b:=rb) (c:=sb) hba) (by have:=hbW.size; omega) hbd.1 hbd.2.1 hbd.2.2.1);have HCO:=Y hco;have hzW:=hbW.size;have h1n:(1:Int)≤((wk.drop j).length:Int):=by omega
      have h1N:1≤(wk.drop j).length:=hln;have HZA:=Y hza;clear hat hc9 her hke hli hco hwd hdr hplk hwo2 hba hza ra s0 HL9 hbW f2 f3;generalize wk.getD j 0=y at hs9 HWR HWS HWQ HWL HCO;have HLX:=Y hlx;clear hlx;generalize (wk.drop j).length=nd at HLA HLX hcap hlt h1n h1N hln;go_upto_region 39 with fail
      clear d0 d1;have hzV:=O HZA;generalize World.alloc wr _=V3 at HWR HKE HLA hs9 g0 g1 hzV ⊢;have HZ3:=Y hzV;clear hzV HZA;refine Zh (C:=fun V9=>∃ k,V9=V3.drewN k) (d:=5) (by kernel_rfl) ?_;change Ye _ _ _ _ _ _ _ _ _ (V3.drewN 1)
      refine vE 0 ?_;refine vE 1 ?_;refine vE 2 ?_;refine vE 3 ?_;refine vE 4 ?_;refine vO 5 fun K hK=>?_;go_simp;refine(O HWR 1).mono ?_;rintro e w5 ⟨rfl,h5,k5⟩;have HE5:=Y h5;have HK5:=Y (k5.ud);clear h5 k5 HWR;refine kO hK (fun hx=>by cases hx) ?_;clear hK K;refine Zi (by kernel_rfl) ?_ _;clear hs9 g0 g1;have HL5:=Y ((O HLA).ke (O HK5) (by have:=O HZ3; show W0.heap.size≤V3.heap.size; omega) hbd.1 hbd.2.1 hbd.2.2.1);have HK6:=Y ((O HKE).tr ((O HK5).low (O HKE).size));clear HLA HK5;go_wp2;go_roundw
      case rel=>exact⟨j+1,_,_,_,by go_num,by rw [← O HLX],by omega,by rw [← O HLX]; exact O HL5,O HE5,O HWQ,by rw [O HWS,O HSJ],by rw [O HWL,O HLJ],O HCO,O HK6⟩
      case measure=>simp [intOf]; omega
     ·
      have hjn:j=x.pl.length:=by omega
      rw [hjn,List.drop_length,Xa] at hco;have HE5:=Y her;have HK6:=Y ((O HK2).tr (hke.low hBV2));have HL5:=Y hli;have HCO:=Y hco;have hjI:¬ ((j:Int)<(x.pl.length:Int)):=by omega
      have HJN:=Y hjn;clear her hke hli hco hjn;go_wp2;go_roundw
      case rel=>exact⟨k+1,wk.drop j,_,_,mj,by go_num,rfl,by omega,O HL5,by rw [O HJN]; exact O HWN,fun i hi=>O HWM i (List.mem_of_mem_drop hi),O HE5,hzj,O HSJ,by rw [O HLJ]; exact O HMK,by rw [O HJN]; exact(O HCX mj (O HCO)),O HK6⟩
      case measure=>simp [intOf]; omega
  ·
   have hkn:k=ps.length:=by omega
   have HMZ:=Y (show Zu G.T own.size m own.args ps ws=mk by
    rw [hco,hkn,← hal,List.drop_length];rfl)
   have HE9:=Y her;have HK9:=Y hke;have HS9:=Y (hsk.trans (O HSP));have hkI:¬ ((k:Int)<(ps.length:Int)):=by omega
   clear hli hwn hwu her hco hke hsk hmk hal hkn;go_wp2_with fail
   refine O HK _ _ ?_;refine Yd (Q:=fun a w=>Code.wp Tryz.prog (xT Tryz.f8 14) _ a w) _ rfl ?_;exact O HNEXT _ _ _ _ mk (O HMZ) (O HE9) hzk (O HS9) (O HK9) rfl rfl rfl rfl rfl rfl rfl rfl
end Go.Proofs.YtnlcfnjeagmemaaGreatDoor
