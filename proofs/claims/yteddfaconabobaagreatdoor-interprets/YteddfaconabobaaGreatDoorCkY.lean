import Derived.Test.YteddfaconabobaaGreatDoorPk
import Derived.Test.YteddfaconabobaaGreatDoorCkW
import Derived.Test.YteddfaconabobaaGreatDoorJ12
import Derived.Test.YteddfaconabobaaGreatDoorCkT
import Derived.Test.YteddfaconabobaaGreatDoorTblRef
namespace Go.Proofs.YteddfaconabobaaGreatDoor
open Go.RowKit
theorem Znj (w:World):Calls Tryz.prog 25 #[] w fun e w'=>e=.returned (Dc 0 (-1) (-1) (-1))∧Below w.heap.size w w':=by
 go_enter Tryz.func25,Tryz.ntmps25
 go_wp2;go_returns;exact⟨rfl,by go_grown⟩
theorem Dl (n:Int)(w:World):Calls Tryz.prog 23 #[.int .i64 n] w fun e w'=>e=.returned (Dc n (-1) (-1) (-1))∧Below w.heap.size w w':=by
 go_enter Tryz.func23,Tryz.ntmps23
 go_wp2;go_returns;exact⟨rfl,by go_grown⟩
theorem Tryz.infRFlt:(Tryz.prog.info? 43).map (·.size)=some 4:=by kernel_rfl
theorem Zkm {r:Int}{own:List Int}{p:Zl}(hc:Yw p=true)(hh:∀ k,k<p.funcs.length→Yf r own (p.funcs.getD k Ze)=true):Zhu p:=by
 refine⟨fun k hk=>?_,fun k hk=>?_⟩
 ·
  have h:=hh k hk;unfold Yf Je at h;simp only [Bool.and_eq_true] at h;exact h.2.1.2.2
 ·
  unfold Yw at hc;simp only [Bool.and_eq_true] at hc;have h:=Xt hc.2.2 hk;unfold Je at h;simp only [Bool.and_eq_true] at h;exact h.2.2
set_option maxHeartbeats 16000000 in
set_option maxRecDepth 100000 in
theorem Zhy (r sp lk t0 t1:Int)(va vr vs:Value)(al sh by_:Int)(pr:Bool)(ag rs ss:List Int)(p:Zl)(fv ev:Value)(A E:Nat→Array Value)(w:World)(hT:Zga w va vr vs ag rs ss)(hP:Lm w fv ev p A E)(hnn:Zkh p)(hpl:∀ k,(p.funcs.getD k Ze).params.length≤8796093022208) :
 Calls Tryz.prog 19 #[.agg (Yv r sp lk t0 t1 va vr vs al sh by_ pr),.agg #[fv,ev]] w fun e w'=>e=.returned (Dc (Gr (Ja r sp lk t0 t1 ag rs ss al sh by_) r (Zt sp lk t0 t1) p).e (Gr (Ja r sp lk t0 t1 ag rs ss al sh by_) r (Zt sp lk t0 t1) p).f (Gr (Ja r sp lk t0 t1 ag rs ss al sh by_) r (Zt sp lk t0 t1) p).b (Gr (Ja r sp lk t0 t1 ag rs ss al sh by_) r (Zt sp lk t0 t1) p).a)∧Below w.heap.size w w':=by
 have hx:=Yj w (.cells (Yv r sp lk t0 t1 va vr vs al sh by_ pr) 25 (0,0));generalize hW1:World.alloc w (.cells (Yv r sp lk t0 t1 va vr vs al sh by_ pr) 25 (0,0))=W1 at hx;have hx2:=Yj W1 (.cells #[fv,ev] 29 (0,0));generalize hW2:World.alloc W1 (.cells #[fv,ev] 29 (0,0))=W2 at hx2;have hx3:=Yj W2 (.cells #[.int .i64 0,.int .i64 0,.int .i64 0,.int .i64 0] 43 (0,0));have hs1:=hx.2.2;have hs2:=hx2.2.2;have hs3:=hx3.2.2;have hb12:=Za (Za hx.2.1 hx2.2.1 (by omega)) hx3.2.1 (by omega);have HT:=J (hT.below hb12);have HP:=J (hP.below hb12);have HW:=J hb12;have HR1:=J ((hx3.2.1.block w.heap.size (by omega)).trans ((hx2.2.1.block w.heap.size (by omega)).trans hx.1));have hr2:=(hx3.2.1.block W1.heap.size (by omega)).trans hx2.1;have hr3:=hx3.1;rw [hs2,hs1] at hr3 hs3;rw [hs1] at hr2;have HR2:=J hr2;have HR3:=J hr3;have HZ:=J hs3;have HNN:=J hnn;have HPL:=J hpl;have hl4:p.funcs.length<9223372036854775808:=by obtain⟨_,_,_,_,h,_⟩:=hP.fs; exact h
 have hl5:p.externs.length<9223372036854775808:=by obtain⟨_,_,_,_,h,_⟩:=hP.es; exact h
 obtain⟨pf,cf,rfl⟩:=hP.fs.shape;obtain⟨pe,ce,rfl⟩:=hP.es.shape;obtain⟨pva,cva,rfl⟩:=hT.a.shape;obtain⟨pvr,cvr,rfl⟩:=hT.r.shape;obtain⟨pvs,cvs,rfl⟩:=hT.s.shape;clear hx hx2 hx3 hs1 hs2 hs3 hb12 hr2 hr3 hT hP hnn hpl;subst hW1 hW2;unfold Yv at HR1 ⊢;unfold Yv at HW HT HP HR2 HR3 HZ;go_enter Tryz.func19,Tryz.ntmps19
 go_wp2_with fail
 generalize World.alloc (World.alloc (World.alloc w _) _) _=W at HT HP HW HR1 HR2 HR3 HZ ⊢;refine(Zkd r sp lk t0 t1 _ _ _ al sh by_ pr ag rs ss W (G HT).a (G HT).r (G HT).s (G HT).ca (G HT).cr (G HT).cs).mono ?_;rintro e w2 ⟨rfl,hb⟩;have HB2:=J hb;have hz:=G HZ;have hrp:=(hb.block (w.heap.size+1) (by omega)).trans (G HR2);have p0:=(cR hrp 0);have p1:=(cR hrp 1);clear hb hrp hz;cases htb:Ja r sp lk t0 t1 ag rs ss al sh by_ with
 | false =>
  have hc:=J (show Gr (Ja r sp lk t0 t1 ag rs ss al sh by_) r (Zt sp lk t0 t1) p=⟨2,-1,-1,-1⟩ by rw [htb]; rfl);clear htb;go_wp2_with fail
  refine(Dl 2 _).mono ?_;rintro e w7 ⟨rfl,hb7⟩;have HB7:=J (Za (G HB2) hb7 (G HB2).size);clear hb7;unfold Dc;have HRR:=J (((G HB7).block (w.heap.size+1+1) (by have:=G HZ; omega)).trans (G HR3));have HBR:=J (Za (G HW) (G HB7) (by have:=G HZ; omega));go_wp2_with (refine wpList_store_row rfl 43 (.tmp 4) _ rfl (w.heap.size+1+1) #[.int .i64 2,.int .i64 (-1),.int .i64 (-1),.int .i64 (-1)] rfl rfl 43 _ (G HRR) (Tryz.infRFlt.trans rfl) rfl (by simp [Value.oneCell']) ?_)
  refine bodyPost_ret (Jp (fn:=Tryz.f19) (q:=4) (uy:=43) rfl _ _ (w.heap.size+1+1) 43 #[.int .i64 2,.int .i64 (-1),.int .i64 (-1),.int .i64 (-1)] (0,0) _ rfl (setRow_heap _ _ _ _ _ _ (G HRR)) Tryz.underlying43 rfl (Tryz.infRFlt.trans rfl)) rfl ?_;exact⟨by rw [G hc],Zh (G HBR) (by omega)⟩
 | true =>
  have HR:=J (Iw htb);have HTB:=J htb;clear htb;go_wp2_with fail
  refine(Jq p.funcs.length 1 8 _).mono ?_;rintro e w9 ⟨rfl,h9⟩;subst w9;cases hi1:Yi p.funcs.length 1 8 with
  | false =>
   have hc:=J (show Gr (Ja r sp lk t0 t1 ag rs ss al sh by_) r (Zt sp lk t0 t1) p=⟨5,-1,-1,-1⟩ by rw [G HTB]; unfold Gr; rw [show Yw p=false by unfold Yw; rw [hi1]; rfl]; rfl);clear hi1;go_wp2_with fail
   refine(Dl 5 _).mono ?_;rintro e w7 ⟨rfl,hb7⟩;have HB7:=J (Za (G HB2) hb7 (G HB2).size);clear hb7;unfold Dc;have HRR:=J (((G HB7).block (w.heap.size+1+1) (by have:=G HZ; omega)).trans (G HR3));have HBR:=J (Za (G HW) (G HB7) (by have:=G HZ; omega));go_wp2_with (refine wpList_store_row rfl 43 (.tmp 4) _ rfl (w.heap.size+1+1) #[.int .i64 5,.int .i64 (-1),.int .i64 (-1),.int .i64 (-1)] rfl rfl 43 _ (G HRR) (Tryz.infRFlt.trans rfl) rfl (by simp [Value.oneCell']) ?_)
   refine bodyPost_ret (Jp (fn:=Tryz.f19) (q:=4) (uy:=43) rfl _ _ (w.heap.size+1+1) 43 #[.int .i64 5,.int .i64 (-1),.int .i64 (-1),.int .i64 (-1)] (0,0) _ rfl (setRow_heap _ _ _ _ _ _ (G HRR)) Tryz.underlying43 rfl (Tryz.infRFlt.trans rfl)) rfl ?_;exact⟨by rw [G hc],Zh (G HBR) (by omega)⟩
  | true =>
   have HI1:=J hi1;clear hi1;by_cases hi2:p.externs.length≤4
   ·
    have hng:¬ (4<p.externs.length):=by omega
    go_wp2_with fail
    refine(Zki p _ _ A E w2 ((G HP).below (G HB2))).mono ?_;rintro e w3 ⟨rfl,hb⟩;have HB3:=J (Za (G HB2) hb (G HB2).size);clear p0 p1 hb hng;cases hi3:(De p.externs.length fun k=>Je (p.externs.getD k ([],0))) with
    | false =>
     have hc:=J (show Gr (Ja r sp lk t0 t1 ag rs ss al sh by_) r (Zt sp lk t0 t1) p=⟨5,-1,-1,-1⟩ by rw [G HTB]; unfold Gr; rw [show Yw p=false by unfold Yw; rw [hi3]; simp]; rfl);clear hi3;go_wp2_with fail
     refine(Dl 5 _).mono ?_;rintro e w7 ⟨rfl,hb7⟩;have HB7:=J (Za (G HB3) hb7 (G HB3).size);clear hb7;unfold Dc;have HRR:=J (((G HB7).block (w.heap.size+1+1) (by have:=G HZ; omega)).trans (G HR3));have HBR:=J (Za (G HW) (G HB7) (by have:=G HZ; omega));go_wp2_with (refine wpList_store_row rfl 43 (.tmp 4) _ rfl (w.heap.size+1+1) #[.int .i64 5,.int .i64 (-1),.int .i64 (-1),.int .i64 (-1)] rfl rfl 43 _ (G HRR) (Tryz.infRFlt.trans rfl) rfl (by simp [Value.oneCell']) ?_)
     refine bodyPost_ret (Jp (fn:=Tryz.f19) (q:=4) (uy:=43) rfl _ _ (w.heap.size+1+1) 43 #[.int .i64 5,.int .i64 (-1),.int .i64 (-1),.int .i64 (-1)] (0,0) _ rfl (setRow_heap _ _ _ _ _ _ (G HRR)) Tryz.underlying43 rfl (Tryz.infRFlt.trans rfl)) rfl ?_;exact⟨by rw [G hc],Zh (G HBR) (by omega)⟩
    | true =>
     have HCB:=J (show Yw p=true by unfold Yw; rw [G HI1,hi3,decide_eq_true hi2]; rfl);have hz:=G HZ;have hrp:=((G HB3).block (w.heap.size+1) (by omega)).trans (G HR2);have p0:=(cR hrp 0);clear hi3 hrp hz;go_wp2_with fail
     clear p0;go_loopw [38] (fun j w'=>∃ k:Nat,j=.int .i64 k∧k≤p.funcs.length∧Below W.heap.size W w'∧∀ q,q<k→Yf r (Zt sp lk t0 t1) (p.funcs.getD q Ze)=true) (fun j _=>p.funcs.length-(intOf j).toNat)
     case atStart=>exact⟨0,rfl,by omega,G HB3,fun q hq=>by omega⟩
     case round =>
      obtain⟨k,rfl,hk,hbw,hno⟩:=hrel;have HNO:=J hno;clear hno;by_cases hk2:k<p.funcs.length
      ·
       obtain⟨p',cap',he,-,hcc⟩:=(G HP).fs.fives;injection he with j1 j2 j3;subst j1 j3;obtain⟨sb,so,rfl,hslt,hcel⟩:=hcc (by omega);have hfc:=(G HP).feach k hk2;have hgd:p.funcs[k]=p.funcs.getD k Ze:=by simp [List.getD,hk2]
       rw [hgd] at hfc;have HBAD:=J (fun hb:Yf r (Zt sp lk t0 t1) (p.funcs.getD k Ze)=false=>show Gr (Ja r sp lk t0 t1 ag rs ss al sh by_) r (Zt sp lk t0 t1) p=⟨5,k,-1,-1⟩ by rw [G HTB]; unfold Gr; rw [G HCB,Jv (ok:=fun k=>Yf r (Zt sp lk t0 t1) (p.funcs.getD k Ze)) (G HNO) hk2 hb]; rfl);have HNX:=J (fun hb:Yf r (Zt sp lk t0 t1) (p.funcs.getD k Ze)=true=>Zq (q:=fun q=>Yf r (Zt sp lk t0 t1) (p.funcs.getD q Ze)) (G HNO) hb);have hpk:=G HPL k;generalize p.funcs.getD k Ze=f at hfc HBAD HNX hpk;obtain⟨gv,hv,sv,bv,B,hA,hfd⟩:=hfc;have HFD:=J hfd;obtain⟨gp,gc,rfl⟩:=hfd.ps.shape;obtain⟨hp,hc,rfl⟩:=hfd.hs.shape;obtain⟨xp,xc,rfl⟩:=hfd.ss.shape;obtain⟨yp,yc,rfl⟩:=hfd.bs.shape;have hck:=hcel k hk2;rw [hA] at hck;have k0:=(hbw.cell hslt).trans (hck 0 _ rfl);have k1:=(hbw.cell hslt).trans (hck 1 _ rfl);have k2:=(hbw.cell hslt).trans (hck 2 _ rfl);have k3:=(hbw.cell hslt).trans (hck 3 _ rfl);have k4:=(hbw.cell hslt).trans (hck 4 _ rfl);rw [Nat.add_zero] at k0;have hws:=hbw.size;have hz:=G HZ;have hrB:=(hbw.block w.heap.size (by omega)).trans (G HR1);have b0:=fun X:Obj=>(Yh hrB 0 X).trans rfl;have b1:=fun X:Obj=>(Yh hrB 1 X).trans rfl;have b2:=fun X:Obj=>(Yh hrB 2 X).trans rfl;have b3:=fun X:Obj=>(Yh hrB 3 X).trans rfl;have b4:=fun X:Obj=>(Yh hrB 4 X).trans rfl;have b5:=fun X:Obj=>(Yh hrB 5 X).trans rfl;have b6:=fun X:Obj=>(Yh hrB 6 X).trans rfl;have b7:=fun X:Obj=>(Yh hrB 7 X).trans rfl
       have b8:=fun X:Obj=>(Yh hrB 8 X).trans rfl;have b9:=fun X:Obj=>(Yh hrB 9 X).trans rfl;have b10:=fun X:Obj=>(Yh hrB 10 X).trans rfl;have b11:=fun X:Obj=>(Yh hrB 11 X).trans rfl;have HBW:=J hbw;clear hbw hfd hck hcc hcel hA hgd j2 hrB;go_wp2_with fail
       clear k0 k1 k2 k3 k4;clear b0;clear b1;clear b2;clear b3;clear b4;clear b5;clear b6;clear b7;clear b8;clear b9;clear b10;clear b11;have hy:=Yj wr (.cells #[.slice gp f.params.length gc,.int .i64 f.results,.slice hp f.homes.length hc,.slice xp f.slots.length xc,.slice yp f.blocks.length yc] 60 (0,0));have hbU:=Za (G HBW) hy.2.1 hws;refine(Zht r sp lk t0 t1 (.slice pva ag.length cva) (.slice pvr rs.length cvr) (.slice pvs ss.length cvs) al sh by_ pr f (.slice gp f.params.length gc) (.slice hp f.homes.length hc) (.slice xp f.slots.length xc) (.slice yp f.blocks.length yc) B _ (G HR) ((G HFD).below hbU) hpk).mono ?_;rintro e w5 ⟨rfl,hb5⟩;have HB5:=J (Za hbU hb5 hbU.size);clear hb5 hy hbU;cases hhb:Yf r (Zt sp lk t0 t1) f with
       | false =>
        have hc:=J (G HBAD hhb);clear hhb;have HRR:=J (((G HB5).block (w.heap.size+1+1) (by have:=G HZ; omega)).trans (G HR3));have HBR:=J (Za (G HW) (G HB5) (by have:=G HZ; omega));go_wp2_with (refine wpList_store_row rfl 43 (.tmp 4) _ rfl (w.heap.size+1+1) #[.int .i64 5,.int .i64 k,.int .i64 (-1),.int .i64 (-1)] rfl rfl 43 _ (G HRR) (Tryz.infRFlt.trans rfl) rfl (by simp [Value.oneCell']) ?_)
        refine bodyPost_ret (Jp (fn:=Tryz.f19) (q:=4) (uy:=43) rfl _ _ (w.heap.size+1+1) 43 #[.int .i64 5,.int .i64 k,.int .i64 (-1),.int .i64 (-1)] (0,0) _ rfl (setRow_heap _ _ _ _ _ _ (G HRR)) Tryz.underlying43 rfl (Tryz.infRFlt.trans rfl)) rfl ?_;exact⟨by rw [G hc],Zh (G HBR) (by omega)⟩
       | true =>
        have hz2:=J (G HNX hhb);clear hhb;go_wp2;go_roundw
        case rel=>exact⟨k+1,by go_num,by omega,G HB5,G hz2⟩
        case measure=>simp [intOf]; omega
      ·
       have HHD:=J (show ∀ q,q<p.funcs.length→Yf r (Zt sp lk t0 t1) (p.funcs.getD q Ze)=true from fun q hq=>G HNO q (by omega));obtain rfl:k=p.funcs.length:=by omega
       have HBW:=J hbw;have hz:=G HZ;have hrp:=(hbw.block (w.heap.size+1) (by omega)).trans (G HR2);have p0:=(cR hrp 0);clear hbw hrp hz HNO;go_wp2_with fail
       clear p0;generalize hwz:wr=Va at HBW ⊢;clear hwz;go_loopw [53] (fun j w'=>∃ k:Nat,j=.int .i64 k∧k≤p.funcs.length∧Below W.heap.size W w'∧∀ q,q<k→Gt p (p.funcs.getD q Ze)=true) (fun j _=>p.funcs.length-(intOf j).toNat)
       case atStart=>exact⟨0,rfl,by omega,G HBW,fun q hq=>by omega⟩
       case round =>
        clear HBW;obtain⟨k,rfl,hk,hbw,hno⟩:=hrel;have HNO:=J hno;clear hno;by_cases hk2:k<p.funcs.length
        ·
         obtain⟨p',cap',he,-,hcc⟩:=(G HP).fs.fives;injection he with j1 j2 j3;subst j1 j3;obtain⟨sb,so,rfl,hslt,hcel⟩:=hcc (by omega);have hfc:=(G HP).feach k hk2;have hgd:p.funcs[k]=p.funcs.getD k Ze:=by simp [List.getD,hk2]
         rw [hgd] at hfc;have HCH:=J (show Gr (Ja r sp lk t0 t1 ag rs ss al sh by_) r (Zt sp lk t0 t1) p=match Gg p.funcs.length (fun k=>Gt p (p.funcs.getD k Ze)) with | some k=>⟨5,k,(Xr p (p.funcs.getD k Ze)).1,(Xr p (p.funcs.getD k Ze)).2⟩ | none=>⟨0,-1,-1,-1⟩ by rw [G HTB]; unfold Gr; rw [G HCB,Jw (ok:=fun k=>Yf r (Zt sp lk t0 t1) (p.funcs.getD k Ze)) (G HHD)]; rfl);have HBAD:=J (fun hb:Gt p (p.funcs.getD k Ze)=false=>show Gr (Ja r sp lk t0 t1 ag rs ss al sh by_) r (Zt sp lk t0 t1) p=⟨5,k,(Xr p (p.funcs.getD k Ze)).1,(Xr p (p.funcs.getD k Ze)).2⟩ by rw [G HCH,Jv (ok:=fun k=>Gt p (p.funcs.getD k Ze)) (G HNO) hk2 hb]);have HNX:=J (fun hb:Gt p (p.funcs.getD k Ze)=true=>Zq (q:=fun q=>Gt p (p.funcs.getD q Ze)) (G HNO) hb);have HFIT:=J (Zes (G HCB) (G HHD) k hk2);have HFS:=J (Zkm (G HCB) (G HHD));have HNF:=J ((G HNN) k);generalize p.funcs.getD k Ze=f at hfc HBAD HNX HFIT HNF;obtain⟨gv,hv,sv,bv,B,hA,hfd⟩:=hfc;have HFD:=J hfd;obtain⟨gp,gc,rfl⟩:=hfd.ps.shape;obtain⟨hp,hc,rfl⟩:=hfd.hs.shape;obtain⟨xp,xc,rfl⟩:=hfd.ss.shape;obtain⟨yp,yc,rfl⟩:=hfd.bs.shape;have hck:=hcel k hk2;rw [hA] at hck;have k0:=(hbw.cell hslt).trans (hck 0 _ rfl);have k1:=(hbw.cell hslt).trans (hck 1 _ rfl);have k2:=(hbw.cell hslt).trans (hck 2 _ rfl);have k3:=(hbw.cell hslt).trans (hck 3 _ rfl);have k4:=(hbw.cell hslt).trans (hck 4 _ rfl);rw [Nat.add_zero] at k0;have hws:=hbw.size;have hz:=G HZ;have hl3:f.blocks.length<9223372036854775808:=by obtain⟨_,_,_,_,h,_⟩:=hfd.bs; exact h
         have HBW:=J hbw;clear hbw hfd hck hcc hcel hA hgd j2;go_wp2_with fail
         clear k0 k1 k2 k3 k4;have hy:=Yj wr (.cells #[.slice gp f.params.length gc,.int .i64 f.results,.slice hp f.homes.length hc,.slice xp f.slots.length xc,.slice yp f.blocks.length yc] 60 (0,0));have HBV:=J (Za (G HBW) hy.2.1 hws);have HFR:=J hy.1;have hTf:=hy.2.2;have hws2:w.heap.size+1+1<wr.heap.size:=by omega
         clear hy;generalize wr.heap.size=Tf at HFR hTf hws hws2 ⊢;generalize World.alloc wr _=V0 at HBV HFR hTf ⊢;have hTV:Tf<V0.heap.size:=by omega
         clear HBW;go_loopw [61] (fun j w'=>∃ k:Nat,j=.int .i64 k∧k≤f.blocks.length∧Below V0.heap.size V0 w'∧∀ q,q<k→Rv p f q=true) (fun j _=>f.blocks.length-(intOf j).toNat)
         case atStart=>exact⟨0,rfl,by omega,Below.refl _ _,fun q hq=>by omega⟩
         case round =>
          obtain⟨kb,rfl,hkb,hbb,hnb⟩:=hrel;have HNB:=J hnb;clear hnb;have hbz:=hbb.size;have hV0W:=(G HBV).size;by_cases hkb2:kb<f.blocks.length
          ·
           obtain⟨p2,cap2,he2,-,-,hcb⟩:=((G HFD).below (G HBV)).bs.ones;injection he2 with i1 i2 i3;subst i1 i3;obtain⟨sb2,so2,rfl,hc2⟩:=hcb (by omega);have c0:=(hbb.cell (World.block_lt_of_cell? V0 _ (hc2 kb hkb2))).trans (hc2 kb hkb2);have hblk:=((G HFD).below (G HBV)).each kb hkb2;have hgd:f.blocks[kb]=f.blocks.getD kb []:=by simp [List.getD,hkb2]
           rw [hgd] at hblk;have HOK:=J (fun j=>show Ki p f kb j=Xd p f ((f.blocks.getD kb []).getD j Lt) (decide (j+1=(f.blocks.getD kb []).length)) from rfl);have HBB:=J (show Rv p f kb=De (f.blocks.getD kb []).length (Ki p f kb) from rfl);have HNJ:=J ((G HNF) kb);have HWR:=J (fun(hb:Rv p f kb=false)=>show Xr p f=((kb:Int),(((Gg (f.blocks.getD kb []).length (Ki p f kb)).getD 0:Nat):Int)) by unfold Xr; rw [Jv (G HNB) hkb2 hb]);generalize f.blocks.getD kb []=bl at hblk HOK HBB HNJ HWR;obtain⟨Ai,hls,hins⟩:=hblk;obtain⟨pl,cl,hBk,hll,hlc⟩:=hls.eights;rw [hBk] at c0;have HLC:=J hlc;have HINS:=J hins;have HBQ:=J hbb;clear hcb hc2 hgd hls hlc hins hbb hBk i2;go_wp2_with fail
           clear c0;generalize hwr:wr=V1 at HBQ hbz ⊢;clear hwr;go_loopw [68] (fun j w'=>∃ m:Nat,j=.int .i64 m∧m≤bl.length∧Below V1.heap.size V1 w'∧∀ q,q<m→Ki p f kb q=true) (fun j _=>bl.length-(intOf j).toNat)
           case atStart=>exact⟨0,rfl,by omega,Below.refl _ _,fun q hq=>by omega⟩
           case round =>
            obtain⟨m,rfl,hm,hbm,hmo⟩:=hrel;have HMO:=J hmo;clear hmo;have hVm:Below V0.heap.size V0 wr:=Za (G HBQ) hbm hbz;have hmz:=hbm.size;by_cases hm2:m<bl.length
            ·
             obtain⟨sl,sx,rfl,hslt2,hcell⟩:=G HLC (by omega);have hic:=G HINS m hm2;have hgm:bl[m]=bl.getD m Lt:=by simp [List.getD,hm2]
             rw [hgm] at hic;have HOM:=J ((G HOK) m);have HNM:=J ((G HNJ) m);generalize bl.getD m Lt=i at hic HOM HNM;obtain⟨av,ov,hAi,hav,hov⟩:=hic;have HAV:=J hav;have HOV:=J hov;obtain⟨pa,ca,rfl⟩:=hav.shape;obtain⟨po,co,rfl⟩:=hov.shape;have hcm:=hcell m hm2;rw [hAi] at hcm;have k0:=(hVm.cell hslt2).trans (hcm 0 _ rfl);have k1:=(hVm.cell hslt2).trans (hcm 1 _ rfl);have k2:=(hVm.cell hslt2).trans (hcm 2 _ rfl);have k3:=(hVm.cell hslt2).trans (hcm 3 _ rfl);have k4:=(hVm.cell hslt2).trans (hcm 4 _ rfl);have k5:=(hVm.cell hslt2).trans (hcm 5 _ rfl);have k6:=(hVm.cell hslt2).trans (hcm 6 _ rfl);have k7:=(hVm.cell hslt2).trans (hcm 7 _ rfl);rw [Nat.add_zero] at k0;have hz:=G HZ;have hrP:=(hVm.block (w.heap.size+1) (by omega)).trans (((G HBV).block (w.heap.size+1) (by omega)).trans (G HR2));have hrF:=(hVm.block Tf (by omega)).trans (G HFR);have b0:=fun X:Obj=>(Yh hrP 0 X).trans rfl;have b1:=fun X:Obj=>(Yh hrP 1 X).trans rfl;have r0:=fun X:Obj=>(Yh hrF 0 X).trans rfl;have r1:=fun X:Obj=>(Yh hrF 1 X).trans rfl;have r2:=fun X:Obj=>(Yh hrF 2 X).trans rfl;have r3:=fun X:Obj=>(Yh hrF 3 X).trans rfl;have r4:=fun X:Obj=>(Yh hrF 4 X).trans rfl;have hlast:((m:Int)==(bl.length:Int)-1)=decide (m+1=bl.length):=by
              rw [show((m:Int)==(bl.length:Int)-1)=decide ((m:Int)=(bl.length:Int)-1) from rfl];exact decide_eq_decide.2 (by omega)
             have HVM:=J hVm;have HBM:=J hbm;clear hcm hcell hrP hrF hVm hbm hAi hav hov hgm hz;generalize hld:decide (m+1=bl.length)=last at hlast HOM;clear hld;go_wp2_with fail
             clear k0 k1 k2 k3 k4 k5 k6 k7 b0 b1 r0 r1 r2 r3 r4;have hy:=Yj wr (.cells #[.int .i64 i.op,.int .i64 i.d,.int .i64 i.a,.int .i64 i.bb,.int .u64 i.n,.int .i64 i.f,.slice pa i.args.length ca,.slice po i.outs.length co] 65 (0,0));have hbU:=Za (G HVM) hy.2.1 (G HVM).size;have hbX:=Za (G HBV) hbU hV0W;refine(Zkl p f i.op i.d i.a i.bb i.n i.f i.args i.outs last _ _ _ _ _ _ _ _ A E B _ ⟨(G HP).below hbX,(G HFD).below hbX⟩ ((G HAV).below hbU) ((G HOV).below hbU) (G HFIT) (G HFS) (G HNM)).mono ?_;rintro e w5 ⟨rfl,hb5⟩;have HU:=J (Za (Za (G HBM) hy.2.1 hmz) hb5 (by have:=hy.2.2; omega));have HU2:=J (Za hbX hb5 hbX.size);clear hb5 hy hbU hbX;have hfi0:Xd p f ⟨i.op,i.d,i.a,i.bb,i.n,i.f,i.args,i.outs⟩ last=Xd p f i last:=rfl;rw [hfi0];clear hfi0;cases hfi:Xd p f i last with
             | false =>
              have hokf:=(G HOM).trans hfi;have hbf:Rv p f kb=false:=by rw [G HBB]; exact Ya hm2 hokf
              have hwx:Xr p f=((kb:Int),(m:Int)):=by rw [G HWR hbf,Jv (G HMO) hm2 hokf]; rfl
              have hc:=J (show Gr (Ja r sp lk t0 t1 ag rs ss al sh by_) r (Zt sp lk t0 t1) p=⟨5,k,kb,m⟩ by rw [G HBAD (Ya hkb2 hbf),hwx]);clear hfi hokf hbf hwx;have HRR:=J (((G HU2).block (w.heap.size+1+1) (by have:=G HZ; omega)).trans (G HR3));have HBR:=J (Za (G HW) (G HU2) (by have:=G HZ; omega));go_wp2_with (refine wpList_store_row rfl 43 (.tmp 4) _ rfl (w.heap.size+1+1) #[.int .i64 5,.int .i64 k,.int .i64 kb,.int .i64 m] rfl rfl 43 _ (G HRR) (Tryz.infRFlt.trans rfl) rfl (by simp [Value.oneCell']) ?_)
              refine bodyPost_ret (Jp (fn:=Tryz.f19) (q:=4) (uy:=43) rfl _ _ (w.heap.size+1+1) 43 #[.int .i64 5,.int .i64 k,.int .i64 kb,.int .i64 m] (0,0) _ rfl (setRow_heap _ _ _ _ _ _ (G HRR)) Tryz.underlying43 rfl (Tryz.infRFlt.trans rfl)) rfl ?_;exact⟨by rw [G hc],Zh (G HBR) (by omega)⟩
             | true =>
              have hx:=J (Zq (G HMO) ((G HOM).trans hfi));clear hfi;go_wp2;go_roundw
              case rel=>exact⟨m+1,by go_num,by omega,G HU,G hx⟩
              case measure=>simp [intOf]; omega
            ·
             have hx:=J (Zq (q:=Rv p f) (G HNB) (by rw [G HBB]; exact Yn (fun q hq=>G HMO q (by omega))));obtain rfl:m=bl.length:=by omega
             have HVM:=J hVm;clear hVm hbm;go_wp2;go_roundw
             case rel=>exact⟨kb+1,by go_num,by omega,G HVM,G hx⟩
             case measure=>simp [intOf]; omega
          ·
           have hx:=J (G HNX (Yn (fun q hq=>G HNB q (by omega))));obtain rfl:kb=f.blocks.length:=by omega
           have HVM:=J (Za (G HBV) hbb hV0W);clear hbb;go_wp2;go_roundw
           case rel=>exact⟨k+1,by go_num,by omega,G HVM,G hx⟩
           case measure=>simp [intOf]; omega
        ·
         have hc:=J (show Gr (Ja r sp lk t0 t1 ag rs ss al sh by_) r (Zt sp lk t0 t1) p=⟨0,-1,-1,-1⟩ by rw [G HTB]; unfold Gr; rw [G HCB,Jw (ok:=fun k=>Yf r (Zt sp lk t0 t1) (p.funcs.getD k Ze)) (G HHD),Jw (ok:=fun k=>Gt p (p.funcs.getD k Ze)) (fun q hq=>G HNO q (by omega))]; rfl);obtain rfl:k=p.funcs.length:=by omega
         have HBW:=J hbw;clear hbw;go_wp2_with fail
         refine(Znj _).mono ?_;rintro e w7 ⟨rfl,hb7⟩;have HB7:=J (Za (G HBW) hb7 (G HBW).size);clear hb7;unfold Dc;have HRR:=J (((G HB7).block (w.heap.size+1+1) (by have:=G HZ; omega)).trans (G HR3));have HBR:=J (Za (G HW) (G HB7) (by have:=G HZ; omega));go_wp2_with (refine wpList_store_row rfl 43 (.tmp 4) _ rfl (w.heap.size+1+1) #[.int .i64 0,.int .i64 (-1),.int .i64 (-1),.int .i64 (-1)] rfl rfl 43 _ (G HRR) (Tryz.infRFlt.trans rfl) rfl (by simp [Value.oneCell']) ?_)
         refine bodyPost_ret (Jp (fn:=Tryz.f19) (q:=4) (uy:=43) rfl _ _ (w.heap.size+1+1) 43 #[.int .i64 0,.int .i64 (-1),.int .i64 (-1),.int .i64 (-1)] (0,0) _ rfl (setRow_heap _ _ _ _ _ _ (G HRR)) Tryz.underlying43 rfl (Tryz.infRFlt.trans rfl)) rfl ?_;exact⟨by rw [G hc],Zh (G HBR) (by omega)⟩
   ·
    have hc:=J (show Gr (Ja r sp lk t0 t1 ag rs ss al sh by_) r (Zt sp lk t0 t1) p=⟨5,-1,-1,-1⟩ by rw [G HTB]; unfold Gr; rw [show Yw p=false by unfold Yw; rw [decide_eq_false hi2]; simp]; rfl);have hng:4<p.externs.length:=by omega
    go_wp2_with fail
    refine(Dl 5 _).mono ?_;rintro e w7 ⟨rfl,hb7⟩;have HB7:=J (Za (G HB2) hb7 (G HB2).size);clear hb7;unfold Dc;have HRR:=J (((G HB7).block (w.heap.size+1+1) (by have:=G HZ; omega)).trans (G HR3));have HBR:=J (Za (G HW) (G HB7) (by have:=G HZ; omega));go_wp2_with (refine wpList_store_row rfl 43 (.tmp 4) _ rfl (w.heap.size+1+1) #[.int .i64 5,.int .i64 (-1),.int .i64 (-1),.int .i64 (-1)] rfl rfl 43 _ (G HRR) (Tryz.infRFlt.trans rfl) rfl (by simp [Value.oneCell']) ?_)
    refine bodyPost_ret (Jp (fn:=Tryz.f19) (q:=4) (uy:=43) rfl _ _ (w.heap.size+1+1) 43 #[.int .i64 5,.int .i64 (-1),.int .i64 (-1),.int .i64 (-1)] (0,0) _ rfl (setRow_heap _ _ _ _ _ _ (G HRR)) Tryz.underlying43 rfl (Tryz.infRFlt.trans rfl)) rfl ?_;exact⟨by rw [G hc],Zh (G HBR) (by omega)⟩
end Go.Proofs.YteddfaconabobaaGreatDoor
