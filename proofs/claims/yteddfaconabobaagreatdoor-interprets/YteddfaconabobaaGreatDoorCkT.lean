import Derived.Test.YteddfaconabobaaGreatDoorPk
import Derived.Test.YteddfaconabobaaGreatDoorJ12
import Derived.Test.YteddfaconabobaaGreatDoorJ3
namespace Go.Proofs.YteddfaconabobaaGreatDoor
open Go.RowKit
theorem Zhs {f:Zn}(h:Je ((Xn f).1,f.results)=true):∀ m,m<f.params.length→0≤(f.params.getD m (0,0)).1:=fun m hm=>by
 unfold Je at h;simp only [Bool.and_eq_true] at h;have h2:=Xt h.2.2 (k:=m) (by simpa [Xn] using hm);unfold Yi at h2;have h3:=(of_decide_eq_true h2).1;simpa [Xn,List.getD,hm] using h3
theorem Zpu {sp lk t0 t1 y:Int}(h:¬ y=-1):decide (y ∈ Zt sp lk t0 t1)=decide (y ∈ [sp,lk,t0,t1]):=by
 refine decide_eq_decide.2 ?_;unfold Zt;split
 ·
  rename_i e;subst e;simp
  omega
 ·
  simp
  omega
set_option maxHeartbeats 8000000 in
set_option maxRecDepth 100000 in
theorem Zht (r sp lk t0 t1:Int)(va vr vs:Value)(al sh by_:Int)(pr:Bool)(f:Zn)(pv hv sv bv:Value)(B:Nat→Value)(w:World)(hr:4≤r∧r≤16)(hF:Ng w f pv hv sv bv B)(hpl:f.params.length≤8796093022208) :
 Calls Tryz.prog 34 #[.agg (Yv r sp lk t0 t1 va vr vs al sh by_ pr),.agg #[pv,.int .i64 f.results,hv,sv,bv]] w fun e w'=>e=.returned (.bool (Yf r (Zt sp lk t0 t1) f))∧Below w.heap.size w w':=by
 have hx:=Yj w (.cells (Yv r sp lk t0 t1 va vr vs al sh by_ pr) 25 (0,0));have hx2:=Yj (w.alloc (.cells (Yv r sp lk t0 t1 va vr vs al sh by_ pr) 25 (0,0))) (.cells #[pv,.int .i64 f.results,hv,sv,bv] 60 (0,0));have HFD:=J ((hF.below hx.2.1).below hx2.2.1);have hs1:=hx.2.2;have hs2:=hx2.2.2;have HW:=J (Za hx.2.1 hx2.2.1 (by omega));have hrb:=(hx2.2.1.block w.heap.size (by omega)).trans hx.1;have hrf:=hx2.1;rw [hs1] at hrf hs2;obtain⟨pp,cp,rfl⟩:=hF.ps.shape;obtain⟨ph,ch,rfl⟩:=hF.hs.shape;obtain⟨ps,cs,rfl⟩:=hF.ss.shape;obtain⟨pb,cb,rfl⟩:=hF.bs.shape;have hl2:f.homes.length<9223372036854775808:=hF.hs.lt;have hl3:f.slots.length<9223372036854775808:=hF.ss.lt;have hl4:f.blocks.length<9223372036854775808:=by obtain⟨_,_,_,_,h,_⟩:=hF.bs; exact h
 have HRB:=J hrb;have HRF:=J hrf;have HZ:=J hs2;have hr1:=hr.1;have hr2:=hr.2;have HX0:=J (fun h:¬ f.params.length≤8=>show Yf r (Zt sp lk t0 t1) f=false by unfold Yf; simp [h]);have HX1:=J (fun h:Je (Xn f)=false=>show Yf r (Zt sp lk t0 t1) f=false by unfold Yf; simp [h]);have HX2:=J (fun h:¬ f.homes.length≤12=>show Yf r (Zt sp lk t0 t1) f=false by unfold Yf; simp [h]);have HX3:=J (fun h:Mo r (Zt sp lk t0 t1) f.homes=false=>show Yf r (Zt sp lk t0 t1) f=false by unfold Yf; simp [h]);have HX4:=J (fun h:¬ f.slots.length≤6=>show Yf r (Zt sp lk t0 t1) f=false by unfold Yf; simp [h]);have HX5:=J (fun h:Jd f.slots 1 8=false=>show Yf r (Zt sp lk t0 t1) f=false by unfold Yf; simp [h]);have HX6:=J (fun h:Yi f.blocks.length 1 12=false=>show Yf r (Zt sp lk t0 t1) f=false by unfold Yf; simp [h]);have HX7:=J (fun h:Ll f.blocks=false=>show Yf r (Zt sp lk t0 t1) f=false by unfold Yf; simp [h]);have HX8:=J (fun h:Jo f=false=>show Yf r (Zt sp lk t0 t1) f=false by unfold Yf; simp [h]);have HXT:=J (fun(h0:f.params.length≤8) (h1:Je (Xn f)=true) (h2:f.homes.length≤12) (h3:Mo r (Zt sp lk t0 t1) f.homes=true) (h4:f.slots.length≤6) (h5:Jd f.slots 1 8=true) (h6:Yi f.blocks.length 1 12=true) (h7:Ll f.blocks=true) (h8:Jo f=true)=>show Yf r (Zt sp lk t0 t1) f=true by unfold Yf; simp [h0,h1,h2,h3,h4,h5,h6,h7,h8]);have HWO:=J (fun(hs:True)=>hs);clear HWO
 clear hx hx2 hF hs1 hs2 hrb hrf hr;unfold Yv at HRB HFD HW HZ HRF ⊢;go_enter Tryz.func34,Tryz.ntmps34
 go_wp2_with fail
 generalize World.alloc (World.alloc w _) _=W at HFD HW HRB HRF HZ ⊢;refine(Zmx f _ _ _ _ W (G HFD).ps hpl).mono ?_;rintro e w2 ⟨vv,rfl,hvv,hb⟩;have HB2:=J hb;have HVV:=J hvv;obtain⟨vp,vc,rfl⟩:=hvv.shape;clear hb hvv;go_wp2_with fail
 refine(Zhr _ _ _ _ (G HVV)).mono ?_;rintro e w3 ⟨rfl,hb⟩;have HB3:=J (Za (G HB2) hb (G HB2).size);clear hb HVV HB2;have hsz:=G HZ;have hrow:=((G HB3).block (w.heap.size+1) (by omega)).trans (G HRF);have r2:=(cR hrow 2);have r3:=(cR hrow 3);have r4:=(cR hrow 4);clear hrow hsz;cases h1:Je ((Xn f).1,f.results) with
 | false =>
  have hz:=J (G HX1 h1);go_wp2;go_ret;exact⟨by rw [G hz]; rfl,Za (G HW) (G HB3) (by have:=G HZ; omega)⟩
 | true =>
  have H1:=J (show Je (Xn f)=true from h1);have h0:f.params.length≤8:=by have h:=h1; unfold Je at h; simp [Xn] at h; exact h.1
  have HWO:=J (Zhs h1);clear h1;by_cases h2:f.homes.length≤12
  ·
   skip
   by_cases h4:f.slots.length≤6
   ·
    skip
    go_wp2_with fail
    refine(Jq f.blocks.length 1 12 w3).mono ?_;rintro e w4 ⟨rfl,h4'⟩;subst w4;cases h6:Yi f.blocks.length 1 12 with
    | false =>
     have hz:=J (G HX6 h6);go_wp2;go_ret;exact⟨by rw [G hz]; rfl,Za (G HW) (G HB3) (by have:=G HZ; omega)⟩
    | true =>
     have H6:=J h6;clear h6;go_wp2_with fail
     go_loopw [41] (fun j w'=>∃ k:Nat,j=.int .i64 k∧k≤f.blocks.length∧w'=w3∧∀ q,q<k→Yi ((f.blocks.getD q []).length) 1 24=true) (fun j _=>f.blocks.length-(intOf j).toNat)
     case atStart=>exact⟨0,rfl,by omega,rfl,fun q hq=>by omega⟩
     case round =>
      obtain⟨k,rfl,hk,rfl,hno⟩:=hrel;have HN:=J hno;clear hno;by_cases hk2:k<f.blocks.length
      ·
       obtain⟨p',cap',he,-,-,hcc⟩:=((G HFD).below (G HB3)).bs.ones;injection he with e1 e2 e3;subst e1 e3;obtain⟨sb,so,rfl,hc⟩:=hcc (by omega);have c:=hc k hk2;obtain⟨q,cp',hq,hql⟩:=(G HFD).blk k hk2;rw [hq] at c;have HWI:=J (Jq ((f.blocks.getD k []).length) 1 24 wr);have HBAD:=J (fun hb:Yi ((f.blocks.getD k []).length) 1 24=false=>show Ll f.blocks=false from Ya hk2 hb);have HNX:=J (fun hb:Yi ((f.blocks.getD k []).length) 1 24=true=>Zq (q:=fun q=>Yi ((f.blocks.getD q []).length) 1 24) (G HN) hb);clear hcc hc hq e2;generalize Yi ((f.blocks.getD k []).length) 1 24=yes at HWI HBAD HNX;generalize (f.blocks.getD k []).length=y at c HWI hql;go_wp2_with fail
       refine(G HWI).mono ?_;rintro e w5 ⟨rfl,h5⟩;subst w5;cases yes with
       | false =>
        have hz:=J (G HX7 (G HBAD rfl));go_wp2;go_ret;exact⟨by rw [G hz]; rfl,Za (G HW) (G HB3) (by have:=G HZ; omega)⟩
       | true =>
        have hz:=J (G HNX rfl);go_wp2;go_roundw
        case rel=>exact⟨k+1,by go_num,by omega,trivial,G hz⟩
        case measure=>simp [intOf]; omega
      ·
       have H7:=J (show Ll f.blocks=true from Yn (fun q hq=>G HN q (by omega)));obtain rfl:k=f.blocks.length:=by omega
       clear HN;go_wp2_with fail
       go_loopw [53] (fun j w'=>∃ k:Nat,j=.int .i64 k∧k≤f.slots.length∧w'=wr∧∀ q,q<k→Yi (f.slots.getD q 0) 1 8=true) (fun j _=>f.slots.length-(intOf j).toNat)
       case atStart=>exact⟨0,rfl,by omega,rfl,fun q hq=>by omega⟩
       case round =>
        obtain⟨k,rfl,hk,hwz,hno⟩:=hrel;subst hwz;have HN:=J hno;clear hno;by_cases hk2:k<f.slots.length
        ·
         obtain⟨p',cap',he,-,-,hcc⟩:=((G HFD).below (G HB3)).ss;injection he with e1 e2 e3;subst e1 e3;obtain⟨sb,so,rfl,hc⟩:=hcc (by omega);have c:=hc k hk2;have HWI:=J (fun V=>Jq (f.slots.getD k 0) 1 8 V);have HBAD:=J (fun hb:Yi (f.slots.getD k 0) 1 8=false=>show Jd f.slots 1 8=false from Ya hk2 hb);have HNX:=J (fun hb:Yi (f.slots.getD k 0) 1 8=true=>Zq (q:=fun q=>Yi (f.slots.getD q 0) 1 8) (G HN) hb);clear hcc hc e2;generalize Yi (f.slots.getD k 0) 1 8=yes at HWI HBAD HNX;generalize f.slots.getD k 0=y at c HWI;go_wp2_with fail
         refine(G HWI _).mono ?_;rintro e w5 ⟨rfl,h5⟩;subst w5;cases yes with
         | false =>
          have hz:=J (G HX5 (G HBAD rfl));go_wp2;go_ret;exact⟨by rw [G hz]; rfl,Za (G HW) (G HB3) (by have:=G HZ; omega)⟩
         | true =>
          have hz:=J (G HNX rfl);go_wp2;go_roundw
          case rel=>exact⟨k+1,by go_num,by omega,trivial,G hz⟩
          case measure=>simp [intOf]; omega
        ·
         have H5:=J (show Jd f.slots 1 8=true from Yn (fun q hq=>G HN q (by omega)));obtain rfl:k=f.slots.length:=by omega
         clear HN;go_wp2_with fail
         go_loopw [64] (fun j w'=>∃ k:Nat,j=.int .i64 k∧k≤f.homes.length∧Below W.heap.size W w'∧∀ q,q<k→Ug r (Zt sp lk t0 t1) f.homes q=true) (fun j _=>f.homes.length-(intOf j).toNat)
         case atStart=>exact⟨0,rfl,by omega,G HB3,fun q hq=>by omega⟩
         case round =>
          obtain⟨k,rfl,hk,hbw,hno⟩:=hrel;have HN:=J hno;have HBW:=J hbw;have hws:=hbw.size;clear hno r2 r3 r4;by_cases hk2:k<f.homes.length
          ·
           have hLi:=((G HFD).below hbw).hs;have HLi:=J hLi;obtain⟨p',cap',he,hcap',-,hcc⟩:=hLi;injection he with e1 e2 e3;subst e1 e3;obtain⟨sb,so,rfl,hc⟩:=hcc (by omega);have c:=hc k hk2;have hsz:=G HZ;have hrowB:=(hbw.block w.heap.size (by omega)).trans (G HRB);have hrowF:=(hbw.block (w.heap.size+1) (by omega)).trans (G HRF);have b0:=(cR hrowB 0);have b1:=(cR hrowB 1);have b2:=(cR hrowB 2);have b3:=(cR hrowB 3);have b4:=(cR hrowB 4);have x2:=fun X:Obj=>(Yh hrowF 2 X).trans rfl;have HHO:=J (show Ug r (Zt sp lk t0 t1) f.homes k=(decide (f.homes.getD k 0=-1)||(Yi (f.homes.getD k 0) 0 (r-1)&&(!decide (f.homes.getD k 0 ∈ (Zt sp lk t0 t1))&&!decide (f.homes.getD k 0 ∈ f.homes.take k)))) from rfl);have HBAD:=J (fun hb:Ug r (Zt sp lk t0 t1) f.homes k=false=>show Mo r (Zt sp lk t0 t1) f.homes=false from Ya hk2 hb);have HNX:=J (fun hb:Ug r (Zt sp lk t0 t1) f.homes k=true=>Zq (G HN) hb);clear hcc hc e2 hrowB hrowF hbw hsz;generalize Ug r (Zt sp lk t0 t1) f.homes k=yes at HHO HBAD HNX;generalize f.homes.getD k 0=y at c HHO;by_cases hm:y=-1
           ·
            subst hm;have hz:=J (G HNX (by rw [G HHO]; rfl));go_wp2;go_roundw
            case rel=>exact⟨k+1,by go_num,by omega,G HBW,G hz⟩
            case measure=>simp [intOf]; omega
           ·
            have z:(y==-1)=false:=by simpa using hm
            have HH2:=J (show yes=(Yi y 0 (r-1)&&(!decide (y ∈ [sp,lk,t0,t1])&&!decide (y ∈ f.homes.take k))) by rw [G HHO,Zpu hm]; simp [hm]);clear HHO hm;go_wp2_with fail
            refine(Jq y 0 (r-1) _).mono ?_;rintro e w5 ⟨rfl,h5⟩;subst w5;cases hi:Yi y 0 (r-1) with
            | false =>
             have hbb:=J (G HX3 (G HBAD (by rw [G HH2,hi]; rfl)));clear hi;go_wp2;go_ret;exact⟨by rw [G hbb]; rfl,Za (G HW) (G HBW) (by have:=G HZ; omega)⟩
            | true =>
             have HI:=J hi;clear hi;go_wp2_with fail
             have hU:=Yj wr (.cells #[.int .i64 sp,.int .i64 lk,.int .i64 t0,.int .i64 t1] 3 (0,0));have HU:=J (Za (G HBW) hU.2.1 hws);have HLT:=J (((G HLi).below hU.2.1).take k (by omega));clear hU;refine(Nr [sp,lk,t0,t1] y _ _ (Li.list (w:=wr) [sp,lk,t0,t1] (by show 4<Xa; decide)).rs (by simp)).mono ?_;rintro e w5 ⟨rfl,h5⟩;subst w5;cases hi:decide (y ∈ [sp,lk,t0,t1]) with
             | true =>
              have hbb:=J (G HX3 (G HBAD (by rw [G HH2,hi]; simp)));clear hi;go_wp2;go_ret;exact⟨by rw [G hbb]; rfl,Za (G HW) (G HU) (by have:=G HZ; omega)⟩
             | false =>
              have HI2:=J hi;clear hi;go_wp2_with fail
              refine(Nr (f.homes.take k) y _ _ (G HLT).rs (by simp; omega)).mono ?_;rintro e w5 ⟨rfl,h5⟩;subst w5;cases hi:decide (y ∈ f.homes.take k) with
              | true =>
               have hbb:=J (G HX3 (G HBAD (by rw [G HH2,hi]; simp)));clear hi;go_wp2;go_ret;exact⟨by rw [G hbb]; rfl,Za (G HW) (G HU) (by have:=G HZ; omega)⟩
              | false =>
               have hz:=J (G HNX (by rw [G HH2,hi,G HI2,G HI]; rfl));clear hi;go_wp2;go_roundw
               case rel=>exact⟨k+1,by go_num,by omega,G HU,G hz⟩
               case measure=>simp [intOf]; omega
          ·
           have H3:=J (show Mo r (Zt sp lk t0 t1) f.homes=true from Yn (fun q hq=>G HN q (by omega)));obtain rfl:k=f.homes.length:=by omega
           have hsz:=G HZ;have hrowF:=(hbw.block (w.heap.size+1) (by omega)).trans (G HRF);have r0:=(cR hrowF 0);clear HN hrowF hsz hbw;go_wp2_with fail
           clear r0;generalize hwz:wr=V0 at HBW hws ⊢;clear hwz;go_loopw [104] (fun j w'=>∃ k:Nat,j=.int .i64 k∧k≤f.params.length∧Below W.heap.size W w'∧∀ q,q<k→Gh f q=true) (fun j _=>f.params.length-(intOf j).toNat)
           case atStart=>exact⟨0,rfl,by omega,G HBW,fun q hq=>by omega⟩
           case round =>
            clear hws HBW;obtain⟨k,rfl,hk,hbw,hno⟩:=hrel;have HN:=J hno;have HBW:=J hbw;have hws:=hbw.size;clear hno;by_cases hk2:k<f.params.length
            ·
             obtain⟨p',cap',he,hcapP,-,hcc⟩:=(G HFD).ps.pairs;injection he with e1 e2 e3;subst e1 e3;obtain⟨sb,so,rfl,hc⟩:=hcc (by omega);have hsb:sb<W.heap.size:=World.block_lt_of_cell? W _ (hc k hk2).1;have c1:=(hbw.cell (p:=⟨sb,so+k*2,none⟩) hsb).trans (hc k hk2).1;have c2:=(hbw.cell (p:=⟨sb,so+k*2+1,none⟩) hsb).trans (hc k hk2).2;have hx0:=G HWO k hk2;have HCC:=J hc;clear hc hcc e2 hbw;generalize hxy:f.params.getD k (0,0)=xy at c1 c2 hx0;have HXY:=J hxy;clear hxy;obtain⟨x,y⟩:=xy;simp only at c1 c2 hx0;go_wp2_with fail
             have hy:=Yj wr (.cells #[.int .i64 x,.int .i64 y] 99 (0,0));have hsz:=G HZ;have hrX:=hy.1;have hrF:=(hy.2.1.block (w.heap.size+1) (by omega)).trans (((G HBW).block (w.heap.size+1) (by omega)).trans (G HRF));have hbU:Below W.heap.size W (wr.alloc (.cells #[.int .i64 x,.int .i64 y] 99 (0,0))):=Za (G HBW) hy.2.1 hws;have hUs:=hy.2.2;clear hy c1 c2;generalize hTx:wr.heap.size=Tx at hrX hUs hws ⊢;generalize World.alloc wr _=U at hrX hrF hbU hUs ⊢;have hTU:Tx<U.heap.size:=by omega
             have q0:=(cR hrX 0);have q1:=(cR hrX 1);have f2:=(cR hrF 2);have f3:=(cR hrF 3);have HBU:=J hbU;have HRX:=J hrX;have HRFU:=J hrF;have hUW:=hbU.size;clear hrX hrF hTx hsz hUs;clear hbU;by_cases h0x:x=0
             ·
              subst h0x;have HWI:=J (fun V=>Jq y 0 (f.homes.length-1) V);cases hr:Yi y 0 (f.homes.length-1) with
              | false =>
               rw [hr] at HWI;have HSPT:=J (show Ye f (0,y)=false by unfold Ye; simp [hr]);clear hr;have hbb:=J (G HX8 (show Jo f=false from Ya hk2 (by unfold Gh; rw [G HXY,G HSPT]; rfl)));go_quiet ((go_at_call 20; exact Calls.quiet_of_same (G HWI _)))
               go_wp2;go_ret;exact⟨by rw [G hbb]; rfl,Zk (Za (G HW) (G HBU) (by have:=G HZ; omega)) _⟩
              | true =>
               rw [hr] at HWI;have HSPT:=J (show Ye f (0,y)=true by unfold Ye; simp [hr]);clear hr;go_quiet ((go_at_call 20; exact Calls.quiet_of_same (G HWI _)))
               have f0:=(cR (G HRFU) 0);clear q0 q1 f2 f3;go_wp2_with fail
               clear f0;have HBV:=J (fun nq=>Zk (Below.refl U.heap.size U) nq);generalize hVV:U.drewN _=V1;have hBV:Below U.heap.size U V1:=by rw [← hVV]; exact G HBV _
               have HB1:=J (Za (G HBU) hBV hUW);have hV1:=hBV.size;have HRX1:=J ((hBV.block Tx hTU).trans (G HRX));have hT1:Tx<V1.heap.size:=by omega
               clear hVV hBV HBV;go_loopw [153] (fun j w'=>∃ m:Nat,j=.int .i64 m∧m≤k∧Below V1.heap.size V1 w'∧∀ q,q<m→(!Lw (0,y) (f.params.getD q (0,0)))=true) (fun j _=>k-(intOf j).toNat)
               case atStart=>exact⟨0,rfl,by omega,Below.refl _ _,fun q hq=>by omega⟩
               case round =>
                obtain⟨m,rfl,hm,hbm,hmo⟩:=hrel;have HM:=J hmo;clear hmo;have hms:=hbm.size;have HB1z:=(G HB1).size;by_cases hm2:m<k
                ·
                 have hq:=(G HCC) m (by omega);have hwm:Below W.heap.size W wr:=Za (G HB1) hbm HB1z;have c1:=(hwm.cell (p:=⟨sb,so+m*2,none⟩) hsb).trans hq.1;have c2:=(hwm.cell (p:=⟨sb,so+m*2+1,none⟩) hsb).trans hq.2;have hrow:=(hbm.block Tx hT1).trans (G HRX1);have r0:=fun X:Obj=>(Yh hrow 0 X).trans rfl;have r1:=fun X:Obj=>(Yh hrow 1 X).trans rfl;have hy0:=G HWO m (by omega);have HBM:=J hbm;clear hrow hq hwm hbm;generalize hxy:f.params.getD m (0,0)=xy at c1 c2 hy0;have HXZ:=J hxy;clear hxy;obtain⟨x2,y2⟩:=xy;simp only at c1 c2 hy0;have hme:Lw (0,y) (x2,y2)=(decide (y=y2)&&(decide ((0:Int)=0)==decide (x2=0))):=rfl;have HBAD:=J (fun hb:(decide (y=y2)&&(decide ((0:Int)=0)==decide (x2=0)))=true=>G HX8 (show Jo f=false from Ya hk2 (by unfold Gh; rw [G HXY]; simp only [Bool.and_eq_false_iff]; exact Or.inr (Ya hm2 (by rw [G HXZ,hme,hb]; rfl)))));have HNX:=J (fun hb:(decide (y=y2)&&(decide ((0:Int)=0)==decide (x2=0)))=false=>Zq (q:=fun q=>!Lw (0,y) (f.params.getD q (0,0))) (G HM) (by show(!Lw (0,y) (f.params.getD m (0,0)))=true; rw [G HXZ,hme,hb]; rfl));have HBA:=J (Za (G HBM) (Yj wr (.cells #[.int .i64 x2,.int .i64 y2] 99 (0,0))).2.1 hms);clear hme;by_cases e1:y=y2
                 ·
                  subst e1;by_cases e3:x2=0
                  ·
                   subst e3;have hz:=J (G HBAD (by simp));go_wp2;go_ret;exact⟨by rw [G hz]; rfl,Za (G HW) (Za (G HB1) (G HBA) HB1z) (by have:=G HZ; omega)⟩
                  ·
                   have hp:0<x2:=by omega
                   have hz:=J (G HNX (by simp [e3]));go_wp2;go_roundw
                   case rel=>exact⟨m+1,by go_num,by omega,G HBA,G hz⟩
                   case measure=>simp [intOf]; omega
                 ·
                  have z1:(y==y2)=false:=by simpa using e1
                  have hz:=J (G HNX (by simp [e1]));go_wp2;go_roundw
                  case rel=>exact⟨m+1,by go_num,by omega,G HBA,G hz⟩
                  case measure=>simp [intOf]; omega
                ·
                 obtain rfl:m=k:=by omega
                 have hz:=J (Zq (q:=Gh f) (G HN) (by unfold Gh; rw [G HXY,G HSPT,Yn (G HM)]; rfl));have HBM:=J (Za (G HB1) hbm HB1z);clear hbm;go_wp2;go_roundw
                 case rel=>exact⟨m+1,by go_num,by omega,G HBM,G hz⟩
                 case measure=>simp [intOf]; omega
             ·
              have z0:(x==0)=false:=by simpa using h0x
              have hx1:0<x:=by omega
              have HWI:=J (fun V=>Jq y 0 (f.slots.length-1) V);cases hr:Yi y 0 (f.slots.length-1) with
              | false =>
               rw [hr] at HWI;have HSPT:=J (show Ye f (x,y)=false by unfold Ye; simp [h0x,hr]);clear hr;have hbb:=J (G HX8 (show Jo f=false from Ya hk2 (by unfold Gh; rw [G HXY,G HSPT]; rfl)));go_quiet ((go_at_call 20; exact Calls.quiet_of_same (G HWI _)))
               go_wp2;go_ret;exact⟨by rw [G hbb]; rfl,Zk (Za (G HW) (G HBU) (by have:=G HZ; omega)) _⟩
              | true =>
               rw [hr] at HWI;have HSP0:=J (show Ye f (x,y)=decide (f.slots.getD y.toNat 0=x) by unfold Ye; simp [h0x,hr]);unfold Yi at hr;obtain⟨g0,g1⟩:=of_decide_eq_true hr;obtain⟨n,rfl⟩:∃ n:Nat,y=n:=⟨y.toNat,by omega⟩;have hn:n<f.slots.length:=by omega
               obtain⟨p2,cap2,he2,-,-,hcc2⟩:=((G HFD).below (G HBU)).ss;injection he2 with e1 e2 e3;subst e1 e3;obtain⟨sl,sx,rfl,hsc⟩:=hcc2 (by omega);have cs:=hsc n hn;rw [Int.toNat_natCast] at HSP0;clear hr g0 g1 e2 hcc2 hsc;generalize f.slots.getD n 0=sz at cs HSP0;by_cases hsx:sz=x
               ·
                have zz:(sz != x)=false:=by simp [hsx]
                have HSPT:=J (show Ye f (x,(n:Int))=true by rw [G HSP0]; simp [hsx]);clear hsx;go_quiet ((go_at_call 20; exact Calls.quiet_of_same (G HWI _)))
                have f0:=(cR (G HRFU) 0);clear q0 q1 f2 f3;go_wp2_with fail
                clear f0;have HBV:=J (fun nq=>Zk (Below.refl U.heap.size U) nq);generalize hVV:U.drewN _=V1;have hBV:Below U.heap.size U V1:=by rw [← hVV]; exact G HBV _
                have HB1:=J (Za (G HBU) hBV hUW);have hV1:=hBV.size;have HRX1:=J ((hBV.block Tx hTU).trans (G HRX));have hT1:Tx<V1.heap.size:=by omega
                clear hVV hBV HBV;go_loopw [153] (fun j w'=>∃ m:Nat,j=.int .i64 m∧m≤k∧Below V1.heap.size V1 w'∧∀ q,q<m→(!Lw (x,(n:Int)) (f.params.getD q (0,0)))=true) (fun j _=>k-(intOf j).toNat)
                case atStart=>exact⟨0,rfl,by omega,Below.refl _ _,fun q hq=>by omega⟩
                case round =>
                 obtain⟨m,rfl,hm,hbm,hmo⟩:=hrel;have HM:=J hmo;clear hmo;have hms:=hbm.size;have HB1z:=(G HB1).size;by_cases hm2:m<k
                 ·
                  have hq:=(G HCC) m (by omega);have hwm:Below W.heap.size W wr:=Za (G HB1) hbm HB1z;have c1:=(hwm.cell (p:=⟨sb,so+m*2,none⟩) hsb).trans hq.1;have c2:=(hwm.cell (p:=⟨sb,so+m*2+1,none⟩) hsb).trans hq.2;have hrow:=(hbm.block Tx hT1).trans (G HRX1);have r0:=fun X:Obj=>(Yh hrow 0 X).trans rfl;have r1:=fun X:Obj=>(Yh hrow 1 X).trans rfl;have hy0:=G HWO m (by omega);have HBM:=J hbm;clear hrow hq hwm hbm;generalize hxy:f.params.getD m (0,0)=xy at c1 c2 hy0;have HXZ:=J hxy;clear hxy;obtain⟨x2,y2⟩:=xy;simp only at c1 c2 hy0;have hme:Lw (x,(n:Int)) (x2,y2)=(decide ((n:Int)=y2)&&(decide ((x:Int)=0)==decide (x2=0))):=rfl;have HBAD:=J (fun hb:(decide ((n:Int)=y2)&&(decide ((x:Int)=0)==decide (x2=0)))=true=>G HX8 (show Jo f=false from Ya hk2 (by unfold Gh; rw [G HXY]; simp only [Bool.and_eq_false_iff]; exact Or.inr (Ya hm2 (by rw [G HXZ,hme,hb]; rfl)))));have HNX:=J (fun hb:(decide ((n:Int)=y2)&&(decide ((x:Int)=0)==decide (x2=0)))=false=>Zq (q:=fun q=>!Lw (x,(n:Int)) (f.params.getD q (0,0))) (G HM) (by show(!Lw (x,(n:Int)) (f.params.getD m (0,0)))=true; rw [G HXZ,hme,hb]; rfl));have HBA:=J (Za (G HBM) (Yj wr (.cells #[.int .i64 x2,.int .i64 y2] 99 (0,0))).2.1 hms);clear hme;by_cases e1:(n:Int)=y2
                  ·
                   subst e1;by_cases e3:x2=0
                   ·
                    subst e3;have hz:=J (G HNX (by simp [h0x]));go_wp2;go_roundw
                    case rel=>exact⟨m+1,by go_num,by omega,G HBA,G hz⟩
                    case measure=>simp [intOf]; omega
                   ·
                    have hp:0<x2:=by omega
                    have hz:=J (G HBAD (by simp [h0x,e3]));go_wp2;go_ret;exact⟨by rw [G hz]; rfl,Za (G HW) (Za (G HB1) (G HBA) HB1z) (by have:=G HZ; omega)⟩
                  ·
                   have z1:((n:Int)==y2)=false:=by simpa using e1
                   have hz:=J (G HNX (by simp [e1]));go_wp2;go_roundw
                   case rel=>exact⟨m+1,by go_num,by omega,G HBA,G hz⟩
                   case measure=>simp [intOf]; omega
                 ·
                  obtain rfl:m=k:=by omega
                  have hz:=J (Zq (q:=Gh f) (G HN) (by unfold Gh; rw [G HXY,G HSPT,Yn (G HM)]; rfl));have HBM:=J (Za (G HB1) hbm HB1z);clear hbm;go_wp2;go_roundw
                  case rel=>exact⟨m+1,by go_num,by omega,G HBM,G hz⟩
                  case measure=>simp [intOf]; omega
               ·
                have zz:(sz != x)=true:=by simpa using hsx
                have HSPT:=J (show Ye f (x,(n:Int))=false by rw [G HSP0]; simp [hsx]);clear hsx;have hbb:=J (G HX8 (show Jo f=false from Ya hk2 (by unfold Gh; rw [G HXY,G HSPT]; rfl)));go_quiet ((go_at_call 20; exact Calls.quiet_of_same (G HWI _)))
                go_wp2;go_ret;exact⟨by rw [G hbb]; rfl,Zk (Za (G HW) (G HBU) (by have:=G HZ; omega)) _⟩
            ·
             have H8:=J (show Jo f=true from Yn (fun q hq=>G HN q (by omega)));obtain rfl:k=f.params.length:=by omega
             clear hbw;have hz:=J (G HXT h0 (G H1) h2 (G H3) h4 (G H5) (G H6) (G H7) (G H8));go_wp2;go_ret;exact⟨by rw [G hz]; rfl,Za (G HW) (G HBW) (by have:=G HZ; omega)⟩
   ·
    have hz:=J (G HX4 h4);go_wp2;go_ret;exact⟨by rw [G hz]; rfl,Za (G HW) (G HB3) (by have:=G HZ; omega)⟩
  ·
   have hz:=J (G HX2 h2);go_wp2;go_ret;exact⟨by rw [G hz]; rfl,Za (G HW) (G HB3) (by have:=G HZ; omega)⟩
end Go.Proofs.YteddfaconabobaaGreatDoor
