import Derived.Test.YtedemloocadimaaGreatDoorJ24
import Derived.Deep.RegionHeld3
namespace Go.Proofs.YtedemloocadimaaGreatDoor
open Go.RowKit
set_option maxHeartbeats 4000000
set_option maxRecDepth 100000
theorem Zat.shape {w:World}{v:Value}{l:List Zq}(h:Zat w v l):∃ q c,v=.slice q l.length c∧l.length<9223372036854775808:=by
 obtain⟨A,⟨p,cap,h1,h2,h3,h4⟩,-⟩:=h;exact⟨p,cap,h1,h3⟩
theorem Zaa.blk {w:World}{f:Zy}{pv hv sv bv:Value}{B:Nat→Value}(h:Zaa w f pv hv sv bv B):∀ k,k<f.blocks.length→∃ q c,B k=.slice q (f.blocks.getD k []).length c∧(f.blocks.getD k []).length<9223372036854775808:=fun k hk=>by
 have:=(h.each k hk).shape;rwa [show f.blocks[k]=f.blocks.getD k [] by simp [List.getD,hk]] at this
theorem Zln (r sp lk t0 t1:Int)(va vr vs:Value)(al sh by_:Int)(pr:Bool)(f:Zy)(pv hv sv bv:Value)(B:Nat→Value)(w:World)(hr:4≤r∧r≤16)(hF:Zaa w f pv hv sv bv B) :
 Calls Tryz.prog 76 #[.agg (Yt r sp lk t0 t1 va vr vs al sh by_ pr),.agg #[pv,.int .i64 f.results,hv,sv,bv]] w fun e w'=>e=.returned (.bool (Jr r (Jg sp lk t0 t1) f))∧Below w.heap.size w w':=by
 have hx:=Gk w (.cells (Yt r sp lk t0 t1 va vr vs al sh by_ pr) 37 (0,0));have hx2:=Gk (w.alloc (.cells (Yt r sp lk t0 t1 va vr vs al sh by_ pr) 37 (0,0))) (.cells #[pv,.int .i64 f.results,hv,sv,bv] 93 (0,0));have HFD:=Za ((hF.below hx.2.1).below hx2.2.1);have hs1:=hx.2.2;have hs2:=hx2.2.2;have HW1:=Za (Zd hx.2.1 hx2.2.1 (by omega));have hrb:=(hx2.2.1.block w.heap.size (by omega)).trans hx.1;have hrf:=hx2.1;rw [hs1] at hrf hs2;obtain⟨pp,cp,rfl⟩:=hF.ps.shape;obtain⟨ph,ch,rfl⟩:=hF.hs.shape;obtain⟨ps,cs,rfl⟩:=hF.ss.shape;obtain⟨pb,cb,rfl⟩:=hF.bs.shape;have hl1:f.params.length<9223372036854775808:=by obtain⟨_,_,_,_,h,_⟩:=hF.ps; exact h
 have hl2:f.homes.length<9223372036854775808:=hF.hs.lt;have hl3:f.slots.length<9223372036854775808:=hF.ss.lt;have hl4:f.blocks.length<9223372036854775808:=by obtain⟨_,_,_,_,h,_⟩:=hF.bs; exact h
 have HRB:=Za hrb;have HRF:=Za hrf;have HS2:=Za hs2;have HR:=Za hr;have HX0:=Za (fun h:¬ f.params.length≤8=>show Jr r (Jg sp lk t0 t1) f=false by unfold Jr; simp [h]);have HX1:=Za (fun h:Rn (Oc f)=false=>show Jr r (Jg sp lk t0 t1) f=false by unfold Jr; simp [h]);have HX2:=Za (fun h:¬ f.homes.length≤12=>show Jr r (Jg sp lk t0 t1) f=false by unfold Jr; simp [h]);have HX3:=Za (fun h:Cz r (Jg sp lk t0 t1) f.homes=false=>show Jr r (Jg sp lk t0 t1) f=false by unfold Jr; simp [h]);have HX4:=Za (fun h:¬ f.slots.length≤6=>show Jr r (Jg sp lk t0 t1) f=false by unfold Jr; simp [h]);have HX5:=Za (fun h:Ob f.slots 1 8=false=>show Jr r (Jg sp lk t0 t1) f=false by unfold Jr; simp [h]);have HX6:=Za (fun h:Gm f.blocks.length 1 12=false=>show Jr r (Jg sp lk t0 t1) f=false by unfold Jr; simp [h]);have HX7:=Za (fun h:Si f.blocks=false=>show Jr r (Jg sp lk t0 t1) f=false by unfold Jr; simp [h]);have HX8:=Za (fun h:Dy f=false=>show Jr r (Jg sp lk t0 t1) f=false by unfold Jr; simp [h]);have HXT:=Za (fun(h0:f.params.length≤8) (h1:Rn (Oc f)=true) (h2:f.homes.length≤12) (h3:Cz r (Jg sp lk t0 t1) f.homes=true) (h4:f.slots.length≤6) (h5:Ob f.slots 1 8=true) (h6:Gm f.blocks.length 1 12=true) (h7:Si f.blocks=true) (h8:Dy f=true)=>show Jr r (Jg sp lk t0 t1) f=true by unfold Jr; simp [h0,h1,h2,h3,h4,h5,h6,h7,h8]);clear hx hx2 hF hs1 hs2 hrb hrf hr;go_enter Tryz.func76,Tryz.ntmps76
 by_cases h0:f.params.length≤8
 ·
  skip
  go_wp2_with fail
  generalize World.alloc (World.alloc w _) _=W at HFD HW1 HRB HRF HS2 ⊢;refine(Zlm f _ _ _ _ W (J HFD).ps (by omega)).mono ?_;rintro e w2 ⟨vv,rfl,hvv,hb⟩;have HB2:=Za hb;have HVV:=Za hvv;obtain⟨vp,vc,rfl⟩:=hvv.shape;clear hb hvv;go_wp2_with fail
  refine(Zfb _ _ _ _ (J HVV)).mono ?_;rintro e w3 ⟨rfl,hb⟩;have HB3:=Za (Zd (J HB2) hb (J HB2).size);clear hb HVV HB2;have hsz:=J HS2;have hrow:=((J HB3).block (w.heap.size+1) (by omega)).trans (J HRF);have r2:=(cR hrow 2);clear hrow hsz;cases h1:Rn ((Oc f).1,f.results) with
  | false =>
   have hz:=Za (J HX1 h1);go_wp2;go_ret;exact⟨by rw [J hz]; rfl,Zd (J HW1) (J HB3) (by have:=J HS2; omega)⟩
  | true =>
   have H1:=Za h1;clear h1;by_cases h2:f.homes.length≤12
   ·
    skip
    have hsz:=J HS2;have hrow:=((J HB3).block (w.heap.size+1) (by omega)).trans (J HRF);have hrbx:=((J HB3).block w.heap.size (by omega)).trans (J HRB);unfold Yt at hrbx;have b0:=(cR hrbx 0);have b1:=(cR hrbx 1);have b2:=(cR hrbx 2);have b3:=(cR hrbx 3);have b4:=(cR hrbx 4);have b5:=(cR hrbx 5);have b6:=(cR hrbx 6);have b7:=(cR hrbx 7);have b8:=(cR hrbx 8);have b9:=(cR hrbx 9);have b10:=(cR hrbx 10);have b11:=(cR hrbx 11);clear hrow hsz hrbx;go_wp2_with fail
    refine(Zll r sp lk t0 t1 va vr vs al sh by_ pr _ f.homes w3 (J HR) ((J HFD).below (J HB3)).hs (by omega)).mono ?_;rintro e w4 ⟨rfl,hb⟩;have HB4:=Za (Zd (J HB3) hb (J HB3).size);clear hb r2 b0 b1 b2 b3 b4 b5 b6 b7 b8 b9 b10 b11;have hsz:=J HS2;have hrow:=((J HB4).block (w.heap.size+1) (by omega)).trans (J HRF);have r3:=(cR hrow 3);have r4:=(cR hrow 4);clear hrow hsz;cases h3:Cz r (Jg sp lk t0 t1) f.homes with
    | false =>
     have hz:=Za (J HX3 h3);go_wp2;go_ret;exact⟨by rw [J hz]; rfl,Zd (J HW1) (J HB4) (by have:=J HS2; omega)⟩
    | true =>
     have H3:=Za h3;clear h3;by_cases h4:f.slots.length≤6
     ·
      skip
      go_wp2_with fail
      refine(Zlk _ f.slots w4 ((J HFD).below (J HB4)).ss).mono ?_;rintro e w5 ⟨rfl,h5'⟩;subst w5;cases h5:Ob f.slots 1 8 with
      | false =>
       have hz:=Za (J HX5 h5);go_wp2;go_ret;exact⟨by rw [J hz]; rfl,Zd (J HW1) (J HB4) (by have:=J HS2; omega)⟩
      | true =>
       have H5:=Za h5;clear h5;go_wp2_with fail
       refine(Xz f.blocks.length 1 12 w4).mono ?_;rintro e w5 ⟨rfl,h5'⟩;subst w5;cases h6:Gm f.blocks.length 1 12 with
       | false =>
        have hz:=Za (J HX6 h6);go_wp2;go_ret;exact⟨by rw [J hz]; rfl,Zd (J HW1) (J HB4) (by have:=J HS2; omega)⟩
       | true =>
        have H6:=Za h6;clear h6;go_wp2_with fail
        refine(Zia _ f.blocks B w4 ((J HFD).below (J HB4)).bs (J HFD).blk).mono ?_;rintro e w5 ⟨rfl,h5'⟩;subst w5;cases h7:Si f.blocks with
        | false =>
         have hz:=Za (J HX7 h7);go_wp2;go_ret;exact⟨by rw [J hz]; rfl,Zd (J HW1) (J HB4) (by have:=J HS2; omega)⟩
        | true =>
         have H7:=Za h7;clear h7;have hsz:=J HS2;have hrow:=((J HB4).block (w.heap.size+1) (by omega)).trans (J HRF);have r0:=(cR hrow 0);have r1:=(cR hrow 1);have r2:=(cR hrow 2);clear hrow hsz;go_wp2_with fail
         refine(Zib f _ _ _ _ w4 ((J HFD).below (J HB4)).ps ((J HFD).below (J HB4)).hs ((J HFD).below (J HB4)).ss).mono ?_;rintro e w5 ⟨rfl,hb⟩;have HB5:=Za (Zd (J HB4) hb (J HB4).size);clear hb;cases h8:Dy f with
         | false =>
          have hz:=Za (J HX8 h8);go_wp2;go_ret;exact⟨by rw [J hz]; rfl,Zd (J HW1) (J HB5) (by have:=J HS2; omega)⟩
         | true =>
          have hz:=Za (J HXT h0 (J H1) h2 (J H3) h4 (J H5) (J H6) (J H7) h8);go_wp2;go_ret;exact⟨by rw [J hz]; rfl,Zd (J HW1) (J HB5) (by have:=J HS2; omega)⟩
     ·
      have hz:=Za (J HX4 h4);go_wp2;go_ret;exact⟨by rw [J hz]; rfl,Zd (J HW1) (J HB4) (by have:=J HS2; omega)⟩
   ·
    have hz:=Za (J HX2 h2);go_wp2;go_ret;exact⟨by rw [J hz]; rfl,Zd (J HW1) (J HB3) (by have:=J HS2; omega)⟩
 ·
  have hz:=Za (J HX0 h0);go_wp2;go_ret;exact⟨by rw [J hz]; rfl,J HW1⟩
set_option maxHeartbeats 2000000
set_option maxRecDepth 100000
theorem Xe (f:Zy)(fv ev pv hv sv bv lv:Value)(r:Int)(ls:List Int)(w:World)(hh:∃ p c,hv=.slice p f.homes.length c)(hhl:f.homes.length<9223372036854775808)(h:Li w lv ls):Calls Tryz.prog 232 #[.agg #[fv,ev,pv,.int .i64 r,hv,sv,bv],lv] w fun e w'=>e=.returned (.bool (Le f ls))∧Below w.heap.size w w':=by
 obtain⟨ph,ch,rfl⟩:=hh;have hx:=Gk w (.cells #[fv,ev,pv,.int .i64 r,.slice ph f.homes.length ch,sv,bv] 246 (0,0));obtain⟨p,cap,rfl,hcap,hlt,hc⟩:=h.below hx.2.1;have hlt:ls.length<9223372036854775808:=hlt;have HC:=Za hc;have HX:=Za hx;clear hc hx h;go_enter Tryz.func232,Tryz.ntmps232
 go_wp2_with fail
 generalize World.alloc w _=W at HC HX ⊢;go_loopw [9] (fun j w'=>∃ k:Nat,j=.int .i64 k∧k≤ls.length∧w'=W∧∀ q,q<k→Yq f (ls.getD q 0)=true) (fun j _=>ls.length-(intOf j).toNat)
 case atStart=>exact⟨0,rfl,by omega,rfl,fun q hq=>by omega⟩
 case round =>
  obtain⟨k,rfl,hk,rfl,hno⟩:=hrel;have HN:=Za hno;clear hno;by_cases hk2:k<ls.length
  ·
   obtain⟨sb,so,rfl,hcc⟩:=J HC (by omega);have c:=hcc k hk2;have r4:=(cR (J HX).1 4);have HW:=Za (Xz (ls.getD k 0) 0 (f.homes.length-1) wr);have HBAD:=Za (fun hb:Gm (ls.getD k 0) 0 (f.homes.length-1)=false=>show Le f ls=false from Lc hk2 hb);have HNX:=Za (fun hb:Gm (ls.getD k 0) 0 (f.homes.length-1)=true=>Gi (q:=fun q=>Yq f (ls.getD q 0)) (J HN) hb);clear hcc HC;generalize Gm (ls.getD k 0) 0 (f.homes.length-1)=yes at HW HBAD HNX;generalize ls.getD k 0=y at c HW;go_wp2_with fail
   refine(J HW).mono ?_;rintro e w2 ⟨rfl,h2⟩;subst w2;cases yes with
   | false =>
    have hx:=Za (J HBAD rfl);go_wp2;go_ret;exact⟨by rw [J hx]; rfl,(J HX).2.1⟩
   | true =>
    have hx:=Za (J HNX rfl);go_wp2;go_roundw
    case rel=>exact⟨k+1,by go_num,by omega,trivial,J hx⟩
    case measure=>simp [intOf]; omega
  ·
   have HT:=Za (show Le f ls=true from Md (fun q hq=>J HN q (by omega)));obtain rfl:k=ls.length:=by omega
   go_wp2;go_ret;exact⟨by rw [J HT]; rfl,(J HX).2.1⟩
theorem Zlo (v:Value)(ls:List Int)(w:World)(h:Li w v ls)(hn:ls.length≤1000000):Calls Tryz.prog 297 #[v] w fun e w'=>e=.returned (.bool (Zcq ls))∧w'=w:=by
 have HL:=Za h;obtain⟨p,cap,rfl,hcap,hlt,-⟩:=h;go_enter Tryz.func297,Tryz.ntmps297
 go_wp2_with fail
 go_loopw [7] (fun j w'=>∃ k:Nat,j=.int .i64 k∧k≤ls.length∧w'=w∧∀ q,q<k→(!decide (ls.getD q 0 ∈ ls.take q))=true) (fun j _=>ls.length-(intOf j).toNat)
 case atStart=>exact⟨0,rfl,by omega,rfl,fun q hq=>by omega⟩
 case round =>
  obtain⟨k,rfl,hk,rfl,hno⟩:=hrel;have HN:=Za hno;clear hno;by_cases hk2:k<ls.length
  ·
   have HCT:=Za (Dt (ls.take k) (ls.getD k 0) (.slice p k cap) wr ((J HL).take k (by omega)).rs (by simp; omega));obtain⟨p',cap',he,-,-,hcc⟩:=J HL;injection he with e1 e2 e3;subst e1 e3;obtain⟨sb,so,rfl,hc⟩:=hcc (by omega);have c:=hc k hk2;have HBAD:=Za (fun hb:decide (ls.getD k 0 ∈ ls.take k)=true=>show Zcq ls=false from Lc hk2 (by rw [hb]; rfl));have HNX:=Za (fun hb:decide (ls.getD k 0 ∈ ls.take k)=false=>Gi (q:=fun q=>!decide (ls.getD q 0 ∈ ls.take q)) (J HN) (by show(!decide (ls.getD k 0 ∈ ls.take k))=true; rw [hb]; rfl));clear hc hcc e2;generalize decide (ls.getD k 0 ∈ ls.take k)=yes at HCT HBAD HNX;generalize ls.getD k 0=y at c HCT;go_wp2_with fail
   refine(J HCT).mono ?_;rintro e w2 ⟨rfl,h2⟩;subst w2;cases yes with
   | true =>
    have hx:=Za (J HBAD rfl);go_wp2;go_ret;exact⟨by rw [J hx]; rfl,rfl⟩
   | false =>
    have hx:=Za (J HNX rfl);go_wp2;go_roundw
    case rel=>exact⟨k+1,by go_num,by omega,trivial,J hx⟩
    case measure=>simp [intOf]; omega
  ·
   have HT:=Za (show Zcq ls=true from Md (fun q hq=>J HN q (by omega)));obtain rfl:k=ls.length:=by omega
   go_wp2;go_ret;exact⟨by rw [J HT]; rfl,rfl⟩
theorem Zfd (f:Zy)(fv ev pv hv bv:Value)(q:Option Addr)(c:Nat)(r n:Int)(w:World)(hl:f.slots.length<9223372036854775808):Calls Tryz.prog 294 #[.agg #[fv,ev,pv,.int .i64 r,hv,.slice q f.slots.length c,bv],.int .i64 n] w fun e w'=>e=.returned (.bool (Gm n 0 (f.slots.length-1)))∧Below w.heap.size w w':=by
 have HX:=Za (Gk w (.cells #[fv,ev,pv,.int .i64 r,hv,.slice q f.slots.length c,bv] 246 (0,0)));go_enter Tryz.func294,Tryz.ntmps294
 go_wp2_with fail
 refine(Xz n 0 (f.slots.length-1) _).mono ?_;rintro e w2 ⟨rfl,h2⟩;subst w2;go_wp2;go_ret;exact⟨rfl,(J HX).2.1⟩
theorem Cy (f:Zy)(fv ev pv hv sv:Value)(q:Option Addr)(c:Nat)(r n:Int)(w:World)(hl:f.blocks.length<9223372036854775808):Calls Tryz.prog 236 #[.agg #[fv,ev,pv,.int .i64 r,hv,sv,.slice q f.blocks.length c],.int .i64 n] w fun e w'=>e=.returned (.bool (Gm n 0 (f.blocks.length-1)))∧Below w.heap.size w w':=by
 have HX:=Za (Gk w (.cells #[fv,ev,pv,.int .i64 r,hv,sv,.slice q f.blocks.length c] 246 (0,0)));go_enter Tryz.func236,Tryz.ntmps236
 go_wp2_with fail
 refine(Xz n 0 (f.blocks.length-1) _).mono ?_;rintro e w2 ⟨rfl,h2⟩;subst w2;go_wp2;go_ret;exact⟨rfl,(J HX).2.1⟩
theorem Kz (p:Zw)(ev pv hv sv bv:Value)(q:Option Addr)(c:Nat)(r n:Int)(w:World)(hl:p.funcs.length<9223372036854775808):Calls Tryz.prog 234 #[.agg #[.slice q p.funcs.length c,ev,pv,.int .i64 r,hv,sv,bv],.int .i64 n] w fun e w'=>e=.returned (.bool (Gm n 0 (p.funcs.length-1)))∧Below w.heap.size w w':=by
 have HX:=Za (Gk w (.cells #[.slice q p.funcs.length c,ev,pv,.int .i64 r,hv,sv,bv] 246 (0,0)));go_enter Tryz.func234,Tryz.ntmps234
 go_wp2_with fail
 refine(Xz n 0 (p.funcs.length-1) _).mono ?_;rintro e w2 ⟨rfl,h2⟩;subst w2;go_wp2;go_ret;exact⟨rfl,(J HX).2.1⟩
theorem Zql (n:Int)(w:World):Calls Tryz.prog 295 #[.int .i64 n] w fun e w'=>e=.returned (.bool (Kf n))∧w'=w:=by
 have hw:Kf n=decide (n=1∨n=2∨n=4∨n=8):=rfl;rw [hw];clear hw;by_cases h1:n=1
 ·
  subst h1;go_enter Tryz.func295,Tryz.ntmps295
  go_wp2;go_ret;exact⟨rfl,rfl⟩
 ·
  by_cases h2:n=2
  ·
   subst h2;go_enter Tryz.func295,Tryz.ntmps295
   go_wp2;go_ret;exact⟨rfl,rfl⟩
  ·
   by_cases h4:n=4
   ·
    subst h4;go_enter Tryz.func295,Tryz.ntmps295
    go_wp2;go_ret;exact⟨rfl,rfl⟩
   ·
    by_cases h8:n=8
    ·
     subst h8;go_enter Tryz.func295,Tryz.ntmps295
     go_wp2;go_ret;exact⟨rfl,rfl⟩
    ·
     have hd:decide (n=1∨n=2∨n=4∨n=8)=false:=by simp; omega
     rw [hd];have z1:(n==1)=false:=by simpa using h1
     have z2:(n==2)=false:=by simpa using h2
     have z4:(n==4)=false:=by simpa using h4
     have z8:(n==8)=false:=by simpa using h8
     clear hd h1 h2 h4 h8;go_enter Tryz.func295,Tryz.ntmps295
     go_wp2;go_ret;exact⟨rfl,rfl⟩
set_option maxHeartbeats 2000000
set_option maxRecDepth 100000
theorem Zgd {f:Zy}{i:Zq}(h:Gm i.a 0 (f.slots.length-1)=false):Kg f i=false:=by unfold Kg; simp [h]
theorem Iz {f:Zy}{i:Zq}(h:Kf i.n=false):Kg f i=false:=by unfold Kg; simp [h]
theorem IntKind.wrap_of_boundsK {n:Int}(h0:-9223372036854775808≤n)(h1:n<9223372036854775808):IntKind.i64.wrap n=n:=by
 rw [IntKind.wrap_i64];omega
theorem Zfe (f:Zy)(i:Zq)(fv ev pv hv sv bv av ov:Value)(r:Int)(w:World)(hs:Li w sv f.slots)(h18:Ob f.slots 1 8=true)(hnn:0≤i.n∧i.n<18446744073709551616):Calls Tryz.prog 233 #[.agg #[fv,ev,pv,.int .i64 r,hv,sv,bv],.agg #[.int .i64 i.op,.int .i64 i.d,.int .i64 i.a,.int .i64 i.bb,.int .u64 i.n,.int .i64 i.f,av,ov]] w fun e w'=>e=.returned (.bool (Kg f i))∧Below w.heap.size w w':=by
 obtain⟨op,d,a,bb,n,fx,gs,os⟩:=i;simp only at hnn ⊢;have hx:=Gk w (.cells #[fv,ev,pv,.int .i64 r,hv,sv,bv] 246 (0,0));have hx2:=Gk (w.alloc (.cells #[fv,ev,pv,.int .i64 r,hv,sv,bv] 246 (0,0))) (.cells #[.int .i64 op,.int .i64 d,.int .i64 a,.int .i64 bb,.int .u64 n,.int .i64 fx,av,ov] 89 (0,0));have HL:=Za ((hs.below hx.2.1).below hx2.2.1);have hs1:=hx.2.2;have hs2:=hx2.2.2;have HW1:=Za (Zd hx.2.1 hx2.2.1 (by omega));have hrs:=(hx2.2.1.block w.heap.size (by omega)).trans hx.1;have hri:=hx2.1;rw [hs1] at hri hs2;have hsl:f.slots.length<9223372036854775808:=hs.lt;obtain⟨ps,cs,rfl⟩:=hs.shape;have HRS:=Za hrs;have HRI:=Za hri;have HS2:=Za hs2;have HNU:=Za h18;have hn0:=hnn.1;have hn1:=hnn.2;clear hx hx2 hs hs1 hs2 hrs hri h18 hnn;go_enter Tryz.func233,Tryz.ntmps233
 go_wp2_with fail
 generalize World.alloc (World.alloc w _) _=W at HL HW1 HRS HRI HS2 ⊢;refine(Zfd f _ _ _ _ _ _ _ _ _ W hsl).mono ?_;rintro e w2 ⟨rfl,hb⟩;have HB2:=Za hb;have hsz:=J HS2;have hrow:=(hb.block (w.heap.size+1) (by omega)).trans (J HRI);have r2:=(cR hrow 2);have r3:=(cR hrow 3);have r4:=(cR hrow 4);have hrow2:=(hb.block w.heap.size (by omega)).trans (J HRS);have q5:=(cR hrow2 5);have HEND:=Za (Zd (J HW1) hb (by omega));clear hb hrow hrow2 hsz;cases h1:Gm a 0 (f.slots.length-1) with
 | false =>
  have hz:=Za (Zgd (f:=f) (i:=⟨op,d,a,bb,n,fx,gs,os⟩) h1);go_wp2;go_ret;exact⟨by rw [J hz]; rfl,J HEND⟩
 | true =>
  by_cases h8:n≤8
  ·
   have hcv:IntKind.i64.wrap n=n:=IntKind.wrap_of_boundsK (by omega) (by omega);go_wp2_with fail
   refine(Zql n w2).mono ?_;rintro e w3 ⟨rfl,h3⟩;subst w3;cases h2:Kf n with
   | false =>
    have hz:=Za (Iz (f:=f) (i:=⟨op,d,a,bb,n,fx,gs,os⟩) h2);go_wp2;go_ret;exact⟨by rw [J hz]; rfl,J HEND⟩
   | true =>
    have hw:=h2;unfold Kf at hw;have hw:=of_decide_eq_true hw;go_wp2_with fail
    have ha:=h1;unfold Gm at ha;obtain⟨g0,g1⟩:=of_decide_eq_true ha;obtain⟨m,rfl⟩:∃ m:Nat,a=m:=⟨a.toNat,by omega⟩;have hm:m<f.slots.length:=by omega
    have hsb:Gm (f.slots.getD m 0) 1 8=true:=Nd (J HNU) hm;unfold Gm at hsb;obtain⟨s0,s1⟩:=of_decide_eq_true hsb;obtain⟨p',cap',he,-,-,hcc⟩:=(J HL).below (J HB2);injection he with e1 e2 e3;subst e1 e3;obtain⟨sb,so,rfl,hc⟩:=hcc (by omega);have c:=hc m hm;have HSL:=Za (show Kg f ⟨op,d,m,bb,n,fx,gs,os⟩=(Gm bb 0 (8*f.slots.getD m 0-n)&&decide (bb % n=0)) by unfold Kg; simp only [Int.toNat_natCast]; rw [h1,h2]; rfl);clear hc hcc hsb ha e2 g0 g1 h1 h2;generalize f.slots.getD m 0=s at c HSL s0 s1;have HWI:=Za (fun V=>Xz bb 0 (8*s-n) V);rcases hw with rfl | rfl | rfl | rfl;all_goals (
     cases h3:Gm bb 0 (8*s-_) with
     | false =>
      rw [h3] at HWI HSL;go_quiet ((go_at_call 114; exact Calls.quiet_of_same (J HWI _)))
      go_wp2;go_ret;exact⟨by rw [J HSL]; rfl,Lw (J HEND) _⟩
     | true =>
      rw [h3] at HWI HSL;unfold Gm at h3;obtain⟨g0,g1⟩:=of_decide_eq_true h3;obtain⟨t,rfl⟩:∃ t:Nat,bb=t:=⟨bb.toNat,by omega⟩;clear h3 g0 g1;go_quiet ((go_at_call 114; exact Calls.quiet_of_same (J HWI _)))
      go_wp2;go_ret;exact⟨by rw [J HSL]; first | rfl | simp [Int.emod_one],Lw (J HEND) _⟩)
  ·
   have hz:=Za (Iz (f:=f) (i:=⟨op,d,a,bb,n,fx,gs,os⟩) (by unfold Kf; simp; omega));go_wp2;go_ret;exact⟨by rw [J hz]; rfl,J HEND⟩
set_option maxHeartbeats 2000000
set_option maxRecDepth 100000
theorem Li.one (w:World)(n:Int):Li (w.alloc (.cells #[.int .i64 n] 3 (0,0))) (.slice (some ⟨w.heap.size,0,none⟩) 1 1) [n]:=Li.new (ns:=[n]) (heap_alloc_new w _) (by show 1<Jk; decide)
theorem Ztr (f:Zy)(fv ev pv hv sv bv:Value)(r:Int)(x:Int×Int)(w:World)(hh:Li w hv f.homes)(hs:Li w sv f.slots):Calls Tryz.prog 342 #[.agg #[fv,ev,pv,.int .i64 r,hv,sv,bv],.agg #[.int .i64 x.1,.int .i64 x.2]] w fun e w'=>e=.returned (.bool (Mo f x))∧Below w.heap.size w w':=by
 obtain⟨x,y⟩:=x;have hhl:f.homes.length<9223372036854775808:=hh.lt;have hsl:f.slots.length<9223372036854775808:=hs.lt;obtain⟨ph,ch,rfl⟩:=hh.shape;obtain⟨ps,cs,rfl⟩:=hs.shape;have hx:=Gk w (.cells #[fv,ev,pv,.int .i64 r,.slice ph f.homes.length ch,.slice ps f.slots.length cs,bv] 246 (0,0));have hx2:=Gk (w.alloc (.cells #[fv,ev,pv,.int .i64 r,.slice ph f.homes.length ch,.slice ps f.slots.length cs,bv] 246 (0,0))) (.cells #[.int .i64 x,.int .i64 y] 361 (0,0));have HL:=Za ((hs.below hx.2.1).below hx2.2.1);have hs1:=hx.2.2;have hs2:=hx2.2.2;have HW1:=Za (Zd hx.2.1 hx2.2.1 (by omega));have hrs:=(hx2.2.1.block w.heap.size (by omega)).trans hx.1;have hri:=hx2.1;rw [hs1] at hri hs2;have HRS:=Za hrs;have HRI:=Za hri;have HS2:=Za hs2;clear hx hx2 hs hs1 hs2 hrs hri hh;by_cases h0:x=0
 ·
  have HS:=Za (show Mo f (x,y)=Le f [y] by unfold Mo Le; simp [h0,upB,Yq]);subst h0;go_enter Tryz.func342,Tryz.ntmps342
  go_wp2_with fail
  generalize World.alloc (World.alloc w _) _=W at HL HW1 HRS HRI HS2 ⊢;have hT:=J HS2;rw [← hT];refine(Xe f _ _ _ _ _ _ _ _ [y] _ ⟨ph,ch,rfl⟩ hhl (Li.one W y)).mono ?_;rintro e w2 ⟨rfl,hb⟩;have HB2:=Za (Zd (Zd (J HW1) (Gk W (.cells #[.int .i64 y] 3 (0,0))).2.1 (by omega)) hb (by simp; omega));clear hb hT;go_wp2;go_ret;exact⟨by rw [J HS]; rfl,J HB2⟩
 ·
  have hz:(x==0)=false:=by simpa using h0
  have HS:=Za (show Mo f (x,y)=(Gm y 0 (f.slots.length-1)&&decide (f.slots.getD y.toNat 0=x)) by unfold Mo; simp [h0]);have HW:=Za (fun V fv ev pv r hv bv=>Zfd f fv ev pv hv bv ps cs r y V hsl);go_enter Tryz.func342,Tryz.ntmps342
  go_wp2_with fail
  generalize World.alloc (World.alloc w _) _=W at HL HW1 HRS HRI HS2 ⊢;have hT:=J HS2;cases hr:Gm y 0 (f.slots.length-1) with
  | false =>
   rw [hr] at HW HS;have HK:=Za (fun(V:World) (h:Below W.heap.size W V)=>show Below W.heap.size W V∧V.cell? ⟨w.heap.size,0,none⟩=some (fv)∧V.cell? ⟨w.heap.size,1,none⟩=some (ev)∧V.cell? ⟨w.heap.size,2,none⟩=some (pv)∧V.cell? ⟨w.heap.size,3,none⟩=some (.int .i64 r)∧V.cell? ⟨w.heap.size,4,none⟩=some (.slice ph f.homes.length ch)∧V.cell? ⟨w.heap.size,5,none⟩=some (.slice ps f.slots.length cs)∧V.cell? ⟨w.heap.size,6,none⟩=some (bv)∧V.cell? ⟨w.heap.size+1,0,none⟩=some (.int .i64 x)∧V.cell? ⟨w.heap.size+1,1,none⟩=some (.int .i64 y) from⟨h,(cR ((h.block w.heap.size (by omega)).trans (J HRS)) 0),(cR ((h.block w.heap.size (by omega)).trans (J HRS)) 1),(cR ((h.block w.heap.size (by omega)).trans (J HRS)) 2),(cR ((h.block w.heap.size (by omega)).trans (J HRS)) 3),(cR ((h.block w.heap.size (by omega)).trans (J HRS)) 4),(cR ((h.block w.heap.size (by omega)).trans (J HRS)) 5),(cR ((h.block w.heap.size (by omega)).trans (J HRS)) 6),(cR ((h.block (w.heap.size+1) (by omega)).trans (J HRI)) 0),(cR ((h.block (w.heap.size+1) (by omega)).trans (J HRI)) 1)⟩);clear hr hT;refine wp_region_held_drew (S:=fun V=>Below W.heap.size W V∧V.cell? ⟨w.heap.size,0,none⟩=some (fv)∧V.cell? ⟨w.heap.size,1,none⟩=some (ev)∧V.cell? ⟨w.heap.size,2,none⟩=some (pv)∧V.cell? ⟨w.heap.size,3,none⟩=some (.int .i64 r)∧V.cell? ⟨w.heap.size,4,none⟩=some (.slice ph f.homes.length ch)∧V.cell? ⟨w.heap.size,5,none⟩=some (.slice ps f.slots.length cs)∧V.cell? ⟨w.heap.size,6,none⟩=some (bv)∧V.cell? ⟨w.heap.size+1,0,none⟩=some (.int .i64 x)∧V.cell? ⟨w.heap.size+1,1,none⟩=some (.int .i64 y)) (by kernel_rfl) (J HK _ (Below.refl _ _).drew) (fun hHeld=>?_)
   refine tT 0 ?_;refine tT 1 ?_;refine tT 2 ?_;refine tO 3 fun K hK=>?_;go_simp;refine(J HW _ _ _ _ _ _ _).mono ?_;rintro e w5 ⟨rfl,hb5⟩;have HB5:=Za (Zd (Below.refl W.heap.size W).drew hb5 (Nat.le_refl _));clear hb5;go_wp2_with fail
   refine kO hK (J HK _ (J HB5)) (fun hHeld2=>?_);clear hK K;refine tT 4 ?_;refine tS 5 ?_;refine tS 6 ?_;refine tS 7 ?_;refine tS 8 ?_;refine tS 9 ?_;refine tS 10 ?_;refine tS 11 ?_;refine tS 12 ?_;refine tS 13 ?_;refine tS 14 ?_;refine tT 15 ?_;refine tT 16 ?_;refine wpAnyH_done (by kernel_rfl) ?_ _;all_goals (
    go_wp2;go_ret;exact⟨by rw [J HS]; rfl,Zd (J HW1) (J HB5) (by have:=J HS2; omega)⟩)
  | true =>
   rw [hr] at HW HS;unfold Gm at hr;obtain⟨g0,g1⟩:=of_decide_eq_true hr;obtain⟨n,rfl⟩:∃ n:Nat,y=n:=⟨y.toNat,by omega⟩;have hn:n<f.slots.length:=by omega
   obtain⟨p',cap',he,-,-,hcc⟩:=J HL;injection he with e1 e2 e3;subst e1 e3;obtain⟨sb,so,rfl,hc⟩:=hcc (by omega);have cc:=hc n hn;rw [Int.toNat_natCast] at HS;generalize f.slots.getD n 0=z at cc HS;have HK:=Za (fun(V:World) (h:Below W.heap.size W V)=>show Below W.heap.size W V∧V.cell? ⟨w.heap.size,0,none⟩=some (fv)∧V.cell? ⟨w.heap.size,1,none⟩=some (ev)∧V.cell? ⟨w.heap.size,2,none⟩=some (pv)∧V.cell? ⟨w.heap.size,3,none⟩=some (.int .i64 r)∧V.cell? ⟨w.heap.size,4,none⟩=some (.slice ph f.homes.length ch)∧V.cell? ⟨w.heap.size,5,none⟩=some (.slice (some ⟨sb,so,none⟩) f.slots.length cs)∧V.cell? ⟨w.heap.size,6,none⟩=some (bv)∧V.cell? ⟨w.heap.size+1,0,none⟩=some (.int .i64 x)∧V.cell? ⟨w.heap.size+1,1,none⟩=some (.int .i64 n)∧V.cell? ⟨sb,so+n,none⟩=some (.int .i64 z) from⟨h,(cR ((h.block w.heap.size (by omega)).trans (J HRS)) 0),(cR ((h.block w.heap.size (by omega)).trans (J HRS)) 1),(cR ((h.block w.heap.size (by omega)).trans (J HRS)) 2),(cR ((h.block w.heap.size (by omega)).trans (J HRS)) 3),(cR ((h.block w.heap.size (by omega)).trans (J HRS)) 4),(cR ((h.block w.heap.size (by omega)).trans (J HRS)) 5),(cR ((h.block w.heap.size (by omega)).trans (J HRS)) 6),(cR ((h.block (w.heap.size+1) (by omega)).trans (J HRI)) 0),(cR ((h.block (w.heap.size+1) (by omega)).trans (J HRI)) 1),(h.cell (World.block_lt_of_cell? W _ cc)).trans cc⟩);clear hr hT hc hcc g0 g1 e2 cc;go_region_held3 (fun V=>Below W.heap.size W V∧V.cell? ⟨w.heap.size,0,none⟩=some (fv)∧V.cell? ⟨w.heap.size,1,none⟩=some (ev)∧V.cell? ⟨w.heap.size,2,none⟩=some (pv)∧V.cell? ⟨w.heap.size,3,none⟩=some (.int .i64 r)∧V.cell? ⟨w.heap.size,4,none⟩=some (.slice ph f.homes.length ch)∧V.cell? ⟨w.heap.size,5,none⟩=some (.slice (some ⟨sb,so,none⟩) f.slots.length cs)∧V.cell? ⟨w.heap.size,6,none⟩=some (bv)∧V.cell? ⟨w.heap.size+1,0,none⟩=some (.int .i64 x)∧V.cell? ⟨w.heap.size+1,1,none⟩=some (.int .i64 n)∧V.cell? ⟨sb,so+n,none⟩=some (.int .i64 z)) ((first | exact J HK _ (Below.refl _ _).drew | exact J HK _ (J HB5))) ((go_at_call 294; refine(J HW _ _ _ _ _ _ _).mono ?_; rintro e w5 ⟨rfl,hb5⟩; have HB5:=Za (Zd (Below.refl W.heap.size W).drew hb5 (Nat.le_refl _)); clear hb5))
   all_goals (
    go_wp2;go_ret;exact⟨by rw [J HS]; rfl,Zd (J HW1) (J HB5) (by have:=J HS2; omega)⟩)
set_option maxHeartbeats 4000000
set_option maxRecDepth 100000
theorem Zff (f:Zy)(fv ev pv hv sv bv av qv:Value)(r:Int)(gs:List (Int×Int))(ns:List Int)(w:World)(hh:Li w hv f.homes)(hs:Li w sv f.slots)(ha:LS 2 w av gs.length (fun k=>Me (gs.getD k (0,0))))(hq:Li w qv ns):Calls Tryz.prog 296 #[.agg #[fv,ev,pv,.int .i64 r,hv,sv,bv],av,qv] w fun e w'=>e=.returned (.bool (Dz f gs ns))∧Below w.heap.size w w':=by
 obtain⟨ph,ch,rfl⟩:=hh.shape;obtain⟨ps,cs,rfl⟩:=hs.shape;have hx:=Gk w (.cells #[fv,ev,pv,.int .i64 r,.slice ph f.homes.length ch,.slice ps f.slots.length cs,bv] 246 (0,0));have HH:=Za (hh.below hx.2.1);have HS:=Za (hs.below hx.2.1);obtain⟨pa,ca,rfl,hca,hla,hac⟩:=(ha.below hx.2.1).pairs;obtain⟨pq,cq,rfl,hcq,hlq,hqc⟩:=hq.below hx.2.1;have hlq:ns.length<9223372036854775808:=hlq;have HA:=Za hac;have HQ:=Za hqc;have HX:=Za hx;clear hx hh hs ha hq hac hqc;by_cases hne:gs.length=ns.length
 ·
  have z:((gs.length:Int) != (ns.length:Int))=false:=by simp [hne]
  have HAB:=Za (show Dz f gs ns=upB gs.length (fun k=>decide ((gs.getD k (0,0)).1=ns.getD k 0)&&Mo f (gs.getD k (0,0))) by unfold Dz; simp [hne]);have HNE:=Za hne;clear hne;go_enter Tryz.func296,Tryz.ntmps296
  go_wp2_with fail
  generalize World.alloc w _=W at HH HS HA HQ HX ⊢;go_loopw [16] (fun j w'=>∃ k:Nat,j=.int .i64 k∧k≤gs.length∧Below W.heap.size W w'∧∀ q,q<k→(decide ((gs.getD q (0,0)).1=ns.getD q 0)&&Mo f (gs.getD q (0,0)))=true) (fun j _=>gs.length-(intOf j).toNat)
  case atStart=>exact⟨0,rfl,by omega,Below.refl _ _,fun q hq=>by omega⟩
  case round =>
   obtain⟨k,rfl,hk,hbw,hno⟩:=hrel;have HN:=Za hno;clear hno;have hWs:=(J HX).2.2;have hws:=hbw.size;by_cases hk2:k<gs.length
   ·
    have hk3:k<ns.length:=by have:=J HNE; omega
    obtain⟨sb,so,rfl,hcc⟩:=J HA (by omega);obtain⟨sq,oq,rfl,hqq⟩:=J HQ (by omega);have hsb:sb<W.heap.size:=World.block_lt_of_cell? W _ (hcc k hk2).1;have c1:=(hbw.cell (p:=⟨sb,so+k*2,none⟩) hsb).trans (hcc k hk2).1;have c2:=(hbw.cell (p:=⟨sb,so+k*2+1,none⟩) hsb).trans (hcc k hk2).2;have hcq':=(hbw.cell (World.block_lt_of_cell? W _ (hqq k hk3))).trans (hqq k hk3);have HROW:=Za ((hbw.block w.heap.size (by omega)).trans (J HX).1);have HBAD:=Za (fun hb:(decide ((gs.getD k (0,0)).1=ns.getD k 0)&&Mo f (gs.getD k (0,0)))=false=>show Dz f gs ns=false by rw [J HAB]; exact Lc hk2 hb);have HNX:=Za (fun hb:(decide ((gs.getD k (0,0)).1=ns.getD k 0)&&Mo f (gs.getD k (0,0)))=true=>Gi (q:=fun q=>decide ((gs.getD q (0,0)).1=ns.getD q 0)&&Mo f (gs.getD q (0,0))) (J HN) hb);have HBW:=Za hbw;clear hcc hqq hbw;generalize gs.getD k (0,0)=xy at c1 c2 HBAD HNX;obtain⟨x,y⟩:=xy;generalize ns.getD k 0=z2 at hcq' HBAD HNX;simp only at c1 c2 HBAD HNX;go_wp2_with fail
    have hy:=Gk wr (.cells #[.int .i64 x,.int .i64 y] 361 (0,0));have hrX:=hy.1;have hrS:=(hy.2.1.block w.heap.size (by omega)).trans (J HROW);have cq:=(hy.2.1.cell (World.block_lt_of_cell? wr _ hcq')).trans hcq';have hbU:Below W.heap.size W (wr.alloc (.cells #[.int .i64 x,.int .i64 y] 361 (0,0))):=Zd (J HBW) hy.2.1 hws;have hUs:=hy.2.2;clear hy hcq' c1 c2;generalize hTx:wr.heap.size=Tx at hrX hUs hws ⊢;generalize World.alloc wr _=U at hrX hrS cq hbU hUs ⊢;have hTU:Tx<U.heap.size:=by omega
    have HBU:=Za hbU;clear hTx;by_cases hxz:x=z2
    ·
     subst hxz;have zz:(x != x)=false:=by simp
     have hsz:w.heap.size<U.heap.size:=by omega
     have HK:=Za (fun(V:World) (h:Below U.heap.size U V)=>show Below U.heap.size U V∧V.cell? ⟨w.heap.size,0,none⟩=some (fv)∧V.cell? ⟨w.heap.size,1,none⟩=some (ev)∧V.cell? ⟨w.heap.size,2,none⟩=some (pv)∧V.cell? ⟨w.heap.size,3,none⟩=some (.int .i64 r)∧V.cell? ⟨w.heap.size,4,none⟩=some (.slice ph f.homes.length ch)∧V.cell? ⟨w.heap.size,5,none⟩=some (.slice ps f.slots.length cs)∧V.cell? ⟨w.heap.size,6,none⟩=some (bv)∧V.cell? ⟨Tx,0,none⟩=some (.int .i64 x)∧V.cell? ⟨Tx,1,none⟩=some (.int .i64 y)∧V.cell? ⟨sq,oq+k,none⟩=some (.int .i64 x) from⟨h,(cR ((h.block w.heap.size (by omega)).trans hrS) 0),(cR ((h.block w.heap.size (by omega)).trans hrS) 1),(cR ((h.block w.heap.size (by omega)).trans hrS) 2),(cR ((h.block w.heap.size (by omega)).trans hrS) 3),(cR ((h.block w.heap.size (by omega)).trans hrS) 4),(cR ((h.block w.heap.size (by omega)).trans hrS) 5),(cR ((h.block w.heap.size (by omega)).trans hrS) 6),(cR ((h.block Tx (by omega)).trans hrX) 0),(cR ((h.block Tx (by omega)).trans hrX) 1),(h.cell (World.block_lt_of_cell? U _ cq)).trans cq⟩);have HW:=Za (fun(V:World) (h:Below U.heap.size U V)=>Ztr f fv ev pv (.slice ph f.homes.length ch) (.slice ps f.slots.length cs) bv r (x,y) V ((J HH).below (Zd hbU h (by omega))) ((J HS).below (Zd hbU h (by omega))));clear hrX hrS cq hbU hUs hsz hTU;go_region_held3 (fun V=>Below U.heap.size U V∧V.cell? ⟨w.heap.size,0,none⟩=some (fv)∧V.cell? ⟨w.heap.size,1,none⟩=some (ev)∧V.cell? ⟨w.heap.size,2,none⟩=some (pv)∧V.cell? ⟨w.heap.size,3,none⟩=some (.int .i64 r)∧V.cell? ⟨w.heap.size,4,none⟩=some (.slice ph f.homes.length ch)∧V.cell? ⟨w.heap.size,5,none⟩=some (.slice ps f.slots.length cs)∧V.cell? ⟨w.heap.size,6,none⟩=some (bv)∧V.cell? ⟨Tx,0,none⟩=some (.int .i64 x)∧V.cell? ⟨Tx,1,none⟩=some (.int .i64 y)∧V.cell? ⟨sq,oq+k,none⟩=some (.int .i64 x)) ((first | exact J HK _ (Below.refl _ _).drew | exact J HK _ (J HB5))) ((go_at_call 342; refine(J HW _ (Below.refl _ _).drew).mono ?_; rintro e w5 ⟨rfl,hb5⟩; have HB5:=Za (Zd (Below.refl U.heap.size U).drew hb5 (Nat.le_refl _)); clear hb5))
     all_goals (
      have hUB:=(J HBU).size;have HB6:=Za (Zd (J HBU) (J HB5) hUB);cases hsp:Mo f (x,y) with
      | false =>
       have hx:=Za (J HBAD (by rw [hsp]; simp));clear hsp;go_wp2;go_ret;exact⟨by rw [J hx]; rfl,Zd (J HX).2.1 (J HB6) (by omega)⟩
      | true =>
       have hx:=Za (J HNX (by rw [hsp]; simp));clear hsp;go_wp2;go_roundw
       case rel=>exact⟨k+1,by go_num,by omega,J HB6,J hx⟩
       case measure=>simp [intOf]; omega)
    ·
     have zz:(x != z2)=true:=by simpa using hxz
     have hx:=Za (J HBAD (by simp [hxz]));have q0:=(cR hrX 0);clear hrX hrS hbU hUs hTU;go_quiet (fail)
     go_wp2;go_ret;exact⟨by rw [J hx]; rfl,Lw (Zd (J HX).2.1 (J HBU) (by omega)) _⟩
   ·
    have HT:=Za (show Dz f gs ns=true by rw [J HAB]; exact Md (fun q hq=>J HN q (by omega)));obtain rfl:k=gs.length:=by omega
    have HBW:=Za hbw;clear hbw;go_wp2;go_ret;exact⟨by rw [J HT]; rfl,Zd (J HX).2.1 (J HBW) (by omega)⟩
 ·
  have z:((gs.length:Int) != (ns.length:Int))=true:=by simp; omega
  have HT:=Za (show Dz f gs ns=false by unfold Dz; simp [hne]);clear hne;go_enter Tryz.func296,Tryz.ntmps296
  go_wp2;go_ret;exact⟨by rw [J HT]; rfl,(J HX).2.1⟩
set_option maxHeartbeats 4000000
set_option maxRecDepth 100000
theorem Zlp (f:Zy)(i:Zq)(s:List Int×Int)(fv ev pv hv sv bv av ov qv:Value)(w:World)(hh:Li w hv f.homes)(hs:Li w sv f.slots)(ha:LS 2 w av i.args.length (fun k=>Me (i.args.getD k (0,0))))(ho:Li w ov i.outs)(hq:Li w qv s.1):Calls Tryz.prog 237 #[.agg #[fv,ev,pv,.int .i64 f.results,hv,sv,bv],.agg #[.int .i64 i.op,.int .i64 i.d,.int .i64 i.a,.int .i64 i.bb,.int .u64 i.n,.int .i64 i.f,av,ov],.agg #[qv,.int .i64 s.2]] w fun e w'=>e=.returned (.bool (Ke f i s))∧Below w.heap.size w w':=by
 have hx:=Gk w (.cells #[fv,ev,pv,.int .i64 f.results,hv,sv,bv] 246 (0,0));generalize hW1:World.alloc w (.cells #[fv,ev,pv,.int .i64 f.results,hv,sv,bv] 246 (0,0))=W1 at hx;have hx2:=Gk W1 (.cells #[.int .i64 i.op,.int .i64 i.d,.int .i64 i.a,.int .i64 i.bb,.int .u64 i.n,.int .i64 i.f,av,ov] 89 (0,0));generalize hW2:World.alloc W1 (.cells #[.int .i64 i.op,.int .i64 i.d,.int .i64 i.a,.int .i64 i.bb,.int .u64 i.n,.int .i64 i.f,av,ov] 89 (0,0))=W2 at hx2;have hx3:=Gk W2 (.cells #[qv,.int .i64 s.2] 59 (0,0));have hs1:=hx.2.2;have hs2:=hx2.2.2;have hs3:=hx3.2.2;have hb12:=Zd hx.2.1 hx2.2.1 (by omega);have hb13:=Zd hb12 hx3.2.1 (by omega);have HH:=Za (hh.below hb13);have HS:=Za (hs.below hb13);have HA:=Za (ha.below hb13);have HO:=Za (ho.below hb13);have HQ:=Za (hq.below hb13);have HW:=Za hb13;have HR1:=Za ((hx3.2.1.block w.heap.size (by omega)).trans ((hx2.2.1.block w.heap.size (by omega)).trans hx.1));have HR2:=Za ((hx3.2.1.block (w.heap.size+1) (by omega)).trans (hs1 ▸ hx2.1));have hr3:=hx3.1;rw [hs2,hs1] at hr3 hs3;have HR3:=Za hr3;have HZ:=Za hs3;have hhl:f.homes.length<9223372036854775808:=hh.lt;have hol:i.outs.length<9223372036854775808:=ho.lt;obtain⟨ph,ch,rfl⟩:=hh.shape;obtain⟨ps,cs,rfl⟩:=hs.shape;obtain⟨pa,ca,rfl⟩:=ha.shape;obtain⟨po,co,rfl⟩:=ho.shape;obtain⟨pq,cq,rfl⟩:=hq.shape;clear hx hx2 hx3 hs1 hs2 hs3 hb12 hb13 hr3 hh hs ha ho hq;subst hW1 hW2;go_enter Tryz.func237,Tryz.ntmps237
 go_wp2_with fail
 generalize World.alloc (World.alloc (World.alloc w _) _) _=W at HH HS HA HO HQ HW HR1 HR2 HR3 HZ ⊢;refine(Zff f _ _ _ _ _ _ _ _ _ i.args s.1 W (J HH) (J HS) (J HA) (J HQ)).mono ?_;rintro e w2 ⟨rfl,hb⟩;have HB2:=Za hb;have hz:=J HZ;have hri:=(hb.block (w.heap.size+1) (by omega)).trans (J HR2);have hrq:=(hb.block (w.heap.size+1+1) (by omega)).trans (J HR3);have hrs:=(hb.block w.heap.size (by omega)).trans (J HR1);have r7:=(cR hri 7);have q1:=(cR hrq 1);have s0:=(cR hrs 0);have s1:=(cR hrs 1);have s2:=(cR hrs 2);have s3:=(cR hrs 3);have s4:=(cR hrs 4);have s5:=(cR hrs 5);have s6:=(cR hrs 6);clear hb hri hrq hrs hz;cases h1:Dz f i.args s.1 with
 | false =>
  have hx:=Za (show Ke f i s=false by unfold Ke; rw [h1]; rfl);clear h1;go_wp2;go_ret;exact⟨by rw [J hx]; rfl,Zd (J HW) (J HB2) (by have:=J HZ; omega)⟩
 | true =>
  have H1:=Za h1;clear h1;by_cases h2:s.2=f.results
  ·
   have z2:(s.2==f.results)=true:=by simpa using h2
   have hx:=Za (show Ke f i s=true by unfold Ke; rw [J H1]; simp [h2]);clear h2;go_wp2;go_ret;exact⟨by rw [J hx]; rfl,Zd (J HW) (J HB2) (by have:=J HZ; omega)⟩
  ·
   have z2:(s.2==f.results)=false:=by simpa using h2
   have hx:=Za (show Ke f i s=false by unfold Ke; rw [J H1]; simp [h2]);clear h2;go_wp2;go_ret;exact⟨by rw [J hx]; rfl,Zd (J HW) (J HB2) (by have:=J HZ; omega)⟩
theorem Zco (f:Zy)(i:Zq)(s:List Int×Int)(fv ev pv hv sv bv av ov qv:Value)(w:World)(hh:Li w hv f.homes)(hs:Li w sv f.slots)(ha:LS 2 w av i.args.length (fun k=>Me (i.args.getD k (0,0))))(ho:Li w ov i.outs)(hq:Li w qv s.1)(hon:s.2≤1000000):Calls Tryz.prog 235 #[.agg #[fv,ev,pv,.int .i64 f.results,hv,sv,bv],.agg #[.int .i64 i.op,.int .i64 i.d,.int .i64 i.a,.int .i64 i.bb,.int .u64 i.n,.int .i64 i.f,av,ov],.agg #[qv,.int .i64 s.2]] w fun e w'=>e=.returned (.bool (Uf f i s))∧Below w.heap.size w w':=by
 have hx:=Gk w (.cells #[fv,ev,pv,.int .i64 f.results,hv,sv,bv] 246 (0,0));generalize hW1:World.alloc w (.cells #[fv,ev,pv,.int .i64 f.results,hv,sv,bv] 246 (0,0))=W1 at hx;have hx2:=Gk W1 (.cells #[.int .i64 i.op,.int .i64 i.d,.int .i64 i.a,.int .i64 i.bb,.int .u64 i.n,.int .i64 i.f,av,ov] 89 (0,0));generalize hW2:World.alloc W1 (.cells #[.int .i64 i.op,.int .i64 i.d,.int .i64 i.a,.int .i64 i.bb,.int .u64 i.n,.int .i64 i.f,av,ov] 89 (0,0))=W2 at hx2;have hx3:=Gk W2 (.cells #[qv,.int .i64 s.2] 59 (0,0));have hs1:=hx.2.2;have hs2:=hx2.2.2;have hs3:=hx3.2.2;have hb12:=Zd hx.2.1 hx2.2.1 (by omega);have hb13:=Zd hb12 hx3.2.1 (by omega);have HH:=Za (hh.below hb13);have HS:=Za (hs.below hb13);have HA:=Za (ha.below hb13);have HO:=Za (ho.below hb13);have HQ:=Za (hq.below hb13);have HW:=Za hb13;have HR1:=Za ((hx3.2.1.block w.heap.size (by omega)).trans ((hx2.2.1.block w.heap.size (by omega)).trans hx.1));have HR2:=Za ((hx3.2.1.block (w.heap.size+1) (by omega)).trans (hs1 ▸ hx2.1));have hr3:=hx3.1;rw [hs2,hs1] at hr3 hs3;have HR3:=Za hr3;have HZ:=Za hs3;have hhl:f.homes.length<9223372036854775808:=hh.lt;have hol:i.outs.length<9223372036854775808:=ho.lt;obtain⟨ph,ch,rfl⟩:=hh.shape;obtain⟨ps,cs,rfl⟩:=hs.shape;obtain⟨pa,ca,rfl⟩:=ha.shape;obtain⟨po,co,rfl⟩:=ho.shape;obtain⟨pq,cq,rfl⟩:=hq.shape;clear hx hx2 hx3 hs1 hs2 hs3 hb12 hb13 hr3 hh hs ha ho hq;subst hW1 hW2;go_enter Tryz.func235,Tryz.ntmps235
 go_wp2_with fail
 generalize World.alloc (World.alloc (World.alloc w _) _) _=W at HH HS HA HO HQ HW HR1 HR2 HR3 HZ ⊢;refine(Zff f _ _ _ _ _ _ _ _ _ i.args s.1 W (J HH) (J HS) (J HA) (J HQ)).mono ?_;rintro e w2 ⟨rfl,hb⟩;have HB2:=Za hb;have hz:=J HZ;have hri:=(hb.block (w.heap.size+1) (by omega)).trans (J HR2);have hrq:=(hb.block (w.heap.size+1+1) (by omega)).trans (J HR3);have hrs:=(hb.block w.heap.size (by omega)).trans (J HR1);have r7:=(cR hri 7);have q1:=(cR hrq 1);have s0:=(cR hrs 0);have s1:=(cR hrs 1);have s2:=(cR hrs 2);have s3:=(cR hrs 3);have s4:=(cR hrs 4);have s5:=(cR hrs 5);have s6:=(cR hrs 6);clear hb hri hrq hrs hz;cases h1:Dz f i.args s.1 with
 | false =>
  have hx:=Za (show Uf f i s=false by unfold Uf; rw [h1]; rfl);clear h1;go_wp2;go_ret;exact⟨by rw [J hx]; rfl,Zd (J HW) (J HB2) (by have:=J HZ; omega)⟩
 | true =>
  have H1:=Za h1;clear h1;by_cases h2:(i.outs.length:Int)=s.2
  ·
   have z2:((i.outs.length:Int)==s.2)=true:=by simpa using h2
   go_wp2_with fail
   refine(Xe f _ _ _ _ _ _ _ _ i.outs w2 ⟨_,_,rfl⟩ hhl ((J HO).below (J HB2))).mono ?_;rintro e w3 ⟨rfl,hb⟩;have HB3:=Za (Zd (J HB2) hb (J HB2).size);have hz:=J HZ;have hri:=((J HB3).block (w.heap.size+1) (by omega)).trans (J HR2);have r7:=(cR hri 7);clear hb hri hz;cases h3:Le f i.outs with
   | false =>
    have hx:=Za (show Uf f i s=false by unfold Uf; rw [h3]; simp);clear h3;go_wp2;go_ret;exact⟨by rw [J hx]; rfl,Zd (J HW) (J HB3) (by have:=J HZ; omega)⟩
   | true =>
    have H3:=Za h3;have hl6:i.outs.length≤1000000:=by omega
    have H2:=Za h2;clear h3 h2;go_wp2_with fail
    refine(Zlo _ i.outs w3 ((J HO).below (J HB3)) hl6).mono ?_;rintro e w4 ⟨rfl,h4'⟩;subst w4;have HT:=Za (show Uf f i s=Zcq i.outs by unfold Uf; rw [J H1,J H3]; simp [J H2]);go_wp2;go_ret;exact⟨by rw [J HT]; rfl,Zd (J HW) (J HB3) (by have:=J HZ; omega)⟩
  ·
   have z2:((i.outs.length:Int)==s.2)=false:=by simpa using h2
   have hx:=Za (show Uf f i s=false by unfold Uf; simp [h2]);clear h2;go_wp2;go_ret;exact⟨by rw [J hx]; rfl,Zd (J HW) (J HB2) (by have:=J HZ; omega)⟩
end Go.Proofs.YtedemloocadimaaGreatDoor
